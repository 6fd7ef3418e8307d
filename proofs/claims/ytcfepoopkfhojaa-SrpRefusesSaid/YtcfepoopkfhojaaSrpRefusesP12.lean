/- What SrpRefuses stands on, part 12. -/
import Derived.Test.YtcfepoopkfhojaaSrpRefusesP1
import Derived.Test.YtcfepoopkfhojaaSrpRefusesP2
import Derived.Test.YtcfepoopkfhojaaSrpRefusesP3
import Derived.Test.YtcfepoopkfhojaaSrpRefusesP4
import Derived.Test.YtcfepoopkfhojaaSrpRefusesP5
import Derived.Test.YtcfepoopkfhojaaSrpRefusesP6
import Derived.Test.YtcfepoopkfhojaaSrpRefusesP7
import Derived.Test.YtcfepoopkfhojaaSrpRefusesP8
import Derived.Test.YtcfepoopkfhojaaSrpRefusesP9
import Derived.Test.YtcfepoopkfhojaaSrpRefusesP10
import Derived.Test.YtcfepoopkfhojaaSrpRefusesP11
set_option maxRecDepth 100000
set_option maxHeartbeats 8000000
set_option linter.unusedVariables false
set_option linter.unusedSimpArgs false
namespace Go.Proofs.Ytcfepoopkfhojaa
open Go.ChangeShapes Go.WideShapes Go.ChangeAt Go.RowKit
def wordI (X : Int) : Int := if (X % 7 == 0) = true then X.tdiv 7 % 3 else if (X % 5 == 0) = true then 4294967295 - X.tdiv 5 % 3 else bits BinOp.xor IntKind.u32 (X % 4294967296) (X / 4294967296 % 4294967296 * 7 % 4294967296)
theorem wordI_bd (X : Int) : 0 ≤ wordI X ∧ wordI X < 4294967296 := by
  unfold wordI
  split
  · omega
  · split
    · omega
    · exact bits_u32_bd _ _ _
def rowA (x : Nat → Int) (k j : Nat) : Int := if j < k then wordI (x j) else 0
def mk1 (n : Nat) (x : Nat → Int) (j : Nat) : Int := if j < n then wordI (x j) else 0
def rowB (z : Nat → Int) (k j : Nat) : Int := if 1 ≤ j ∧ j < k then 0 else z j
def cplI (v : Int) : Int := bits BinOp.xor IntKind.u32 (if IntKind.u32.signed = true then -1 else IntKind.u32.max) v
def rowC (z : Nat → Int) (k j : Nat) : Int := if j < k then cplI (z j) else z j
def rowD (z : Nat → Int) (k j : Nat) : Int := if 4 ≤ j ∧ j < k then 0 else z j
def mkZ (kd : Int) (n : Nat) (x : Nat → Int) : Nat → Int := match kd % 6 == 0, kd % 6 == 1, kd % 6 == 2 with
  | true, _, _ => rowB (mk1 n x) 8
  | false, true, _ => rowC (mk1 n x) 8
  | false, false, true => rowD (mk1 n x) 8
  | false, false, false => mk1 n x
open Classical in
noncomputable def mkN (kd : Int) (n : Nat) (x : Nat → Int) : Nat := if h : ∃ N, N < 4294967296 ^ 8 ∧ ∀ j, j < 8 → digI N j = mkZ kd n x j then Classical.choose h else 0
theorem mk1_bd (n : Nat) {x : Nat → Int} (hx : ∀ k, -9223372036854775808 ≤ x k ∧ x k < 9223372036854775808) (j : Nat) : 0 ≤ mk1 n x j ∧ mk1 n x j < 4294967296 := by
  unfold mk1; split
  · exact wordI_bd _
  · omega
theorem rowA_at (x : Nat → Int) (k : Nat) : (Value.int .u32 (rowA x k k)) = .int .u32 0 := by unfold rowA; rw [if_neg (Nat.lt_irrefl _)]
theorem rowB_start (z : Nat → Int) (j : Nat) : rowB z 1 j = z j := by unfold rowB; rw [if_neg (by omega)]
theorem rowC_start (z : Nat → Int) (j : Nat) : rowC z 0 j = z j := by unfold rowC; rw [if_neg (by omega)]
theorem rowD_start (z : Nat → Int) (j : Nat) : rowD z 4 j = z j := by unfold rowD; rw [if_neg (by omega)]
theorem rowB_at (z : Nat → Int) (k : Nat) : (Value.int .u32 (rowB z k k)) = .int .u32 (z k) := by unfold rowB; rw [if_neg (by omega)]
theorem rowC_at (z : Nat → Int) (k : Nat) : (Value.int .u32 (rowC z k k)) = .int .u32 (z k) := by unfold rowC; rw [if_neg (by omega)]
theorem rowD_at (z : Nat → Int) (k : Nat) : (Value.int .u32 (rowD z k k)) = .int .u32 (z k) := by unfold rowD; rw [if_neg (by omega)]
theorem rowA_end {x : Nat → Int} {n k j : Nat} (hk : k ≤ 8) (hkn : k ≤ n) (hlt : ¬ (k < 8 ∧ k < n)) (hj : j < 8) : rowA x k j = mk1 n x j := by
  unfold rowA mk1
  by_cases h : j < k
  · rw [if_pos h, if_pos (by omega)]
  · rw [if_neg h, if_neg (by omega)]
section
variable {wr : World} {b k : Nat} {z x : Nat → Int}
theorem rowB_next {v : Int} (h0 : 1 ≤ k) (h8 : k < 8) (h : wr.rowIs b 28 8 (fun j => .int .u32 (rowB z k j))) (hv : v = 0) : (wr.setCell ⟨b, k, none⟩ (.int .u32 v)).rowIs b 28 8 (fun j => .int .u32 (rowB z (k + 1) j)) :=
  (h.set k _).congr fun j _ => by
    subst hv
    unfold rowB
    by_cases e : j = k
    · subst e; rw [if_pos rfl, if_pos (by omega)]
    · rw [if_neg e]; by_cases h2 : 1 ≤ j ∧ j < k
      · rw [if_pos h2, if_pos (by omega)]
      · rw [if_neg h2, if_neg (by omega)]
theorem rowD_next {v : Int} (h0 : 4 ≤ k) (h8 : k < 8) (h : wr.rowIs b 28 8 (fun j => .int .u32 (rowD z k j))) (hv : v = 0) : (wr.setCell ⟨b, k, none⟩ (.int .u32 v)).rowIs b 28 8 (fun j => .int .u32 (rowD z (k + 1) j)) :=
  (h.set k _).congr fun j _ => by
    subst hv
    unfold rowD
    by_cases e : j = k
    · subst e; rw [if_pos rfl, if_pos (by omega)]
    · rw [if_neg e]; by_cases h2 : 4 ≤ j ∧ j < k
      · rw [if_pos h2, if_pos (by omega)]
      · rw [if_neg h2, if_neg (by omega)]
theorem rowC_next {v : Int} (h0 : 0 ≤ k) (h8 : k < 8) (h : wr.rowIs b 28 8 (fun j => .int .u32 (rowC z k j))) (hv : v = cplI (z k)) : (wr.setCell ⟨b, k, none⟩ (.int .u32 v)).rowIs b 28 8 (fun j => .int .u32 (rowC z (k + 1) j)) :=
  (h.set k _).congr fun j _ => by
    subst hv
    unfold rowC
    by_cases e : j = k
    · subst e; rw [if_pos rfl, if_pos (by omega)]
    · rw [if_neg e]; by_cases h2 : j < k
      · rw [if_pos h2, if_pos (by omega)]
      · rw [if_neg h2, if_neg (by omega)]
def AtK (w : World) (b k : Nat) (x : Nat → Int) (v : Int) : Prop := w.rowIs b 28 8 (fun j => if j = k then .int .u32 v else .int .u32 (rowA x k j))
theorem AtK.one (h : wr.rowIs b 28 8 (fun j => .int .u32 (rowA x k j))) (v : Int) : AtK (wr.setCell ⟨b, k, none⟩ (.int .u32 v)) b k x v := h.set k _
theorem AtK.two {u : Int} (h : AtK wr b k x u) (v : Int) : AtK (wr.setCell ⟨b, k, none⟩ (.int .u32 v)) b k x v := (World.rowIs.set h k _).congr fun j _ => by
  by_cases e : j = k
  · rw [if_pos e, if_pos e]
  · rw [if_neg e, if_neg e, if_neg e]
theorem AtK.oneE {u : Int} (h : wr.rowIs b 28 8 (fun j => .int .u32 (rowA x k j))) (v : Int) (e : v = u) : AtK (wr.setCell ⟨b, k, none⟩ (.int .u32 v)) b k x u := by subst e; exact AtK.one h v
def AtX (w : World) (b k : Nat) (x : Nat → Int) : Prop := ∃ u, AtK w b k x u
theorem AtX.one (h : wr.rowIs b 28 8 (fun j => .int .u32 (rowA x k j))) (v : Int) : AtX (wr.setCell ⟨b, k, none⟩ (.int .u32 v)) b k x := ⟨v, AtK.one h v⟩
theorem AtX.two (h : AtX wr b k x) (v : Int) : AtX (wr.setCell ⟨b, k, none⟩ (.int .u32 v)) b k x := by obtain ⟨u, h⟩ := h; exact ⟨v, h.two v⟩
theorem AtK.twoE {v' : Int} (h : AtX wr b k x) (v : Int) (e : v = v') : AtK (wr.setCell ⟨b, k, none⟩ (.int .u32 v)) b k x v' := by obtain ⟨u, h⟩ := h; subst e; exact h.two v
theorem mk_next {v X : Int} (h : AtK wr b k x v) (hX : x k = X) (hv : v = wordI X) : wr.drew.rowIs b 28 8 (fun j => .int .u32 (rowA x (k + 1) j)) :=
  World.rowIs.congr (w := wr) h fun j _ => by
    unfold rowA
    by_cases e : j = k
    · subst e; rw [if_pos rfl, if_pos (by omega), hX, hv]
    · rw [if_neg e]; by_cases h2 : j < k
      · rw [if_pos h2, if_pos (by omega)]
      · rw [if_neg h2, if_neg (by omega)]
theorem mk_num {kd : Int} {n : Nat} {Z : Nat → Int} (hzV : Hid (z = mk1 n x)) (hZ : mkZ kd n x = Z) (h : wr.rowIs b 28 8 (fun j => .int .u32 (Z j))) (hb : ∀ j, 0 ≤ Z j ∧ Z j < 4294967296) : Num wr b 28 (mkN kd n x) := by
  subst hZ
  obtain ⟨N, hN, e⟩ := num_of (fun k => (mkZ kd n x k).toNat) (fun k _ => by have := hb k; omega)
  have hE : ∃ N, N < 4294967296 ^ 8 ∧ ∀ j, j < 8 → digI N j = mkZ kd n x j := ⟨N, hN, fun j hj => by
    have := hb j
    unfold digI
    rw [← e j hj]; omega⟩
  unfold mkN
  rw [dif_pos hE]
  obtain ⟨c1, c2⟩ := Classical.choose_spec hE
  exact zob h fun j hj => by unfold numF; rw [c2 j hj]
end
theorem mkN_lt (kd : Int) (n : Nat) (x : Nat → Int) : mkN kd n x < 4294967296 ^ 8 := by
  unfold mkN
  split
  · rename_i h; exact (Classical.choose_spec h).1
  · decide
theorem mk_zero (x : Nat → Int) (w : World) (t : TypeId) : (w.alloc (.cells #[Value.int .u32 0, .int .u32 0, .int .u32 0, .int .u32 0, .int .u32 0, .int .u32 0, .int .u32 0, .int .u32 0] 28)).rowIs w.heap.size 28 8 (fun j => .int .u32 (rowA x 0 j)) := by
  rw [z0b]
  exact (Num.new w 28 0).row.congr fun j hj => by unfold numF digI dig rowA; simp
theorem rowB_bd {z : Nat → Int} (h : ∀ j, 0 ≤ z j ∧ z j < 4294967296) (k j : Nat) : 0 ≤ rowB z k j ∧ rowB z k j < 4294967296 := by
  unfold rowB; split
  · omega
  · exact h j
theorem rowC_bd {z : Nat → Int} (h : ∀ j, 0 ≤ z j ∧ z j < 4294967296) (k j : Nat) : 0 ≤ rowC z k j ∧ rowC z k j < 4294967296 := by
  unfold rowC; split
  · exact bits_u32_bd _ _ _
  · exact h j
theorem rowD_bd {z : Nat → Int} (h : ∀ j, 0 ≤ z j ∧ z j < 4294967296) (k j : Nat) : 0 ≤ rowD z k j ∧ rowD z k j < 4294967296 := by
  unfold rowD; split
  · omega
  · exact h j
attribute [irreducible] rowA rowB rowC rowD mk1 mkZ mkN
theorem make_det (kd : Int) (hk0 : -9223372036854775808 ≤ kd) (hk1 : kd < 9223372036854775808) (A : Option Addr) (n cap : Nat) (x : Nat → Int) (w : World) (hx : RdI w A n x) :
    Calls Try.prog 11 #[.int .i64 kd, .slice A n cap] w fun e w' => e = .returned (numV (mkN kd n x)) ∧ Below w.heap.size w w' := by
  obtain ⟨hm, hxb, hx⟩ := hx
  obtain ⟨V, hV⟩ : ∃ V, Hid (mkN kd n x = V) := ⟨_, hid rfl⟩
  rw [hV.out]
  unfold maxLen at hm
  go_enter Try.func11, Try.ntmps11
  go_wp2
  have g0 := (Num.new w 28 0).alloc (.cells #[Value.int .u32 0, .int .u32 0, .int .u32 0, .int .u32 0, .int .u32 0, .int .u32 0, .int .u32 0, .int .u32 0] 28)
  rw [← z0b] at g0
  have g1 := mk_zero x (w.alloc (.cells #[Value.int .u32 0, .int .u32 0, .int .u32 0, .int .u32 0, .int .u32 0, .int .u32 0, .int .u32 0, .int .u32 0] 28)) 0
  rw [World.size_alloc] at g1
  have gb : Below w.heap.size w ((w.alloc (.cells #[Value.int .u32 0, .int .u32 0, .int .u32 0, .int .u32 0, .int .u32 0, .int .u32 0, .int .u32 0, .int .u32 0] 28)).alloc (.cells #[Value.int .u32 0, .int .u32 0, .int .u32 0, .int .u32 0, .int .u32 0, .int .u32 0, .int .u32 0, .int .u32 0] 28)) := ((Below.refl _ _).alloc (Nat.le_refl _) _).alloc (by simp) _
  generalize hW : World.alloc _ _ = W at *
  clear hW
  go_loopw [6] (fun i wr => ∃ k : Nat, k ≤ 8 ∧ k ≤ n ∧ i = .int .i64 k ∧ wr.rowIs (w.heap.size + 1) 28 8 (fun j => .int .u32 (rowA x k j)) ∧ Num wr w.heap.size 28 0 ∧ Below w.heap.size w wr) (fun i _ => 8 - (intOf i).toNat)
  case atStart => exact ⟨0, by omega, by omega, rfl, g1, g0, gb⟩
  case round =>
    obtain ⟨k, hk, hkn, rfl, hn, hz, hb⟩ := hrel
    clear g0 g1 gb
    by_cases hlt : k < 8 ∧ k < n
    · obtain ⟨hl1, hl2⟩ := hlt
      obtain ⟨b, o, rfl, hbl, hc⟩ := hx (by omega)
      have hcx := hb.cell (p := ⟨b, o + k, none⟩) (by simpa using hbl)
      rw [hc k hl2] at hcx
      have hcv := hn.cell (i := k) hl1
      rw [rowA_at] at hcv
      have hcf := hn.frozen k
      have hx0 := (hxb k).1
      have hx1 := (hxb k).2
      obtain ⟨X, hX⟩ : ∃ X, Hid (x k = X) := ⟨_, hid rfl⟩
      rw [hX.out] at hcx hx0 hx1
      clear hc hx hxb
      go_wp2_with fail
      go_still_tail 15, (by kernel_rfl)
      change wpList _ _ _ _ _ (World.drew _)
      go_wp2_with (go_at_call 31; refine (z9a _ _ (by omega) (by omega) (by first | omega | exact (tdiv_bd _ _ (by omega) hx0 hx1).1) (by first | omega | exact (tdiv_bd _ _ (by omega) hx0 hx1).2) _).mono ?_; rintro e w' ⟨rfl, rfl⟩)
      all_goals
        go_roundw
        case rel =>
          refine ⟨k + 1, by omega, by omega, by go_num, ?_, ?_, ?_⟩
          · refine mk_next (v := wordI X) ?_ (hX := hX.out) rfl
            first
              | exact AtK.oneE hn _ (by unfold wordI; simp only [*]; try simp)
              | (refine AtK.twoE ?_ _ (by unfold wordI; simp only [*]; try simp); repeat (first | exact AtX.one hn _ | refine AtX.two ?_ _))
          · repeat (first | exact hz | (refine Num.drew ?_) | (refine Num.far ?_ (by simp) _))
          · repeat (first | exact hb | (refine Below.drew ?_) | (refine Below.setCell ?_ (by simp) _))
        case measure => simp [intOf] <;> omega
    · have hd : (k < 8 ∧ decide ((k : Int) < 8) = true ∧ decide (k < n) = false) ∨ k = 8 := by simp; omega
      obtain ⟨z, hzV⟩ : ∃ z, Hid (z = mk1 n x) := ⟨_, hid rfl⟩
      have hzb : ∀ j, 0 ≤ z j ∧ z j < 4294967296 := fun j => by rw [hzV.out]; exact mk1_bd n hxb j
      replace hn := hn.congr (g := fun j => .int .u32 (z j)) (fun j hj => by rw [hzV.out, rowA_end hk hkn hlt hj])
      clear hx hxb
      rcases hd with ⟨-, hd1, hd2⟩ | rfl
      · clear hlt hk hkn
        have h6 : ((kd % 6 == 0) = true) ∨ ((kd % 6 == 0) = false ∧ (kd % 6 == 1) = true) ∨ ((kd % 6 == 0) = false ∧ (kd % 6 == 1) = false ∧ (kd % 6 == 2) = true) ∨ ((kd % 6 == 0) = false ∧ (kd % 6 == 1) = false ∧ (kd % 6 == 2) = false) := by
          by_cases a0 : kd % 6 = 0 <;> by_cases a1 : kd % 6 = 1 <;> by_cases a2 : kd % 6 = 2 <;> simp [a0, a1, a2]
        rcases h6 with h6 | ⟨h6, h7⟩ | ⟨h6, h7, h8⟩ | ⟨h6, h7, h8⟩
        · skip
          go_wp2_with (go_at_call 31; refine (z9a _ _ (by omega) (by omega) (by omega) (by omega) _).mono ?_; rintro e w' ⟨rfl, rfl⟩)
          go_loopw [7] (fun i wr => ∃ k : Nat, 1 ≤ k ∧ k ≤ 8 ∧ i = .int .i64 k ∧ wr.rowIs (w.heap.size + 1) 28 8 (fun j => .int .u32 (rowB z k j)) ∧ Num wr w.heap.size 28 0 ∧ Below w.heap.size w wr) (fun i _ => 8 - (intOf i).toNat)
          case atStart => exact ⟨1, by omega, by omega, rfl, hn.congr (fun j _ => by rw [rowB_start]), hz, hb⟩
          case round =>
            clear hn hz hb
            obtain ⟨k, hk0, hk, rfl, hn, hz, hb⟩ := hrel
            by_cases hlt : k < 8
            · have hcv := hn.cell (i := k) hlt
              rw [rowB_at] at hcv
              have hcf := hn.frozen k
              have hz0 := hzb k
              generalize hZ : z k = Z at *
              go_wp2
              go_roundw
              case rel =>
                refine ⟨k + 1, by omega, by omega, by go_num, ?_, ?_, ?_⟩
                · refine rowB_next hk0 hlt hn (by first | rfl | (rw [hZ]; rfl))
                · refine Num.far hz (by simp) _
                · refine Below.setCell hb (by simp) _
              case measure => simp [intOf] <;> omega
            · obtain rfl : k = 8 := by omega
              have hN := mk_num hzV (show mkZ kd n x = _ from by unfold mkZ; simp only [h6, hzV.out]) hn (fun j => rowB_bd hzb 8 j)
              rw [hV.out] at hN
              go_wp2_with (first | (go_at_call 31; refine (z9a _ _ (by omega) (by omega) (by omega) (by omega) _).mono ?_; rintro e w' ⟨rfl, rfl⟩) | (refine zd rfl _ _ rfl _ rfl _ _ _ hN Try.underlying28 rfl zc ?_) | (refine zj rfl _ _ _ rfl _ rfl _ rfl _ rfl hz zc ?_; intro w5 hg5 m5))
              exact bodyPost_ret (zga rfl rfl m5 Try.underlying28 rfl zc) rfl ⟨rfl, ze hb hg5 (by have := hz.lt; omega) (by omega)⟩
        · skip
          go_wp2_with (go_at_call 31; refine (z9a _ _ (by omega) (by omega) (by omega) (by omega) _).mono ?_; rintro e w' ⟨rfl, rfl⟩)
          go_loopw [8] (fun i wr => ∃ k : Nat, 0 ≤ k ∧ k ≤ 8 ∧ i = .int .i64 k ∧ wr.rowIs (w.heap.size + 1) 28 8 (fun j => .int .u32 (rowC z k j)) ∧ Num wr w.heap.size 28 0 ∧ Below w.heap.size w wr) (fun i _ => 8 - (intOf i).toNat)
          case atStart => exact ⟨0, by omega, by omega, rfl, hn.congr (fun j _ => by rw [rowC_start]), hz, hb⟩
          case round =>
            clear hn hz hb
            obtain ⟨k, hk0, hk, rfl, hn, hz, hb⟩ := hrel
            by_cases hlt : k < 8
            · have hcv := hn.cell (i := k) hlt
              rw [rowC_at] at hcv
              have hcf := hn.frozen k
              have hz0 := hzb k
              generalize hZ : z k = Z at *
              go_wp2
              go_roundw
              case rel =>
                refine ⟨k + 1, by omega, by omega, by go_num, ?_, ?_, ?_⟩
                · refine rowC_next hk0 hlt hn (by first | rfl | (rw [hZ]; rfl))
                · refine Num.far hz (by simp) _
                · refine Below.setCell hb (by simp) _
              case measure => simp [intOf] <;> omega
            · obtain rfl : k = 8 := by omega
              have hN := mk_num hzV (show mkZ kd n x = _ from by unfold mkZ; simp only [h6, h7, hzV.out]) hn (fun j => rowC_bd hzb 8 j)
              rw [hV.out] at hN
              go_wp2_with (first | (go_at_call 31; refine (z9a _ _ (by omega) (by omega) (by omega) (by omega) _).mono ?_; rintro e w' ⟨rfl, rfl⟩) | (refine zd rfl _ _ rfl _ rfl _ _ _ hN Try.underlying28 rfl zc ?_) | (refine zj rfl _ _ _ rfl _ rfl _ rfl _ rfl hz zc ?_; intro w5 hg5 m5))
              exact bodyPost_ret (zga rfl rfl m5 Try.underlying28 rfl zc) rfl ⟨rfl, ze hb hg5 (by have := hz.lt; omega) (by omega)⟩
        · skip
          go_wp2_with (go_at_call 31; refine (z9a _ _ (by omega) (by omega) (by omega) (by omega) _).mono ?_; rintro e w' ⟨rfl, rfl⟩)
          go_loopw [9] (fun i wr => ∃ k : Nat, 4 ≤ k ∧ k ≤ 8 ∧ i = .int .i64 k ∧ wr.rowIs (w.heap.size + 1) 28 8 (fun j => .int .u32 (rowD z k j)) ∧ Num wr w.heap.size 28 0 ∧ Below w.heap.size w wr) (fun i _ => 8 - (intOf i).toNat)
          case atStart => exact ⟨4, by omega, by omega, rfl, hn.congr (fun j _ => by rw [rowD_start]), hz, hb⟩
          case round =>
            clear hn hz hb
            obtain ⟨k, hk0, hk, rfl, hn, hz, hb⟩ := hrel
            by_cases hlt : k < 8
            · have hcv := hn.cell (i := k) hlt
              rw [rowD_at] at hcv
              have hcf := hn.frozen k
              have hz0 := hzb k
              generalize hZ : z k = Z at *
              go_wp2
              go_roundw
              case rel =>
                refine ⟨k + 1, by omega, by omega, by go_num, ?_, ?_, ?_⟩
                · refine rowD_next hk0 hlt hn (by first | rfl | (rw [hZ]; rfl))
                · refine Num.far hz (by simp) _
                · refine Below.setCell hb (by simp) _
              case measure => simp [intOf] <;> omega
            · obtain rfl : k = 8 := by omega
              have hN := mk_num hzV (show mkZ kd n x = _ from by unfold mkZ; simp only [h6, h7, h8, hzV.out]) hn (fun j => rowD_bd hzb 8 j)
              rw [hV.out] at hN
              go_wp2_with (first | (go_at_call 31; refine (z9a _ _ (by omega) (by omega) (by omega) (by omega) _).mono ?_; rintro e w' ⟨rfl, rfl⟩) | (refine zd rfl _ _ rfl _ rfl _ _ _ hN Try.underlying28 rfl zc ?_) | (refine zj rfl _ _ _ rfl _ rfl _ rfl _ rfl hz zc ?_; intro w5 hg5 m5))
              exact bodyPost_ret (zga rfl rfl m5 Try.underlying28 rfl zc) rfl ⟨rfl, ze hb hg5 (by have := hz.lt; omega) (by omega)⟩
        · have hN := mk_num hzV (show mkZ kd n x = _ from by unfold mkZ; simp only [h6, h7, h8, hzV.out]) hn hzb
          rw [hV.out] at hN
          go_wp2_with (first | (go_at_call 31; refine (z9a _ _ (by omega) (by omega) (by omega) (by omega) _).mono ?_; rintro e w' ⟨rfl, rfl⟩) | (refine zd rfl _ _ rfl _ rfl _ _ _ hN Try.underlying28 rfl zc ?_) | (refine zj rfl _ _ _ rfl _ rfl _ rfl _ rfl hz zc ?_; intro w5 hg5 m5))
          exact bodyPost_ret (zga rfl rfl m5 Try.underlying28 rfl zc) rfl ⟨rfl, ze hb hg5 (by have := hz.lt; omega) (by omega)⟩
      · clear hlt hk hkn
        have h6 : ((kd % 6 == 0) = true) ∨ ((kd % 6 == 0) = false ∧ (kd % 6 == 1) = true) ∨ ((kd % 6 == 0) = false ∧ (kd % 6 == 1) = false ∧ (kd % 6 == 2) = true) ∨ ((kd % 6 == 0) = false ∧ (kd % 6 == 1) = false ∧ (kd % 6 == 2) = false) := by
          by_cases a0 : kd % 6 = 0 <;> by_cases a1 : kd % 6 = 1 <;> by_cases a2 : kd % 6 = 2 <;> simp [a0, a1, a2]
        rcases h6 with h6 | ⟨h6, h7⟩ | ⟨h6, h7, h8⟩ | ⟨h6, h7, h8⟩
        · skip
          go_wp2_with (go_at_call 31; refine (z9a _ _ (by omega) (by omega) (by omega) (by omega) _).mono ?_; rintro e w' ⟨rfl, rfl⟩)
          go_loopw [7] (fun i wr => ∃ k : Nat, 1 ≤ k ∧ k ≤ 8 ∧ i = .int .i64 k ∧ wr.rowIs (w.heap.size + 1) 28 8 (fun j => .int .u32 (rowB z k j)) ∧ Num wr w.heap.size 28 0 ∧ Below w.heap.size w wr) (fun i _ => 8 - (intOf i).toNat)
          case atStart => exact ⟨1, by omega, by omega, rfl, hn.congr (fun j _ => by rw [rowB_start]), hz, hb⟩
          case round =>
            clear hn hz hb
            obtain ⟨k, hk0, hk, rfl, hn, hz, hb⟩ := hrel
            by_cases hlt : k < 8
            · have hcv := hn.cell (i := k) hlt
              rw [rowB_at] at hcv
              have hcf := hn.frozen k
              have hz0 := hzb k
              generalize hZ : z k = Z at *
              go_wp2
              go_roundw
              case rel =>
                refine ⟨k + 1, by omega, by omega, by go_num, ?_, ?_, ?_⟩
                · refine rowB_next hk0 hlt hn (by first | rfl | (rw [hZ]; rfl))
                · refine Num.far hz (by simp) _
                · refine Below.setCell hb (by simp) _
              case measure => simp [intOf] <;> omega
            · obtain rfl : k = 8 := by omega
              have hN := mk_num hzV (show mkZ kd n x = _ from by unfold mkZ; simp only [h6, hzV.out]) hn (fun j => rowB_bd hzb 8 j)
              rw [hV.out] at hN
              go_wp2_with (first | (go_at_call 31; refine (z9a _ _ (by omega) (by omega) (by omega) (by omega) _).mono ?_; rintro e w' ⟨rfl, rfl⟩) | (refine zd rfl _ _ rfl _ rfl _ _ _ hN Try.underlying28 rfl zc ?_) | (refine zj rfl _ _ _ rfl _ rfl _ rfl _ rfl hz zc ?_; intro w5 hg5 m5))
              exact bodyPost_ret (zga rfl rfl m5 Try.underlying28 rfl zc) rfl ⟨rfl, ze hb hg5 (by have := hz.lt; omega) (by omega)⟩
        · skip
          go_wp2_with (go_at_call 31; refine (z9a _ _ (by omega) (by omega) (by omega) (by omega) _).mono ?_; rintro e w' ⟨rfl, rfl⟩)
          go_loopw [8] (fun i wr => ∃ k : Nat, 0 ≤ k ∧ k ≤ 8 ∧ i = .int .i64 k ∧ wr.rowIs (w.heap.size + 1) 28 8 (fun j => .int .u32 (rowC z k j)) ∧ Num wr w.heap.size 28 0 ∧ Below w.heap.size w wr) (fun i _ => 8 - (intOf i).toNat)
          case atStart => exact ⟨0, by omega, by omega, rfl, hn.congr (fun j _ => by rw [rowC_start]), hz, hb⟩
          case round =>
            clear hn hz hb
            obtain ⟨k, hk0, hk, rfl, hn, hz, hb⟩ := hrel
            by_cases hlt : k < 8
            · have hcv := hn.cell (i := k) hlt
              rw [rowC_at] at hcv
              have hcf := hn.frozen k
              have hz0 := hzb k
              generalize hZ : z k = Z at *
              go_wp2
              go_roundw
              case rel =>
                refine ⟨k + 1, by omega, by omega, by go_num, ?_, ?_, ?_⟩
                · refine rowC_next hk0 hlt hn (by first | rfl | (rw [hZ]; rfl))
                · refine Num.far hz (by simp) _
                · refine Below.setCell hb (by simp) _
              case measure => simp [intOf] <;> omega
            · obtain rfl : k = 8 := by omega
              have hN := mk_num hzV (show mkZ kd n x = _ from by unfold mkZ; simp only [h6, h7, hzV.out]) hn (fun j => rowC_bd hzb 8 j)
              rw [hV.out] at hN
              go_wp2_with (first | (go_at_call 31; refine (z9a _ _ (by omega) (by omega) (by omega) (by omega) _).mono ?_; rintro e w' ⟨rfl, rfl⟩) | (refine zd rfl _ _ rfl _ rfl _ _ _ hN Try.underlying28 rfl zc ?_) | (refine zj rfl _ _ _ rfl _ rfl _ rfl _ rfl hz zc ?_; intro w5 hg5 m5))
              exact bodyPost_ret (zga rfl rfl m5 Try.underlying28 rfl zc) rfl ⟨rfl, ze hb hg5 (by have := hz.lt; omega) (by omega)⟩
        · skip
          go_wp2_with (go_at_call 31; refine (z9a _ _ (by omega) (by omega) (by omega) (by omega) _).mono ?_; rintro e w' ⟨rfl, rfl⟩)
          go_loopw [9] (fun i wr => ∃ k : Nat, 4 ≤ k ∧ k ≤ 8 ∧ i = .int .i64 k ∧ wr.rowIs (w.heap.size + 1) 28 8 (fun j => .int .u32 (rowD z k j)) ∧ Num wr w.heap.size 28 0 ∧ Below w.heap.size w wr) (fun i _ => 8 - (intOf i).toNat)
          case atStart => exact ⟨4, by omega, by omega, rfl, hn.congr (fun j _ => by rw [rowD_start]), hz, hb⟩
          case round =>
            clear hn hz hb
            obtain ⟨k, hk0, hk, rfl, hn, hz, hb⟩ := hrel
            by_cases hlt : k < 8
            · have hcv := hn.cell (i := k) hlt
              rw [rowD_at] at hcv
              have hcf := hn.frozen k
              have hz0 := hzb k
              generalize hZ : z k = Z at *
              go_wp2
              go_roundw
              case rel =>
                refine ⟨k + 1, by omega, by omega, by go_num, ?_, ?_, ?_⟩
                · refine rowD_next hk0 hlt hn (by first | rfl | (rw [hZ]; rfl))
                · refine Num.far hz (by simp) _
                · refine Below.setCell hb (by simp) _
              case measure => simp [intOf] <;> omega
            · obtain rfl : k = 8 := by omega
              have hN := mk_num hzV (show mkZ kd n x = _ from by unfold mkZ; simp only [h6, h7, h8, hzV.out]) hn (fun j => rowD_bd hzb 8 j)
              rw [hV.out] at hN
              go_wp2_with (first | (go_at_call 31; refine (z9a _ _ (by omega) (by omega) (by omega) (by omega) _).mono ?_; rintro e w' ⟨rfl, rfl⟩) | (refine zd rfl _ _ rfl _ rfl _ _ _ hN Try.underlying28 rfl zc ?_) | (refine zj rfl _ _ _ rfl _ rfl _ rfl _ rfl hz zc ?_; intro w5 hg5 m5))
              exact bodyPost_ret (zga rfl rfl m5 Try.underlying28 rfl zc) rfl ⟨rfl, ze hb hg5 (by have := hz.lt; omega) (by omega)⟩
        · have hN := mk_num hzV (show mkZ kd n x = _ from by unfold mkZ; simp only [h6, h7, h8, hzV.out]) hn hzb
          rw [hV.out] at hN
          go_wp2_with (first | (go_at_call 31; refine (z9a _ _ (by omega) (by omega) (by omega) (by omega) _).mono ?_; rintro e w' ⟨rfl, rfl⟩) | (refine zd rfl _ _ rfl _ rfl _ _ _ hN Try.underlying28 rfl zc ?_) | (refine zj rfl _ _ _ rfl _ rfl _ rfl _ rfl hz zc ?_; intro w5 hg5 m5))
          exact bodyPost_ret (zga rfl rfl m5 Try.underlying28 rfl zc) rfl ⟨rfl, ze hb hg5 (by have := hz.lt; omega) (by omega)⟩
end Go.Proofs.Ytcfepoopkfhojaa
namespace Go.Proofs.Ytcfepoopkfhojaa
open Go.ChangeShapes Go.WideShapes Go.ChangeAt Go.RowKit
theorem short_mem {L : List (List UInt8)} {l : List UInt8} (h : shortB L = true) (hl : l ∈ L) : l.length ≤ 64 := of_decide_eq_true (List.all_eq_true.1 h l hl)
theorem SrpRefuses_walk (a0 : Int) (hk0 : -9223372036854775808 ≤ a0) (hl0 : a0 < 9223372036854775808)
  (a1 : Int) (hk1 : -9223372036854775808 ≤ a1) (hl1 : a1 < 9223372036854775808)
  (A2 : Option Addr) (n2 cap2 : Nat) (x2 : Nat → Int)
  (A3 : Option Addr) (n3 cap3 : Nat) (l3 : List UInt8) (hn3 : l3.length = n3) (hc3 : n3 ≤ cap3) (hm3 : cap3 ≤ maxLen) (hz3 : A3 = none → cap3 = 0) (w : World) (hr2 : RdI w A2 n2 x2) (hr3 : Rd w A3 l3) :
  Calls Try.prog 3 #[.int .i64 a0, .int .i64 a1, .slice A2 n2 cap2, .slice A3 n3 cap3] w fun e w' => e = .returned (.bool true) ∧ Below w.heap.size w w' := by
 have ib3 : IsB w l3 (.slice A3 n3 cap3) := hr3.isB' hn3 hc3 hm3 hz3
 obtain ⟨k, p, hg, kG⟩ := group_any hk0 hl0
 obtain ⟨hpa, hpb⟩ : 4000 < p ∧ p < 16777216 := ⟨hg.2.2.2.1, hg.2.2.2.2.1⟩
 have po : p % 2 = 1 := hg.2.2.1
 have hp1 : 1 < p := by omega
 have p4 : p < 4294967296 := by omega
 have hP : p < 4294967296 ^ 8 := Nat.lt_trans p4 (by decide)
 have h2 : 2 < p / 2 := by omega
 have hQ4 : p / 2 ≤ 4294967296 := by omega
 have hQ : p / 2 < 4294967296 ^ 8 := Nat.lt_of_le_of_lt hQ4 (by decide)
 have hP0 : 0 < p := by omega
 have hm : ∀ x, x % p < 4294967296 ^ 8 := fun x => Nat.lt_trans (Nat.mod_lt _ hP0) hP
 have gfour : (4 : Nat) < 4294967296 ^ 8 := by decide
 obtain ⟨sh, hsh⟩ : ∃ b, shortB [l3] = b := ⟨_, rfl⟩
 refine zka (args := [.int .i64 a0, .int .i64 a1, .slice A2 n2 cap2, .slice A3 n3 cap3]) 144 Try.func3 rfl rfl rfl ?_
 intro fa F
 have M := Mx.start w
 replace M := M.argB 0 ib3 (fun g e => by cases e)
 refine zSk fun _ hK21 => ?_
 refine zR ?_
 refine rm rfl F fun _ F22 => ?_
 refine hK21 _ _ ?_
 refine zSk fun _ hK23 => ?_
 refine zSk fun _ hK24 => ?_
 refine zR ?_
 refine z9 (zb rfl) rfl F22 rfl rfl (zE Try.func5 rfl) #[] (args0) (zea (sknown_any w)) ?_
 rintro _ w25 a25 ⟨rfl, b25⟩ F25
 have M25 := M.step b25
 refine zh (w' := w25) (zb rfl) rfl F25 rfl (.bool false) (run_not _ _ rfl (F25.get (t := 25) rfl)) fun _ F26 => ?_
 clear F25
 refine hK24 _ _ ?_
 refine wp_cond_false (F26.get (t := 26) rfl) ?_
 refine wp_skip ?_
 refine hK23 _ _ ?_
 refine zSk fun _ hK27 => ?_
 refine zSk fun _ hK28 => ?_
 refine zR ?_
 refine rm rfl F26 fun _ F29 => ?_
 refine zwb (zb rfl) rfl F29 rfl M25 1 (t := 23) (c := #[.slice A3 n3 cap3]) (k := 1) (m := 1) (y_litG 62 23 (s := 1) (zv := zN) Try.underlying62 (by kernel_rfl) (by kernel_rfl) rfl (#[.slice A3 n3 cap3]) (by decide) (by decide) (by simp only [List.map_toArray, List.map_cons, List.map_nil, (F29.get (t := 27) rfl)]; kernel_rfl)) ?_
 intro g30 a30 w30 F30 M30
 clear F29 M25
 refine z9 (zb rfl) rfl F30 rfl rfl (zE Try.func6 rfl) #[.slice (some ⟨g30, 0, none⟩) 1 1] (zwa (F30.get (t := 28) rfl)) (zea ((hsh ▸ short_any [l3] _ w30 (isP_blk (M30.blk (k := 1) rfl) rfl rfl (show 1 ≤ 1000 by decide) (fun j l hj => by
   match j, hj with
   | 0, hj => obtain rfl : l3 = l := Option.some.inj hj; exact ⟨_, rfl, (M30.isb (k := 0) rfl)⟩
   | n + 1, hj => cases hj))))) ?_
 rintro _ w31 a31 ⟨rfl, b31⟩ F31
 have M31 := M30.step b31
 cases sh
 ·refine zh (w' := w31) (zb rfl) rfl F31 rfl (.bool true) (run_not _ _ rfl (F31.get (t := 29) rfl)) fun _ F32 => ?_
  clear F31
  refine hK28 _ _ ?_
  refine wp_cond_true (F32.get (t := 30) rfl) ?_
  refine zSk fun _ hK33 => ?_
  refine zR ?_
  refine rm rfl F32 fun _ F34 => ?_
  refine hK33 _ _ ?_
  refine wp_ret ?_
  try simp only [Exit.then, Exit.inBlock, Exit.jump]
  exact bodyPost_ret (res1 rfl (F34.get rfl)) F34.defers ⟨rfl, M31.below⟩
 ·have hs0 : l3.length ≤ 64 := short_mem hsh (by simp)
  have hT0 := Int.emod_nonneg a1 (show (p : Int) ≠ 0 by omega)
  have hT1 := Int.emod_lt_of_pos a1 (show 0 < (p : Int) by omega)
  obtain ⟨T, hT, hTp⟩ : ∃ T : Nat, a1 % (p : Int) = (T : Int) ∧ T < p := ⟨(a1 % (p : Int)).toNat, by omega, by omega⟩
  have kW := fun (w : World) => within7_any a1 (p : Int) (by omega) (by omega) hk1 hl1 w
  rw [hT] at kW
  have bT : T < 4294967296 ^ 8 := Nat.lt_trans hTp hP
  have kT := fun w => from_ref (T : Int) (by omega) (by omega) w
  rw [Int.toNat_natCast] at kT
  have k7 : z2b 9 #[.int .i64 7] (numV 7) := fun w => from_ref 7 (by decide) (by decide) w
  have k1 : z2b 9 #[.int .i64 1] (numV 1) := fun w => from_ref 1 (by decide) (by decide) w
  have kSm := fun w => rsmall_any p p4 w
  obtain ⟨R, hR⟩ : ∃ R, 4 ^ 7 % p = R := ⟨_, rfl⟩
  have bR : R < 4294967296 ^ 8 := by rw [← hR]; exact hm _
  have kR := fun w => rraise_any k p (p / 2) 4 hp1 (by omega) 4 7 gfour (by decide) w
  rw [hR] at kR
  obtain ⟨mk, emk⟩ : ∃ x, mkN 1 n2 x2 = x := ⟨_, rfl⟩
  have kM := fun (w : World) (hx : RdI w A2 n2 x2) => make_det 1 (by decide) (by decide) A2 n2 cap2 x2 w hx
  rw [emk] at kM
  have bM : mk < 4294967296 ^ 8 := by rw [← emk]; exact mkN_lt _ _ _
  obtain ⟨A, hA⟩ : ∃ A, 4 ^ texN (p / 2) [97] [l3] % p = A := ⟨_, rfl⟩
  have bA : A < 4294967296 ^ 8 := by rw [← hA]; exact hm _
  obtain ⟨C, hC⟩ : ∃ C : SideN, ⟨k, p, p / 2, 4, ({ data := #[117] } : ByteArray), [], 4 ^ texN (p / 2) [97] [l3] % p, 0, texN (p / 2) [97] [l3], [], 0, fun _ => 0, fun _ => 0⟩ = C := ⟨_, rfl⟩
  have kH := shello_is k p (p / 2) 4 po hp1 hP h2 hQ gfour ({ data := #[117] } : ByteArray) [] l3 (by decide) hC hA
  have cP : C.P = p := by rw [← hC]
  have cQ : C.Q = p / 2 := by rw [← hC]
  have cO : C.O < 4294967296 := by rw [← hC]; exact Nat.lt_of_lt_of_le (expN_bd h2 _).2 hQ4
  have cg : C.g < 4294967296 ^ 8 := by rw [← hC]; exact gfour
  have cs : C.s.size ≤ 1000 := by rw [← hC]; exact (show 1 ≤ 1000 by decide)
  have cl : C.lp.length ≤ 100000 := by rw [← hC]; exact (show 0 ≤ 100000 by decide)
  clear hA hC emk hR hT
  refine zh (w' := w31) (zb rfl) rfl F31 rfl (.bool false) (run_not _ _ rfl (F31.get (t := 29) rfl)) fun _ F35 => ?_
  clear F31
  refine hK28 _ _ ?_
  refine wp_cond_false (F35.get (t := 30) rfl) ?_
  refine wp_skip ?_
  refine hK27 _ _ ?_
  refine zSk fun _ hK36 => ?_
  refine zR ?_
  refine rm rfl F35 fun _ F37 => ?_
  refine z9 (zb rfl) rfl F37 rfl rfl (zE Try.func7 rfl) #[.int .i64 a0] (zwa (F37.get (t := 31) rfl)) (zea (kG w31)) ?_
  rintro _ w38 a38 ⟨rfl, b38⟩ F38
  have M38 := M31.step b38
  refine zl (zb rfl) rfl F38 rfl M38 2 (t := 30) (c := zf 0 0 0 0) (by unfold execOp; rw [zrb]; kernel_rfl) ?_
  intro g39 a39 w39 F39 M39
  clear F38 M38
  refine zda (zb rfl) rfl F39 M39 (k := 2) rfl _ _ _ rfl (F39.get (t := 9) rfl) (F39.get (t := 32) rfl) (zf k p (p / 2) 4) _ rfl (zL rfl) (zxb _ _ _ _) (zr rfl) (by kernel_rfl) ?_
  intro w40 M40
  clear M39
  refine hK36 _ _ ?_
  refine zSk fun _ hK41 => ?_
  refine zta F39 [fun vE => vE = .agg (zf k p (p / 2) 4), fun vE => vE = .pointer (some ⟨g39, 17, none⟩), fun vE => vE = numV 4, fun vE => vE = numV 7, fun vE => vE = numV R, fun vE => vE = .agg (recA ⟨1, ({ data := #[117] }), [], R, 0, [], 0, 0, 0⟩ ⟨zN, zN⟩), fun vE => ∃ g, vE = .pointer (some ⟨g, 0, none⟩)] (JM none w fun SV pV => [(0, bytR l3 (.slice A3 n3 cap3)), (1, blkR g30 23 (#[.slice A3 n3 cap3])), (2, blkR g39 30 (zf k p (p / 2) 4)), (3, zab (SV 6) (ptrR 35 (recA ⟨0, "".toUTF8, [], 0, 0, [], 0, 0, 0⟩ ⟨zN, zN⟩) (pV 6)))]) 7 rfl (by kernel_rfl) rfl ⟨trivial, trivial, trivial, trivial, trivial, trivial, trivial, trivial⟩ (fun p => ((M40.step (zra _)).triv 3).sub ⟨rfl, rfl, rfl, rfl, trivial⟩) ⟨?_, ?_, ?_, ?_, ?_, ?_, ?_, trivial⟩ ?_
  ·intro ua uw SV pV M0 hk hn hd
   have M : Mx none w uw _ := M0
   clear M0
   have e9 : ua.eval (.tmp 9) = .pointer (some ⟨g39, 0, none⟩) := (show ua.eval (.tmp 9) = _ from hd 9 (by decide)).trans (F39.get (t := 9) rfl)
   exact zi (zb rfl) _ (zt _ _ rfl e9 (M.blk (k := 2) rfl) (zf k p (p / 2) 4) (zba rfl) Try.underlying30 rfl (by kernel_rfl)) rfl (M.sub ⟨rfl, rfl, rfl, rfl, trivial⟩)
  ·intro ua uw SV pV M0 hk hn hd
   have M : Mx none w uw _ := M0
   clear M0
   have e9 : ua.eval (.tmp 9) = .pointer (some ⟨g39, 0, none⟩) := (show ua.eval (.tmp 9) = _ from hd 9 (by decide)).trans (F39.get (t := 9) rfl)
   exact zi (zb rfl) (.pointer (some ⟨g39, 17, none⟩)) (y_fa (off := 17) rfl e9 (by kernel_rfl) rfl) rfl (M.sub ⟨rfl, rfl, rfl, rfl, trivial⟩)
  ·intro ua uw SV pV M0 hk hn hd
   have M : Mx none w uw _ := M0
   clear M0
   obtain ⟨s1, f34, q34⟩ := (show SV 1 = true ∧ ua.eval (.tmp 34) = pV 1 ∧ stE _ 1 (pV 1) from hd 34 (by decide))
   have e34 : ua.eval (.tmp 34) = .pointer (some ⟨g39, 17, none⟩) := f34.trans q34
   exact zi (zb rfl) (numV 4) (zt _ _ rfl e34 (M.blk (k := 2) rfl) (numA 4) groupA_g Try.underlying28 rfl zc) rfl (M.sub ⟨rfl, rfl, rfl, rfl, trivial⟩)
  ·intro ua uw SV pV M0 hk hn hd
   have M : Mx none w uw _ := M0
   clear M0
   exact zja (zb rfl) rfl #[.int .i64 7] (zwa rfl) (zE Try.func9 rfl) ((k7 uw).mono fun e w2 h => ⟨_, h.1, rfl, (M.step h.2).sub ⟨rfl, rfl, rfl, rfl, trivial⟩⟩)
  ·intro ua uw SV pV M0 hk hn hd
   have M : Mx none w uw _ := M0
   clear M0
   obtain ⟨s0, f33, q33⟩ := (show SV 0 = true ∧ ua.eval (.tmp 33) = pV 0 ∧ stE _ 0 (pV 0) from hd 33 (by decide))
   have e33 : ua.eval (.tmp 33) = .agg (zf k p (p / 2) 4) := f33.trans q33
   obtain ⟨s2, f35, q35⟩ := (show SV 2 = true ∧ ua.eval (.tmp 35) = pV 2 ∧ stE _ 2 (pV 2) from hd 35 (by decide))
   have e35 : ua.eval (.tmp 35) = numV 4 := f35.trans q35
   obtain ⟨s3, f36, q36⟩ := (show SV 3 = true ∧ ua.eval (.tmp 36) = pV 3 ∧ stE _ 3 (pV 3) from hd 36 (by decide))
   have e36 : ua.eval (.tmp 36) = numV 7 := f36.trans q36
   exact zja (zb rfl) rfl #[.agg (zf k p (p / 2) 4), numV 4, numV 7] (z1b e33 e35 e36) (zE Try.func8 rfl) ((kR uw).mono fun e w2 h => ⟨_, h.1, rfl, (M.step h.2).sub ⟨rfl, rfl, rfl, rfl, trivial⟩⟩)
  ·intro ua uw SV pV M0 hk hn hd
   have M : Mx none w uw _ := M0
   clear M0
   obtain ⟨s4, f37, q37⟩ := (show SV 4 = true ∧ ua.eval (.tmp 37) = pV 4 ∧ stE _ 4 (pV 4) from hd 37 (by decide))
   have e37 : ua.eval (.tmp 37) = numV R := f37.trans q37
   exact zi (zb rfl) (.agg (recA ⟨1, ({ data := #[117] }), [], R, 0, [], 0, 0, 0⟩ ⟨zN, zN⟩)) (by unfold execOp; simp only [List.map_toArray, List.map_cons, List.map_nil, e37]; kernel_rfl) rfl (M.sub ⟨rfl, rfl, rfl, rfl, trivial⟩)
  ·intro ua uw SV pV M0 hk hn hd
   have M : Mx none w uw _ := M0
   clear M0
   exact zi (zb rfl) _ (by unfold execOp; kernel_rfl) ⟨_, rfl⟩ ((M.allocP 3 35 (recA ⟨0, "".toUTF8, [], 0, 0, [], 0, 0, 0⟩ ⟨zN, zN⟩)).sub ⟨rfl, rfl, rfl, rfl, trivial⟩)
  intro p42 a42 w42 M42 G42 y42
  obtain ⟨-, -, -, -, -, q5, q6, -⟩ := y42
  obtain ⟨gp6x41, r6⟩ := (show ∃ g, p42 6 = .pointer (some ⟨g, 0, none⟩) from q6)
  have r5 : p42 5 = .agg (recA ⟨1, ({ data := #[117] }), [], R, 0, [], 0, 0, 0⟩ ⟨zN, zN⟩) := q5
  replace M42 : Mx _ _ w42 [(0, bytR l3 (.slice A3 n3 cap3)), (1, blkR g30 23 (#[.slice A3 n3 cap3])), (2, blkR g39 30 (zf k p (p / 2) 4)), (3, zab true (ptrR 35 (recA ⟨0, "".toUTF8, [], 0, 0, [], 0, 0, 0⟩ ⟨zN, zN⟩) (p42 6)))] := M42
  simp only [List.take, layV, Nat.zero_add, Nat.reduceAdd, r5, r6] at G42
  rw [r6] at M42
  have M42_3 := M42.ptr (k := 3) (g := gp6x41) rfl
  refine zda (zb rfl) rfl G42 M42_3 (k := 3) rfl _ _ _ rfl (G42.get (t := 10) rfl) (G42.get (t := 38) rfl) (recA ⟨1, ({ data := #[117] }), [], R, 0, [], 0, 0, 0⟩ ⟨zN, zN⟩) _ rfl (zL rfl) (recA_one (w := w42) ⟨(zca _), zca _⟩) (zr rfl) (by kernel_rfl) ?_
  intro w43 M43
  clear M42_3
  refine hK41 _ _ ?_
  refine zSk fun _ hK44 => ?_
  refine zR ?_
  refine zh (w' := w43) (zb rfl) rfl G42 rfl _ (zt _ _ rfl (G42.get (t := 9) rfl) (M43.blk (k := 2) rfl) (zf k p (p / 2) 4) (zba rfl) Try.underlying30 rfl (by kernel_rfl)) fun _ F45 => ?_
  clear G42
  refine rm rfl F45 fun _ F46 => ?_
  refine z9 (zb rfl) rfl F46 rfl rfl (zE Try.func10 rfl) #[.agg (zf k p (p / 2) 4), .string ({ data := #[117] }), zN, .slice A3 n3 cap3] (args4 (F46.get (t := 40) rfl) rfl rfl (F46.get (t := 41) rfl)) (kH w43 _ _ (zca _) (M43.isb (k := 0) rfl)) ?_
  rintro _ w47 a47 ⟨y47, rfl, his47, hlo47, hls47, b47⟩ F47
  obtain ⟨M47, -⟩ := side_two M43 b47 4 5 his47 hlo47 hls47 (by decide)
  clear M43 hlo47 hls47 his47 b47
  refine zAx 3 [(39, .tuple #[.agg (zg C y47), numV A]), (43, .agg (zg C y47)), (44, numV A)] [] dnil [] F47 fun _ F48 => ?_
  clear F47
  refine zl (zb rfl) rfl F48 rfl M47 6 (t := 39) (c := zg ⟨0, 0, 0, 0, "".toUTF8, [], 0, 0, 0, [], 0, (fun _ => 0), (fun _ => 0)⟩ ⟨zN, zN⟩) (by unfold execOp; kernel_rfl) ?_
  intro g49 a49 w49 F49 M49
  clear F48 M47
  refine zl (zb rfl) rfl F49 rfl M49 7 (t := 28) (c := numA 0) (zz rfl) ?_
  intro g50 a50 w50 F50 M50
  clear F49 M49
  refine zda (zb rfl) rfl F50 M50 (k := 6) rfl _ _ _ rfl (F50.get (t := 11) rfl) (F50.get (t := 43) rfl) (zg C y47) _ rfl (zL rfl) (zbb (w := w50) ⟨(M50.isb (k := 4) rfl), (M50.isb (k := 5) rfl)⟩) (zr rfl) (by kernel_rfl) ?_
  intro w51 M51
  clear M50
  refine zda (zb rfl) rfl F50 M51 (k := 7) rfl _ _ _ rfl (F50.get (t := 12) rfl) (F50.get (t := 44) rfl) (numA A) _ rfl (zL rfl) (zha _) (zr rfl) zc ?_
  intro w52 M52
  clear M51
  refine hK44 _ _ ?_
  refine zSk fun _ hK53 => ?_
  refine zta F50 [fun vE => vE = numV 0, fun vE => vE = numV 1, fun vE => vE = .pointer (some ⟨g39, 1, none⟩), fun vE => vE = numV p, fun vE => vE = .slice A2 n2 cap2, fun vE => vE = numV mk, fun vE => vE = .int .i64 a1, fun vE => vE = .pointer (some ⟨g39, 1, none⟩), fun vE => vE = numV p, fun vE => vE = .int .i64 (p : Int), fun vE => vE = .int .i64 (T : Int), fun vE => vE = numV T] (JM none w fun SV pV => [(0, bytR l3 (.slice A3 n3 cap3)), (1, blkR g30 23 (#[.slice A3 n3 cap3])), (2, blkR g39 30 (zf k p (p / 2) 4)), (3, blkR gp6x41 35 (recA ⟨1, ({ data := #[117] }), [], R, 0, [], 0, 0, 0⟩ ⟨zN, zN⟩)), (4, bytR C.lp y47.vp), (5, bytR C.ls y47.vs), (6, blkR g49 39 (zg C y47)), (7, blkR g50 28 (numA A))]) 12 rfl (by kernel_rfl) rfl ⟨trivial, trivial, trivial, trivial, trivial, trivial, trivial, trivial, trivial, trivial, trivial, trivial, trivial⟩ (fun p => (M52.step (zra _)).sub ⟨rfl, rfl, rfl, rfl, rfl, rfl, rfl, rfl, trivial⟩) ⟨?_, ?_, ?_, ?_, ?_, ?_, ?_, ?_, ?_, ?_, ?_, ?_, trivial⟩ ?_
  ·intro ua uw SV pV M0 hk hn hd
   have M : Mx none w uw _ := M0
   clear M0
   exact zi (zb rfl) (numV 0) (zec rfl) rfl (M.sub ⟨rfl, rfl, rfl, rfl, rfl, rfl, rfl, rfl, trivial⟩)
  ·intro ua uw SV pV M0 hk hn hd
   have M : Mx none w uw _ := M0
   clear M0
   exact zja (zb rfl) rfl #[.int .i64 1] (zwa rfl) (zE Try.func9 rfl) ((k1 uw).mono fun e w2 h => ⟨_, h.1, rfl, (M.step h.2).sub ⟨rfl, rfl, rfl, rfl, rfl, rfl, rfl, rfl, trivial⟩⟩)
  ·intro ua uw SV pV M0 hk hn hd
   have M : Mx none w uw _ := M0
   clear M0
   have e9 : ua.eval (.tmp 9) = .pointer (some ⟨g39, 0, none⟩) := (show ua.eval (.tmp 9) = _ from hd 9 (by decide)).trans (F50.get (t := 9) rfl)
   exact zi (zb rfl) (.pointer (some ⟨g39, 1, none⟩)) (y_fa (off := 1) rfl e9 (by kernel_rfl) rfl) rfl (M.sub ⟨rfl, rfl, rfl, rfl, rfl, rfl, rfl, rfl, trivial⟩)
  ·intro ua uw SV pV M0 hk hn hd
   have M : Mx none w uw _ := M0
   clear M0
   obtain ⟨s2, f47, q47⟩ := (show SV 2 = true ∧ ua.eval (.tmp 47) = pV 2 ∧ stE _ 2 (pV 2) from hd 47 (by decide))
   have e47 : ua.eval (.tmp 47) = .pointer (some ⟨g39, 1, none⟩) := f47.trans q47
   exact zi (zb rfl) (numV p) (zt _ _ rfl e47 (M.blk (k := 2) rfl) (numA p) z7b Try.underlying28 rfl zc) rfl (M.sub ⟨rfl, rfl, rfl, rfl, rfl, rfl, rfl, rfl, trivial⟩)
  ·intro ua uw SV pV M0 hk hn hd
   have M : Mx none w uw _ := M0
   clear M0
   have e2 : ua.eval (.tmp 2) = .slice A2 n2 cap2 := (show ua.eval (.tmp 2) = _ from hd 2 (by decide)).trans (F50.get (t := 2) rfl)
   exact zi (zb rfl) (.slice A2 n2 cap2) (zu _ (.inl rfl) e2) rfl (M.sub ⟨rfl, rfl, rfl, rfl, rfl, rfl, rfl, rfl, trivial⟩)
  ·intro ua uw SV pV M0 hk hn hd
   have M : Mx none w uw _ := M0
   clear M0
   obtain ⟨s4, f49, q49⟩ := (show SV 4 = true ∧ ua.eval (.tmp 49) = pV 4 ∧ stE _ 4 (pV 4) from hd 49 (by decide))
   have e49 : ua.eval (.tmp 49) = .slice A2 n2 cap2 := f49.trans q49
   exact zja (zb rfl) rfl #[.int .i64 1, .slice A2 n2 cap2] (zdb rfl e49) (zE Try.func11 rfl) ((kM uw (hr2.step M.below)).mono fun e w2 h => ⟨_, h.1, rfl, (M.step h.2).sub ⟨rfl, rfl, rfl, rfl, rfl, rfl, rfl, rfl, trivial⟩⟩)
  ·intro ua uw SV pV M0 hk hn hd
   have M : Mx none w uw _ := M0
   clear M0
   have e1 : ua.eval (.tmp 1) = .int .i64 a1 := (show ua.eval (.tmp 1) = _ from hd 1 (by decide)).trans (F50.get (t := 1) rfl)
   exact zi (zb rfl) (.int .i64 a1) (zu _ (.inl rfl) e1) rfl (M.sub ⟨rfl, rfl, rfl, rfl, rfl, rfl, rfl, rfl, trivial⟩)
  ·intro ua uw SV pV M0 hk hn hd
   have M : Mx none w uw _ := M0
   clear M0
   have e9 : ua.eval (.tmp 9) = .pointer (some ⟨g39, 0, none⟩) := (show ua.eval (.tmp 9) = _ from hd 9 (by decide)).trans (F50.get (t := 9) rfl)
   exact zi (zb rfl) (.pointer (some ⟨g39, 1, none⟩)) (y_fa (off := 1) rfl e9 (by kernel_rfl) rfl) rfl (M.sub ⟨rfl, rfl, rfl, rfl, rfl, rfl, rfl, rfl, trivial⟩)
  ·intro ua uw SV pV M0 hk hn hd
   have M : Mx none w uw _ := M0
   clear M0
   obtain ⟨s7, f52, q52⟩ := (show SV 7 = true ∧ ua.eval (.tmp 52) = pV 7 ∧ stE _ 7 (pV 7) from hd 52 (by decide))
   have e52 : ua.eval (.tmp 52) = .pointer (some ⟨g39, 1, none⟩) := f52.trans q52
   exact zi (zb rfl) (numV p) (zt _ _ rfl e52 (M.blk (k := 2) rfl) (numA p) z7b Try.underlying28 rfl zc) rfl (M.sub ⟨rfl, rfl, rfl, rfl, rfl, rfl, rfl, rfl, trivial⟩)
  ·intro ua uw SV pV M0 hk hn hd
   have M : Mx none w uw _ := M0
   clear M0
   obtain ⟨s8, f53, q53⟩ := (show SV 8 = true ∧ ua.eval (.tmp 53) = pV 8 ∧ stE _ 8 (pV 8) from hd 53 (by decide))
   have e53 : ua.eval (.tmp 53) = numV p := f53.trans q53
   exact zja (zb rfl) rfl #[numV p] (zwa e53) (zE Try.func13 rfl) ((kSm uw).mono fun e w2 h => ⟨_, h.1, rfl, (M.step h.2).sub ⟨rfl, rfl, rfl, rfl, rfl, rfl, rfl, rfl, trivial⟩⟩)
  ·intro ua uw SV pV M0 hk hn hd
   have M : Mx none w uw _ := M0
   clear M0
   obtain ⟨s6, f51, q51⟩ := (show SV 6 = true ∧ ua.eval (.tmp 51) = pV 6 ∧ stE _ 6 (pV 6) from hd 51 (by decide))
   have e51 : ua.eval (.tmp 51) = .int .i64 a1 := f51.trans q51
   obtain ⟨s9, f54, q54⟩ := (show SV 9 = true ∧ ua.eval (.tmp 54) = pV 9 ∧ stE _ 9 (pV 9) from hd 54 (by decide))
   have e54 : ua.eval (.tmp 54) = .int .i64 (p : Int) := f54.trans q54
   exact zja (zb rfl) rfl #[.int .i64 a1, .int .i64 (p : Int)] (zdb e51 e54) (zE Try.func12 rfl) (((same_eq (kW uw))).mono fun e w2 h => ⟨_, h.1, rfl, (M.step h.2).sub ⟨rfl, rfl, rfl, rfl, rfl, rfl, rfl, rfl, trivial⟩⟩)
  ·intro ua uw SV pV M0 hk hn hd
   have M : Mx none w uw _ := M0
   clear M0
   obtain ⟨s10, f55, q55⟩ := (show SV 10 = true ∧ ua.eval (.tmp 55) = pV 10 ∧ stE _ 10 (pV 10) from hd 55 (by decide))
   have e55 : ua.eval (.tmp 55) = .int .i64 (T : Int) := f55.trans q55
   exact zja (zb rfl) rfl #[.int .i64 (T : Int)] (zwa e55) (zE Try.func9 rfl) ((kT uw).mono fun e w2 h => ⟨_, h.1, rfl, (M.step h.2).sub ⟨rfl, rfl, rfl, rfl, rfl, rfl, rfl, rfl, trivial⟩⟩)
  intro p54 a54 w54 M54 G54 y54
  obtain ⟨q0, q1, -, q3, -, q5, -, -, -, -, -, q11, -⟩ := y54
  have r0 : p54 0 = numV 0 := q0
  have r1 : p54 1 = numV 1 := q1
  have r3 : p54 3 = numV p := q3
  have r5 : p54 5 = numV mk := q5
  have r11 : p54 11 = numV T := q11
  replace M54 : Mx _ _ w54 [(0, bytR l3 (.slice A3 n3 cap3)), (1, blkR g30 23 (#[.slice A3 n3 cap3])), (2, blkR g39 30 (zf k p (p / 2) 4)), (3, blkR gp6x41 35 (recA ⟨1, ({ data := #[117] }), [], R, 0, [], 0, 0, 0⟩ ⟨zN, zN⟩)), (4, bytR C.lp y47.vp), (5, bytR C.ls y47.vs), (6, blkR g49 39 (zg C y47)), (7, blkR g50 28 (numA A))] := M54
  simp only [List.take, layV, Nat.zero_add, Nat.reduceAdd, r0, r1, r3, r5, r11] at G54
  refine zwb (zb rfl) rfl G54 rfl M54 8 (t := 28) (c := #[numF 0 0, numF 0 1, numF 0 2, numF 0 3, numF 0 4, numF 0 5, numF 0 6, numF 0 7, numF 1 0, numF 1 1, numF 1 2, numF 1 3, numF 1 4, numF 1 5, numF 1 6, numF 1 7, numF p 0, numF p 1, numF p 2, numF p 3, numF p 4, numF p 5, numF p 6, numF p 7, numF mk 0, numF mk 1, numF mk 2, numF mk 3, numF mk 4, numF mk 5, numF mk 6, numF mk 7, numF T 0, numF T 1, numF T 2, numF T 3, numF T 4, numF T 5, numF T 6, numF T 7]) (k := 5) (m := 5) (y_litG 45 28 (s := 8) (zv := .agg #[.int .u32 0, .int .u32 0, .int .u32 0, .int .u32 0, .int .u32 0, .int .u32 0, .int .u32 0, .int .u32 0]) Try.underlying45 (by kernel_rfl) (by kernel_rfl) rfl (#[numF 0 0, numF 0 1, numF 0 2, numF 0 3, numF 0 4, numF 0 5, numF 0 6, numF 0 7, numF 1 0, numF 1 1, numF 1 2, numF 1 3, numF 1 4, numF 1 5, numF 1 6, numF 1 7, numF p 0, numF p 1, numF p 2, numF p 3, numF p 4, numF p 5, numF p 6, numF p 7, numF mk 0, numF mk 1, numF mk 2, numF mk 3, numF mk 4, numF mk 5, numF mk 6, numF mk 7, numF T 0, numF T 1, numF T 2, numF T 3, numF T 4, numF T 5, numF T 6, numF T 7]) (by decide) (by decide) (by simp only [List.map_toArray, List.map_cons, List.map_nil, (G54.get (t := 45) rfl), (G54.get (t := 46) rfl), (G54.get (t := 48) rfl), (G54.get (t := 50) rfl), (G54.get (t := 56) rfl)]; kernel_rfl)) ?_
  intro g55 a55 w55 F55 M55
  clear G54 M54
  refine rm rfl F55 fun _ F56 => ?_
  refine hK53 _ _ ?_
  refine zSk fun _ hK57 => ?_
  refine zSk fun _ hK58 => ?_
  refine zR ?_
  refine rm rfl F56 fun _ F59 => ?_
  refine hK58 _ _ ?_
  refine wp_block ?_
  refine loop_fx (α := Nat) (n := 144) (G := none) (w0 := w) (fun x => [(1, .int .i64 a1), (2, .slice A2 n2 cap2), (3, .slice A3 n3 cap3), (9, .pointer (some ⟨g39, 0, none⟩)), (10, .pointer (some ⟨gp6x41, 0, none⟩)), (11, .pointer (some ⟨g49, 0, none⟩)), (12, .pointer (some ⟨g50, 0, none⟩)), (13, .slice (some ⟨g55, 0, none⟩) 5 5), (14, .int .i64 (x : Int))]) (fun x => [(0, bytR l3 (.slice A3 n3 cap3)), (1, blkR g30 23 (#[.slice A3 n3 cap3])), (2, blkR g39 30 (zf k p (p / 2) 4)), (3, blkR gp6x41 35 (recA ⟨1, ({ data := #[117] }), [], R, 0, [], 0, 0, 0⟩ ⟨zN, zN⟩)), (4, bytR C.lp y47.vp), (5, bytR C.ls y47.vs), (6, blkR g49 39 (zg C y47)), (7, blkR g50 28 (numA A)), (8, blkR g55 28 (#[numF 0 0, numF 0 1, numF 0 2, numF 0 3, numF 0 4, numF 0 5, numF 0 6, numF 0 7, numF 1 0, numF 1 1, numF 1 2, numF 1 3, numF 1 4, numF 1 5, numF 1 6, numF 1 7, numF p 0, numF p 1, numF p 2, numF p 3, numF p 4, numF p 5, numF p 6, numF p 7, numF mk 0, numF mk 1, numF mk 2, numF mk 3, numF mk 4, numF mk 5, numF mk 6, numF mk 7, numF T 0, numF T 1, numF T 2, numF T 3, numF T 4, numF T 5, numF T 6, numF T 7]))]) (fun k x => k = (5 - x) ∧ (x ≤ 5)) _ 0 ⟨rfl, (by decide)⟩ (F59.sub ⟨rfl, rfl, rfl, rfl, rfl, rfl, rfl, rfl, rfl, trivial⟩) (M55.sub ⟨rfl, rfl, rfl, rfl, rfl, rfl, rfl, rfl, rfl, trivial⟩) ?_
  clear F59 M55
  rintro k60 jn a60 w60 K60 ⟨ek60, I60⟩ F60 M60 hK60
  replace F60 : Fx 144 a60 [(1, .int .i64 a1), (2, .slice A2 n2 cap2), (3, .slice A3 n3 cap3), (9, .pointer (some ⟨g39, 0, none⟩)), (10, .pointer (some ⟨gp6x41, 0, none⟩)), (11, .pointer (some ⟨g49, 0, none⟩)), (12, .pointer (some ⟨g50, 0, none⟩)), (13, .slice (some ⟨g55, 0, none⟩) 5 5), (14, .int .i64 (jn : Int))] := F60
  replace M60 : Mx _ _ w60 [(0, bytR l3 (.slice A3 n3 cap3)), (1, blkR g30 23 (#[.slice A3 n3 cap3])), (2, blkR g39 30 (zf k p (p / 2) 4)), (3, blkR gp6x41 35 (recA ⟨1, ({ data := #[117] }), [], R, 0, [], 0, 0, 0⟩ ⟨zN, zN⟩)), (4, bytR C.lp y47.vp), (5, bytR C.ls y47.vs), (6, blkR g49 39 (zg C y47)), (7, blkR g50 28 (numA A)), (8, blkR g55 28 (#[numF 0 0, numF 0 1, numF 0 2, numF 0 3, numF 0 4, numF 0 5, numF 0 6, numF 0 7, numF 1 0, numF 1 1, numF 1 2, numF 1 3, numF 1 4, numF 1 5, numF 1 6, numF 1 7, numF p 0, numF p 1, numF p 2, numF p 3, numF p 4, numF p 5, numF p 6, numF p 7, numF mk 0, numF mk 1, numF mk 2, numF mk 3, numF mk 4, numF mk 5, numF mk 6, numF mk 7, numF T 0, numF T 1, numF T 2, numF T 3, numF T 4, numF T 5, numF T 6, numF T 7]))] := M60
  replace I60 : jn ≤ 5 := I60
  replace ek60 : k60 = (5 - jn) := ek60
  have hj5 := I60
  refine zSk fun _ hK61 => ?_
  refine zSk fun _ hK62 => ?_
  refine zR ?_
  refine rm rfl F60 fun _ F63 => ?_
  refine rm rfl F63 fun _ F64 => ?_
  refine zh (w' := w60) (zb rfl) rfl F64 rfl (.int .i64 5) (y_lnG 45 Try.underlying45 _ rfl (F64.get (t := 59) rfl) rfl) fun _ F65 => ?_
  clear F64
  by_cases h66 : (jn : Int) < 5
  ·have hlt : jn < 5 := by omega
   obtain ⟨x, hx, ex⟩ : ∃ x : Nat, x < 4294967296 ^ 8 ∧ ∀ (i : Nat) (v : Value), (numA x)[i]? = some v → (#[numF 0 0, numF 0 1, numF 0 2, numF 0 3, numF 0 4, numF 0 5, numF 0 6, numF 0 7, numF 1 0, numF 1 1, numF 1 2, numF 1 3, numF 1 4, numF 1 5, numF 1 6, numF 1 7, numF p 0, numF p 1, numF p 2, numF p 3, numF p 4, numF p 5, numF p 6, numF p 7, numF mk 0, numF mk 1, numF mk 2, numF mk 3, numF mk 4, numF mk 5, numF mk 6, numF mk 7, numF T 0, numF T 1, numF T 2, numF T 3, numF T 4, numF T 5, numF T 6, numF T 7] : Array Value)[0 + jn * 8 + i]? = some v := by
    match jn, hlt with
    | 0, _ => exact ⟨0, (by decide), zdc (by kernel_rfl) (by kernel_rfl) (by kernel_rfl) (by kernel_rfl) (by kernel_rfl) (by kernel_rfl) (by kernel_rfl) (by kernel_rfl)⟩
    | 1, _ => exact ⟨1, (by decide), zdc (by kernel_rfl) (by kernel_rfl) (by kernel_rfl) (by kernel_rfl) (by kernel_rfl) (by kernel_rfl) (by kernel_rfl) (by kernel_rfl)⟩
    | 2, _ => exact ⟨p, hP, zdc (by kernel_rfl) (by kernel_rfl) (by kernel_rfl) (by kernel_rfl) (by kernel_rfl) (by kernel_rfl) (by kernel_rfl) (by kernel_rfl)⟩
    | 3, _ => exact ⟨mk, bM, zdc (by kernel_rfl) (by kernel_rfl) (by kernel_rfl) (by kernel_rfl) (by kernel_rfl) (by kernel_rfl) (by kernel_rfl) (by kernel_rfl)⟩
    | 4, _ => exact ⟨T, bT, zdc (by kernel_rfl) (by kernel_rfl) (by kernel_rfl) (by kernel_rfl) (by kernel_rfl) (by kernel_rfl) (by kernel_rfl) (by kernel_rfl)⟩
    | n + 5, h => exact absurd h (by omega)
   obtain ⟨h, hh⟩ : ∃ b, hasB x p (p / 2) = b := ⟨_, rfl⟩
   have kHs := fun w => rhas_any k p (p / 2) 4 hp1 (by omega) x hx hQ w
   rw [hh] at kHs
   obtain ⟨b1, hb1⟩ : ∃ b, offOk p (p / 2) 4 R x (texN (p / 2) [98] [l3]) = b := ⟨_, rfl⟩
   obtain ⟨S1, hS1⟩ : ∃ S, cond b1 (zxa (offS k p (p / 2) 4 ({ data := #[117] } : ByteArray) [] R x (texN (p / 2) [98] [l3])) (offN p (p / 2) 4 R x (texN (p / 2) [98] [l3]))) zeroS = S := ⟨_, rfl⟩
   obtain ⟨B1, hB1⟩ : ∃ B, cond b1 (offB p (p / 2) 4 R (texN (p / 2) [98] [l3])) 0 = B := ⟨_, rfl⟩
   have kO1 := soffer_is k p (p / 2) 4 po hp1 p4 h2 hQ gfour ⟨1, ({ data := #[117] } : ByteArray), [], R, 0, [], 0, 0, 0⟩ bR (show 1 ≤ 1000 by decide) (show 0 ≤ 100000 by decide) x hx l3 hb1 hS1 hB1
   obtain ⟨b2, hb2⟩ : ∃ b, offOk p (p / 2) 4 x A (texN (p / 2) [98] [l3]) = b := ⟨_, rfl⟩
   obtain ⟨S2, hS2⟩ : ∃ S, cond b2 (zxa (offS k p (p / 2) 4 ({ data := #[117] } : ByteArray) [] x A (texN (p / 2) [98] [l3])) (offN p (p / 2) 4 x A (texN (p / 2) [98] [l3]))) zeroS = S := ⟨_, rfl⟩
   obtain ⟨B2, hB2⟩ : ∃ B, cond b2 (offB p (p / 2) 4 x (texN (p / 2) [98] [l3])) 0 = B := ⟨_, rfl⟩
   have kO2 := soffer_is k p (p / 2) 4 po hp1 p4 h2 hQ gfour ⟨1, ({ data := #[117] } : ByteArray), [], x, 0, [], 0, 0, 0⟩ hx (show 1 ≤ 1000 by decide) (show 0 ≤ 100000 by decide) A bA l3 hb2 hS2 hB2
   have f1 : h = false → b1 = false ∧ b2 = false := fun e => ⟨hb1 ▸ off_no (.inl (hh.trans e)), hb2 ▸ off_no (.inr (hh.trans e))⟩
   have f2 : b1 = false → B1 = 0 ∧ S1.Ky = fun _ => 0 := fun e => by rw [← hB1, ← hS1, e]; exact ⟨rfl, rfl⟩
   obtain ⟨b3, hb3⟩ : ∃ b, prvOk C [] x = b := ⟨_, rfl⟩
   obtain ⟨D, hD⟩ : ∃ D, cond b3 (zxa (prvS C [] x) (prvN C [] x)) zeroS = D := ⟨_, rfl⟩
   obtain ⟨Y, hY⟩ : ∃ Y, D.Pr = Y := ⟨_, rfl⟩
   have kP := sprove_is C (by rw [cP]; exact po) (by rw [cP]; exact hp1) (by rw [cP]; exact p4) (by rw [cQ]; exact h2) (by rw [cQ]; exact hQ4) cO cg cs cl [] (by decide) x hx hb3 hD hY
   obtain ⟨E, hE⟩ : ∃ E, cmpI x p = E := ⟨_, rfl⟩
   have kC := fun w => rcmp_any x p hx hP w
   rw [hE] at kC
   have f3 : b3 = true → ¬ x = 0 ∧ ¬ (0 : Int) ≤ E := fun e => by
    obtain ⟨h1, h2⟩ := prv_no (hb3.trans e)
    rw [cP] at h2
    exact ⟨h1, hE ▸ scmp_lt h2⟩
   clear hb1 hS1 hB1 hb2 hS2 hB2 hh hb3 hD hY hE
   refine zh (w' := w60) (zb rfl) rfl F65 rfl (.bool true) (y_lss _ _ _ _ rfl (F65.get (t := 58) rfl) (F65.get (t := 60) rfl) (decide_eq_true h66)) fun _ F67 => ?_
   clear F65
   refine hK62 _ _ ?_
   refine wp_cond_true (F67.get (t := 61) rfl) ?_
   refine wp_skip ?_
   refine hK61 _ _ ?_
   refine zSk fun _ hK68 => ?_
   refine wp_block ?_
   refine zSk fun _ hK69 => ?_
   refine zta F67 [fun vE => vE = .agg (zf k p (p / 2) 4), fun vE => vE = .agg (recA ⟨1, ({ data := #[117] }), [], R, 0, [], 0, 0, 0⟩ ⟨zN, zN⟩), fun vE => vE = .slice (some ⟨g55, 0, none⟩) 5 5, fun vE => vE = .int .i64 (jn : Int), fun vE => vE = .pointer (some ⟨g55, (0 + jn * 8), none⟩), fun vE => vE = numV x, fun vE => vE = .slice A3 n3 cap3, fun vE => ∃ y, SShp y ∧ vE = .tuple #[.agg (zg S1 y), numV B1, .bool b1], fun vE => ∃ y, SShp y ∧ vE = .tuple #[.agg (zg S1 y), numV B1, .bool b1], fun vE => ∃ y, SShp y ∧ vE = .agg (zg S1 y), fun vE => vE = numV B1, fun vE => vE = .bool b1, fun vE => ∃ g, vE = .pointer (some ⟨g, 0, none⟩), fun vE => ∃ g, vE = .pointer (some ⟨g, 0, none⟩), fun vE => vE = undef, fun vE => vE = undef] (JM none w fun SV pV => [(0, bytR l3 (.slice A3 n3 cap3)), (1, blkR g30 23 (#[.slice A3 n3 cap3])), (2, blkR g39 30 (zf k p (p / 2) 4)), (3, blkR gp6x41 35 (recA ⟨1, ({ data := #[117] }), [], R, 0, [], 0, 0, 0⟩ ⟨zN, zN⟩)), (4, bytR C.lp y47.vp), (5, bytR C.ls y47.vs), (6, blkR g49 39 (zg C y47)), (7, blkR g50 28 (numA A)), (8, blkR g55 28 (#[numF 0 0, numF 0 1, numF 0 2, numF 0 3, numF 0 4, numF 0 5, numF 0 6, numF 0 7, numF 1 0, numF 1 1, numF 1 2, numF 1 3, numF 1 4, numF 1 5, numF 1 6, numF 1 7, numF p 0, numF p 1, numF p 2, numF p 3, numF p 4, numF p 5, numF p 6, numF p 7, numF mk 0, numF mk 1, numF mk 2, numF mk 3, numF mk 4, numF mk 5, numF mk 6, numF mk 7, numF T 0, numF T 1, numF T 2, numF T 3, numF T 4, numF T 5, numF T 6, numF T 7])), (9, znb (SV 14) (ptrR 39 (aggC (pV 9)) (pV 12)) (zab (SV 12) (ptrR 39 (zg ⟨0, 0, 0, 0, "".toUTF8, [], 0, 0, 0, [], 0, (fun _ => 0), (fun _ => 0)⟩ ⟨zN, zN⟩) (pV 12)))), (10, znb (SV 15) (ptrR 28 (numA B1) (pV 13)) (zab (SV 13) (ptrR 28 (numA 0) (pV 13))))]) 16 rfl (by kernel_rfl) rfl ⟨trivial, trivial, trivial, trivial, trivial, trivial, trivial, trivial, trivial, trivial, trivial, trivial, trivial, trivial, fun _ => Iff.rfl, fun _ => Iff.rfl, trivial⟩ (fun p => (((M60.step (zra _)).triv 9).triv 10).sub ⟨rfl, rfl, rfl, rfl, rfl, rfl, rfl, rfl, rfl, rfl, rfl, trivial⟩) ⟨?_, ?_, ?_, ?_, ?_, ?_, ?_, ?_, ?_, ?_, ?_, ?_, ?_, ?_, ?_, ?_, trivial⟩ ?_
   ·intro ua uw SV pV M0 hk hn hd
    have M : Mx none w uw _ := M0
    clear M0
    have e9 : ua.eval (.tmp 9) = .pointer (some ⟨g39, 0, none⟩) := (show ua.eval (.tmp 9) = _ from hd 9 (by decide)).trans (F67.get (t := 9) rfl)
    exact zi (zb rfl) _ (zt _ _ rfl e9 (M.blk (k := 2) rfl) (zf k p (p / 2) 4) (zba rfl) Try.underlying30 rfl (by kernel_rfl)) rfl (M.sub ⟨rfl, rfl, rfl, rfl, rfl, rfl, rfl, rfl, rfl, rfl, rfl, trivial⟩)
   ·intro ua uw SV pV M0 hk hn hd
    have M : Mx none w uw _ := M0
    clear M0
    have e10 : ua.eval (.tmp 10) = .pointer (some ⟨gp6x41, 0, none⟩) := (show ua.eval (.tmp 10) = _ from hd 10 (by decide)).trans (F67.get (t := 10) rfl)
    exact zi (zb rfl) _ (zt _ _ rfl e10 (M.blk (k := 3) rfl) (recA ⟨1, ({ data := #[117] }), [], R, 0, [], 0, 0, 0⟩ ⟨zN, zN⟩) (zba rfl) Try.underlying35 rfl (by kernel_rfl)) rfl (M.sub ⟨rfl, rfl, rfl, rfl, rfl, rfl, rfl, rfl, rfl, rfl, rfl, trivial⟩)
   ·intro ua uw SV pV M0 hk hn hd
    have M : Mx none w uw _ := M0
    clear M0
    have e13 : ua.eval (.tmp 13) = .slice (some ⟨g55, 0, none⟩) 5 5 := (show ua.eval (.tmp 13) = _ from hd 13 (by decide)).trans (F67.get (t := 13) rfl)
    exact zi (zb rfl) (.slice (some ⟨g55, 0, none⟩) 5 5) (zu _ (.inl rfl) e13) rfl (M.sub ⟨rfl, rfl, rfl, rfl, rfl, rfl, rfl, rfl, rfl, rfl, rfl, trivial⟩)
   ·intro ua uw SV pV M0 hk hn hd
    have M : Mx none w uw _ := M0
    clear M0
    have e14 : ua.eval (.tmp 14) = .int .i64 (jn : Int) := (show ua.eval (.tmp 14) = _ from hd 14 (by decide)).trans (F67.get (t := 14) rfl)
    exact zi (zb rfl) (.int .i64 (jn : Int)) (zu _ (.inl rfl) e14) rfl (M.sub ⟨rfl, rfl, rfl, rfl, rfl, rfl, rfl, rfl, rfl, rfl, rfl, trivial⟩)
   ·intro ua uw SV pV M0 hk hn hd
    have M : Mx none w uw _ := M0
    clear M0
    obtain ⟨s2, f67, q67⟩ := (show SV 2 = true ∧ ua.eval (.tmp 67) = pV 2 ∧ stE _ 2 (pV 2) from hd 67 (by decide))
    have e67 : ua.eval (.tmp 67) = .slice (some ⟨g55, 0, none⟩) 5 5 := f67.trans q67
    obtain ⟨s3, f68, q68⟩ := (show SV 3 = true ∧ ua.eval (.tmp 68) = pV 3 ∧ stE _ 3 (pV 3) from hd 68 (by decide))
    have e68 : ua.eval (.tmp 68) = .int .i64 (jn : Int) := f68.trans q68
    exact zi (zb rfl) (.pointer (some ⟨g55, (0 + jn * 8), none⟩)) (y_ixG 45 (s := 8) Try.underlying45 (by kernel_rfl) _ _ rfl e67 e68 rfl hlt rfl) rfl (M.sub ⟨rfl, rfl, rfl, rfl, rfl, rfl, rfl, rfl, rfl, rfl, rfl, trivial⟩)
   ·intro ua uw SV pV M0 hk hn hd
    have M : Mx none w uw _ := M0
    clear M0
    obtain ⟨s4, f69, q69⟩ := (show SV 4 = true ∧ ua.eval (.tmp 69) = pV 4 ∧ stE _ 4 (pV 4) from hd 69 (by decide))
    have e69 : ua.eval (.tmp 69) = .pointer (some ⟨g55, (0 + jn * 8), none⟩) := f69.trans q69
    exact zi (zb rfl) (numV x) (zt _ _ rfl e69 (M.blk (k := 8) rfl) (numA x) ex Try.underlying28 rfl zc) rfl (M.sub ⟨rfl, rfl, rfl, rfl, rfl, rfl, rfl, rfl, rfl, rfl, rfl, trivial⟩)
   ·intro ua uw SV pV M0 hk hn hd
    have M : Mx none w uw _ := M0
    clear M0
    have e3 : ua.eval (.tmp 3) = .slice A3 n3 cap3 := (show ua.eval (.tmp 3) = _ from hd 3 (by decide)).trans (F67.get (t := 3) rfl)
    exact zi (zb rfl) (.slice A3 n3 cap3) (zu _ (.inl rfl) e3) rfl (M.sub ⟨rfl, rfl, rfl, rfl, rfl, rfl, rfl, rfl, rfl, rfl, rfl, trivial⟩)
   ·intro ua uw SV pV M0 hk hn hd
    have M : Mx none w uw _ := M0
    clear M0
    obtain ⟨s0, f65, q65⟩ := (show SV 0 = true ∧ ua.eval (.tmp 65) = pV 0 ∧ stE _ 0 (pV 0) from hd 65 (by decide))
    have e65 : ua.eval (.tmp 65) = .agg (zf k p (p / 2) 4) := f65.trans q65
    obtain ⟨s1, f66, q66⟩ := (show SV 1 = true ∧ ua.eval (.tmp 66) = pV 1 ∧ stE _ 1 (pV 1) from hd 66 (by decide))
    have e66 : ua.eval (.tmp 66) = .agg (recA ⟨1, ({ data := #[117] }), [], R, 0, [], 0, 0, 0⟩ ⟨zN, zN⟩) := f66.trans q66
    obtain ⟨s5, f70, q70⟩ := (show SV 5 = true ∧ ua.eval (.tmp 70) = pV 5 ∧ stE _ 5 (pV 5) from hd 70 (by decide))
    have e70 : ua.eval (.tmp 70) = numV x := f70.trans q70
    obtain ⟨s6, f71, q71⟩ := (show SV 6 = true ∧ ua.eval (.tmp 71) = pV 6 ∧ stE _ 6 (pV 6) from hd 71 (by decide))
    have e71 : ua.eval (.tmp 71) = .slice A3 n3 cap3 := f71.trans q71
    exact zja (zb rfl) rfl #[.agg (zf k p (p / 2) 4), .agg (recA ⟨1, ({ data := #[117] }), [], R, 0, [], 0, 0, 0⟩ ⟨zN, zN⟩), numV x, .slice A3 n3 cap3] (args4 e65 e66 e70 e71) (zE Try.func14 rfl) (((kO1 uw _ _ ⟨zca _, zca _⟩ (M.isb (k := 0) rfl))).mono fun e w2 h => (by obtain ⟨t, h1, y, ht, hI, -, -, hb⟩ := h; subst ht; exact ⟨_, h1, ⟨y, sshp_of hI, rfl⟩, (M.step hb).sub ⟨rfl, rfl, rfl, rfl, rfl, rfl, rfl, rfl, rfl, rfl, rfl, trivial⟩⟩))
   ·intro ua uw SV pV M0 hk hn hd
    have M : Mx none w uw _ := M0
    clear M0
    obtain ⟨s7, f72, q72⟩ := (show SV 7 = true ∧ ua.eval (.tmp 72) = pV 7 ∧ stE _ 7 (pV 7) from hd 72 (by decide))
    have e72 : ua.eval (.tmp 72) = (pV 7) := f72
    exact zi (zb rfl) ((pV 7)) (zu _ (.inl rfl) e72) q72 (M.sub ⟨rfl, rfl, rfl, rfl, rfl, rfl, rfl, rfl, rfl, rfl, rfl, trivial⟩)
   ·intro ua uw SV pV M0 hk hn hd
    have M : Mx none w uw _ := M0
    clear M0
    obtain ⟨s8, f64, q64⟩ := (show SV 8 = true ∧ ua.eval (.tmp 64) = pV 8 ∧ stE _ 8 (pV 8) from hd 64 (by decide))
    have e64 : ua.eval (.tmp 64) = (pV 8) := f64
    obtain ⟨y_, hs_, eS_⟩ := (show ∃ y, SShp y ∧ (pV 8) = .tuple #[.agg (zg S1 y), numV B1, .bool b1] from q64)
    exact zi (zb rfl) _ (y_ext _ _ rfl (e64.trans eS_) rfl) ⟨y_, hs_, rfl⟩ (M.sub ⟨rfl, rfl, rfl, rfl, rfl, rfl, rfl, rfl, rfl, (eitherR_off (hn 14 (by kernel_rfl)) rfl), rfl, trivial⟩)
   ·intro ua uw SV pV M0 hk hn hd
    have M : Mx none w uw _ := M0
    clear M0
    obtain ⟨s8, f64, q64⟩ := (show SV 8 = true ∧ ua.eval (.tmp 64) = pV 8 ∧ stE _ 8 (pV 8) from hd 64 (by decide))
    have e64 : ua.eval (.tmp 64) = (pV 8) := f64
    obtain ⟨y_, hs_, eS_⟩ := (show ∃ y, SShp y ∧ (pV 8) = .tuple #[.agg (zg S1 y), numV B1, .bool b1] from q64)
    exact zi (zb rfl) (numV B1) (y_ext _ _ rfl (e64.trans eS_) rfl) rfl (M.sub ⟨rfl, rfl, rfl, rfl, rfl, rfl, rfl, rfl, rfl, rfl, rfl, trivial⟩)
   ·intro ua uw SV pV M0 hk hn hd
    have M : Mx none w uw _ := M0
    clear M0
    obtain ⟨s8, f64, q64⟩ := (show SV 8 = true ∧ ua.eval (.tmp 64) = pV 8 ∧ stE _ 8 (pV 8) from hd 64 (by decide))
    have e64 : ua.eval (.tmp 64) = (pV 8) := f64
    obtain ⟨y_, hs_, eS_⟩ := (show ∃ y, SShp y ∧ (pV 8) = .tuple #[.agg (zg S1 y), numV B1, .bool b1] from q64)
    exact zi (zb rfl) (.bool b1) (y_ext _ _ rfl (e64.trans eS_) rfl) rfl (M.sub ⟨rfl, rfl, rfl, rfl, rfl, rfl, rfl, rfl, rfl, rfl, rfl, trivial⟩)
   ·intro ua uw SV pV M0 hk hn hd
    have M : Mx none w uw _ := M0
    clear M0
    exact zi (zb rfl) _ (by unfold execOp; kernel_rfl) ⟨_, rfl⟩ ((M.allocP 9 39 (zg ⟨0, 0, 0, 0, "".toUTF8, [], 0, 0, 0, [], 0, (fun _ => 0), (fun _ => 0)⟩ ⟨zN, zN⟩)).sub ⟨rfl, rfl, rfl, rfl, rfl, rfl, rfl, rfl, rfl, (zgc (hn 14 (by kernel_rfl)) rfl), rfl, trivial⟩)
   ·intro ua uw SV pV M0 hk hn hd
    have M : Mx none w uw _ := M0
    clear M0
    exact zi (zb rfl) _ (zz rfl) ⟨_, rfl⟩ ((M.allocP 10 28 (numA 0)).sub ⟨rfl, rfl, rfl, rfl, rfl, rfl, rfl, rfl, rfl, rfl, (zgc (hn 15 (by kernel_rfl)) rfl), trivial⟩)
   ·intro ua uw SV pV M0 hk hn hd
    have M : Mx none w uw _ := M0
    clear M0
    obtain ⟨s12, f15, q15⟩ := (show SV 12 = true ∧ ua.eval (.tmp 15) = pV 12 ∧ stE _ 12 (pV 12) from hd 15 (by decide))
    obtain ⟨s9, f73, q73⟩ := (show SV 9 = true ∧ ua.eval (.tmp 73) = pV 9 ∧ stE _ 9 (pV 9) from hd 73 (by decide))
    have e73 : ua.eval (.tmp 73) = (pV 9) := f73
    obtain ⟨y_, hs_, eS_⟩ := (show ∃ y, SShp y ∧ pV 9 = .agg (zg S1 y) from q73)
    have eA_ : aggC (pV 9) = zg S1 y_ := by rw [eS_]; rfl
    obtain ⟨g_, r_⟩ := (show ∃ g, pV 12 = .pointer (some ⟨g, 0, none⟩) from q15)
    have M2 := M.ptrV (k := 9) (g := g_) (zpb s12 (eitherR_r hk rfl)) r_
    exact zjc (zb rfl) rfl (run_st M2 (k := 9) rfl _ _ _ rfl (f15.trans r_) (f73.trans eS_) (zg S1 y_) _ rfl (zL rfl) (sshp_one hs_) (zr rfl) (by kernel_rfl)) (fun w2 h2 => (h2.toPtr (k := 9) rfl r_ eA_).sub ⟨rfl, rfl, rfl, rfl, rfl, rfl, rfl, rfl, rfl, rfl, rfl, trivial⟩) rfl
   ·intro ua uw SV pV M0 hk hn hd
    have M : Mx none w uw _ := M0
    clear M0
    obtain ⟨s13, f16, q16⟩ := (show SV 13 = true ∧ ua.eval (.tmp 16) = pV 13 ∧ stE _ 13 (pV 13) from hd 16 (by decide))
    obtain ⟨s10, f74, q74⟩ := (show SV 10 = true ∧ ua.eval (.tmp 74) = pV 10 ∧ stE _ 10 (pV 10) from hd 74 (by decide))
    have e74 : ua.eval (.tmp 74) = numV B1 := f74.trans q74
    obtain ⟨g_, r_⟩ := (show ∃ g, pV 13 = .pointer (some ⟨g, 0, none⟩) from q16)
    have M2 := M.ptrV (k := 10) (g := g_) (zpb s13 (eitherR_r hk rfl)) r_
    exact zjc (zb rfl) rfl (run_st M2 (k := 10) rfl _ _ _ rfl (f16.trans r_) e74 (numA B1) _ rfl (zL rfl) (zha _) (zr rfl) zc) (fun w2 h2 => (h2.toPtr (k := 10) rfl r_ rfl).sub ⟨rfl, rfl, rfl, rfl, rfl, rfl, rfl, rfl, rfl, rfl, rfl, trivial⟩) rfl
   intro p70 a70 w70 M70 G70 y70
   obtain ⟨-, -, -, -, -, -, -, -, -, q9, -, q11, q12, q13, -, -, -⟩ := y70
   obtain ⟨gp12x69, r12⟩ := (show ∃ g, p70 12 = .pointer (some ⟨g, 0, none⟩) from q12)
   obtain ⟨gp13x69, r13⟩ := (show ∃ g, p70 13 = .pointer (some ⟨g, 0, none⟩) from q13)
   obtain ⟨y70, hs70, r9⟩ := (show ∃ y, SShp y ∧ p70 9 = .agg (zg S1 y) from q9)
   have r11 : p70 11 = .bool b1 := q11
   replace M70 : Mx _ _ w70 [(0, bytR l3 (.slice A3 n3 cap3)), (1, blkR g30 23 (#[.slice A3 n3 cap3])), (2, blkR g39 30 (zf k p (p / 2) 4)), (3, blkR gp6x41 35 (recA ⟨1, ({ data := #[117] }), [], R, 0, [], 0, 0, 0⟩ ⟨zN, zN⟩)), (4, bytR C.lp y47.vp), (5, bytR C.ls y47.vs), (6, blkR g49 39 (zg C y47)), (7, blkR g50 28 (numA A)), (8, blkR g55 28 (#[numF 0 0, numF 0 1, numF 0 2, numF 0 3, numF 0 4, numF 0 5, numF 0 6, numF 0 7, numF 1 0, numF 1 1, numF 1 2, numF 1 3, numF 1 4, numF 1 5, numF 1 6, numF 1 7, numF p 0, numF p 1, numF p 2, numF p 3, numF p 4, numF p 5, numF p 6, numF p 7, numF mk 0, numF mk 1, numF mk 2, numF mk 3, numF mk 4, numF mk 5, numF mk 6, numF mk 7, numF T 0, numF T 1, numF T 2, numF T 3, numF T 4, numF T 5, numF T 6, numF T 7])), (9, znb true (ptrR 39 (aggC (p70 9)) (p70 12)) (zab true (ptrR 39 (zg ⟨0, 0, 0, 0, "".toUTF8, [], 0, 0, 0, [], 0, (fun _ => 0), (fun _ => 0)⟩ ⟨zN, zN⟩) (p70 12)))), (10, znb true (ptrR 28 (numA B1) (p70 13)) (zab true (ptrR 28 (numA 0) (p70 13))))] := M70
   simp only [List.take, layV, Nat.zero_add, Nat.reduceAdd, r9, r11, r12, r13] at G70
   rw [r12, r13, r9] at M70
   have M70_9 := M70.ptr (k := 9) (g := gp12x69) rfl
   replace M70_9 := M70_9.toB (k := 9) (c2 := zg S1 y70) rfl rfl
   have M70_10 := M70_9.ptr (k := 10) (g := gp13x69) rfl
   replace M70_10 := M70_10.toB (k := 10) (c2 := numA B1) rfl rfl
   refine rm rfl G70 fun _ F71 => ?_
   refine hK69 _ _ ?_
   refine zSk fun _ hK72 => ?_
   refine zR ?_
   refine zh (w' := w70) (zb rfl) rfl F71 rfl _ (zt _ _ rfl (F71.get (t := 10) rfl) (M70_10.blk (k := 3) rfl) (recA ⟨1, ({ data := #[117] }), [], R, 0, [], 0, 0, 0⟩ ⟨zN, zN⟩) (zba rfl) Try.underlying35 rfl (by kernel_rfl)) fun _ F73 => ?_
   clear F71
   refine zl (zb rfl) rfl F73 rfl M70_10 11 (t := 35) (c := recA ⟨0, "".toUTF8, [], 0, 0, [], 0, 0, 0⟩ ⟨zN, zN⟩) (by unfold execOp; kernel_rfl) ?_
   intro g74 a74 w74 F74 M74
   clear F73 M70_10
   refine zda (zb rfl) rfl F74 M74 (k := 11) rfl _ _ _ rfl (F74.get (t := 18) rfl) (F74.get (t := 76) rfl) (recA ⟨1, ({ data := #[117] }), [], R, 0, [], 0, 0, 0⟩ ⟨zN, zN⟩) _ rfl (zL rfl) (recA_one (w := w74) ⟨(zca _), zca _⟩) (zr rfl) (by kernel_rfl) ?_
   intro w75 M75
   clear M74
   refine hK72 _ _ ?_
   refine zSk fun _ hK76 => ?_
   refine zR ?_
   refine rm rfl F74 fun _ F77 => ?_
   refine rm rfl F77 fun _ F78 => ?_
   refine zh (w' := w75) (zb rfl) rfl F78 rfl (.pointer (some ⟨g55, (0 + jn * 8), none⟩)) (y_ixG 45 (s := 8) Try.underlying45 (by kernel_rfl) _ _ rfl (F78.get (t := 77) rfl) (F78.get (t := 78) rfl) rfl hlt rfl) fun _ F79 => ?_
   clear F78
   refine zh (w' := w75) (zb rfl) rfl F79 rfl (numV x) (zt _ _ rfl (F79.get (t := 79) rfl) (M75.blk (k := 8) rfl) (numA x) ex Try.underlying28 rfl zc) fun _ F80 => ?_
   clear F79
   refine zh (w' := w75) (zb rfl) rfl F80 rfl (.pointer (some ⟨g74, 3, none⟩)) (y_fa (off := 3) rfl (F80.get (t := 18) rfl) (by kernel_rfl) rfl) fun _ F81 => ?_
   clear F80
   refine zda (zb rfl) rfl F81 M75 (k := 11) rfl _ _ _ rfl (F81.get (t := 81) rfl) (F81.get (t := 80) rfl) (numA x) (recA ⟨1, ({ data := #[117] }), [], x, 0, [], 0, 0, 0⟩ ⟨zN, zN⟩) rfl (zL rfl) (zha _) (by kernel_rfl) zc ?_
   intro w82 M82
   clear M75
   refine hK76 _ _ ?_
   refine zSk fun _ hK83 => ?_
   refine zR ?_
   refine zh (w' := w82) (zb rfl) rfl F81 rfl _ (zt _ _ rfl (F81.get (t := 9) rfl) (M82.blk (k := 2) rfl) (zf k p (p / 2) 4) (zba rfl) Try.underlying30 rfl (by kernel_rfl)) fun _ F84 => ?_
   clear F81
   refine zh (w' := w82) (zb rfl) rfl F84 rfl _ (zt _ _ rfl (F84.get (t := 18) rfl) (M82.blk (k := 11) rfl) (recA ⟨1, ({ data := #[117] }), [], x, 0, [], 0, 0, 0⟩ ⟨zN, zN⟩) (zba rfl) Try.underlying35 rfl (by kernel_rfl)) fun _ F85 => ?_
   clear F84
   refine zh (w' := w82) (zb rfl) rfl F85 rfl (numV A) (zt _ _ rfl (F85.get (t := 12) rfl) (M82.blk (k := 7) rfl) (numA A) (zba rfl) Try.underlying28 rfl zc) fun _ F86 => ?_
   clear F85
   refine rm rfl F86 fun _ F87 => ?_
   refine z9 (zb rfl) rfl F87 rfl rfl (zE Try.func14 rfl) #[.agg (zf k p (p / 2) 4), .agg (recA ⟨1, ({ data := #[117] }), [], x, 0, [], 0, 0, 0⟩ ⟨zN, zN⟩), numV A, .slice A3 n3 cap3] (args4 (F87.get (t := 83) rfl) (F87.get (t := 84) rfl) (F87.get (t := 85) rfl) (F87.get (t := 86) rfl)) (kO2 w82 _ _ ⟨zca _, zca _⟩ (M82.isb (k := 0) rfl)) ?_
   rintro _ w88 a88 ⟨y88, rfl, his88, hlo88, hls88, b88⟩ F88
   obtain ⟨M88, -⟩ := side_two M82 b88 12 13 his88 hlo88 hls88 (by decide)
   clear M82 hlo88 hls88 his88 b88
   refine zAx 4 [(82, .tuple #[.agg (zg S2 y88), numV B2, .bool b2]), (88, .agg (zg S2 y88)), (89, numV B2), (90, .bool b2)] [] dnil [] F88 fun _ F89 => ?_
   clear F88
   refine zl (zb rfl) rfl F89 rfl M88 14 (t := 39) (c := zg ⟨0, 0, 0, 0, "".toUTF8, [], 0, 0, 0, [], 0, (fun _ => 0), (fun _ => 0)⟩ ⟨zN, zN⟩) (by unfold execOp; kernel_rfl) ?_
   intro g90 a90 w90 F90 M90
   clear F89 M88
   refine zl (zb rfl) rfl F90 rfl M90 15 (t := 28) (c := numA 0) (zz rfl) ?_
   intro g91 a91 w91 F91 M91
   clear F90 M90
   refine zda (zb rfl) rfl F91 M91 (k := 14) rfl _ _ _ rfl (F91.get (t := 19) rfl) (F91.get (t := 88) rfl) (zg S2 y88) _ rfl (zL rfl) (zbb (w := w91) ⟨(M91.isb (k := 12) rfl), (M91.isb (k := 13) rfl)⟩) (zr rfl) (by kernel_rfl) ?_
   intro w92 M92
   clear M91
   refine zda (zb rfl) rfl F91 M92 (k := 15) rfl _ _ _ rfl (F91.get (t := 20) rfl) (F91.get (t := 89) rfl) (numA B2) _ rfl (zL rfl) (zha _) (zr rfl) zc ?_
   intro w93 M93
   clear M92
   refine rm rfl F91 fun _ F94 => ?_
   refine hK83 _ _ ?_
   refine zSk fun _ hK95 => ?_
   refine zSk fun _ hK96 => ?_
   cases h
   ·cases b1
    ·cases b2
     ·have hD97 := (z6a (M93.blk (k := 2) rfl) (z6a (M93.blk (k := 10) rfl) (z6a (M93.blk (k := 9) rfl) dnil)))
      refine zgb F94 (SK [.inl (.agg (zf k p (p / 2) 4)), .inl (.slice (some ⟨g55, 0, none⟩) 5 5), .inl (.int .i64 (jn : Int)), .inl (.pointer (some ⟨g55, (0 + jn * 8), none⟩)), .inl (numV x), .inl (.bool false), .inl (.bool true), .inl (.bool true), .inl (.bool false), .inl (.bool false), .inl (.bool false), .inl (.bool false), .inl (.bool false), .inl (numV B1), .inl (numV 0), .inl (.bool false), .inl (.bool false), .inl (.bool false), .inl (.pointer (some ⟨gp12x69, 60, none⟩)), .inl (.agg (zk S1.Ky)), .inl (.agg (zk (fun _ => 0))), .inl (.bool false), .inl (.bool false), .inl (.bool false)]) 24 rfl (by kernel_rfl) ⟨hopP F94 hD97 0 (some g39) (by kernel_rfl), hop0 F94 (by kernel_rfl), hop0 F94 (by kernel_rfl), ?_, ?_, ?_, hop0 F94 (by kernel_rfl), hop0 F94 (by kernel_rfl), hop0 F94 (by kernel_rfl), hop0 F94 (by kernel_rfl), hop0 F94 (by kernel_rfl), hop0 F94 (by kernel_rfl), hop0 F94 (by kernel_rfl), hopP F94 hD97 1 (some gp13x69) (by kernel_rfl), ?_, ?_, hop0 F94 (by kernel_rfl), hop0 F94 (by kernel_rfl), hop0 F94 (by kernel_rfl), hopP F94 hD97 2 (some gp12x69) (by kernel_rfl), ?_, ?_, hop0 F94 (by kernel_rfl), hop0 F94 (by kernel_rfl), trivial⟩ ?_
      ·intro ua uw hb hd
       have e92 : ua.eval (.tmp 92) = .slice (some ⟨g55, 0, none⟩) 5 5 := hd 92 (by decide)
       have e93 : ua.eval (.tmp 93) = .int .i64 (jn : Int) := hd 93 (by decide)
       exact zm (F := (StK.eq (.pointer (some ⟨g55, (0 + jn * 8), none⟩))).F) (zb rfl) (.pointer (some ⟨g55, (0 + jn * 8), none⟩)) (y_ixG 45 (s := 8) Try.underlying45 (by kernel_rfl) _ _ rfl e92 e93 rfl hlt rfl) rfl
      ·intro ua uw hb hd
       have e94 : ua.eval (.tmp 94) = .pointer (some ⟨g55, (0 + jn * 8), none⟩) := hd 94 (by decide)
       exact zm (F := (StK.eq (numV x)).F) (zb rfl) (numV x) (zt _ _ rfl e94 ((M93.step hb).blk (k := 8) rfl) (numA x) ex Try.underlying28 rfl zc) rfl
      ·intro ua uw hb hd
       have e91 : ua.eval (.tmp 91) = .agg (zf k p (p / 2) 4) := hd 91 (by decide)
       have e95 : ua.eval (.tmp 95) = numV x := hd 95 (by decide)
       exact zy (F := (StK.eq (.bool false)).F) (zb rfl) hb.size rfl #[.agg (zf k p (p / 2) 4), numV x] (zdb e91 e95) (zE Try.func15 rfl) (zia (kHs uw))
      ·intro ua uw hb hd
       have eg : ua.eval (.tmp 103) = .bool false := hd 103 (by decide)
       exact zm (F := (StK.eq (numV 0)).F) (zo rfl rfl rfl eg) (numV 0) (zec rfl) rfl
      ·intro ua uw hb hd
       have eg : ua.eval (.tmp 103) = .bool false := hd 103 (by decide)
       have e104 : ua.eval (.tmp 104) = numV B1 := hd 104 (by decide)
       have e105 : ua.eval (.tmp 105) = numV 0 := hd 105 (by decide)
       exact zm (F := (StK.eq (.bool false)).F) (zo rfl rfl rfl eg) (.bool false) (y_neA _ _ _ _ rfl e104 e105 (by kernel_rfl) (eqn_is (f2 rfl).1 _)) rfl
      ·intro ua uw hb hd
       have eg : ua.eval (.tmp 108) = .bool false := hd 108 (by decide)
       exact zm (F := (StK.eq (.agg (zk (fun _ => 0)))).F) (zo rfl rfl rfl eg) (.agg (zk (fun _ => 0))) (by unfold execOp; kernel_rfl) rfl
      ·intro ua uw hb hd
       have eg : ua.eval (.tmp 108) = .bool false := hd 108 (by decide)
       have e110 : ua.eval (.tmp 110) = .agg (zk S1.Ky) := hd 110 (by decide)
       have e111 : ua.eval (.tmp 111) = .agg (zk (fun _ => 0)) := hd 111 (by decide)
       exact zm (F := (StK.eq (.bool false)).F) (zo rfl rfl rfl eg) (.bool false) (run_eq16z _ _ rfl (fun _ => 0) (e110.trans (by rw [(f2 rfl).2])) e111) rfl
      intro p98 a98 w98 b98 G98 y98
      obtain ⟨-, -, -, -, -, -, -, -, -, -, -, -, -, -, -, -, -, -, -, -, -, -, -, q23, -⟩ := y98
      have r23 : p98 23 = .bool false := q23 (by decide)
      simp only [List.take, layV, Nat.zero_add, Nat.reduceAdd, r23] at G98
      have M98 := M93.kc b98
      clear F94 M93 r23 q23
      refine hK96 _ _ ?_
      refine wp_cond_false (G98.get (t := 114) rfl) ?_
      refine wp_skip ?_
      refine hK95 _ _ ?_
      refine zSk fun _ hK99 => ?_
      refine zta G98 [fun vE => vE = .agg (zg C y47), fun vE => vE = .slice (some ⟨g55, 0, none⟩) 5 5, fun vE => vE = .int .i64 (jn : Int), fun vE => vE = .pointer (some ⟨g55, (0 + jn * 8), none⟩), fun vE => vE = numV x, fun vE => ∃ y, SShp y ∧ vE = .tuple #[.agg (zg D y), .agg (zk Y), .bool b3], fun vE => ∃ y, SShp y ∧ vE = .tuple #[.agg (zg D y), .agg (zk Y), .bool b3], fun vE => ∃ y, SShp y ∧ vE = .agg (zg D y), fun vE => vE = .agg (zk Y), fun vE => vE = .bool b3, fun vE => ∃ g, vE = .pointer (some ⟨g, 0, none⟩), fun vE => ∃ g, vE = .pointer (some ⟨g, 0, none⟩), fun vE => vE = undef, fun vE => vE = undef] (JM none w fun SV pV => [(0, bytR l3 (.slice A3 n3 cap3)), (1, blkR g30 23 (#[.slice A3 n3 cap3])), (2, blkR g39 30 (zf k p (p / 2) 4)), (3, blkR gp6x41 35 (recA ⟨1, ({ data := #[117] }), [], R, 0, [], 0, 0, 0⟩ ⟨zN, zN⟩)), (4, bytR C.lp y47.vp), (5, bytR C.ls y47.vs), (6, blkR g49 39 (zg C y47)), (7, blkR g50 28 (numA A)), (8, blkR g55 28 (#[numF 0 0, numF 0 1, numF 0 2, numF 0 3, numF 0 4, numF 0 5, numF 0 6, numF 0 7, numF 1 0, numF 1 1, numF 1 2, numF 1 3, numF 1 4, numF 1 5, numF 1 6, numF 1 7, numF p 0, numF p 1, numF p 2, numF p 3, numF p 4, numF p 5, numF p 6, numF p 7, numF mk 0, numF mk 1, numF mk 2, numF mk 3, numF mk 4, numF mk 5, numF mk 6, numF mk 7, numF T 0, numF T 1, numF T 2, numF T 3, numF T 4, numF T 5, numF T 6, numF T 7])), (9, blkR gp12x69 39 (zg S1 y70)), (10, blkR gp13x69 28 (numA B1)), (11, blkR g74 35 (recA ⟨1, ({ data := #[117] }), [], x, 0, [], 0, 0, 0⟩ ⟨zN, zN⟩)), (12, bytR S2.lp y88.vp), (13, bytR S2.ls y88.vs), (14, blkR g90 39 (zg S2 y88)), (15, blkR g91 28 (numA B2)), (16, znb (SV 12) (ptrR 39 (aggC (pV 7)) (pV 10)) (zab (SV 10) (ptrR 39 (zg ⟨0, 0, 0, 0, "".toUTF8, [], 0, 0, 0, [], 0, (fun _ => 0), (fun _ => 0)⟩ ⟨zN, zN⟩) (pV 10)))), (17, znb (SV 13) (ptrR 37 (zk Y) (pV 11)) (zab (SV 11) (ptrR 37 (zk (fun _ => 0)) (pV 11))))]) 14 rfl (by kernel_rfl) rfl ⟨trivial, trivial, trivial, trivial, trivial, trivial, trivial, trivial, trivial, trivial, trivial, trivial, fun _ => Iff.rfl, fun _ => Iff.rfl, trivial⟩ (fun p => (((M98.step (zra _)).triv 16).triv 17).sub ⟨rfl, rfl, rfl, rfl, rfl, rfl, rfl, rfl, rfl, rfl, rfl, rfl, rfl, rfl, rfl, rfl, rfl, rfl, trivial⟩) ⟨?_, ?_, ?_, ?_, ?_, ?_, ?_, ?_, ?_, ?_, ?_, ?_, ?_, ?_, trivial⟩ ?_
      ·intro ua uw SV pV M0 hk hn hd
       have M : Mx none w uw _ := M0
       clear M0
       have e11 : ua.eval (.tmp 11) = .pointer (some ⟨g49, 0, none⟩) := (show ua.eval (.tmp 11) = _ from hd 11 (by decide)).trans (G98.get (t := 11) rfl)
       exact zi (zb rfl) _ (zt _ _ rfl e11 (M.blk (k := 6) rfl) (zg C y47) (zba rfl) Try.underlying39 rfl (by kernel_rfl)) rfl (M.sub ⟨rfl, rfl, rfl, rfl, rfl, rfl, rfl, rfl, rfl, rfl, rfl, rfl, rfl, rfl, rfl, rfl, rfl, rfl, trivial⟩)
      ·intro ua uw SV pV M0 hk hn hd
       have M : Mx none w uw _ := M0
       clear M0
       have e13 : ua.eval (.tmp 13) = .slice (some ⟨g55, 0, none⟩) 5 5 := (show ua.eval (.tmp 13) = _ from hd 13 (by decide)).trans (G98.get (t := 13) rfl)
       exact zi (zb rfl) (.slice (some ⟨g55, 0, none⟩) 5 5) (zu _ (.inl rfl) e13) rfl (M.sub ⟨rfl, rfl, rfl, rfl, rfl, rfl, rfl, rfl, rfl, rfl, rfl, rfl, rfl, rfl, rfl, rfl, rfl, rfl, trivial⟩)
      ·intro ua uw SV pV M0 hk hn hd
       have M : Mx none w uw _ := M0
       clear M0
       have e14 : ua.eval (.tmp 14) = .int .i64 (jn : Int) := (show ua.eval (.tmp 14) = _ from hd 14 (by decide)).trans (G98.get (t := 14) rfl)
       exact zi (zb rfl) (.int .i64 (jn : Int)) (zu _ (.inl rfl) e14) rfl (M.sub ⟨rfl, rfl, rfl, rfl, rfl, rfl, rfl, rfl, rfl, rfl, rfl, rfl, rfl, rfl, rfl, rfl, rfl, rfl, trivial⟩)
      ·intro ua uw SV pV M0 hk hn hd
       have M : Mx none w uw _ := M0
       clear M0
       obtain ⟨s1, f117, q117⟩ := (show SV 1 = true ∧ ua.eval (.tmp 117) = pV 1 ∧ stE _ 1 (pV 1) from hd 117 (by decide))
       have e117 : ua.eval (.tmp 117) = .slice (some ⟨g55, 0, none⟩) 5 5 := f117.trans q117
       obtain ⟨s2, f118, q118⟩ := (show SV 2 = true ∧ ua.eval (.tmp 118) = pV 2 ∧ stE _ 2 (pV 2) from hd 118 (by decide))
       have e118 : ua.eval (.tmp 118) = .int .i64 (jn : Int) := f118.trans q118
       exact zi (zb rfl) (.pointer (some ⟨g55, (0 + jn * 8), none⟩)) (y_ixG 45 (s := 8) Try.underlying45 (by kernel_rfl) _ _ rfl e117 e118 rfl hlt rfl) rfl (M.sub ⟨rfl, rfl, rfl, rfl, rfl, rfl, rfl, rfl, rfl, rfl, rfl, rfl, rfl, rfl, rfl, rfl, rfl, rfl, trivial⟩)
      ·intro ua uw SV pV M0 hk hn hd
       have M : Mx none w uw _ := M0
       clear M0
       obtain ⟨s3, f119, q119⟩ := (show SV 3 = true ∧ ua.eval (.tmp 119) = pV 3 ∧ stE _ 3 (pV 3) from hd 119 (by decide))
       have e119 : ua.eval (.tmp 119) = .pointer (some ⟨g55, (0 + jn * 8), none⟩) := f119.trans q119
       exact zi (zb rfl) (numV x) (zt _ _ rfl e119 (M.blk (k := 8) rfl) (numA x) ex Try.underlying28 rfl zc) rfl (M.sub ⟨rfl, rfl, rfl, rfl, rfl, rfl, rfl, rfl, rfl, rfl, rfl, rfl, rfl, rfl, rfl, rfl, rfl, rfl, trivial⟩)
      ·intro ua uw SV pV M0 hk hn hd
       have M : Mx none w uw _ := M0
       clear M0
       obtain ⟨s0, f116, q116⟩ := (show SV 0 = true ∧ ua.eval (.tmp 116) = pV 0 ∧ stE _ 0 (pV 0) from hd 116 (by decide))
       have e116 : ua.eval (.tmp 116) = .agg (zg C y47) := f116.trans q116
       obtain ⟨s4, f120, q120⟩ := (show SV 4 = true ∧ ua.eval (.tmp 120) = pV 4 ∧ stE _ 4 (pV 4) from hd 120 (by decide))
       have e120 : ua.eval (.tmp 120) = numV x := f120.trans q120
       exact zja (zb rfl) rfl #[.agg (zg C y47), zN, numV x] (z1b e116 rfl e120) (zE Try.func16 rfl) (((kP uw _ _ ⟨(M.isb (k := 4) rfl), (M.isb (k := 5) rfl)⟩ (zca _))).mono fun e w2 h => (by obtain ⟨t, h1, y, ht, hI, -, -, hb⟩ := h; subst ht; exact ⟨_, h1, ⟨y, sshp_of hI, rfl⟩, (M.step hb).sub ⟨rfl, rfl, rfl, rfl, rfl, rfl, rfl, rfl, rfl, rfl, rfl, rfl, rfl, rfl, rfl, rfl, rfl, rfl, trivial⟩⟩))
      ·intro ua uw SV pV M0 hk hn hd
       have M : Mx none w uw _ := M0
       clear M0
       obtain ⟨s5, f121, q121⟩ := (show SV 5 = true ∧ ua.eval (.tmp 121) = pV 5 ∧ stE _ 5 (pV 5) from hd 121 (by decide))
       have e121 : ua.eval (.tmp 121) = (pV 5) := f121
       exact zi (zb rfl) ((pV 5)) (zu _ (.inl rfl) e121) q121 (M.sub ⟨rfl, rfl, rfl, rfl, rfl, rfl, rfl, rfl, rfl, rfl, rfl, rfl, rfl, rfl, rfl, rfl, rfl, rfl, trivial⟩)
      ·intro ua uw SV pV M0 hk hn hd
       have M : Mx none w uw _ := M0
       clear M0
       obtain ⟨s6, f115, q115⟩ := (show SV 6 = true ∧ ua.eval (.tmp 115) = pV 6 ∧ stE _ 6 (pV 6) from hd 115 (by decide))
       have e115 : ua.eval (.tmp 115) = (pV 6) := f115
       obtain ⟨y_, hs_, eS_⟩ := (show ∃ y, SShp y ∧ (pV 6) = .tuple #[.agg (zg D y), .agg (zk Y), .bool b3] from q115)
       exact zi (zb rfl) _ (y_ext _ _ rfl (e115.trans eS_) rfl) ⟨y_, hs_, rfl⟩ (M.sub ⟨rfl, rfl, rfl, rfl, rfl, rfl, rfl, rfl, rfl, rfl, rfl, rfl, rfl, rfl, rfl, rfl, (eitherR_off (hn 12 (by kernel_rfl)) rfl), rfl, trivial⟩)
      ·intro ua uw SV pV M0 hk hn hd
       have M : Mx none w uw _ := M0
       clear M0
       obtain ⟨s6, f115, q115⟩ := (show SV 6 = true ∧ ua.eval (.tmp 115) = pV 6 ∧ stE _ 6 (pV 6) from hd 115 (by decide))
       have e115 : ua.eval (.tmp 115) = (pV 6) := f115
       obtain ⟨y_, hs_, eS_⟩ := (show ∃ y, SShp y ∧ (pV 6) = .tuple #[.agg (zg D y), .agg (zk Y), .bool b3] from q115)
       exact zi (zb rfl) (.agg (zk Y)) (y_ext _ _ rfl (e115.trans eS_) rfl) rfl (M.sub ⟨rfl, rfl, rfl, rfl, rfl, rfl, rfl, rfl, rfl, rfl, rfl, rfl, rfl, rfl, rfl, rfl, rfl, rfl, trivial⟩)
      ·intro ua uw SV pV M0 hk hn hd
       have M : Mx none w uw _ := M0
       clear M0
       obtain ⟨s6, f115, q115⟩ := (show SV 6 = true ∧ ua.eval (.tmp 115) = pV 6 ∧ stE _ 6 (pV 6) from hd 115 (by decide))
       have e115 : ua.eval (.tmp 115) = (pV 6) := f115
       obtain ⟨y_, hs_, eS_⟩ := (show ∃ y, SShp y ∧ (pV 6) = .tuple #[.agg (zg D y), .agg (zk Y), .bool b3] from q115)
       exact zi (zb rfl) (.bool b3) (y_ext _ _ rfl (e115.trans eS_) rfl) rfl (M.sub ⟨rfl, rfl, rfl, rfl, rfl, rfl, rfl, rfl, rfl, rfl, rfl, rfl, rfl, rfl, rfl, rfl, rfl, rfl, trivial⟩)
      ·intro ua uw SV pV M0 hk hn hd
       have M : Mx none w uw _ := M0
       clear M0
       exact zi (zb rfl) _ (by unfold execOp; kernel_rfl) ⟨_, rfl⟩ ((M.allocP 16 39 (zg ⟨0, 0, 0, 0, "".toUTF8, [], 0, 0, 0, [], 0, (fun _ => 0), (fun _ => 0)⟩ ⟨zN, zN⟩)).sub ⟨rfl, rfl, rfl, rfl, rfl, rfl, rfl, rfl, rfl, rfl, rfl, rfl, rfl, rfl, rfl, rfl, (zgc (hn 12 (by kernel_rfl)) rfl), rfl, trivial⟩)
      ·intro ua uw SV pV M0 hk hn hd
       have M : Mx none w uw _ := M0
       clear M0
       exact zi (zb rfl) _ (by unfold execOp; kernel_rfl) ⟨_, rfl⟩ ((M.allocP 17 37 (zk (fun _ => 0))).sub ⟨rfl, rfl, rfl, rfl, rfl, rfl, rfl, rfl, rfl, rfl, rfl, rfl, rfl, rfl, rfl, rfl, rfl, (zgc (hn 13 (by kernel_rfl)) rfl), trivial⟩)
      ·intro ua uw SV pV M0 hk hn hd
       have M : Mx none w uw _ := M0
       clear M0
       obtain ⟨s10, f22, q22⟩ := (show SV 10 = true ∧ ua.eval (.tmp 22) = pV 10 ∧ stE _ 10 (pV 10) from hd 22 (by decide))
       obtain ⟨s7, f122, q122⟩ := (show SV 7 = true ∧ ua.eval (.tmp 122) = pV 7 ∧ stE _ 7 (pV 7) from hd 122 (by decide))
       have e122 : ua.eval (.tmp 122) = (pV 7) := f122
       obtain ⟨y_, hs_, eS_⟩ := (show ∃ y, SShp y ∧ pV 7 = .agg (zg D y) from q122)
       have eA_ : aggC (pV 7) = zg D y_ := by rw [eS_]; rfl
       obtain ⟨g_, r_⟩ := (show ∃ g, pV 10 = .pointer (some ⟨g, 0, none⟩) from q22)
       have M2 := M.ptrV (k := 16) (g := g_) (zpb s10 (eitherR_r hk rfl)) r_
       exact zjc (zb rfl) rfl (run_st M2 (k := 16) rfl _ _ _ rfl (f22.trans r_) (f122.trans eS_) (zg D y_) _ rfl (zL rfl) (sshp_one hs_) (zr rfl) (by kernel_rfl)) (fun w2 h2 => (h2.toPtr (k := 16) rfl r_ eA_).sub ⟨rfl, rfl, rfl, rfl, rfl, rfl, rfl, rfl, rfl, rfl, rfl, rfl, rfl, rfl, rfl, rfl, rfl, rfl, trivial⟩) rfl
      ·intro ua uw SV pV M0 hk hn hd
       have M : Mx none w uw _ := M0
       clear M0
       obtain ⟨s11, f23, q23⟩ := (show SV 11 = true ∧ ua.eval (.tmp 23) = pV 11 ∧ stE _ 11 (pV 11) from hd 23 (by decide))
       obtain ⟨s8, f123, q123⟩ := (show SV 8 = true ∧ ua.eval (.tmp 123) = pV 8 ∧ stE _ 8 (pV 8) from hd 123 (by decide))
       have e123 : ua.eval (.tmp 123) = .agg (zk Y) := f123.trans q123
       obtain ⟨g_, r_⟩ := (show ∃ g, pV 11 = .pointer (some ⟨g, 0, none⟩) from q23)
       have M2 := M.ptrV (k := 17) (g := g_) (zpb s11 (eitherR_r hk rfl)) r_
       exact zjc (zb rfl) rfl (run_st M2 (k := 17) rfl _ _ _ rfl (f23.trans r_) e123 (zk Y) _ rfl (zL rfl) (zoa _) (zr rfl) (by kernel_rfl)) (fun w2 h2 => (h2.toPtr (k := 17) rfl r_ rfl).sub ⟨rfl, rfl, rfl, rfl, rfl, rfl, rfl, rfl, rfl, rfl, rfl, rfl, rfl, rfl, rfl, rfl, rfl, rfl, trivial⟩) rfl
      intro p100 a100 w100 M100 G100 y100
      obtain ⟨-, -, -, -, -, -, -, q7, -, q9, q10, q11, -, -, -⟩ := y100
      obtain ⟨gp10x99, r10⟩ := (show ∃ g, p100 10 = .pointer (some ⟨g, 0, none⟩) from q10)
      obtain ⟨gp11x99, r11⟩ := (show ∃ g, p100 11 = .pointer (some ⟨g, 0, none⟩) from q11)
      obtain ⟨y100, hs100, r7⟩ := (show ∃ y, SShp y ∧ p100 7 = .agg (zg D y) from q7)
      have r9 : p100 9 = .bool b3 := q9
      replace M100 : Mx _ _ w100 [(0, bytR l3 (.slice A3 n3 cap3)), (1, blkR g30 23 (#[.slice A3 n3 cap3])), (2, blkR g39 30 (zf k p (p / 2) 4)), (3, blkR gp6x41 35 (recA ⟨1, ({ data := #[117] }), [], R, 0, [], 0, 0, 0⟩ ⟨zN, zN⟩)), (4, bytR C.lp y47.vp), (5, bytR C.ls y47.vs), (6, blkR g49 39 (zg C y47)), (7, blkR g50 28 (numA A)), (8, blkR g55 28 (#[numF 0 0, numF 0 1, numF 0 2, numF 0 3, numF 0 4, numF 0 5, numF 0 6, numF 0 7, numF 1 0, numF 1 1, numF 1 2, numF 1 3, numF 1 4, numF 1 5, numF 1 6, numF 1 7, numF p 0, numF p 1, numF p 2, numF p 3, numF p 4, numF p 5, numF p 6, numF p 7, numF mk 0, numF mk 1, numF mk 2, numF mk 3, numF mk 4, numF mk 5, numF mk 6, numF mk 7, numF T 0, numF T 1, numF T 2, numF T 3, numF T 4, numF T 5, numF T 6, numF T 7])), (9, blkR gp12x69 39 (zg S1 y70)), (10, blkR gp13x69 28 (numA B1)), (11, blkR g74 35 (recA ⟨1, ({ data := #[117] }), [], x, 0, [], 0, 0, 0⟩ ⟨zN, zN⟩)), (12, bytR S2.lp y88.vp), (13, bytR S2.ls y88.vs), (14, blkR g90 39 (zg S2 y88)), (15, blkR g91 28 (numA B2)), (16, znb true (ptrR 39 (aggC (p100 7)) (p100 10)) (zab true (ptrR 39 (zg ⟨0, 0, 0, 0, "".toUTF8, [], 0, 0, 0, [], 0, (fun _ => 0), (fun _ => 0)⟩ ⟨zN, zN⟩) (p100 10)))), (17, znb true (ptrR 37 (zk Y) (p100 11)) (zab true (ptrR 37 (zk (fun _ => 0)) (p100 11))))] := M100
      simp only [List.take, layV, Nat.zero_add, Nat.reduceAdd, r7, r9, r10, r11] at G100
      rw [r10, r11, r7] at M100
      have M100_16 := M100.ptr (k := 16) (g := gp10x99) rfl
      replace M100_16 := M100_16.toB (k := 16) (c2 := zg D y100) rfl rfl
      have M100_17 := M100_16.ptr (k := 17) (g := gp11x99) rfl
      replace M100_17 := M100_17.toB (k := 17) (c2 := zk Y) rfl rfl
      refine rm rfl G100 fun _ F101 => ?_
      refine hK99 _ _ ?_
      refine zSk fun _ hK102 => ?_
      cases b3
      ·refine zgb F101 (SK [.inl (.bool false), .inl (.bool false), .inl (undef), .inl (undef), .inl (undef), .inl (undef), .inl (undef), .inl (undef), .inl (undef), .inl (undef), .inl (undef), .inl (undef), .inl (undef), .inl (undef), .inl (undef), .inl (undef), .inl (undef), .inl (undef), .inl (.bool false)]) 19 rfl (by kernel_rfl) ⟨hop0 F101 (by kernel_rfl), hop0 F101 (by kernel_rfl), hop0 F101 (by kernel_rfl), hop0 F101 (by kernel_rfl), hop0 F101 (by kernel_rfl), hop0 F101 (by kernel_rfl), hop0 F101 (by kernel_rfl), hop0 F101 (by kernel_rfl), hop0 F101 (by kernel_rfl), hop0 F101 (by kernel_rfl), hop0 F101 (by kernel_rfl), hop0 F101 (by kernel_rfl), hop0 F101 (by kernel_rfl), hop0 F101 (by kernel_rfl), hop0 F101 (by kernel_rfl), hop0 F101 (by kernel_rfl), hop0 F101 (by kernel_rfl), hop0 F101 (by kernel_rfl), hop0 F101 (by kernel_rfl), trivial⟩ ?_
       intro p104 a104 w104 b104 G104 y104
       obtain ⟨-, -, -, -, -, -, -, -, -, -, -, -, -, -, -, -, -, -, q18, -⟩ := y104
       have r18 : p104 18 = .bool false := q18 (by decide)
       simp only [List.take, layV, Nat.zero_add, Nat.reduceAdd, r18] at G104
       have M104 := M100_17.kc b104
       clear F101 M100_17 r18 q18
       refine hK102 _ _ ?_
       refine wp_cond_false (G104.get (t := 143) rfl) ?_
       refine wp_skip ?_
       refine hK68 _ _ ?_
       refine zR ?_
       refine rm rfl G104 fun _ F105 => ?_
       refine zh (w' := w104) (zb rfl) rfl F105 rfl (.int .i64 ((jn + 1 : Nat) : Int)) (y_addI _ _ _ _ rfl (F105.get (t := 62) rfl) rfl (by omega) (by omega)) fun _ F106 => ?_
       clear F105
       refine rm rfl F106 fun _ F107 => ?_
       subst ek60
       exact hK60 _ (jn + 1) _ _ (by omega) ⟨rfl, (by omega)⟩ (F107.sub ⟨rfl, rfl, rfl, rfl, rfl, rfl, rfl, rfl, rfl, trivial⟩) (M104.sub ⟨rfl, rfl, rfl, rfl, rfl, rfl, rfl, rfl, rfl, trivial⟩)
      ·have hD108 := (z6a (M100_17.blk (k := 2) rfl) dnil)
       refine zgb F101 (SK [.inl (.bool true), .inl (.bool true), .inl (.slice (some ⟨g55, 0, none⟩) 5 5), .inl (.int .i64 (jn : Int)), .inl (.pointer (some ⟨g55, (0 + jn * 8), none⟩)), .inl (numV x), .inl (numV 0), .inl (.bool false), .inl (.bool false), .inl (.slice (some ⟨g55, 0, none⟩) 5 5), .inl (.int .i64 (jn : Int)), .inl (.pointer (some ⟨g55, (0 + jn * 8), none⟩)), .inl (numV x), .inl (.pointer (some ⟨g39, 1, none⟩)), .inl (numV p), .inl (.int .i64 E), .inl (.bool false), .inl (.bool false), .inl (.bool false)]) 19 rfl (by kernel_rfl) ⟨hop0 F101 (by kernel_rfl), hop0 F101 (by kernel_rfl), hop0 F101 (by kernel_rfl), hop0 F101 (by kernel_rfl), ?_, ?_, ?_, ?_, hop0 F101 (by kernel_rfl), hop0 F101 (by kernel_rfl), hop0 F101 (by kernel_rfl), ?_, ?_, hop0 F101 (by kernel_rfl), hopP F101 hD108 0 (some g39) (by kernel_rfl), ?_, ?_, hop0 F101 (by kernel_rfl), hop0 F101 (by kernel_rfl), trivial⟩ ?_
       ·intro ua uw hb hd
        have eg : ua.eval (.tmp 126) = .bool true := hd 126 (by decide)
        have e127 : ua.eval (.tmp 127) = .slice (some ⟨g55, 0, none⟩) 5 5 := hd 127 (by decide)
        have e128 : ua.eval (.tmp 128) = .int .i64 (jn : Int) := hd 128 (by decide)
        exact zm (F := (StK.eq (.pointer (some ⟨g55, (0 + jn * 8), none⟩))).F) (zo rfl rfl rfl eg) (.pointer (some ⟨g55, (0 + jn * 8), none⟩)) (y_ixG 45 (s := 8) Try.underlying45 (by kernel_rfl) _ _ rfl e127 e128 rfl hlt rfl) rfl
       ·intro ua uw hb hd
        have eg : ua.eval (.tmp 126) = .bool true := hd 126 (by decide)
        have e129 : ua.eval (.tmp 129) = .pointer (some ⟨g55, (0 + jn * 8), none⟩) := hd 129 (by decide)
        exact zm (F := (StK.eq (numV x)).F) (zo rfl rfl rfl eg) (numV x) (zt _ _ rfl e129 ((M100_17.step hb).blk (k := 8) rfl) (numA x) ex Try.underlying28 rfl zc) rfl
       ·intro ua uw hb hd
        have eg : ua.eval (.tmp 126) = .bool true := hd 126 (by decide)
        exact zm (F := (StK.eq (numV 0)).F) (zo rfl rfl rfl eg) (numV 0) (zec rfl) rfl
       ·intro ua uw hb hd
        have eg : ua.eval (.tmp 126) = .bool true := hd 126 (by decide)
        have e130 : ua.eval (.tmp 130) = numV x := hd 130 (by decide)
        have e131 : ua.eval (.tmp 131) = numV 0 := hd 131 (by decide)
        exact zm (F := (StK.eq (.bool false)).F) (zo rfl rfl rfl eg) (.bool false) (y_eqA _ _ _ _ rfl e130 e131 (by kernel_rfl) (eqn_no hx (f3 rfl).1 _)) rfl
       ·intro ua uw hb hd
        have eg : ua.eval (.tmp 133) = .bool false := hd 133 (by decide)
        have e134 : ua.eval (.tmp 134) = .slice (some ⟨g55, 0, none⟩) 5 5 := hd 134 (by decide)
        have e135 : ua.eval (.tmp 135) = .int .i64 (jn : Int) := hd 135 (by decide)
        exact zm (F := (StK.eq (.pointer (some ⟨g55, (0 + jn * 8), none⟩))).F) (zo rfl rfl rfl eg) (.pointer (some ⟨g55, (0 + jn * 8), none⟩)) (y_ixG 45 (s := 8) Try.underlying45 (by kernel_rfl) _ _ rfl e134 e135 rfl hlt rfl) rfl
       ·intro ua uw hb hd
        have eg : ua.eval (.tmp 133) = .bool false := hd 133 (by decide)
        have e136 : ua.eval (.tmp 136) = .pointer (some ⟨g55, (0 + jn * 8), none⟩) := hd 136 (by decide)
        exact zm (F := (StK.eq (numV x)).F) (zo rfl rfl rfl eg) (numV x) (zt _ _ rfl e136 ((M100_17.step hb).blk (k := 8) rfl) (numA x) ex Try.underlying28 rfl zc) rfl
       ·intro ua uw hb hd
        have eg : ua.eval (.tmp 133) = .bool false := hd 133 (by decide)
        have e137 : ua.eval (.tmp 137) = numV x := hd 137 (by decide)
        have e139 : ua.eval (.tmp 139) = numV p := hd 139 (by decide)
        exact zy (F := (StK.eq (.int .i64 E)).F) (zo rfl rfl rfl eg) hb.size rfl #[numV x, numV p] (zdb e137 e139) (zE Try.func17 rfl) (zia (kC uw))
       ·intro ua uw hb hd
        have eg : ua.eval (.tmp 133) = .bool false := hd 133 (by decide)
        have e140 : ua.eval (.tmp 140) = .int .i64 E := hd 140 (by decide)
        exact zm (F := (StK.eq (.bool false)).F) (zo rfl rfl rfl eg) (.bool false) (y_geq _ _ _ _ rfl e140 rfl (decide_eq_false (f3 rfl).2)) rfl
       intro p109 a109 w109 b109 G109 y109
       obtain ⟨-, -, -, -, -, -, -, -, -, -, -, -, -, -, -, -, -, -, q18, -⟩ := y109
       have r18 : p109 18 = .bool false := q18 (by decide)
       simp only [List.take, layV, Nat.zero_add, Nat.reduceAdd, r18] at G109
       have M109 := M100_17.kc b109
       clear F101 M100_17 r18 q18
       refine hK102 _ _ ?_
       refine wp_cond_false (G109.get (t := 143) rfl) ?_
       refine wp_skip ?_
       refine hK68 _ _ ?_
       refine zR ?_
       refine rm rfl G109 fun _ F110 => ?_
       refine zh (w' := w109) (zb rfl) rfl F110 rfl (.int .i64 ((jn + 1 : Nat) : Int)) (y_addI _ _ _ _ rfl (F110.get (t := 62) rfl) rfl (by omega) (by omega)) fun _ F111 => ?_
       clear F110
       refine rm rfl F111 fun _ F112 => ?_
       subst ek60
       exact hK60 _ (jn + 1) _ _ (by omega) ⟨rfl, (by omega)⟩ (F112.sub ⟨rfl, rfl, rfl, rfl, rfl, rfl, rfl, rfl, rfl, trivial⟩) (M109.sub ⟨rfl, rfl, rfl, rfl, rfl, rfl, rfl, rfl, rfl, trivial⟩)
     ·exact Bool.noConfusion (f1 rfl).2
    ·exact Bool.noConfusion (f1 rfl).1
   ·have hD113 := (z6a (M93.blk (k := 2) rfl) dnil)
    refine zgb F94 (SK [.inl (.agg (zf k p (p / 2) 4)), .inl (.slice (some ⟨g55, 0, none⟩) 5 5), .inl (.int .i64 (jn : Int)), .inl (.pointer (some ⟨g55, (0 + jn * 8), none⟩)), .inl (numV x), .inl (.bool true), .inl (.bool false), .inl (.bool false), .inl (undef), .inl (undef), .inl (undef), .inl (undef), .inl (undef), .inl (undef), .inl (undef), .inl (undef), .inl (undef), .inl (undef), .inl (undef), .inl (undef), .inl (undef), .inl (undef), .inl (undef), .inl (.bool false)]) 24 rfl (by kernel_rfl) ⟨hopP F94 hD113 0 (some g39) (by kernel_rfl), hop0 F94 (by kernel_rfl), hop0 F94 (by kernel_rfl), ?_, ?_, ?_, hop0 F94 (by kernel_rfl), hop0 F94 (by kernel_rfl), hop0 F94 (by kernel_rfl), hop0 F94 (by kernel_rfl), hop0 F94 (by kernel_rfl), hop0 F94 (by kernel_rfl), hop0 F94 (by kernel_rfl), hop0 F94 (by kernel_rfl), hop0 F94 (by kernel_rfl), hop0 F94 (by kernel_rfl), hop0 F94 (by kernel_rfl), hop0 F94 (by kernel_rfl), hop0 F94 (by kernel_rfl), hop0 F94 (by kernel_rfl), hop0 F94 (by kernel_rfl), hop0 F94 (by kernel_rfl), hop0 F94 (by kernel_rfl), hop0 F94 (by kernel_rfl), trivial⟩ ?_
    ·intro ua uw hb hd
     have e92 : ua.eval (.tmp 92) = .slice (some ⟨g55, 0, none⟩) 5 5 := hd 92 (by decide)
     have e93 : ua.eval (.tmp 93) = .int .i64 (jn : Int) := hd 93 (by decide)
     exact zm (F := (StK.eq (.pointer (some ⟨g55, (0 + jn * 8), none⟩))).F) (zb rfl) (.pointer (some ⟨g55, (0 + jn * 8), none⟩)) (y_ixG 45 (s := 8) Try.underlying45 (by kernel_rfl) _ _ rfl e92 e93 rfl hlt rfl) rfl
    ·intro ua uw hb hd
     have e94 : ua.eval (.tmp 94) = .pointer (some ⟨g55, (0 + jn * 8), none⟩) := hd 94 (by decide)
     exact zm (F := (StK.eq (numV x)).F) (zb rfl) (numV x) (zt _ _ rfl e94 ((M93.step hb).blk (k := 8) rfl) (numA x) ex Try.underlying28 rfl zc) rfl
    ·intro ua uw hb hd
     have e91 : ua.eval (.tmp 91) = .agg (zf k p (p / 2) 4) := hd 91 (by decide)
     have e95 : ua.eval (.tmp 95) = numV x := hd 95 (by decide)
     exact zy (F := (StK.eq (.bool true)).F) (zb rfl) hb.size rfl #[.agg (zf k p (p / 2) 4), numV x] (zdb e91 e95) (zE Try.func15 rfl) (zia (kHs uw))
    intro p114 a114 w114 b114 G114 y114
    obtain ⟨-, -, -, -, -, -, -, -, -, -, -, -, -, -, -, -, -, -, -, -, -, -, -, q23, -⟩ := y114
    have r23 : p114 23 = .bool false := q23 (by decide)
    simp only [List.take, layV, Nat.zero_add, Nat.reduceAdd, r23] at G114
    have M114 := M93.kc b114
    clear F94 M93 r23 q23
    refine hK96 _ _ ?_
    refine wp_cond_false (G114.get (t := 114) rfl) ?_
    refine wp_skip ?_
    refine hK95 _ _ ?_
    refine zSk fun _ hK115 => ?_
    refine zta G114 [fun vE => vE = .agg (zg C y47), fun vE => vE = .slice (some ⟨g55, 0, none⟩) 5 5, fun vE => vE = .int .i64 (jn : Int), fun vE => vE = .pointer (some ⟨g55, (0 + jn * 8), none⟩), fun vE => vE = numV x, fun vE => ∃ y, SShp y ∧ vE = .tuple #[.agg (zg D y), .agg (zk Y), .bool b3], fun vE => ∃ y, SShp y ∧ vE = .tuple #[.agg (zg D y), .agg (zk Y), .bool b3], fun vE => ∃ y, SShp y ∧ vE = .agg (zg D y), fun vE => vE = .agg (zk Y), fun vE => vE = .bool b3, fun vE => ∃ g, vE = .pointer (some ⟨g, 0, none⟩), fun vE => ∃ g, vE = .pointer (some ⟨g, 0, none⟩), fun vE => vE = undef, fun vE => vE = undef] (JM none w fun SV pV => [(0, bytR l3 (.slice A3 n3 cap3)), (1, blkR g30 23 (#[.slice A3 n3 cap3])), (2, blkR g39 30 (zf k p (p / 2) 4)), (3, blkR gp6x41 35 (recA ⟨1, ({ data := #[117] }), [], R, 0, [], 0, 0, 0⟩ ⟨zN, zN⟩)), (4, bytR C.lp y47.vp), (5, bytR C.ls y47.vs), (6, blkR g49 39 (zg C y47)), (7, blkR g50 28 (numA A)), (8, blkR g55 28 (#[numF 0 0, numF 0 1, numF 0 2, numF 0 3, numF 0 4, numF 0 5, numF 0 6, numF 0 7, numF 1 0, numF 1 1, numF 1 2, numF 1 3, numF 1 4, numF 1 5, numF 1 6, numF 1 7, numF p 0, numF p 1, numF p 2, numF p 3, numF p 4, numF p 5, numF p 6, numF p 7, numF mk 0, numF mk 1, numF mk 2, numF mk 3, numF mk 4, numF mk 5, numF mk 6, numF mk 7, numF T 0, numF T 1, numF T 2, numF T 3, numF T 4, numF T 5, numF T 6, numF T 7])), (9, blkR gp12x69 39 (zg S1 y70)), (10, blkR gp13x69 28 (numA B1)), (11, blkR g74 35 (recA ⟨1, ({ data := #[117] }), [], x, 0, [], 0, 0, 0⟩ ⟨zN, zN⟩)), (12, bytR S2.lp y88.vp), (13, bytR S2.ls y88.vs), (14, blkR g90 39 (zg S2 y88)), (15, blkR g91 28 (numA B2)), (16, znb (SV 12) (ptrR 39 (aggC (pV 7)) (pV 10)) (zab (SV 10) (ptrR 39 (zg ⟨0, 0, 0, 0, "".toUTF8, [], 0, 0, 0, [], 0, (fun _ => 0), (fun _ => 0)⟩ ⟨zN, zN⟩) (pV 10)))), (17, znb (SV 13) (ptrR 37 (zk Y) (pV 11)) (zab (SV 11) (ptrR 37 (zk (fun _ => 0)) (pV 11))))]) 14 rfl (by kernel_rfl) rfl ⟨trivial, trivial, trivial, trivial, trivial, trivial, trivial, trivial, trivial, trivial, trivial, trivial, fun _ => Iff.rfl, fun _ => Iff.rfl, trivial⟩ (fun p => (((M114.step (zra _)).triv 16).triv 17).sub ⟨rfl, rfl, rfl, rfl, rfl, rfl, rfl, rfl, rfl, rfl, rfl, rfl, rfl, rfl, rfl, rfl, rfl, rfl, trivial⟩) ⟨?_, ?_, ?_, ?_, ?_, ?_, ?_, ?_, ?_, ?_, ?_, ?_, ?_, ?_, trivial⟩ ?_
    ·intro ua uw SV pV M0 hk hn hd
     have M : Mx none w uw _ := M0
     clear M0
     have e11 : ua.eval (.tmp 11) = .pointer (some ⟨g49, 0, none⟩) := (show ua.eval (.tmp 11) = _ from hd 11 (by decide)).trans (G114.get (t := 11) rfl)
     exact zi (zb rfl) _ (zt _ _ rfl e11 (M.blk (k := 6) rfl) (zg C y47) (zba rfl) Try.underlying39 rfl (by kernel_rfl)) rfl (M.sub ⟨rfl, rfl, rfl, rfl, rfl, rfl, rfl, rfl, rfl, rfl, rfl, rfl, rfl, rfl, rfl, rfl, rfl, rfl, trivial⟩)
    ·intro ua uw SV pV M0 hk hn hd
     have M : Mx none w uw _ := M0
     clear M0
     have e13 : ua.eval (.tmp 13) = .slice (some ⟨g55, 0, none⟩) 5 5 := (show ua.eval (.tmp 13) = _ from hd 13 (by decide)).trans (G114.get (t := 13) rfl)
     exact zi (zb rfl) (.slice (some ⟨g55, 0, none⟩) 5 5) (zu _ (.inl rfl) e13) rfl (M.sub ⟨rfl, rfl, rfl, rfl, rfl, rfl, rfl, rfl, rfl, rfl, rfl, rfl, rfl, rfl, rfl, rfl, rfl, rfl, trivial⟩)
    ·intro ua uw SV pV M0 hk hn hd
     have M : Mx none w uw _ := M0
     clear M0
     have e14 : ua.eval (.tmp 14) = .int .i64 (jn : Int) := (show ua.eval (.tmp 14) = _ from hd 14 (by decide)).trans (G114.get (t := 14) rfl)
     exact zi (zb rfl) (.int .i64 (jn : Int)) (zu _ (.inl rfl) e14) rfl (M.sub ⟨rfl, rfl, rfl, rfl, rfl, rfl, rfl, rfl, rfl, rfl, rfl, rfl, rfl, rfl, rfl, rfl, rfl, rfl, trivial⟩)
    ·intro ua uw SV pV M0 hk hn hd
     have M : Mx none w uw _ := M0
     clear M0
     obtain ⟨s1, f117, q117⟩ := (show SV 1 = true ∧ ua.eval (.tmp 117) = pV 1 ∧ stE _ 1 (pV 1) from hd 117 (by decide))
     have e117 : ua.eval (.tmp 117) = .slice (some ⟨g55, 0, none⟩) 5 5 := f117.trans q117
     obtain ⟨s2, f118, q118⟩ := (show SV 2 = true ∧ ua.eval (.tmp 118) = pV 2 ∧ stE _ 2 (pV 2) from hd 118 (by decide))
     have e118 : ua.eval (.tmp 118) = .int .i64 (jn : Int) := f118.trans q118
     exact zi (zb rfl) (.pointer (some ⟨g55, (0 + jn * 8), none⟩)) (y_ixG 45 (s := 8) Try.underlying45 (by kernel_rfl) _ _ rfl e117 e118 rfl hlt rfl) rfl (M.sub ⟨rfl, rfl, rfl, rfl, rfl, rfl, rfl, rfl, rfl, rfl, rfl, rfl, rfl, rfl, rfl, rfl, rfl, rfl, trivial⟩)
    ·intro ua uw SV pV M0 hk hn hd
     have M : Mx none w uw _ := M0
     clear M0
     obtain ⟨s3, f119, q119⟩ := (show SV 3 = true ∧ ua.eval (.tmp 119) = pV 3 ∧ stE _ 3 (pV 3) from hd 119 (by decide))
     have e119 : ua.eval (.tmp 119) = .pointer (some ⟨g55, (0 + jn * 8), none⟩) := f119.trans q119
     exact zi (zb rfl) (numV x) (zt _ _ rfl e119 (M.blk (k := 8) rfl) (numA x) ex Try.underlying28 rfl zc) rfl (M.sub ⟨rfl, rfl, rfl, rfl, rfl, rfl, rfl, rfl, rfl, rfl, rfl, rfl, rfl, rfl, rfl, rfl, rfl, rfl, trivial⟩)
    ·intro ua uw SV pV M0 hk hn hd
     have M : Mx none w uw _ := M0
     clear M0
     obtain ⟨s0, f116, q116⟩ := (show SV 0 = true ∧ ua.eval (.tmp 116) = pV 0 ∧ stE _ 0 (pV 0) from hd 116 (by decide))
     have e116 : ua.eval (.tmp 116) = .agg (zg C y47) := f116.trans q116
     obtain ⟨s4, f120, q120⟩ := (show SV 4 = true ∧ ua.eval (.tmp 120) = pV 4 ∧ stE _ 4 (pV 4) from hd 120 (by decide))
     have e120 : ua.eval (.tmp 120) = numV x := f120.trans q120
     exact zja (zb rfl) rfl #[.agg (zg C y47), zN, numV x] (z1b e116 rfl e120) (zE Try.func16 rfl) (((kP uw _ _ ⟨(M.isb (k := 4) rfl), (M.isb (k := 5) rfl)⟩ (zca _))).mono fun e w2 h => (by obtain ⟨t, h1, y, ht, hI, -, -, hb⟩ := h; subst ht; exact ⟨_, h1, ⟨y, sshp_of hI, rfl⟩, (M.step hb).sub ⟨rfl, rfl, rfl, rfl, rfl, rfl, rfl, rfl, rfl, rfl, rfl, rfl, rfl, rfl, rfl, rfl, rfl, rfl, trivial⟩⟩))
    ·intro ua uw SV pV M0 hk hn hd
     have M : Mx none w uw _ := M0
     clear M0
     obtain ⟨s5, f121, q121⟩ := (show SV 5 = true ∧ ua.eval (.tmp 121) = pV 5 ∧ stE _ 5 (pV 5) from hd 121 (by decide))
     have e121 : ua.eval (.tmp 121) = (pV 5) := f121
     exact zi (zb rfl) ((pV 5)) (zu _ (.inl rfl) e121) q121 (M.sub ⟨rfl, rfl, rfl, rfl, rfl, rfl, rfl, rfl, rfl, rfl, rfl, rfl, rfl, rfl, rfl, rfl, rfl, rfl, trivial⟩)
    ·intro ua uw SV pV M0 hk hn hd
     have M : Mx none w uw _ := M0
     clear M0
     obtain ⟨s6, f115, q115⟩ := (show SV 6 = true ∧ ua.eval (.tmp 115) = pV 6 ∧ stE _ 6 (pV 6) from hd 115 (by decide))
     have e115 : ua.eval (.tmp 115) = (pV 6) := f115
     obtain ⟨y_, hs_, eS_⟩ := (show ∃ y, SShp y ∧ (pV 6) = .tuple #[.agg (zg D y), .agg (zk Y), .bool b3] from q115)
     exact zi (zb rfl) _ (y_ext _ _ rfl (e115.trans eS_) rfl) ⟨y_, hs_, rfl⟩ (M.sub ⟨rfl, rfl, rfl, rfl, rfl, rfl, rfl, rfl, rfl, rfl, rfl, rfl, rfl, rfl, rfl, rfl, (eitherR_off (hn 12 (by kernel_rfl)) rfl), rfl, trivial⟩)
    ·intro ua uw SV pV M0 hk hn hd
     have M : Mx none w uw _ := M0
     clear M0
     obtain ⟨s6, f115, q115⟩ := (show SV 6 = true ∧ ua.eval (.tmp 115) = pV 6 ∧ stE _ 6 (pV 6) from hd 115 (by decide))
     have e115 : ua.eval (.tmp 115) = (pV 6) := f115
     obtain ⟨y_, hs_, eS_⟩ := (show ∃ y, SShp y ∧ (pV 6) = .tuple #[.agg (zg D y), .agg (zk Y), .bool b3] from q115)
     exact zi (zb rfl) (.agg (zk Y)) (y_ext _ _ rfl (e115.trans eS_) rfl) rfl (M.sub ⟨rfl, rfl, rfl, rfl, rfl, rfl, rfl, rfl, rfl, rfl, rfl, rfl, rfl, rfl, rfl, rfl, rfl, rfl, trivial⟩)
    ·intro ua uw SV pV M0 hk hn hd
     have M : Mx none w uw _ := M0
     clear M0
     obtain ⟨s6, f115, q115⟩ := (show SV 6 = true ∧ ua.eval (.tmp 115) = pV 6 ∧ stE _ 6 (pV 6) from hd 115 (by decide))
     have e115 : ua.eval (.tmp 115) = (pV 6) := f115
     obtain ⟨y_, hs_, eS_⟩ := (show ∃ y, SShp y ∧ (pV 6) = .tuple #[.agg (zg D y), .agg (zk Y), .bool b3] from q115)
     exact zi (zb rfl) (.bool b3) (y_ext _ _ rfl (e115.trans eS_) rfl) rfl (M.sub ⟨rfl, rfl, rfl, rfl, rfl, rfl, rfl, rfl, rfl, rfl, rfl, rfl, rfl, rfl, rfl, rfl, rfl, rfl, trivial⟩)
    ·intro ua uw SV pV M0 hk hn hd
     have M : Mx none w uw _ := M0
     clear M0
     exact zi (zb rfl) _ (by unfold execOp; kernel_rfl) ⟨_, rfl⟩ ((M.allocP 16 39 (zg ⟨0, 0, 0, 0, "".toUTF8, [], 0, 0, 0, [], 0, (fun _ => 0), (fun _ => 0)⟩ ⟨zN, zN⟩)).sub ⟨rfl, rfl, rfl, rfl, rfl, rfl, rfl, rfl, rfl, rfl, rfl, rfl, rfl, rfl, rfl, rfl, (zgc (hn 12 (by kernel_rfl)) rfl), rfl, trivial⟩)
    ·intro ua uw SV pV M0 hk hn hd
     have M : Mx none w uw _ := M0
     clear M0
     exact zi (zb rfl) _ (by unfold execOp; kernel_rfl) ⟨_, rfl⟩ ((M.allocP 17 37 (zk (fun _ => 0))).sub ⟨rfl, rfl, rfl, rfl, rfl, rfl, rfl, rfl, rfl, rfl, rfl, rfl, rfl, rfl, rfl, rfl, rfl, (zgc (hn 13 (by kernel_rfl)) rfl), trivial⟩)
    ·intro ua uw SV pV M0 hk hn hd
     have M : Mx none w uw _ := M0
     clear M0
     obtain ⟨s10, f22, q22⟩ := (show SV 10 = true ∧ ua.eval (.tmp 22) = pV 10 ∧ stE _ 10 (pV 10) from hd 22 (by decide))
     obtain ⟨s7, f122, q122⟩ := (show SV 7 = true ∧ ua.eval (.tmp 122) = pV 7 ∧ stE _ 7 (pV 7) from hd 122 (by decide))
     have e122 : ua.eval (.tmp 122) = (pV 7) := f122
     obtain ⟨y_, hs_, eS_⟩ := (show ∃ y, SShp y ∧ pV 7 = .agg (zg D y) from q122)
     have eA_ : aggC (pV 7) = zg D y_ := by rw [eS_]; rfl
     obtain ⟨g_, r_⟩ := (show ∃ g, pV 10 = .pointer (some ⟨g, 0, none⟩) from q22)
     have M2 := M.ptrV (k := 16) (g := g_) (zpb s10 (eitherR_r hk rfl)) r_
     exact zjc (zb rfl) rfl (run_st M2 (k := 16) rfl _ _ _ rfl (f22.trans r_) (f122.trans eS_) (zg D y_) _ rfl (zL rfl) (sshp_one hs_) (zr rfl) (by kernel_rfl)) (fun w2 h2 => (h2.toPtr (k := 16) rfl r_ eA_).sub ⟨rfl, rfl, rfl, rfl, rfl, rfl, rfl, rfl, rfl, rfl, rfl, rfl, rfl, rfl, rfl, rfl, rfl, rfl, trivial⟩) rfl
    ·intro ua uw SV pV M0 hk hn hd
     have M : Mx none w uw _ := M0
     clear M0
     obtain ⟨s11, f23, q23⟩ := (show SV 11 = true ∧ ua.eval (.tmp 23) = pV 11 ∧ stE _ 11 (pV 11) from hd 23 (by decide))
     obtain ⟨s8, f123, q123⟩ := (show SV 8 = true ∧ ua.eval (.tmp 123) = pV 8 ∧ stE _ 8 (pV 8) from hd 123 (by decide))
     have e123 : ua.eval (.tmp 123) = .agg (zk Y) := f123.trans q123
     obtain ⟨g_, r_⟩ := (show ∃ g, pV 11 = .pointer (some ⟨g, 0, none⟩) from q23)
     have M2 := M.ptrV (k := 17) (g := g_) (zpb s11 (eitherR_r hk rfl)) r_
     exact zjc (zb rfl) rfl (run_st M2 (k := 17) rfl _ _ _ rfl (f23.trans r_) e123 (zk Y) _ rfl (zL rfl) (zoa _) (zr rfl) (by kernel_rfl)) (fun w2 h2 => (h2.toPtr (k := 17) rfl r_ rfl).sub ⟨rfl, rfl, rfl, rfl, rfl, rfl, rfl, rfl, rfl, rfl, rfl, rfl, rfl, rfl, rfl, rfl, rfl, rfl, trivial⟩) rfl
    intro p116 a116 w116 M116 G116 y116
    obtain ⟨-, -, -, -, -, -, -, q7, -, q9, q10, q11, -, -, -⟩ := y116
    obtain ⟨gp10x115, r10⟩ := (show ∃ g, p116 10 = .pointer (some ⟨g, 0, none⟩) from q10)
    obtain ⟨gp11x115, r11⟩ := (show ∃ g, p116 11 = .pointer (some ⟨g, 0, none⟩) from q11)
    obtain ⟨y116, hs116, r7⟩ := (show ∃ y, SShp y ∧ p116 7 = .agg (zg D y) from q7)
    have r9 : p116 9 = .bool b3 := q9
    replace M116 : Mx _ _ w116 [(0, bytR l3 (.slice A3 n3 cap3)), (1, blkR g30 23 (#[.slice A3 n3 cap3])), (2, blkR g39 30 (zf k p (p / 2) 4)), (3, blkR gp6x41 35 (recA ⟨1, ({ data := #[117] }), [], R, 0, [], 0, 0, 0⟩ ⟨zN, zN⟩)), (4, bytR C.lp y47.vp), (5, bytR C.ls y47.vs), (6, blkR g49 39 (zg C y47)), (7, blkR g50 28 (numA A)), (8, blkR g55 28 (#[numF 0 0, numF 0 1, numF 0 2, numF 0 3, numF 0 4, numF 0 5, numF 0 6, numF 0 7, numF 1 0, numF 1 1, numF 1 2, numF 1 3, numF 1 4, numF 1 5, numF 1 6, numF 1 7, numF p 0, numF p 1, numF p 2, numF p 3, numF p 4, numF p 5, numF p 6, numF p 7, numF mk 0, numF mk 1, numF mk 2, numF mk 3, numF mk 4, numF mk 5, numF mk 6, numF mk 7, numF T 0, numF T 1, numF T 2, numF T 3, numF T 4, numF T 5, numF T 6, numF T 7])), (9, blkR gp12x69 39 (zg S1 y70)), (10, blkR gp13x69 28 (numA B1)), (11, blkR g74 35 (recA ⟨1, ({ data := #[117] }), [], x, 0, [], 0, 0, 0⟩ ⟨zN, zN⟩)), (12, bytR S2.lp y88.vp), (13, bytR S2.ls y88.vs), (14, blkR g90 39 (zg S2 y88)), (15, blkR g91 28 (numA B2)), (16, znb true (ptrR 39 (aggC (p116 7)) (p116 10)) (zab true (ptrR 39 (zg ⟨0, 0, 0, 0, "".toUTF8, [], 0, 0, 0, [], 0, (fun _ => 0), (fun _ => 0)⟩ ⟨zN, zN⟩) (p116 10)))), (17, znb true (ptrR 37 (zk Y) (p116 11)) (zab true (ptrR 37 (zk (fun _ => 0)) (p116 11))))] := M116
    simp only [List.take, layV, Nat.zero_add, Nat.reduceAdd, r7, r9, r10, r11] at G116
    rw [r10, r11, r7] at M116
    have M116_16 := M116.ptr (k := 16) (g := gp10x115) rfl
    replace M116_16 := M116_16.toB (k := 16) (c2 := zg D y116) rfl rfl
    have M116_17 := M116_16.ptr (k := 17) (g := gp11x115) rfl
    replace M116_17 := M116_17.toB (k := 17) (c2 := zk Y) rfl rfl
    refine rm rfl G116 fun _ F117 => ?_
    refine hK115 _ _ ?_
    refine zSk fun _ hK118 => ?_
    cases b3
    ·refine zgb F117 (SK [.inl (.bool false), .inl (.bool false), .inl (undef), .inl (undef), .inl (undef), .inl (undef), .inl (undef), .inl (undef), .inl (undef), .inl (undef), .inl (undef), .inl (undef), .inl (undef), .inl (undef), .inl (undef), .inl (undef), .inl (undef), .inl (undef), .inl (.bool false)]) 19 rfl (by kernel_rfl) ⟨hop0 F117 (by kernel_rfl), hop0 F117 (by kernel_rfl), hop0 F117 (by kernel_rfl), hop0 F117 (by kernel_rfl), hop0 F117 (by kernel_rfl), hop0 F117 (by kernel_rfl), hop0 F117 (by kernel_rfl), hop0 F117 (by kernel_rfl), hop0 F117 (by kernel_rfl), hop0 F117 (by kernel_rfl), hop0 F117 (by kernel_rfl), hop0 F117 (by kernel_rfl), hop0 F117 (by kernel_rfl), hop0 F117 (by kernel_rfl), hop0 F117 (by kernel_rfl), hop0 F117 (by kernel_rfl), hop0 F117 (by kernel_rfl), hop0 F117 (by kernel_rfl), hop0 F117 (by kernel_rfl), trivial⟩ ?_
     intro p120 a120 w120 b120 G120 y120
     obtain ⟨-, -, -, -, -, -, -, -, -, -, -, -, -, -, -, -, -, -, q18, -⟩ := y120
     have r18 : p120 18 = .bool false := q18 (by decide)
     simp only [List.take, layV, Nat.zero_add, Nat.reduceAdd, r18] at G120
     have M120 := M116_17.kc b120
     clear F117 M116_17 r18 q18
     refine hK118 _ _ ?_
     refine wp_cond_false (G120.get (t := 143) rfl) ?_
     refine wp_skip ?_
     refine hK68 _ _ ?_
     refine zR ?_
     refine rm rfl G120 fun _ F121 => ?_
     refine zh (w' := w120) (zb rfl) rfl F121 rfl (.int .i64 ((jn + 1 : Nat) : Int)) (y_addI _ _ _ _ rfl (F121.get (t := 62) rfl) rfl (by omega) (by omega)) fun _ F122 => ?_
     clear F121
     refine rm rfl F122 fun _ F123 => ?_
     subst ek60
     exact hK60 _ (jn + 1) _ _ (by omega) ⟨rfl, (by omega)⟩ (F123.sub ⟨rfl, rfl, rfl, rfl, rfl, rfl, rfl, rfl, rfl, trivial⟩) (M120.sub ⟨rfl, rfl, rfl, rfl, rfl, rfl, rfl, rfl, rfl, trivial⟩)
    ·have hD124 := (z6a (M116_17.blk (k := 2) rfl) dnil)
     refine zgb F117 (SK [.inl (.bool true), .inl (.bool true), .inl (.slice (some ⟨g55, 0, none⟩) 5 5), .inl (.int .i64 (jn : Int)), .inl (.pointer (some ⟨g55, (0 + jn * 8), none⟩)), .inl (numV x), .inl (numV 0), .inl (.bool false), .inl (.bool false), .inl (.slice (some ⟨g55, 0, none⟩) 5 5), .inl (.int .i64 (jn : Int)), .inl (.pointer (some ⟨g55, (0 + jn * 8), none⟩)), .inl (numV x), .inl (.pointer (some ⟨g39, 1, none⟩)), .inl (numV p), .inl (.int .i64 E), .inl (.bool false), .inl (.bool false), .inl (.bool false)]) 19 rfl (by kernel_rfl) ⟨hop0 F117 (by kernel_rfl), hop0 F117 (by kernel_rfl), hop0 F117 (by kernel_rfl), hop0 F117 (by kernel_rfl), ?_, ?_, ?_, ?_, hop0 F117 (by kernel_rfl), hop0 F117 (by kernel_rfl), hop0 F117 (by kernel_rfl), ?_, ?_, hop0 F117 (by kernel_rfl), hopP F117 hD124 0 (some g39) (by kernel_rfl), ?_, ?_, hop0 F117 (by kernel_rfl), hop0 F117 (by kernel_rfl), trivial⟩ ?_
     ·intro ua uw hb hd
      have eg : ua.eval (.tmp 126) = .bool true := hd 126 (by decide)
      have e127 : ua.eval (.tmp 127) = .slice (some ⟨g55, 0, none⟩) 5 5 := hd 127 (by decide)
      have e128 : ua.eval (.tmp 128) = .int .i64 (jn : Int) := hd 128 (by decide)
      exact zm (F := (StK.eq (.pointer (some ⟨g55, (0 + jn * 8), none⟩))).F) (zo rfl rfl rfl eg) (.pointer (some ⟨g55, (0 + jn * 8), none⟩)) (y_ixG 45 (s := 8) Try.underlying45 (by kernel_rfl) _ _ rfl e127 e128 rfl hlt rfl) rfl
     ·intro ua uw hb hd
      have eg : ua.eval (.tmp 126) = .bool true := hd 126 (by decide)
      have e129 : ua.eval (.tmp 129) = .pointer (some ⟨g55, (0 + jn * 8), none⟩) := hd 129 (by decide)
      exact zm (F := (StK.eq (numV x)).F) (zo rfl rfl rfl eg) (numV x) (zt _ _ rfl e129 ((M116_17.step hb).blk (k := 8) rfl) (numA x) ex Try.underlying28 rfl zc) rfl
     ·intro ua uw hb hd
      have eg : ua.eval (.tmp 126) = .bool true := hd 126 (by decide)
      exact zm (F := (StK.eq (numV 0)).F) (zo rfl rfl rfl eg) (numV 0) (zec rfl) rfl
     ·intro ua uw hb hd
      have eg : ua.eval (.tmp 126) = .bool true := hd 126 (by decide)
      have e130 : ua.eval (.tmp 130) = numV x := hd 130 (by decide)
      have e131 : ua.eval (.tmp 131) = numV 0 := hd 131 (by decide)
      exact zm (F := (StK.eq (.bool false)).F) (zo rfl rfl rfl eg) (.bool false) (y_eqA _ _ _ _ rfl e130 e131 (by kernel_rfl) (eqn_no hx (f3 rfl).1 _)) rfl
     ·intro ua uw hb hd
      have eg : ua.eval (.tmp 133) = .bool false := hd 133 (by decide)
      have e134 : ua.eval (.tmp 134) = .slice (some ⟨g55, 0, none⟩) 5 5 := hd 134 (by decide)
      have e135 : ua.eval (.tmp 135) = .int .i64 (jn : Int) := hd 135 (by decide)
      exact zm (F := (StK.eq (.pointer (some ⟨g55, (0 + jn * 8), none⟩))).F) (zo rfl rfl rfl eg) (.pointer (some ⟨g55, (0 + jn * 8), none⟩)) (y_ixG 45 (s := 8) Try.underlying45 (by kernel_rfl) _ _ rfl e134 e135 rfl hlt rfl) rfl
     ·intro ua uw hb hd
      have eg : ua.eval (.tmp 133) = .bool false := hd 133 (by decide)
      have e136 : ua.eval (.tmp 136) = .pointer (some ⟨g55, (0 + jn * 8), none⟩) := hd 136 (by decide)
      exact zm (F := (StK.eq (numV x)).F) (zo rfl rfl rfl eg) (numV x) (zt _ _ rfl e136 ((M116_17.step hb).blk (k := 8) rfl) (numA x) ex Try.underlying28 rfl zc) rfl
     ·intro ua uw hb hd
      have eg : ua.eval (.tmp 133) = .bool false := hd 133 (by decide)
      have e137 : ua.eval (.tmp 137) = numV x := hd 137 (by decide)
      have e139 : ua.eval (.tmp 139) = numV p := hd 139 (by decide)
      exact zy (F := (StK.eq (.int .i64 E)).F) (zo rfl rfl rfl eg) hb.size rfl #[numV x, numV p] (zdb e137 e139) (zE Try.func17 rfl) (zia (kC uw))
     ·intro ua uw hb hd
      have eg : ua.eval (.tmp 133) = .bool false := hd 133 (by decide)
      have e140 : ua.eval (.tmp 140) = .int .i64 E := hd 140 (by decide)
      exact zm (F := (StK.eq (.bool false)).F) (zo rfl rfl rfl eg) (.bool false) (y_geq _ _ _ _ rfl e140 rfl (decide_eq_false (f3 rfl).2)) rfl
     intro p125 a125 w125 b125 G125 y125
     obtain ⟨-, -, -, -, -, -, -, -, -, -, -, -, -, -, -, -, -, -, q18, -⟩ := y125
     have r18 : p125 18 = .bool false := q18 (by decide)
     simp only [List.take, layV, Nat.zero_add, Nat.reduceAdd, r18] at G125
     have M125 := M116_17.kc b125
     clear F117 M116_17 r18 q18
     refine hK118 _ _ ?_
     refine wp_cond_false (G125.get (t := 143) rfl) ?_
     refine wp_skip ?_
     refine hK68 _ _ ?_
     refine zR ?_
     refine rm rfl G125 fun _ F126 => ?_
     refine zh (w' := w125) (zb rfl) rfl F126 rfl (.int .i64 ((jn + 1 : Nat) : Int)) (y_addI _ _ _ _ rfl (F126.get (t := 62) rfl) rfl (by omega) (by omega)) fun _ F127 => ?_
     clear F126
     refine rm rfl F127 fun _ F128 => ?_
     subst ek60
     exact hK60 _ (jn + 1) _ _ (by omega) ⟨rfl, (by omega)⟩ (F128.sub ⟨rfl, rfl, rfl, rfl, rfl, rfl, rfl, rfl, rfl, trivial⟩) (M125.sub ⟨rfl, rfl, rfl, rfl, rfl, rfl, rfl, rfl, rfl, trivial⟩)
  ·refine zh (w' := w60) (zb rfl) rfl F65 rfl (.bool false) (y_lss _ _ _ _ rfl (F65.get (t := 58) rfl) (F65.get (t := 60) rfl) (decide_eq_false h66)) fun _ F129 => ?_
   clear F65
   refine hK62 _ _ ?_
   refine wp_cond_false (F129.get (t := 61) rfl) ?_
   refine wp_exit ?_
   simp only [Exit.then, Exit.inBlock, ↓reduceIte, Nat.reduceEqDiff]
   refine hK57 _ _ ?_
   refine zSk fun _ hK130 => ?_
   refine zR ?_
   refine rm rfl F129 fun _ F131 => ?_
   refine hK130 _ _ ?_
   refine wp_ret ?_
   try simp only [Exit.then, Exit.inBlock, Exit.jump]
   exact bodyPost_ret (res1 rfl (F131.get rfl)) F131.defers ⟨rfl, M60.below⟩
end Go.Proofs.Ytcfepoopkfhojaa
