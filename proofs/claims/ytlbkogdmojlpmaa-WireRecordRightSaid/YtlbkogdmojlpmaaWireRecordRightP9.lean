/- What WireRecordRight stands on, part 9. -/
import Derived.Test.YtlbkogdmojlpmaaWireRecordRightP1
import Derived.Test.YtlbkogdmojlpmaaWireRecordRightP2
import Derived.Test.YtlbkogdmojlpmaaWireRecordRightP3
import Derived.Test.YtlbkogdmojlpmaaWireRecordRightP4
import Derived.Test.YtlbkogdmojlpmaaWireRecordRightP5
import Derived.Test.YtlbkogdmojlpmaaWireRecordRightP6
import Derived.Test.YtlbkogdmojlpmaaWireRecordRightP7
import Derived.Test.YtlbkogdmojlpmaaWireRecordRightP8
set_option maxRecDepth 100000
set_option maxHeartbeats 8000000
set_option linter.unusedVariables false
set_option linter.unusedSimpArgs false
namespace Go.Proofs.Ytlbkogdmojlpmaa
open Go.ChangeShapes Go.WideShapes Go.ChangeAt Go.RowKit
def wordI (X : Int) : Int := if (X % 7 == 0) = true then X.tdiv 7 % 3 else if (X % 5 == 0) = true then 4294967295 - X.tdiv 5 % 3 else bits BinOp.xor IntKind.u32 (X % 4294967296) (X / 4294967296 % 4294967296 * 7 % 4294967296)
theorem wordI_bd (X : Int) : 0 ≤ wordI X ∧ wordI X < 4294967296 := by
  unfold wordI
  split
  · omega
  · split
    · omega
    · exact bits_u32_bd _ _ _
def rowA (x : Nat → Int) (k j : Nat) : Int := if j < k then wordI (x j) else 0
def mk1 (n : Nat) (x : Nat → Int) (j : Nat) : Int := if j < n then wordI (x j) else 0
def rowB (z : Nat → Int) (k j : Nat) : Int := if 1 ≤ j ∧ j < k then 0 else z j
def cplI (v : Int) : Int := bits BinOp.xor IntKind.u32 (if IntKind.u32.signed = true then -1 else IntKind.u32.max) v
def rowC (z : Nat → Int) (k j : Nat) : Int := if j < k then cplI (z j) else z j
def rowD (z : Nat → Int) (k j : Nat) : Int := if 4 ≤ j ∧ j < k then 0 else z j
def mkZ (kd : Int) (n : Nat) (x : Nat → Int) : Nat → Int := match kd % 6 == 0, kd % 6 == 1, kd % 6 == 2 with
  | true, _, _ => rowB (mk1 n x) 8
  | false, true, _ => rowC (mk1 n x) 8
  | false, false, true => rowD (mk1 n x) 8
  | false, false, false => mk1 n x
open Classical in
noncomputable def mkN (kd : Int) (n : Nat) (x : Nat → Int) : Nat := if h : ∃ N, N < 4294967296 ^ 8 ∧ ∀ j, j < 8 → digI N j = mkZ kd n x j then Classical.choose h else 0
theorem mk1_bd (n : Nat) {x : Nat → Int} (hx : ∀ k, -9223372036854775808 ≤ x k ∧ x k < 9223372036854775808) (j : Nat) : 0 ≤ mk1 n x j ∧ mk1 n x j < 4294967296 := by
  unfold mk1; split
  · exact wordI_bd _
  · omega
theorem rowA_at (x : Nat → Int) (k : Nat) : (Value.int .u32 (rowA x k k)) = .int .u32 0 := by unfold rowA; rw [if_neg (Nat.lt_irrefl _)]
theorem rowB_start (z : Nat → Int) (j : Nat) : rowB z 1 j = z j := by unfold rowB; rw [if_neg (by omega)]
theorem rowC_start (z : Nat → Int) (j : Nat) : rowC z 0 j = z j := by unfold rowC; rw [if_neg (by omega)]
theorem rowD_start (z : Nat → Int) (j : Nat) : rowD z 4 j = z j := by unfold rowD; rw [if_neg (by omega)]
theorem rowB_at (z : Nat → Int) (k : Nat) : (Value.int .u32 (rowB z k k)) = .int .u32 (z k) := by unfold rowB; rw [if_neg (by omega)]
theorem rowC_at (z : Nat → Int) (k : Nat) : (Value.int .u32 (rowC z k k)) = .int .u32 (z k) := by unfold rowC; rw [if_neg (by omega)]
theorem rowD_at (z : Nat → Int) (k : Nat) : (Value.int .u32 (rowD z k k)) = .int .u32 (z k) := by unfold rowD; rw [if_neg (by omega)]
theorem rowA_end {x : Nat → Int} {n k j : Nat} (hk : k ≤ 8) (hkn : k ≤ n) (hlt : ¬ (k < 8 ∧ k < n)) (hj : j < 8) : rowA x k j = mk1 n x j := by
  unfold rowA mk1
  by_cases h : j < k
  · rw [if_pos h, if_pos (by omega)]
  · rw [if_neg h, if_neg (by omega)]
section
variable {wr : World} {b k : Nat} {z x : Nat → Int}
theorem rowB_next {v : Int} (h0 : 1 ≤ k) (h8 : k < 8) (h : wr.rowIs b 27 8 (fun j => .int .u32 (rowB z k j))) (hv : v = 0) : (wr.setCell ⟨b, k, none⟩ (.int .u32 v)).rowIs b 27 8 (fun j => .int .u32 (rowB z (k + 1) j)) :=
  (h.set k _).congr fun j _ => by
    subst hv
    unfold rowB
    by_cases e : j = k
    · subst e; rw [if_pos rfl, if_pos (by omega)]
    · rw [if_neg e]; by_cases h2 : 1 ≤ j ∧ j < k
      · rw [if_pos h2, if_pos (by omega)]
      · rw [if_neg h2, if_neg (by omega)]
theorem rowD_next {v : Int} (h0 : 4 ≤ k) (h8 : k < 8) (h : wr.rowIs b 27 8 (fun j => .int .u32 (rowD z k j))) (hv : v = 0) : (wr.setCell ⟨b, k, none⟩ (.int .u32 v)).rowIs b 27 8 (fun j => .int .u32 (rowD z (k + 1) j)) :=
  (h.set k _).congr fun j _ => by
    subst hv
    unfold rowD
    by_cases e : j = k
    · subst e; rw [if_pos rfl, if_pos (by omega)]
    · rw [if_neg e]; by_cases h2 : 4 ≤ j ∧ j < k
      · rw [if_pos h2, if_pos (by omega)]
      · rw [if_neg h2, if_neg (by omega)]
theorem rowC_next {v : Int} (h0 : 0 ≤ k) (h8 : k < 8) (h : wr.rowIs b 27 8 (fun j => .int .u32 (rowC z k j))) (hv : v = cplI (z k)) : (wr.setCell ⟨b, k, none⟩ (.int .u32 v)).rowIs b 27 8 (fun j => .int .u32 (rowC z (k + 1) j)) :=
  (h.set k _).congr fun j _ => by
    subst hv
    unfold rowC
    by_cases e : j = k
    · subst e; rw [if_pos rfl, if_pos (by omega)]
    · rw [if_neg e]; by_cases h2 : j < k
      · rw [if_pos h2, if_pos (by omega)]
      · rw [if_neg h2, if_neg (by omega)]
def AtK (w : World) (b k : Nat) (x : Nat → Int) (v : Int) : Prop := w.rowIs b 27 8 (fun j => if j = k then .int .u32 v else .int .u32 (rowA x k j))
theorem AtK.one (h : wr.rowIs b 27 8 (fun j => .int .u32 (rowA x k j))) (v : Int) : AtK (wr.setCell ⟨b, k, none⟩ (.int .u32 v)) b k x v := h.set k _
theorem AtK.two {u : Int} (h : AtK wr b k x u) (v : Int) : AtK (wr.setCell ⟨b, k, none⟩ (.int .u32 v)) b k x v := (World.rowIs.set h k _).congr fun j _ => by
  by_cases e : j = k
  · rw [if_pos e, if_pos e]
  · rw [if_neg e, if_neg e, if_neg e]
theorem AtK.oneE {u : Int} (h : wr.rowIs b 27 8 (fun j => .int .u32 (rowA x k j))) (v : Int) (e : v = u) : AtK (wr.setCell ⟨b, k, none⟩ (.int .u32 v)) b k x u := by subst e; exact AtK.one h v
def AtX (w : World) (b k : Nat) (x : Nat → Int) : Prop := ∃ u, AtK w b k x u
theorem AtX.one (h : wr.rowIs b 27 8 (fun j => .int .u32 (rowA x k j))) (v : Int) : AtX (wr.setCell ⟨b, k, none⟩ (.int .u32 v)) b k x := ⟨v, AtK.one h v⟩
theorem AtX.two (h : AtX wr b k x) (v : Int) : AtX (wr.setCell ⟨b, k, none⟩ (.int .u32 v)) b k x := by obtain ⟨u, h⟩ := h; exact ⟨v, h.two v⟩
theorem AtK.twoE {v' : Int} (h : AtX wr b k x) (v : Int) (e : v = v') : AtK (wr.setCell ⟨b, k, none⟩ (.int .u32 v)) b k x v' := by obtain ⟨u, h⟩ := h; subst e; exact h.two v
theorem mk_next {v X : Int} (h : AtK wr b k x v) (hX : x k = X) (hv : v = wordI X) : wr.drew.rowIs b 27 8 (fun j => .int .u32 (rowA x (k + 1) j)) :=
  World.rowIs.congr (w := wr) h fun j _ => by
    unfold rowA
    by_cases e : j = k
    · subst e; rw [if_pos rfl, if_pos (by omega), hX, hv]
    · rw [if_neg e]; by_cases h2 : j < k
      · rw [if_pos h2, if_pos (by omega)]
      · rw [if_neg h2, if_neg (by omega)]
theorem mk_num {kd : Int} {n : Nat} {Z : Nat → Int} (hzV : Hid (z = mk1 n x)) (hZ : mkZ kd n x = Z) (h : wr.rowIs b 27 8 (fun j => .int .u32 (Z j))) (hb : ∀ j, 0 ≤ Z j ∧ Z j < 4294967296) : Num wr b 27 (mkN kd n x) := by
  subst hZ
  obtain ⟨N, hN, e⟩ := num_of (fun k => (mkZ kd n x k).toNat) (fun k _ => by have := hb k; omega)
  have hE : ∃ N, N < 4294967296 ^ 8 ∧ ∀ j, j < 8 → digI N j = mkZ kd n x j := ⟨N, hN, fun j hj => by
    have := hb j
    unfold digI
    rw [← e j hj]; omega⟩
  unfold mkN
  rw [dif_pos hE]
  obtain ⟨c1, c2⟩ := Classical.choose_spec hE
  exact num_of_row h fun j hj => by unfold numF; rw [c2 j hj]
end
theorem mkN_lt (kd : Int) (n : Nat) (x : Nat → Int) : mkN kd n x < 4294967296 ^ 8 := by
  unfold mkN
  split
  · rename_i h; exact (Classical.choose_spec h).1
  · decide
theorem mk_zero (x : Nat → Int) (w : World) (t : TypeId) : (w.alloc (.cells #[Value.int .u32 0, .int .u32 0, .int .u32 0, .int .u32 0, .int .u32 0, .int .u32 0, .int .u32 0, .int .u32 0] 27)).rowIs w.heap.size 27 8 (fun j => .int .u32 (rowA x 0 j)) := by
  rw [zeroA]
  exact (Num.new w 27 0).row.congr fun j hj => by unfold numF digI dig rowA; simp
theorem rowB_bd {z : Nat → Int} (h : ∀ j, 0 ≤ z j ∧ z j < 4294967296) (k j : Nat) : 0 ≤ rowB z k j ∧ rowB z k j < 4294967296 := by
  unfold rowB; split
  · omega
  · exact h j
theorem rowC_bd {z : Nat → Int} (h : ∀ j, 0 ≤ z j ∧ z j < 4294967296) (k j : Nat) : 0 ≤ rowC z k j ∧ rowC z k j < 4294967296 := by
  unfold rowC; split
  · exact bits_u32_bd _ _ _
  · exact h j
theorem rowD_bd {z : Nat → Int} (h : ∀ j, 0 ≤ z j ∧ z j < 4294967296) (k j : Nat) : 0 ≤ rowD z k j ∧ rowD z k j < 4294967296 := by
  unfold rowD; split
  · omega
  · exact h j
attribute [irreducible] rowA rowB rowC rowD mk1 mkZ mkN
theorem make_det (kd : Int) (hk0 : -9223372036854775808 ≤ kd) (hk1 : kd < 9223372036854775808) (A : Option Addr) (n cap : Nat) (x : Nat → Int) (w : World) (hx : RdI w A n x) :
    Calls Try.prog 40 #[.int .i64 kd, .slice A n cap] w fun e w' => e = .returned (numV (mkN kd n x)) ∧ Below w.heap.size w w' := by
  obtain ⟨hm, hxb, hx⟩ := hx
  obtain ⟨V, hV⟩ : ∃ V, Hid (mkN kd n x = V) := ⟨_, hid rfl⟩
  rw [hV.out]
  unfold maxLen at hm
  go_enter Try.func40, Try.ntmps40
  go_wp2
  have g0 := (Num.new w 27 0).alloc (.cells #[Value.int .u32 0, .int .u32 0, .int .u32 0, .int .u32 0, .int .u32 0, .int .u32 0, .int .u32 0, .int .u32 0] 27)
  rw [← zeroA] at g0
  have g1 := mk_zero x (w.alloc (.cells #[Value.int .u32 0, .int .u32 0, .int .u32 0, .int .u32 0, .int .u32 0, .int .u32 0, .int .u32 0, .int .u32 0] 27)) 0
  rw [World.size_alloc] at g1
  have gb : Below w.heap.size w ((w.alloc (.cells #[Value.int .u32 0, .int .u32 0, .int .u32 0, .int .u32 0, .int .u32 0, .int .u32 0, .int .u32 0, .int .u32 0] 27)).alloc (.cells #[Value.int .u32 0, .int .u32 0, .int .u32 0, .int .u32 0, .int .u32 0, .int .u32 0, .int .u32 0, .int .u32 0] 27)) := ((Below.refl _ _).alloc (Nat.le_refl _) _).alloc (by simp) _
  generalize hW : World.alloc _ _ = W at *
  clear hW
  go_loopw [6] (fun i wr => ∃ k : Nat, k ≤ 8 ∧ k ≤ n ∧ i = .int .i64 k ∧ wr.rowIs (w.heap.size + 1) 27 8 (fun j => .int .u32 (rowA x k j)) ∧ Num wr w.heap.size 27 0 ∧ Below w.heap.size w wr) (fun i _ => 8 - (intOf i).toNat)
  case atStart => exact ⟨0, by omega, by omega, rfl, g1, g0, gb⟩
  case round =>
    obtain ⟨k, hk, hkn, rfl, hn, hz, hb⟩ := hrel
    clear g0 g1 gb
    by_cases hlt : k < 8 ∧ k < n
    · obtain ⟨hl1, hl2⟩ := hlt
      obtain ⟨b, o, rfl, hbl, hc⟩ := hx (by omega)
      have hcx := hb.cell (p := ⟨b, o + k, none⟩) (by simpa using hbl)
      rw [hc k hl2] at hcx
      have hcv := hn.cell (i := k) hl1
      rw [rowA_at] at hcv
      have hcf := hn.frozen k
      have hx0 := (hxb k).1
      have hx1 := (hxb k).2
      obtain ⟨X, hX⟩ : ∃ X, Hid (x k = X) := ⟨_, hid rfl⟩
      rw [hX.out] at hcx hx0 hx1
      clear hc hx hxb
      go_wp2_with fail
      go_still_tail 15, (by kernel_rfl)
      change wpList _ _ _ _ _ (World.drew _)
      go_wp2_with (go_at_call 73; refine (zha _ _ (by omega) (by omega) (by first | omega | exact (tdiv_bd _ _ (by omega) hx0 hx1).1) (by first | omega | exact (tdiv_bd _ _ (by omega) hx0 hx1).2) _).mono ?_; rintro e w' ⟨rfl, rfl⟩)
      all_goals
        go_roundw
        case rel =>
          refine ⟨k + 1, by omega, by omega, by go_num, ?_, ?_, ?_⟩
          · refine mk_next (v := wordI X) ?_ (hX := hX.out) rfl
            first
              | exact AtK.oneE hn _ (by unfold wordI; simp only [*]; try simp)
              | (refine AtK.twoE ?_ _ (by unfold wordI; simp only [*]; try simp); repeat (first | exact AtX.one hn _ | refine AtX.two ?_ _))
          · repeat (first | exact hz | (refine Num.drew ?_) | (refine Num.far ?_ (by simp) _))
          · repeat (first | exact hb | (refine Below.drew ?_) | (refine Below.setCell ?_ (by simp) _))
        case measure => simp [intOf] <;> omega
    · have hd : (k < 8 ∧ decide ((k : Int) < 8) = true ∧ decide (k < n) = false) ∨ k = 8 := by simp; omega
      obtain ⟨z, hzV⟩ : ∃ z, Hid (z = mk1 n x) := ⟨_, hid rfl⟩
      have hzb : ∀ j, 0 ≤ z j ∧ z j < 4294967296 := fun j => by rw [hzV.out]; exact mk1_bd n hxb j
      replace hn := hn.congr (g := fun j => .int .u32 (z j)) (fun j hj => by rw [hzV.out, rowA_end hk hkn hlt hj])
      clear hx hxb
      rcases hd with ⟨-, hd1, hd2⟩ | rfl
      · clear hlt hk hkn
        have h6 : ((kd % 6 == 0) = true) ∨ ((kd % 6 == 0) = false ∧ (kd % 6 == 1) = true) ∨ ((kd % 6 == 0) = false ∧ (kd % 6 == 1) = false ∧ (kd % 6 == 2) = true) ∨ ((kd % 6 == 0) = false ∧ (kd % 6 == 1) = false ∧ (kd % 6 == 2) = false) := by
          by_cases a0 : kd % 6 = 0 <;> by_cases a1 : kd % 6 = 1 <;> by_cases a2 : kd % 6 = 2 <;> simp [a0, a1, a2]
        rcases h6 with h6 | ⟨h6, h7⟩ | ⟨h6, h7, h8⟩ | ⟨h6, h7, h8⟩
        · skip
          go_wp2_with (go_at_call 73; refine (zha _ _ (by omega) (by omega) (by omega) (by omega) _).mono ?_; rintro e w' ⟨rfl, rfl⟩)
          go_loopw [7] (fun i wr => ∃ k : Nat, 1 ≤ k ∧ k ≤ 8 ∧ i = .int .i64 k ∧ wr.rowIs (w.heap.size + 1) 27 8 (fun j => .int .u32 (rowB z k j)) ∧ Num wr w.heap.size 27 0 ∧ Below w.heap.size w wr) (fun i _ => 8 - (intOf i).toNat)
          case atStart => exact ⟨1, by omega, by omega, rfl, hn.congr (fun j _ => by rw [rowB_start]), hz, hb⟩
          case round =>
            clear hn hz hb
            obtain ⟨k, hk0, hk, rfl, hn, hz, hb⟩ := hrel
            by_cases hlt : k < 8
            · have hcv := hn.cell (i := k) hlt
              rw [rowB_at] at hcv
              have hcf := hn.frozen k
              have hz0 := hzb k
              generalize hZ : z k = Z at *
              go_wp2
              go_roundw
              case rel =>
                refine ⟨k + 1, by omega, by omega, by go_num, ?_, ?_, ?_⟩
                · refine rowB_next hk0 hlt hn (by first | rfl | (rw [hZ]; rfl))
                · refine Num.far hz (by simp) _
                · refine Below.setCell hb (by simp) _
              case measure => simp [intOf] <;> omega
            · obtain rfl : k = 8 := by omega
              have hN := mk_num hzV (show mkZ kd n x = _ from by unfold mkZ; simp only [h6, hzV.out]) hn (fun j => rowB_bd hzb 8 j)
              rw [hV.out] at hN
              go_wp2_with (first | (go_at_call 73; refine (zha _ _ (by omega) (by omega) (by omega) (by omega) _).mono ?_; rintro e w' ⟨rfl, rfl⟩) | (refine z3 rfl _ _ rfl _ rfl _ _ _ hN Try.underlying27 rfl zu ?_) | (refine zaa rfl _ _ _ rfl _ rfl _ rfl _ rfl hz zu ?_; intro w5 hg5 m5))
              exact bodyPost_ret (zva rfl rfl m5 Try.underlying27 rfl zu) rfl ⟨rfl, z4 hb hg5 (by have := hz.lt; omega) (by omega)⟩
        · skip
          go_wp2_with (go_at_call 73; refine (zha _ _ (by omega) (by omega) (by omega) (by omega) _).mono ?_; rintro e w' ⟨rfl, rfl⟩)
          go_loopw [8] (fun i wr => ∃ k : Nat, 0 ≤ k ∧ k ≤ 8 ∧ i = .int .i64 k ∧ wr.rowIs (w.heap.size + 1) 27 8 (fun j => .int .u32 (rowC z k j)) ∧ Num wr w.heap.size 27 0 ∧ Below w.heap.size w wr) (fun i _ => 8 - (intOf i).toNat)
          case atStart => exact ⟨0, by omega, by omega, rfl, hn.congr (fun j _ => by rw [rowC_start]), hz, hb⟩
          case round =>
            clear hn hz hb
            obtain ⟨k, hk0, hk, rfl, hn, hz, hb⟩ := hrel
            by_cases hlt : k < 8
            · have hcv := hn.cell (i := k) hlt
              rw [rowC_at] at hcv
              have hcf := hn.frozen k
              have hz0 := hzb k
              generalize hZ : z k = Z at *
              go_wp2
              go_roundw
              case rel =>
                refine ⟨k + 1, by omega, by omega, by go_num, ?_, ?_, ?_⟩
                · refine rowC_next hk0 hlt hn (by first | rfl | (rw [hZ]; rfl))
                · refine Num.far hz (by simp) _
                · refine Below.setCell hb (by simp) _
              case measure => simp [intOf] <;> omega
            · obtain rfl : k = 8 := by omega
              have hN := mk_num hzV (show mkZ kd n x = _ from by unfold mkZ; simp only [h6, h7, hzV.out]) hn (fun j => rowC_bd hzb 8 j)
              rw [hV.out] at hN
              go_wp2_with (first | (go_at_call 73; refine (zha _ _ (by omega) (by omega) (by omega) (by omega) _).mono ?_; rintro e w' ⟨rfl, rfl⟩) | (refine z3 rfl _ _ rfl _ rfl _ _ _ hN Try.underlying27 rfl zu ?_) | (refine zaa rfl _ _ _ rfl _ rfl _ rfl _ rfl hz zu ?_; intro w5 hg5 m5))
              exact bodyPost_ret (zva rfl rfl m5 Try.underlying27 rfl zu) rfl ⟨rfl, z4 hb hg5 (by have := hz.lt; omega) (by omega)⟩
        · skip
          go_wp2_with (go_at_call 73; refine (zha _ _ (by omega) (by omega) (by omega) (by omega) _).mono ?_; rintro e w' ⟨rfl, rfl⟩)
          go_loopw [9] (fun i wr => ∃ k : Nat, 4 ≤ k ∧ k ≤ 8 ∧ i = .int .i64 k ∧ wr.rowIs (w.heap.size + 1) 27 8 (fun j => .int .u32 (rowD z k j)) ∧ Num wr w.heap.size 27 0 ∧ Below w.heap.size w wr) (fun i _ => 8 - (intOf i).toNat)
          case atStart => exact ⟨4, by omega, by omega, rfl, hn.congr (fun j _ => by rw [rowD_start]), hz, hb⟩
          case round =>
            clear hn hz hb
            obtain ⟨k, hk0, hk, rfl, hn, hz, hb⟩ := hrel
            by_cases hlt : k < 8
            · have hcv := hn.cell (i := k) hlt
              rw [rowD_at] at hcv
              have hcf := hn.frozen k
              have hz0 := hzb k
              generalize hZ : z k = Z at *
              go_wp2
              go_roundw
              case rel =>
                refine ⟨k + 1, by omega, by omega, by go_num, ?_, ?_, ?_⟩
                · refine rowD_next hk0 hlt hn (by first | rfl | (rw [hZ]; rfl))
                · refine Num.far hz (by simp) _
                · refine Below.setCell hb (by simp) _
              case measure => simp [intOf] <;> omega
            · obtain rfl : k = 8 := by omega
              have hN := mk_num hzV (show mkZ kd n x = _ from by unfold mkZ; simp only [h6, h7, h8, hzV.out]) hn (fun j => rowD_bd hzb 8 j)
              rw [hV.out] at hN
              go_wp2_with (first | (go_at_call 73; refine (zha _ _ (by omega) (by omega) (by omega) (by omega) _).mono ?_; rintro e w' ⟨rfl, rfl⟩) | (refine z3 rfl _ _ rfl _ rfl _ _ _ hN Try.underlying27 rfl zu ?_) | (refine zaa rfl _ _ _ rfl _ rfl _ rfl _ rfl hz zu ?_; intro w5 hg5 m5))
              exact bodyPost_ret (zva rfl rfl m5 Try.underlying27 rfl zu) rfl ⟨rfl, z4 hb hg5 (by have := hz.lt; omega) (by omega)⟩
        · have hN := mk_num hzV (show mkZ kd n x = _ from by unfold mkZ; simp only [h6, h7, h8, hzV.out]) hn hzb
          rw [hV.out] at hN
          go_wp2_with (first | (go_at_call 73; refine (zha _ _ (by omega) (by omega) (by omega) (by omega) _).mono ?_; rintro e w' ⟨rfl, rfl⟩) | (refine z3 rfl _ _ rfl _ rfl _ _ _ hN Try.underlying27 rfl zu ?_) | (refine zaa rfl _ _ _ rfl _ rfl _ rfl _ rfl hz zu ?_; intro w5 hg5 m5))
          exact bodyPost_ret (zva rfl rfl m5 Try.underlying27 rfl zu) rfl ⟨rfl, z4 hb hg5 (by have := hz.lt; omega) (by omega)⟩
      · clear hlt hk hkn
        have h6 : ((kd % 6 == 0) = true) ∨ ((kd % 6 == 0) = false ∧ (kd % 6 == 1) = true) ∨ ((kd % 6 == 0) = false ∧ (kd % 6 == 1) = false ∧ (kd % 6 == 2) = true) ∨ ((kd % 6 == 0) = false ∧ (kd % 6 == 1) = false ∧ (kd % 6 == 2) = false) := by
          by_cases a0 : kd % 6 = 0 <;> by_cases a1 : kd % 6 = 1 <;> by_cases a2 : kd % 6 = 2 <;> simp [a0, a1, a2]
        rcases h6 with h6 | ⟨h6, h7⟩ | ⟨h6, h7, h8⟩ | ⟨h6, h7, h8⟩
        · skip
          go_wp2_with (go_at_call 73; refine (zha _ _ (by omega) (by omega) (by omega) (by omega) _).mono ?_; rintro e w' ⟨rfl, rfl⟩)
          go_loopw [7] (fun i wr => ∃ k : Nat, 1 ≤ k ∧ k ≤ 8 ∧ i = .int .i64 k ∧ wr.rowIs (w.heap.size + 1) 27 8 (fun j => .int .u32 (rowB z k j)) ∧ Num wr w.heap.size 27 0 ∧ Below w.heap.size w wr) (fun i _ => 8 - (intOf i).toNat)
          case atStart => exact ⟨1, by omega, by omega, rfl, hn.congr (fun j _ => by rw [rowB_start]), hz, hb⟩
          case round =>
            clear hn hz hb
            obtain ⟨k, hk0, hk, rfl, hn, hz, hb⟩ := hrel
            by_cases hlt : k < 8
            · have hcv := hn.cell (i := k) hlt
              rw [rowB_at] at hcv
              have hcf := hn.frozen k
              have hz0 := hzb k
              generalize hZ : z k = Z at *
              go_wp2
              go_roundw
              case rel =>
                refine ⟨k + 1, by omega, by omega, by go_num, ?_, ?_, ?_⟩
                · refine rowB_next hk0 hlt hn (by first | rfl | (rw [hZ]; rfl))
                · refine Num.far hz (by simp) _
                · refine Below.setCell hb (by simp) _
              case measure => simp [intOf] <;> omega
            · obtain rfl : k = 8 := by omega
              have hN := mk_num hzV (show mkZ kd n x = _ from by unfold mkZ; simp only [h6, hzV.out]) hn (fun j => rowB_bd hzb 8 j)
              rw [hV.out] at hN
              go_wp2_with (first | (go_at_call 73; refine (zha _ _ (by omega) (by omega) (by omega) (by omega) _).mono ?_; rintro e w' ⟨rfl, rfl⟩) | (refine z3 rfl _ _ rfl _ rfl _ _ _ hN Try.underlying27 rfl zu ?_) | (refine zaa rfl _ _ _ rfl _ rfl _ rfl _ rfl hz zu ?_; intro w5 hg5 m5))
              exact bodyPost_ret (zva rfl rfl m5 Try.underlying27 rfl zu) rfl ⟨rfl, z4 hb hg5 (by have := hz.lt; omega) (by omega)⟩
        · skip
          go_wp2_with (go_at_call 73; refine (zha _ _ (by omega) (by omega) (by omega) (by omega) _).mono ?_; rintro e w' ⟨rfl, rfl⟩)
          go_loopw [8] (fun i wr => ∃ k : Nat, 0 ≤ k ∧ k ≤ 8 ∧ i = .int .i64 k ∧ wr.rowIs (w.heap.size + 1) 27 8 (fun j => .int .u32 (rowC z k j)) ∧ Num wr w.heap.size 27 0 ∧ Below w.heap.size w wr) (fun i _ => 8 - (intOf i).toNat)
          case atStart => exact ⟨0, by omega, by omega, rfl, hn.congr (fun j _ => by rw [rowC_start]), hz, hb⟩
          case round =>
            clear hn hz hb
            obtain ⟨k, hk0, hk, rfl, hn, hz, hb⟩ := hrel
            by_cases hlt : k < 8
            · have hcv := hn.cell (i := k) hlt
              rw [rowC_at] at hcv
              have hcf := hn.frozen k
              have hz0 := hzb k
              generalize hZ : z k = Z at *
              go_wp2
              go_roundw
              case rel =>
                refine ⟨k + 1, by omega, by omega, by go_num, ?_, ?_, ?_⟩
                · refine rowC_next hk0 hlt hn (by first | rfl | (rw [hZ]; rfl))
                · refine Num.far hz (by simp) _
                · refine Below.setCell hb (by simp) _
              case measure => simp [intOf] <;> omega
            · obtain rfl : k = 8 := by omega
              have hN := mk_num hzV (show mkZ kd n x = _ from by unfold mkZ; simp only [h6, h7, hzV.out]) hn (fun j => rowC_bd hzb 8 j)
              rw [hV.out] at hN
              go_wp2_with (first | (go_at_call 73; refine (zha _ _ (by omega) (by omega) (by omega) (by omega) _).mono ?_; rintro e w' ⟨rfl, rfl⟩) | (refine z3 rfl _ _ rfl _ rfl _ _ _ hN Try.underlying27 rfl zu ?_) | (refine zaa rfl _ _ _ rfl _ rfl _ rfl _ rfl hz zu ?_; intro w5 hg5 m5))
              exact bodyPost_ret (zva rfl rfl m5 Try.underlying27 rfl zu) rfl ⟨rfl, z4 hb hg5 (by have := hz.lt; omega) (by omega)⟩
        · skip
          go_wp2_with (go_at_call 73; refine (zha _ _ (by omega) (by omega) (by omega) (by omega) _).mono ?_; rintro e w' ⟨rfl, rfl⟩)
          go_loopw [9] (fun i wr => ∃ k : Nat, 4 ≤ k ∧ k ≤ 8 ∧ i = .int .i64 k ∧ wr.rowIs (w.heap.size + 1) 27 8 (fun j => .int .u32 (rowD z k j)) ∧ Num wr w.heap.size 27 0 ∧ Below w.heap.size w wr) (fun i _ => 8 - (intOf i).toNat)
          case atStart => exact ⟨4, by omega, by omega, rfl, hn.congr (fun j _ => by rw [rowD_start]), hz, hb⟩
          case round =>
            clear hn hz hb
            obtain ⟨k, hk0, hk, rfl, hn, hz, hb⟩ := hrel
            by_cases hlt : k < 8
            · have hcv := hn.cell (i := k) hlt
              rw [rowD_at] at hcv
              have hcf := hn.frozen k
              have hz0 := hzb k
              generalize hZ : z k = Z at *
              go_wp2
              go_roundw
              case rel =>
                refine ⟨k + 1, by omega, by omega, by go_num, ?_, ?_, ?_⟩
                · refine rowD_next hk0 hlt hn (by first | rfl | (rw [hZ]; rfl))
                · refine Num.far hz (by simp) _
                · refine Below.setCell hb (by simp) _
              case measure => simp [intOf] <;> omega
            · obtain rfl : k = 8 := by omega
              have hN := mk_num hzV (show mkZ kd n x = _ from by unfold mkZ; simp only [h6, h7, h8, hzV.out]) hn (fun j => rowD_bd hzb 8 j)
              rw [hV.out] at hN
              go_wp2_with (first | (go_at_call 73; refine (zha _ _ (by omega) (by omega) (by omega) (by omega) _).mono ?_; rintro e w' ⟨rfl, rfl⟩) | (refine z3 rfl _ _ rfl _ rfl _ _ _ hN Try.underlying27 rfl zu ?_) | (refine zaa rfl _ _ _ rfl _ rfl _ rfl _ rfl hz zu ?_; intro w5 hg5 m5))
              exact bodyPost_ret (zva rfl rfl m5 Try.underlying27 rfl zu) rfl ⟨rfl, z4 hb hg5 (by have := hz.lt; omega) (by omega)⟩
        · have hN := mk_num hzV (show mkZ kd n x = _ from by unfold mkZ; simp only [h6, h7, h8, hzV.out]) hn hzb
          rw [hV.out] at hN
          go_wp2_with (first | (go_at_call 73; refine (zha _ _ (by omega) (by omega) (by omega) (by omega) _).mono ?_; rintro e w' ⟨rfl, rfl⟩) | (refine z3 rfl _ _ rfl _ rfl _ _ _ hN Try.underlying27 rfl zu ?_) | (refine zaa rfl _ _ _ rfl _ rfl _ rfl _ rfl hz zu ?_; intro w5 hg5 m5))
          exact bodyPost_ret (zva rfl rfl m5 Try.underlying27 rfl zu) rfl ⟨rfl, z4 hb hg5 (by have := hz.lt; omega) (by omega)⟩
end Go.Proofs.Ytlbkogdmojlpmaa
namespace Go.Proofs.Ytlbkogdmojlpmaa
open Go.ChangeShapes Go.WideShapes Go.ChangeAt Go.RowKit
theorem rdI_same {w : World} {g : Nat} {t : TypeId} {v : Int} (h : w.heap[g]? = some (.cells #[.int .i64 v, .int .i64 v, .int .i64 v] t (0, 0))) (hv : -9223372036854775808 ≤ v ∧ v < 9223372036854775808) : RdI w (some ⟨g, 0, none⟩) 3 (fun _ => v) :=
  ⟨by unfold maxLen; omega, fun _ => hv, fun _ => ⟨g, 0, rfl, (Array.getElem?_eq_some_iff.1 h).1, fun k hk => by
    rw [Nat.zero_add]
    exact y_cell h (by
      match k, hk with
      | 0, _ => rfl
      | 1, _ => rfl
      | 2, _ => rfl
      | n + 3, h => exact absurd h (by omega))⟩⟩
theorem RecOk.set {r r2 : RecN} (h : RecOk r) (hp : -9223372036854775808 ≤ r2.p ∧ r2.p < 9223372036854775808) (ht : -9223372036854775808 ≤ r2.t ∧ r2.t < 9223372036854775808) (hc : -9223372036854775808 ≤ r2.c ∧ r2.c < 9223372036854775808) (hz : -9223372036854775808 ≤ r2.z ∧ r2.z < 9223372036854775808) (hs : r2.s.size ≤ 1000) (ha : r2.a < 4294967296 ^ 8) (hb : r2.b < 4294967296 ^ 8) : RecOk r2 := ⟨hp, ht, hc, hz, hs, ha, hb⟩
end Go.Proofs.Ytlbkogdmojlpmaa
namespace Go.Proofs.Ytlbkogdmojlpmaa
open Go.ChangeShapes Go.WideShapes Go.ChangeAt Go.RowKit
theorem Rd.isB' {w : World} {A : Option Addr} {l : List UInt8} {n c : Nat} (h : Rd w A l) (hn : l.length = n) (hc : n ≤ c) (hm : c ≤ maxLen) (hz : A = none → c = 0) : IsB w l (.slice A n c) := by
  subst hn
  exact ⟨A, c, rfl, hc, hm, hz, h⟩
theorem top_small {a : Nat} (h : a < 4294967296) : topI a 8 ≤ 32 := by
  by_cases h0 : a = 0
  · subst h0; rw [topI_none]; decide
  · have ha : a < 4294967296 ^ 8 := Nat.lt_trans h (by decide)
    have h1 := Nat.log2_self_le h0
    have h2 : a < 2 ^ (Nat.log2 a + 1) := Nat.lt_log2_self
    have h3 : a / 2 ^ (Nat.log2 a) = 1 := by
      apply Nat.div_eq_of_lt_le
      · omega
      · rw [Nat.pow_succ] at h2; omega
    rw [top_one ha h3]
    have h4 : Nat.log2 a < 32 := by
      refine Classical.byContradiction fun hn => ?_
      have : 2 ^ 32 ≤ 2 ^ Nat.log2 a := Nat.pow_le_pow_right (by omega) (by omega)
      omega
    omega
theorem nmB_ne (s : ByteArray) : sBy (nmB s) ≠ [] := by
  by_cases h : (sBy s).length = 0
  · rw [nmB_nil h]; simp [sBy]
  · rw [nmB_some h]
    simp only [sBy, List.toList_toArray]
    intro e
    have := congrArg List.length e
    rw [List.length_take] at this
    have h2 := nmL_len (sBy s)
    unfold sBy at h h2
    simp only [List.length_nil] at this
    omega
theorem nmB_size (s : ByteArray) : 0 < (nmB s).size ∧ (nmB s).size ≤ 16 := by
  have h := nmB_ne s
  have e : (sBy (nmB s)).length = (nmB s).size := sBy_len _
  refine ⟨by have := List.length_pos_iff.2 h; omega, ?_⟩
  by_cases h0 : (sBy s).length = 0
  · rw [nmB_nil h0]; decide
  · rw [← e, nmB_some h0]
    simp only [sBy, List.toList_toArray, List.length_take]
    omega
theorem name_of {B : ByteArray} (h1 : 0 < B.size) (h2 : B.size ≤ 16) (h : ∀ x ∈ sBy B, 33 ≤ x.toNat ∧ x.toNat ≤ 126) : nameB B = true := by
  refine @decide_eq_true _ (Classical.propDecidable _) ⟨h1, h2, fun i hi => ?_⟩
  have hg : (sBy B)[i]? = some (B[i]'hi) := by
    unfold sBy
    rw [Array.getElem?_toList]
    exact Array.getElem?_eq_getElem hi
  have := h _ (List.mem_of_getElem? hg)
  omega
theorem nmB_ok (s : ByteArray) : nameB (nmB s) = true := by
  refine name_of (nmB_size s).1 (nmB_size s).2 fun x hx => ?_
  by_cases h0 : (sBy s).length = 0
  · rw [nmB_nil h0] at hx
    have : x = 117 := by simpa [sBy] using hx
    subst this; decide
  · rw [nmB_some h0] at hx
    simp only [sBy, List.toList_toArray] at hx
    obtain ⟨y, -, hy⟩ := List.mem_map.1 (List.mem_of_mem_take hx)
    rw [← hy]
    exact nmC_in y
theorem mkR_ok (n : Int) (s : ByteArray) (b : List UInt8) : RecOk (mkR n s b) := by
  have h2 := Int.emod_two_eq n
  have hs := nmB_size s
  have h6 := Int.emod_nonneg (n.tdiv 11) (show (6 : Int) ≠ 0 by decide)
  have h6' := Int.emod_lt_of_pos (n.tdiv 11) (show (0 : Int) < 6 by decide)
  have h7 := Int.emod_nonneg (n.tdiv 13) (show (1000 : Int) ≠ 0 by decide)
  have h7' := Int.emod_lt_of_pos (n.tdiv 13) (show (0 : Int) < 1000 by decide)
  have h8 := Int.emod_nonneg (n.tdiv 17) (show (1099511627776 : Int) ≠ 0 by decide)
  have h8' := Int.emod_lt_of_pos (n.tdiv 17) (show (0 : Int) < 1099511627776 by decide)
  have h9 := Int.emod_nonneg (n.tdiv 2) (show (4294967296 : Int) ≠ 0 by decide)
  have h9' := Int.emod_lt_of_pos (n.tdiv 2) (show (0 : Int) < 4294967296 by decide)
  have hA := Int.emod_nonneg (n.tdiv 7) (show (4294967296 : Int) ≠ 0 by decide)
  have hA' := Int.emod_lt_of_pos (n.tdiv 7) (show (0 : Int) < 4294967296 by decide)
  unfold mkR
  exact ⟨(by dsimp only; omega), (by dsimp only; omega), (by dsimp only; omega), (by dsimp only; omega), (by dsimp only; omega), Nat.lt_trans (m := 4294967296) (by dsimp only; omega) (by decide), Nat.lt_trans (m := 4294967296) (by dsimp only; omega) (by decide)⟩
theorem mkR_keep (n : Int) (s : ByteArray) (b : List UInt8) : zx (mkR n s b) = true := by
  have h2 := Int.emod_two_eq n
  have h6 := Int.emod_nonneg (n.tdiv 11) (show (6 : Int) ≠ 0 by decide)
  have h6' := Int.emod_lt_of_pos (n.tdiv 11) (show (0 : Int) < 6 by decide)
  have h7 := Int.emod_nonneg (n.tdiv 13) (show (1000 : Int) ≠ 0 by decide)
  have h8 := Int.emod_nonneg (n.tdiv 17) (show (1099511627776 : Int) ≠ 0 by decide)
  have h9 := Int.emod_nonneg (n.tdiv 2) (show (4294967296 : Int) ≠ 0 by decide)
  have h9' := Int.emod_lt_of_pos (n.tdiv 2) (show (0 : Int) < 4294967296 by decide)
  have hA := Int.emod_nonneg (n.tdiv 7) (show (4294967296 : Int) ≠ 0 by decide)
  have hA' := Int.emod_lt_of_pos (n.tdiv 7) (show (0 : Int) < 4294967296 by decide)
  have t1 := top_small (a := ((n.tdiv 2) % 4294967296).toNat) (by omega)
  have t2 := top_small (a := ((n.tdiv 7) % 4294967296).toNat) (by omega)
  have q2 := Int.emod_nonneg n (show ((min b.length 16 + 1 : Nat) : Int) ≠ 0 by omega)
  have q2' := Int.emod_lt_of_pos n (show (0 : Int) < ((min b.length 16 + 1 : Nat) : Int) by omega)
  have q5 := Int.emod_nonneg (n.tdiv 3) (show ((min b.length 48 + 1 : Nat) : Int) ≠ 0 by omega)
  have q5' := Int.emod_lt_of_pos (n.tdiv 3) (show (0 : Int) < ((min b.length 48 + 1 : Nat) : Int) by omega)
  unfold zx mkR
  simp only [Bool.and_eq_true, decide_eq_true_eq]
  refine ⟨⟨⟨⟨⟨⟨⟨⟨⟨?_, nmB_ok s⟩, ?_⟩, ?_⟩, t1⟩, t2⟩, by omega⟩, by omega⟩, by omega⟩, by omega⟩
  · exact decide_eq_true (by omega)
  · rw [List.length_take]; omega
  · rw [List.length_take]; omega
end Go.Proofs.Ytlbkogdmojlpmaa
namespace Go.Proofs.Ytlbkogdmojlpmaa
open Go.ChangeShapes Go.WideShapes Go.ChangeAt Go.RowKit
theorem WireRecordRight_walk (a0 : Int) (hk0 : -9223372036854775808 ≤ a0) (hl0 : a0 < 9223372036854775808)
  (a1 : ByteArray) (hS1 : a1.size ≤ maxLen)
  (A2 : Option Addr) (n2 cap2 : Nat) (l2 : List UInt8) (hn2 : l2.length = n2) (hc2 : n2 ≤ cap2) (hm2 : cap2 ≤ maxLen) (hz2 : A2 = none → cap2 = 0)
  (a3 : Int) (hk3 : -9223372036854775808 ≤ a3) (hl3 : a3 < 9223372036854775808)
  (a4 : Int) (hk4 : -9223372036854775808 ≤ a4) (hl4 : a4 < 9223372036854775808)
  (a5 : ByteArray) (hS5 : a5.size ≤ maxLen) (w : World) (hr2 : Rd w A2 l2) :
  Calls Try.prog 8 #[.int .i64 a0, .string a1, .slice A2 n2 cap2, .int .i64 a3, .int .i64 a4, .string a5] w fun e w' => e = .returned (.bool true) ∧ Below w.heap.size w w' := by
 have ib2 : IsB w l2 (.slice A2 n2 cap2) := hr2.isB' hn2 hc2 hm2 hz2
 by_cases b0 : 40 < a1.size
 ·refine zf (args := [.int .i64 a0, .string a1, .slice A2 n2 cap2, .int .i64 a3, .int .i64 a4, .string a5]) 145 Try.func8 rfl rfl rfl ?_
  intro fa F
  have M := Mx.start w
  replace M := M.argB 0 ib2 (fun g e => by cases e)
  refine zT fun _ hK21 => ?_
  refine rm rfl F fun _ F22 => ?_
  refine hK21 _ _ (zS fun _ hK23 => ?_)
  refine zT fun _ hK24 => ?_
  refine ze (za rfl) rfl F22 rfl rfl (enters_of Try.func15 (by kernel_rfl) rfl) #[] (args0) (zk (lknown_any w)) ?_
  rintro _ w25 a25 ⟨rfl, b25⟩ F25
  have M25 := M.step b25
  refine rn rfl rfl F25 rfl (.bool false) (run_not _ _ rfl (F25.get (t := 18) rfl)) fun _ F26 => ?_
  refine hK24 _ _ (wp_cond_false (F26.get rfl) ?_)
  refine wp_skip ?_
  refine hK23 _ _ (zS fun _ hK27 => ?_)
  refine zT fun _ hK28 => ?_
  refine rm rfl F26 fun _ F29 => ?_
  refine rn rfl rfl F29 rfl (.int .i64 (a1.size : Int)) (y_lenS _ rfl (F29.get rfl) rfl) fun _ F30 => ?_
  refine rn rfl rfl F30 rfl (.bool true) (zqa _ _ _ _ rfl (F30.get rfl) rfl (decide_eq_true (show (40 : Int) < (a1.size : Int) by omega))) fun _ F31 => ?_
  refine exS 10 [(0, .int .i64 a0), (1, .string a1), (2, .slice A2 n2 cap2), (3, .int .i64 a3), (4, .int .i64 a4), (5, .string a5), (12, .bool false), (32, .bool true)] [] dnil [] F31 (by kernel_rfl) fun _ F32 => ?_
  refine hK28 _ _ (wp_cond_true (F32.get rfl) ?_)
  refine zT fun _ hK33 => ?_
  refine rm rfl F32 fun _ F34 => ?_
  refine hK33 _ _ (wp_ret ?_)
  try simp only [Exit.then, Exit.inBlock, Exit.jump]
  exact bodyPost_ret (res1 rfl (F34.get (t := 12) rfl)) F34.defers ⟨rfl, M25.below⟩
 by_cases b1 : 100 < l2.length
 ·refine zf (args := [.int .i64 a0, .string a1, .slice A2 n2 cap2, .int .i64 a3, .int .i64 a4, .string a5]) 145 Try.func8 rfl rfl rfl ?_
  intro fa F
  have M := Mx.start w
  replace M := M.argB 0 ib2 (fun g e => by cases e)
  refine zT fun _ hK21 => ?_
  refine rm rfl F fun _ F22 => ?_
  refine hK21 _ _ (zS fun _ hK23 => ?_)
  refine zT fun _ hK24 => ?_
  refine ze (za rfl) rfl F22 rfl rfl (enters_of Try.func15 (by kernel_rfl) rfl) #[] (args0) (zk (lknown_any w)) ?_
  rintro _ w25 a25 ⟨rfl, b25⟩ F25
  have M25 := M.step b25
  refine rn rfl rfl F25 rfl (.bool false) (run_not _ _ rfl (F25.get (t := 18) rfl)) fun _ F26 => ?_
  refine hK24 _ _ (wp_cond_false (F26.get rfl) ?_)
  refine wp_skip ?_
  refine hK23 _ _ (zS fun _ hK27 => ?_)
  refine zT fun _ hK28 => ?_
  refine rm rfl F26 fun _ F29 => ?_
  refine rn rfl rfl F29 rfl (.int .i64 (a1.size : Int)) (y_lenS _ rfl (F29.get rfl) rfl) fun _ F30 => ?_
  refine rn rfl rfl F30 rfl (.bool false) (zqa _ _ _ _ rfl (F30.get rfl) rfl (decide_eq_false (show ¬ (40 : Int) < (a1.size : Int) by omega))) fun _ F31 => ?_
  refine rm rfl F31 fun _ F32 => ?_
  refine rm rfl F32 fun _ F33 => ?_
  refine zd (w' := w25) (zb rfl rfl rfl (F33.get rfl)) rfl F33 rfl (.int .i64 (l2.length : Int)) (z0 _ rfl (F33.get rfl) (M25.isb (k := 0) rfl) rfl) fun _ F34 => ?_
  refine zd (w' := w25) (zb rfl rfl rfl (F34.get rfl)) rfl F34 rfl (.bool true) (zqa _ _ _ _ rfl (F34.get rfl) rfl (decide_eq_true (show (100 : Int) < (l2.length : Int) by omega))) fun _ F35 => ?_
  refine exA 6 [(27, .bool true), (28, .bool true), (29, undef), (30, undef), (31, undef), (32, .bool true)] [] dnil [] F35 (by kernel_rfl) (by kernel_rfl) fun _ F36 => ?_
  refine hK28 _ _ (wp_cond_true (F36.get rfl) ?_)
  refine zT fun _ hK37 => ?_
  refine rm rfl F36 fun _ F38 => ?_
  refine hK37 _ _ (wp_ret ?_)
  try simp only [Exit.then, Exit.inBlock, Exit.jump]
  exact bodyPost_ret (res1 rfl (F38.get (t := 12) rfl)) F38.defers ⟨rfl, M25.below⟩
 by_cases b2 : 40 < a5.size
 ·refine zf (args := [.int .i64 a0, .string a1, .slice A2 n2 cap2, .int .i64 a3, .int .i64 a4, .string a5]) 145 Try.func8 rfl rfl rfl ?_
  intro fa F
  have M := Mx.start w
  replace M := M.argB 0 ib2 (fun g e => by cases e)
  refine zT fun _ hK21 => ?_
  refine rm rfl F fun _ F22 => ?_
  refine hK21 _ _ (zS fun _ hK23 => ?_)
  refine zT fun _ hK24 => ?_
  refine ze (za rfl) rfl F22 rfl rfl (enters_of Try.func15 (by kernel_rfl) rfl) #[] (args0) (zk (lknown_any w)) ?_
  rintro _ w25 a25 ⟨rfl, b25⟩ F25
  have M25 := M.step b25
  refine rn rfl rfl F25 rfl (.bool false) (run_not _ _ rfl (F25.get (t := 18) rfl)) fun _ F26 => ?_
  refine hK24 _ _ (wp_cond_false (F26.get rfl) ?_)
  refine wp_skip ?_
  refine hK23 _ _ (zS fun _ hK27 => ?_)
  refine zT fun _ hK28 => ?_
  refine rm rfl F26 fun _ F29 => ?_
  refine rn rfl rfl F29 rfl (.int .i64 (a1.size : Int)) (y_lenS _ rfl (F29.get rfl) rfl) fun _ F30 => ?_
  refine rn rfl rfl F30 rfl (.bool false) (zqa _ _ _ _ rfl (F30.get rfl) rfl (decide_eq_false (show ¬ (40 : Int) < (a1.size : Int) by omega))) fun _ F31 => ?_
  refine rm rfl F31 fun _ F32 => ?_
  refine rm rfl F32 fun _ F33 => ?_
  refine zd (w' := w25) (zb rfl rfl rfl (F33.get rfl)) rfl F33 rfl (.int .i64 (l2.length : Int)) (z0 _ rfl (F33.get rfl) (M25.isb (k := 0) rfl) rfl) fun _ F34 => ?_
  refine zd (w' := w25) (zb rfl rfl rfl (F34.get rfl)) rfl F34 rfl (.bool false) (zqa _ _ _ _ rfl (F34.get rfl) rfl (decide_eq_false (show ¬ (100 : Int) < (l2.length : Int) by omega))) fun _ F35 => ?_
  refine exA 3 [(27, .bool false), (28, .bool false), (29, .string a5)] [] dnil [] F35 (by kernel_rfl) (by kernel_rfl) fun _ F36 => ?_
  refine zd (w' := w25) (zb rfl rfl rfl (F36.get rfl)) rfl F36 rfl (.int .i64 (a5.size : Int)) (y_lenS _ rfl (F36.get rfl) rfl) fun _ F37 => ?_
  refine zd (w' := w25) (zb rfl rfl rfl (F37.get rfl)) rfl F37 rfl (.bool true) (zqa _ _ _ _ rfl (F37.get rfl) rfl (decide_eq_true (show (40 : Int) < (a5.size : Int) by omega))) fun _ F38 => ?_
  refine rn rfl rfl F38 rfl (.bool true) (z9a rfl (F38.get rfl) (F38.get rfl)) fun _ F39 => ?_
  refine hK28 _ _ (wp_cond_true (F39.get rfl) ?_)
  refine zT fun _ hK40 => ?_
  refine rm rfl F39 fun _ F41 => ?_
  refine hK40 _ _ (wp_ret ?_)
  try simp only [Exit.then, Exit.inBlock, Exit.jump]
  exact bodyPost_ret (res1 rfl (F41.get (t := 12) rfl)) F41.defers ⟨rfl, M25.below⟩
 have hs : a1.size ≤ 40 := by omega
 have hnm : a5.size ≤ 40 := by omega
 obtain ⟨r, er⟩ : ∃ x, mkR a0 a1 l2 = x := ⟨_, rfl⟩
 have or := mkR_ok a0 a1 l2
 have pr := mkR_keep a0 a1 l2
 rw [er] at or pr
 obtain ⟨xr, hr2⟩ : ∃ x, recE r = x := ⟨_, rfl⟩
 obtain ⟨j4, hj4, bj4⟩ : ∃ j : Nat, a4 % 4 = (j : Int) ∧ j < 4 := ⟨(a4 % 4).toNat, by omega, by omega⟩
 obtain ⟨j5, hj5, bj5⟩ : ∃ j : Nat, a4 % 5 = (j : Int) ∧ j < 5 := ⟨(a4 % 5).toNat, by omega, by omega⟩
 obtain ⟨j6, hj6, bj6⟩ : ∃ j : Nat, a4 % 6 = (j : Int) ∧ j < 6 := ⟨(a4 % 6).toNat, by omega, by omega⟩
 obtain ⟨j19, hj19, bj19⟩ : ∃ j : Nat, a4 % 19 = (j : Int) ∧ j < 19 := ⟨(a4 % 19).toNat, by omega, by omega⟩
 obtain ⟨j52, hj52, bj52⟩ : ∃ j : Nat, a4 % 52 = (j : Int) ∧ j < 52 := ⟨(a4 % 52).toNat, by omega, by omega⟩
 obtain ⟨jw, hjw, bjw⟩ : ∃ j : Nat, a3 % 9 = (j : Int) ∧ j < 9 := ⟨(a3 % 9).toNat, by omega, by omega⟩
 obtain ⟨NM, hNM⟩ : ∃ n, mkN a4 3 (fun _ => a4) = n := ⟨_, rfl⟩
 have hNl : NM < 4294967296 ^ 8 := by rw [← hNM]; exact mkN_lt _ _ _
 refine zf (args := [.int .i64 a0, .string a1, .slice A2 n2 cap2, .int .i64 a3, .int .i64 a4, .string a5]) 145 Try.func8 rfl rfl rfl ?_
 intro fa F
 have M := Mx.start w
 replace M := M.argB 0 ib2 (fun g e => by cases e)
 refine zT fun _ hK21 => ?_
 refine rm rfl F fun _ F22 => ?_
 refine hK21 _ _ (zS fun _ hK23 => ?_)
 refine zT fun _ hK24 => ?_
 refine ze (za rfl) rfl F22 rfl rfl (enters_of Try.func15 (by kernel_rfl) rfl) #[] (args0) (zk (lknown_any w)) ?_
 rintro _ w25 a25 ⟨rfl, b25⟩ F25
 have M25 := M.step b25
 refine rn rfl rfl F25 rfl (.bool false) (run_not _ _ rfl (F25.get (t := 18) rfl)) fun _ F26 => ?_
 refine hK24 _ _ (wp_cond_false (F26.get rfl) ?_)
 refine wp_skip ?_
 refine hK23 _ _ (zS fun _ hK27 => ?_)
 refine zT fun _ hK28 => ?_
 refine rm rfl F26 fun _ F29 => ?_
 refine rn rfl rfl F29 rfl (.int .i64 (a1.size : Int)) (y_lenS _ rfl (F29.get rfl) rfl) fun _ F30 => ?_
 refine rn rfl rfl F30 rfl (.bool false) (zqa _ _ _ _ rfl (F30.get rfl) rfl (decide_eq_false (show ¬ (40 : Int) < (a1.size : Int) by omega))) fun _ F31 => ?_
 refine rm rfl F31 fun _ F32 => ?_
 refine rm rfl F32 fun _ F33 => ?_
 refine zd (w' := w25) (zb rfl rfl rfl (F33.get rfl)) rfl F33 rfl (.int .i64 (l2.length : Int)) (z0 _ rfl (F33.get rfl) (M25.isb (k := 0) rfl) rfl) fun _ F34 => ?_
 refine zd (w' := w25) (zb rfl rfl rfl (F34.get rfl)) rfl F34 rfl (.bool false) (zqa _ _ _ _ rfl (F34.get rfl) rfl (decide_eq_false (show ¬ (100 : Int) < (l2.length : Int) by omega))) fun _ F35 => ?_
 refine exA 3 [(27, .bool false), (28, .bool false), (29, .string a5)] [] dnil [] F35 (by kernel_rfl) (by kernel_rfl) fun _ F36 => ?_
 refine zd (w' := w25) (zb rfl rfl rfl (F36.get rfl)) rfl F36 rfl (.int .i64 (a5.size : Int)) (y_lenS _ rfl (F36.get rfl) rfl) fun _ F37 => ?_
 refine zd (w' := w25) (zb rfl rfl rfl (F37.get rfl)) rfl F37 rfl (.bool false) (zqa _ _ _ _ rfl (F37.get rfl) rfl (decide_eq_false (show ¬ (40 : Int) < (a5.size : Int) by omega))) fun _ F38 => ?_
 refine rn rfl rfl F38 rfl (.bool false) (z9a rfl (F38.get rfl) (F38.get rfl)) fun _ F39 => ?_
 refine hK28 _ _ (wp_cond_false (F39.get rfl) ?_)
 refine wp_skip ?_
 refine hK27 _ _ (zS fun _ hK40 => ?_)
 refine zR ?_
 refine rm rfl F39 fun _ F41 => ?_
 refine rm rfl F41 fun _ F42 => ?_
 refine rm rfl F42 fun _ F43 => ?_
 refine ze (za rfl) rfl F43 rfl rfl (enters_of Try.func34 (by kernel_rfl) rfl) #[.int .i64 a0, .string a1, .slice A2 n2 cap2] (args3 (F43.get rfl) (F43.get rfl) (F43.get rfl)) (maker_is a0 a1 l2 (.slice A2 n2 cap2) ⟨hk0, hl0⟩ hs (by omega) r er w25 (M25.isb (k := 0) rfl)) ?_
 rintro _ w44 a44 ⟨V44, rfl, is44, lo44, b44⟩ F44
 have M44 := M25.newRec b44 is44 lo44 1 2
 clear M25 b44 lo44
 refine zn (za rfl) rfl F44 rfl M44 3 (t := 54) (c := recA ⟨0, "".toUTF8, [], 0, 0, [], 0, 0, 0⟩ ⟨zN, zN⟩) (by unfold execOp; kernel_rfl) ?_
 intro g45 a45 w45 F45 M45
 clear F44 M44
 refine zy (za rfl) rfl F45 M45 (k := 3) rfl _ _ _ rfl (F45.get rfl) (F45.get rfl) (recA r V44) (recA r V44) rfl (Nat.le_of_ble_eq_true rfl) (recA_one (w := w45) ⟨(M45.isb (k := 1) rfl), (M45.isb (k := 2) rfl)⟩) (zga rfl) (by kernel_rfl) ?_
 intro w46 M46
 clear M45
 refine hK40 _ _ (zS fun K47 hK47 => ?_)
 have J47 : ∀ (r2 : RecN) (V2 : RecV) (aJ : Act) (wJ : World), (RecOk r2) → Fx 145 aJ [(13, .pointer (some ⟨g45, 0, none⟩))] → Mx none w wJ [(3, blkR g45 54 (recA r2 V2)), (900, bytR r2.l2 V2.v2), (901, bytR r2.l5 V2.v5)] → K47 aJ wJ := by
  clear F45 M46
  intro r2 V2 a47 w47 I47 F47 M47
  refine hK47 _ _ ?_
  obtain ⟨q2, hq2⟩ : ∃ b, zx r2 = b := ⟨_, rfl⟩
  obtain ⟨x2, hx2⟩ : ∃ l, recE r2 = l := ⟨_, rfl⟩
  refine zT fun _ hK48 => ?_
  refine rn rfl rfl F47 rfl (.agg (recA r2 V2)) (zwa _ _ rfl (F47.get rfl) (M47.blk (k := 3) rfl) (recA r2 V2) (y_all rfl) Try.underlying54 rfl (by kernel_rfl)) fun _ F49 => ?_
  refine ze (za rfl) rfl F49 rfl rfl (enters_of Try.func35 (by kernel_rfl) rfl) #[.agg (recA r2 V2)] (zp (F49.get rfl)) (rec_is r2 V2 I47 q2 x2 hq2 hx2 w47 ⟨(M47.isb (k := 900) rfl), (M47.isb (k := 901) rfl)⟩) ?_
  rintro _ w50 a50 ⟨v50, rfl, hv50, b50⟩ F50
  have M50 := M47.newO b50 4 hv50
  clear M47 b50 hv50
  obtain ⟨A50, c50, rfl⟩ := (M50.isO (k := 4) rfl).shape
  refine exS 5 [(13, .pointer (some ⟨g45, 0, none⟩)), (14, .slice A50 (x2).length c50), (15, .bool q2)] [] dnil [] F50 (by kernel_rfl) fun _ F51 => ?_
  refine hK48 _ _ (zS fun _ hK52 => ?_)
  refine zR ?_
  refine rn rfl rfl F51 rfl (.agg (recA r2 V2)) (zwa _ _ rfl (F51.get rfl) (M50.blk (k := 3) rfl) (recA r2 V2) (y_all rfl) Try.underlying54 rfl (by kernel_rfl)) fun _ F53 => ?_
  refine ze (za rfl) rfl F53 rfl rfl (enters_of Try.func36 (by kernel_rfl) rfl) #[.agg (recA r2 V2)] (zp (F53.get rfl)) (rrec_is r2 V2 I47 q2 x2 hq2 hx2 w50 ⟨(M50.isb (k := 900) rfl), (M50.isb (k := 901) rfl)⟩) ?_
  rintro _ w54 a54 ⟨v54, rfl, hv54, b54⟩ F54
  have M54 := M50.newO b54 5 hv54
  clear M50 b54 hv54
  obtain ⟨A54, c54, rfl⟩ := (M54.isO (k := 5) rfl).shape
  refine exS 5 [(14, .slice A50 (x2).length c50), (15, .bool q2), (16, .slice A54 (x2).length c54), (17, .bool q2)] [] dnil [] F54 (by kernel_rfl) fun _ F55 => ?_
  refine hK52 _ _ (zS fun _ hK56 => ?_)
  refine zR ?_
  refine rm rfl F55 fun _ F57 => ?_
  refine rm rfl F57 fun _ F58 => ?_
  cases q2
  ·refine rn rfl rfl F58 rfl (.bool true) (y_eqB _ _ rfl (F58.get rfl) (F58.get rfl) rfl) fun _ F59 => ?_
   refine rm rfl F59 fun _ F60 => ?_
   refine rm rfl F60 fun _ F61 => ?_
   refine zd (w' := w54) (zb rfl rfl rfl (F61.get rfl)) rfl F61 rfl (.string (⟨(x2).toArray⟩)) (y_str _ rfl (F61.get rfl) (M54.isO (k := 4) rfl)) fun _ F62 => ?_
   refine rm rfl F62 fun _ F63 => ?_
   refine zd (w' := w54) (zb rfl rfl rfl (F63.get rfl)) rfl F63 rfl (.string (⟨(x2).toArray⟩)) (y_str _ rfl (F63.get rfl) (M54.isO (k := 5) rfl)) fun _ F64 => ?_
   refine zd (w' := w54) (zb rfl rfl rfl (F64.get rfl)) rfl F64 rfl (.bool true) (y_eqS _ _ _ rfl (F64.get rfl) (F64.get rfl) (str_eq rfl)) fun _ F65 => ?_
   refine exS 2 [(12, .bool true)] [] dnil [] F65 (by kernel_rfl) fun _ F66 => ?_
   refine hK56 _ _ (wp_ret ?_)
   try simp only [Exit.then, Exit.inBlock, Exit.jump]
   exact bodyPost_ret (res1 rfl (F66.get (t := 12) rfl)) F66.defers ⟨rfl, M54.below⟩
  ·refine rn rfl rfl F58 rfl (.bool true) (y_eqB _ _ rfl (F58.get rfl) (F58.get rfl) rfl) fun _ F67 => ?_
   refine rm rfl F67 fun _ F68 => ?_
   refine rm rfl F68 fun _ F69 => ?_
   refine zd (w' := w54) (zb rfl rfl rfl (F69.get rfl)) rfl F69 rfl (.string (⟨(x2).toArray⟩)) (y_str _ rfl (F69.get rfl) (M54.isO (k := 4) rfl)) fun _ F70 => ?_
   refine rm rfl F70 fun _ F71 => ?_
   refine zd (w' := w54) (zb rfl rfl rfl (F71.get rfl)) rfl F71 rfl (.string (⟨(x2).toArray⟩)) (y_str _ rfl (F71.get rfl) (M54.isO (k := 5) rfl)) fun _ F72 => ?_
   refine zd (w' := w54) (zb rfl rfl rfl (F72.get rfl)) rfl F72 rfl (.bool true) (y_eqS _ _ _ rfl (F72.get rfl) (F72.get rfl) (str_eq rfl)) fun _ F73 => ?_
   refine exS 2 [(12, .bool true)] [] dnil [] F73 (by kernel_rfl) fun _ F74 => ?_
   refine hK56 _ _ (wp_ret ?_)
   try simp only [Exit.then, Exit.inBlock, Exit.jump]
   exact bodyPost_ret (res1 rfl (F74.get (t := 12) rfl)) F74.defers ⟨rfl, M54.below⟩
 refine zT fun _ hK75 => ?_
 refine rm rfl F45 fun _ F76 => ?_
 refine ze (za rfl) rfl F76 rfl rfl (enters_of Try.func22 (by kernel_rfl) rfl) #[.int .i64 a3, .int .i64 9] (zla (F76.get rfl) rfl) (zk ((hjw ▸ z7 a3 9 (by omega) (by omega) (by omega) (by omega) w46))) ?_
 rintro _ w77 a77 ⟨rfl, rfl⟩ F77
 refine hK75 _ _ (wp_block ?_)
 refine zT fun _ hK78 => ?_
 by_cases h79 : (jw : Int) = 0
 ·refine rn rfl rfl F77 rfl (.bool true) (zh _ _ _ _ rfl (F77.get rfl) rfl Try.underlying3 (z8 h79)) fun _ F80 => ?_
  refine rm rfl F80 fun _ F81 => ?_
  refine hK78 _ _ (wp_cond_true (F81.get rfl) ?_)
  refine zR ?_
  refine rm rfl F81 fun _ F82 => ?_
  refine z9 (za rfl) rfl F82 rfl M46 4 (t := 3) (c := #[.int .i64 (-1), .int .i64 0, .int .i64 1, .int .i64 2, .int .i64 3, .int .i64 a4]) (k := 6) (m := 6) (y_litG 38 3 (s := 1) (zv := .int .i64 0) Try.underlying38 (by kernel_rfl) (by kernel_rfl) rfl (#[.int .i64 (-1), .int .i64 0, .int .i64 1, .int .i64 2, .int .i64 3, .int .i64 a4]) (by decide) (by decide) (by simp only [List.map_toArray, List.map_cons, List.map_nil, (F82.get (t := 41) rfl)]; kernel_rfl)) ?_
  intro g83 a83 w83 F83 M83
  clear F82 M46
  refine rm rfl F83 fun _ F84 => ?_
  refine ze (za rfl) rfl F84 rfl rfl (enters_of Try.func22 (by kernel_rfl) rfl) #[.int .i64 a4, .int .i64 6] (zla (F84.get rfl) rfl) (zk ((hj6 ▸ z7 a4 6 (by omega) (by omega) (by omega) (by omega) w83))) ?_
  rintro _ w85 a85 ⟨rfl, rfl⟩ F85
  refine rn rfl rfl F85 rfl (.pointer (some ⟨g83, (0 + j6 * 1), none⟩)) (y_ixG 38 (s := 1) Try.underlying38 (by kernel_rfl) _ _ rfl (F85.get rfl) (F85.get rfl) rfl bj6 rfl) fun _ F86 => ?_
  obtain ⟨z87, e87, l87, u87⟩ : ∃ z : Int, (#[.int .i64 (-1), .int .i64 0, .int .i64 1, .int .i64 2, .int .i64 3, .int .i64 a4] : Array Value)[j6]? = some (.int .i64 z) ∧ -9223372036854775808 ≤ z ∧ z < 9223372036854775808 := by
   match j6, bj6 with
   | 0, _ => exact ⟨_, rfl, by omega, by omega⟩
   | 1, _ => exact ⟨_, rfl, by omega, by omega⟩
   | 2, _ => exact ⟨_, rfl, by omega, by omega⟩
   | 3, _ => exact ⟨_, rfl, by omega, by omega⟩
   | 4, _ => exact ⟨_, rfl, by omega, by omega⟩
   | 5, _ => exact ⟨_, rfl, by omega, by omega⟩
   | n + 6, h => exact absurd h (by omega)
  refine rn rfl rfl F86 rfl (.int .i64 z87) (y_ld1 _ _ rfl (F86.get rfl) (M83.blk (k := 4) rfl) (show _ from by rw [Nat.zero_add, Nat.mul_one]; exact e87) Try.underlying3 rfl) fun _ F88 => ?_
  refine rn rfl rfl F88 rfl (.pointer (some ⟨g45, 0, none⟩)) (y_fa (off := 0) rfl (F88.get rfl) (by kernel_rfl) rfl) fun _ F89 => ?_
  refine zy (za rfl) rfl F89 M83 (k := 3) rfl _ _ _ rfl (F89.get rfl) (F89.get rfl) (#[.int .i64 z87]) (recA ⟨z87, r.s, r.l2, r.a, r.b, r.l5, r.t, r.c, r.z⟩ ⟨V44.v2, V44.v5⟩) rfl (Nat.le_of_ble_eq_true rfl) (zcb _ _) (by kernel_rfl) (by kernel_rfl) ?_
  intro w90 M90
  clear M83
  exact J47 (⟨z87, r.s, r.l2, r.a, r.b, r.l5, r.t, r.c, r.z⟩) (⟨V44.v2, V44.v5⟩) _ _ ⟨⟨l87, u87⟩, or.t, or.c, or.z, or.s, or.a, or.b⟩ (F89.sub ⟨rfl, trivial⟩) (M90.re ⟨⟨3, rfl, fun _ => rfl⟩, ⟨1, rfl, fun h => by cases h⟩, ⟨2, rfl, fun h => by cases h⟩, trivial⟩)
 refine rn rfl rfl F77 rfl (.bool false) (zh _ _ _ _ rfl (F77.get rfl) rfl Try.underlying3 (zi h79)) fun _ F91 => ?_
 refine rm rfl F91 fun _ F92 => ?_
 refine hK78 _ _ (wp_cond_false (F92.get rfl) ?_)
 refine zT fun _ hK93 => ?_
 by_cases h94 : (jw : Int) = 1
 ·refine rn rfl rfl F92 rfl (.bool true) (zh _ _ _ _ rfl (F92.get rfl) rfl Try.underlying3 (z8 h94)) fun _ F95 => ?_
  refine rm rfl F95 fun _ F96 => ?_
  refine hK93 _ _ (wp_cond_true (F96.get rfl) ?_)
  refine zR ?_
  refine rm rfl F96 fun _ F97 => ?_
  refine rn rfl rfl F97 rfl (.pointer (some ⟨g45, 1, none⟩)) (y_fa (off := 1) rfl (F97.get rfl) (by kernel_rfl) rfl) fun _ F98 => ?_
  refine zy (za rfl) rfl F98 M46 (k := 3) rfl _ _ _ rfl (F98.get rfl) (F98.get rfl) (#[.string a5]) (recA ⟨r.p, a5, r.l2, r.a, r.b, r.l5, r.t, r.c, r.z⟩ ⟨V44.v2, V44.v5⟩) rfl (Nat.le_of_ble_eq_true rfl) (one_str _) (by kernel_rfl) (by kernel_rfl) ?_
  intro w99 M99
  clear M46
  exact J47 (⟨r.p, a5, r.l2, r.a, r.b, r.l5, r.t, r.c, r.z⟩) (⟨V44.v2, V44.v5⟩) _ _ ⟨or.p, or.t, or.c, or.z, (Nat.le_trans hnm (by decide)), or.a, or.b⟩ (F98.sub ⟨rfl, trivial⟩) (M99.re ⟨⟨3, rfl, fun _ => rfl⟩, ⟨1, rfl, fun h => by cases h⟩, ⟨2, rfl, fun h => by cases h⟩, trivial⟩)
 refine rn rfl rfl F92 rfl (.bool false) (zh _ _ _ _ rfl (F92.get rfl) rfl Try.underlying3 (zi h94)) fun _ F100 => ?_
 refine rm rfl F100 fun _ F101 => ?_
 refine hK93 _ _ (wp_cond_false (F101.get rfl) ?_)
 refine zT fun _ hK102 => ?_
 by_cases h103 : (jw : Int) = 2
 ·refine rn rfl rfl F101 rfl (.bool true) (zh _ _ _ _ rfl (F101.get rfl) rfl Try.underlying3 (z8 h103)) fun _ F104 => ?_
  refine rm rfl F104 fun _ F105 => ?_
  refine hK102 _ _ (wp_cond_true (F105.get rfl) ?_)
  refine zR ?_
  refine rm rfl F105 fun _ F106 => ?_
  refine ze (za rfl) rfl F106 rfl rfl (enters_of Try.func22 (by kernel_rfl) rfl) #[.int .i64 a4, .int .i64 19] (zla (F106.get rfl) rfl) (zk ((hj19 ▸ z7 a4 19 (by omega) (by omega) (by omega) (by omega) w46))) ?_
  rintro _ w107 a107 ⟨rfl, rfl⟩ F107
  refine z5 (za rfl) rfl F107 rfl (run_makeO M46 4 _ _ rfl j19 (F107.get rfl) (F107.get rfl) rfl (by omega)) ?_
  intro v108 a108 w108 F108 M108
  clear F107 M46
  obtain ⟨A108, c108, rfl⟩ := (M108.isO (k := 4) rfl).shape
  refine rn rfl rfl F108 rfl (.pointer (some ⟨g45, 2, none⟩)) (y_fa (off := 2) rfl (F108.get rfl) (by kernel_rfl) rfl) fun _ F109 => ?_
  refine zy (za rfl) rfl F109 M108 (k := 3) rfl _ _ _ rfl (F109.get rfl) (F109.get rfl) (#[.slice A108 ((List.replicate j19 (0 : UInt8))).length c108]) (recA ⟨r.p, r.s, (List.replicate j19 (0 : UInt8)), r.a, r.b, r.l5, r.t, r.c, r.z⟩ ⟨.slice A108 ((List.replicate j19 (0 : UInt8))).length c108, V44.v5⟩) rfl (Nat.le_of_ble_eq_true rfl) (one_slcB (M108.isO (k := 4) rfl)) (by kernel_rfl) (by kernel_rfl) ?_
  intro w110 M110
  clear M108
  have M111 := M110.tame (k := 4) rfl
  clear M110
  exact J47 (⟨r.p, r.s, (List.replicate j19 (0 : UInt8)), r.a, r.b, r.l5, r.t, r.c, r.z⟩) (⟨.slice A108 ((List.replicate j19 (0 : UInt8))).length c108, V44.v5⟩) _ _ ⟨or.p, or.t, or.c, or.z, or.s, or.a, or.b⟩ (F109.sub ⟨rfl, trivial⟩) (M111.re ⟨⟨3, rfl, fun _ => rfl⟩, ⟨4, rfl, fun h => by cases h⟩, ⟨2, rfl, fun h => by cases h⟩, trivial⟩)
 refine rn rfl rfl F101 rfl (.bool false) (zh _ _ _ _ rfl (F101.get rfl) rfl Try.underlying3 (zi h103)) fun _ F112 => ?_
 refine rm rfl F112 fun _ F113 => ?_
 refine hK102 _ _ (wp_cond_false (F113.get rfl) ?_)
 refine zT fun _ hK114 => ?_
 by_cases h115 : (jw : Int) = 3
 ·refine rn rfl rfl F113 rfl (.bool true) (zh _ _ _ _ rfl (F113.get rfl) rfl Try.underlying3 (z8 h115)) fun _ F116 => ?_
  refine rm rfl F116 fun _ F117 => ?_
  refine hK114 _ _ (wp_cond_true (F117.get rfl) ?_)
  refine zR ?_
  refine rm rfl F117 fun _ F118 => ?_
  refine ze (za rfl) rfl F118 rfl rfl (enters_of Try.func22 (by kernel_rfl) rfl) #[.int .i64 a4, .int .i64 52] (zla (F118.get rfl) rfl) (zk ((hj52 ▸ z7 a4 52 (by omega) (by omega) (by omega) (by omega) w46))) ?_
  rintro _ w119 a119 ⟨rfl, rfl⟩ F119
  refine z5 (za rfl) rfl F119 rfl (run_makeO M46 4 _ _ rfl j52 (F119.get rfl) (F119.get rfl) rfl (by omega)) ?_
  intro v120 a120 w120 F120 M120
  clear F119 M46
  obtain ⟨A120, c120, rfl⟩ := (M120.isO (k := 4) rfl).shape
  refine rn rfl rfl F120 rfl (.pointer (some ⟨g45, 19, none⟩)) (y_fa (off := 19) rfl (F120.get rfl) (by kernel_rfl) rfl) fun _ F121 => ?_
  refine zy (za rfl) rfl F121 M120 (k := 3) rfl _ _ _ rfl (F121.get rfl) (F121.get rfl) (#[.slice A120 ((List.replicate j52 (0 : UInt8))).length c120]) (recA ⟨r.p, r.s, r.l2, r.a, r.b, (List.replicate j52 (0 : UInt8)), r.t, r.c, r.z⟩ ⟨V44.v2, .slice A120 ((List.replicate j52 (0 : UInt8))).length c120⟩) rfl (Nat.le_of_ble_eq_true rfl) (one_slcB (M120.isO (k := 4) rfl)) (by kernel_rfl) (by kernel_rfl) ?_
  intro w122 M122
  clear M120
  have M123 := M122.tame (k := 4) rfl
  clear M122
  exact J47 (⟨r.p, r.s, r.l2, r.a, r.b, (List.replicate j52 (0 : UInt8)), r.t, r.c, r.z⟩) (⟨V44.v2, .slice A120 ((List.replicate j52 (0 : UInt8))).length c120⟩) _ _ ⟨or.p, or.t, or.c, or.z, or.s, or.a, or.b⟩ (F121.sub ⟨rfl, trivial⟩) (M123.re ⟨⟨3, rfl, fun _ => rfl⟩, ⟨1, rfl, fun h => by cases h⟩, ⟨4, rfl, fun h => by cases h⟩, trivial⟩)
 refine rn rfl rfl F113 rfl (.bool false) (zh _ _ _ _ rfl (F113.get rfl) rfl Try.underlying3 (zi h115)) fun _ F124 => ?_
 refine rm rfl F124 fun _ F125 => ?_
 refine hK114 _ _ (wp_cond_false (F125.get rfl) ?_)
 refine zT fun _ hK126 => ?_
 by_cases h127 : (jw : Int) = 4
 ·refine rn rfl rfl F125 rfl (.bool true) (zh _ _ _ _ rfl (F125.get rfl) rfl Try.underlying3 (z8 h127)) fun _ F128 => ?_
  refine rm rfl F128 fun _ F129 => ?_
  refine hK126 _ _ (wp_cond_true (F129.get rfl) ?_)
  refine zR ?_
  refine rn rfl rfl F129 rfl (numV 0) (y_zbuild rfl) fun _ F130 => ?_
  refine ze (za rfl) rfl F130 rfl rfl (enters_of Try.func24 (by kernel_rfl) rfl) #[.int .i64 4294967295] (zp rfl) (zk ((from_ref 4294967295 (by decide) (by decide) w46))) ?_
  rintro _ w131 a131 ⟨rfl, b131⟩ F131
  have M131 := M46.step b131
  refine ze (za rfl) rfl F131 rfl rfl (enters_of Try.func24 (by kernel_rfl) rfl) #[.int .i64 4294967296] (zp rfl) (zk ((from_ref 4294967296 (by decide) (by decide) w131))) ?_
  rintro _ w132 a132 ⟨rfl, b132⟩ F132
  have M132 := M131.step b132
  refine rm rfl F132 fun _ F133 => ?_
  refine rm rfl F133 fun _ F134 => ?_
  refine rm rfl F134 fun _ F135 => ?_
  refine rm rfl F135 fun _ F136 => ?_
  refine z9 (za rfl) rfl F136 rfl M132 4 (t := 3) (c := #[.int .i64 a4, .int .i64 a4, .int .i64 a4]) (k := 3) (m := 3) (y_litG 38 3 (s := 1) (zv := .int .i64 0) Try.underlying38 (by kernel_rfl) (by kernel_rfl) rfl (#[.int .i64 a4, .int .i64 a4, .int .i64 a4]) (by decide) (by decide) (by simp only [List.map_toArray, List.map_cons, List.map_nil, (F136.get (t := 70) rfl), (F136.get (t := 71) rfl), (F136.get (t := 72) rfl)]; kernel_rfl)) ?_
  intro g137 a137 w137 F137 M137
  clear F136 M132
  refine ze (za rfl) rfl F137 rfl rfl (enters_of Try.func40 (by kernel_rfl) rfl) #[.int .i64 a4, .slice (some ⟨g137, 0, none⟩) 3 3] (zla (F137.get rfl) (F137.get rfl)) (zk ((hNM ▸ make_det a4 hk4 hl4 _ 3 3 (fun _ => a4) w137 (rdI_same (M137.blk (k := 4) rfl) ⟨hk4, hl4⟩)))) ?_
  rintro _ w138 a138 ⟨rfl, b138⟩ F138
  have M138 := M137.step b138
  refine z9 (za rfl) rfl F138 rfl M138 5 (t := 27) (c := #[numF 0 0, numF 0 1, numF 0 2, numF 0 3, numF 0 4, numF 0 5, numF 0 6, numF 0 7, numF ((4294967295 : Int).toNat) 0, numF ((4294967295 : Int).toNat) 1, numF ((4294967295 : Int).toNat) 2, numF ((4294967295 : Int).toNat) 3, numF ((4294967295 : Int).toNat) 4, numF ((4294967295 : Int).toNat) 5, numF ((4294967295 : Int).toNat) 6, numF ((4294967295 : Int).toNat) 7, numF ((4294967296 : Int).toNat) 0, numF ((4294967296 : Int).toNat) 1, numF ((4294967296 : Int).toNat) 2, numF ((4294967296 : Int).toNat) 3, numF ((4294967296 : Int).toNat) 4, numF ((4294967296 : Int).toNat) 5, numF ((4294967296 : Int).toNat) 6, numF ((4294967296 : Int).toNat) 7, numF NM 0, numF NM 1, numF NM 2, numF NM 3, numF NM 4, numF NM 5, numF NM 6, numF NM 7]) (k := 4) (m := 4) (y_litG 44 27 (s := 8) (zv := .agg #[.int .u32 0, .int .u32 0, .int .u32 0, .int .u32 0, .int .u32 0, .int .u32 0, .int .u32 0, .int .u32 0]) Try.underlying44 (by kernel_rfl) (by kernel_rfl) rfl (#[numF 0 0, numF 0 1, numF 0 2, numF 0 3, numF 0 4, numF 0 5, numF 0 6, numF 0 7, numF ((4294967295 : Int).toNat) 0, numF ((4294967295 : Int).toNat) 1, numF ((4294967295 : Int).toNat) 2, numF ((4294967295 : Int).toNat) 3, numF ((4294967295 : Int).toNat) 4, numF ((4294967295 : Int).toNat) 5, numF ((4294967295 : Int).toNat) 6, numF ((4294967295 : Int).toNat) 7, numF ((4294967296 : Int).toNat) 0, numF ((4294967296 : Int).toNat) 1, numF ((4294967296 : Int).toNat) 2, numF ((4294967296 : Int).toNat) 3, numF ((4294967296 : Int).toNat) 4, numF ((4294967296 : Int).toNat) 5, numF ((4294967296 : Int).toNat) 6, numF ((4294967296 : Int).toNat) 7, numF NM 0, numF NM 1, numF NM 2, numF NM 3, numF NM 4, numF NM 5, numF NM 6, numF NM 7]) (by decide) (by decide) (by simp only [List.map_toArray, List.map_cons, List.map_nil, (F138.get (t := 66) rfl), (F138.get (t := 67) rfl), (F138.get (t := 68) rfl), (F138.get (t := 74) rfl)]; kernel_rfl)) ?_
  intro g139 a139 w139 F139 M139
  clear F138 M138
  refine rm rfl F139 fun _ F140 => ?_
  refine ze (za rfl) rfl F140 rfl rfl (enters_of Try.func22 (by kernel_rfl) rfl) #[.int .i64 a4, .int .i64 4] (zla (F140.get rfl) rfl) (zk ((hj4 ▸ z7 a4 4 (by omega) (by omega) (by omega) (by omega) w139))) ?_
  rintro _ w141 a141 ⟨rfl, rfl⟩ F141
  refine rn rfl rfl F141 rfl (.pointer (some ⟨g139, (0 + j4 * 8), none⟩)) (y_ixG 44 (s := 8) Try.underlying44 (by kernel_rfl) _ _ rfl (F141.get rfl) (F141.get rfl) rfl bj4 rfl) fun _ F142 => ?_
  obtain ⟨N143, b143, e143⟩ : ∃ N : Nat, N < 4294967296 ^ 8 ∧ ∀ (i : Nat) (v : Value), (numA N)[i]? = some v → (#[numF 0 0, numF 0 1, numF 0 2, numF 0 3, numF 0 4, numF 0 5, numF 0 6, numF 0 7, numF ((4294967295 : Int).toNat) 0, numF ((4294967295 : Int).toNat) 1, numF ((4294967295 : Int).toNat) 2, numF ((4294967295 : Int).toNat) 3, numF ((4294967295 : Int).toNat) 4, numF ((4294967295 : Int).toNat) 5, numF ((4294967295 : Int).toNat) 6, numF ((4294967295 : Int).toNat) 7, numF ((4294967296 : Int).toNat) 0, numF ((4294967296 : Int).toNat) 1, numF ((4294967296 : Int).toNat) 2, numF ((4294967296 : Int).toNat) 3, numF ((4294967296 : Int).toNat) 4, numF ((4294967296 : Int).toNat) 5, numF ((4294967296 : Int).toNat) 6, numF ((4294967296 : Int).toNat) 7, numF NM 0, numF NM 1, numF NM 2, numF NM 3, numF NM 4, numF NM 5, numF NM 6, numF NM 7] : Array Value)[0 + j4 * 8 + i]? = some v := by
   match j4, bj4 with
   | 0, _ => exact ⟨0, by decide, y_part8 (by kernel_rfl) (by kernel_rfl) (by kernel_rfl) (by kernel_rfl) (by kernel_rfl) (by kernel_rfl) (by kernel_rfl) (by kernel_rfl)⟩
   | 1, _ => exact ⟨((4294967295 : Int).toNat), by decide, y_part8 (by kernel_rfl) (by kernel_rfl) (by kernel_rfl) (by kernel_rfl) (by kernel_rfl) (by kernel_rfl) (by kernel_rfl) (by kernel_rfl)⟩
   | 2, _ => exact ⟨((4294967296 : Int).toNat), by decide, y_part8 (by kernel_rfl) (by kernel_rfl) (by kernel_rfl) (by kernel_rfl) (by kernel_rfl) (by kernel_rfl) (by kernel_rfl) (by kernel_rfl)⟩
   | 3, _ => exact ⟨NM, hNl, y_part8 (by kernel_rfl) (by kernel_rfl) (by kernel_rfl) (by kernel_rfl) (by kernel_rfl) (by kernel_rfl) (by kernel_rfl) (by kernel_rfl)⟩
   | n + 4, h => exact absurd h (by omega)
  refine rn rfl rfl F142 rfl (numV N143) (zwa _ _ rfl (F142.get rfl) (M139.blk (k := 5) rfl) (numA N143) e143 Try.underlying27 rfl zu) fun _ F144 => ?_
  refine rn rfl rfl F144 rfl (.pointer (some ⟨g45, 3, none⟩)) (y_fa (off := 3) rfl (F144.get rfl) (by kernel_rfl) rfl) fun _ F145 => ?_
  refine zy (za rfl) rfl F145 M139 (k := 3) rfl _ _ _ rfl (F145.get rfl) (F145.get rfl) (numA N143) (recA ⟨r.p, r.s, r.l2, N143, r.b, r.l5, r.t, r.c, r.z⟩ ⟨V44.v2, V44.v5⟩) rfl (Nat.le_of_ble_eq_true rfl) (numA_one _) (by kernel_rfl) zu ?_
  intro w146 M146
  clear M139
  exact J47 (⟨r.p, r.s, r.l2, N143, r.b, r.l5, r.t, r.c, r.z⟩) (⟨V44.v2, V44.v5⟩) _ _ ⟨or.p, or.t, or.c, or.z, or.s, b143, or.b⟩ (F145.sub ⟨rfl, trivial⟩) (M146.re ⟨⟨3, rfl, fun _ => rfl⟩, ⟨1, rfl, fun h => by cases h⟩, ⟨2, rfl, fun h => by cases h⟩, trivial⟩)
 refine rn rfl rfl F125 rfl (.bool false) (zh _ _ _ _ rfl (F125.get rfl) rfl Try.underlying3 (zi h127)) fun _ F147 => ?_
 refine rm rfl F147 fun _ F148 => ?_
 refine hK126 _ _ (wp_cond_false (F148.get rfl) ?_)
 refine zT fun _ hK149 => ?_
 by_cases h150 : (jw : Int) = 5
 ·refine rn rfl rfl F148 rfl (.bool true) (zh _ _ _ _ rfl (F148.get rfl) rfl Try.underlying3 (z8 h150)) fun _ F151 => ?_
  refine rm rfl F151 fun _ F152 => ?_
  refine hK149 _ _ (wp_cond_true (F152.get rfl) ?_)
  refine zR ?_
  refine rn rfl rfl F152 rfl (numV 0) (y_zbuild rfl) fun _ F153 => ?_
  refine ze (za rfl) rfl F153 rfl rfl (enters_of Try.func24 (by kernel_rfl) rfl) #[.int .i64 4294967295] (zp rfl) (zk ((from_ref 4294967295 (by decide) (by decide) w46))) ?_
  rintro _ w154 a154 ⟨rfl, b154⟩ F154
  have M154 := M46.step b154
  refine ze (za rfl) rfl F154 rfl rfl (enters_of Try.func24 (by kernel_rfl) rfl) #[.int .i64 4294967296] (zp rfl) (zk ((from_ref 4294967296 (by decide) (by decide) w154))) ?_
  rintro _ w155 a155 ⟨rfl, b155⟩ F155
  have M155 := M154.step b155
  refine rm rfl F155 fun _ F156 => ?_
  refine rm rfl F156 fun _ F157 => ?_
  refine rm rfl F157 fun _ F158 => ?_
  refine rm rfl F158 fun _ F159 => ?_
  refine z9 (za rfl) rfl F159 rfl M155 4 (t := 3) (c := #[.int .i64 a4, .int .i64 a4, .int .i64 a4]) (k := 3) (m := 3) (y_litG 38 3 (s := 1) (zv := .int .i64 0) Try.underlying38 (by kernel_rfl) (by kernel_rfl) rfl (#[.int .i64 a4, .int .i64 a4, .int .i64 a4]) (by decide) (by decide) (by simp only [List.map_toArray, List.map_cons, List.map_nil, (F159.get (t := 87) rfl), (F159.get (t := 88) rfl), (F159.get (t := 89) rfl)]; kernel_rfl)) ?_
  intro g160 a160 w160 F160 M160
  clear F159 M155
  refine ze (za rfl) rfl F160 rfl rfl (enters_of Try.func40 (by kernel_rfl) rfl) #[.int .i64 a4, .slice (some ⟨g160, 0, none⟩) 3 3] (zla (F160.get rfl) (F160.get rfl)) (zk ((hNM ▸ make_det a4 hk4 hl4 _ 3 3 (fun _ => a4) w160 (rdI_same (M160.blk (k := 4) rfl) ⟨hk4, hl4⟩)))) ?_
  rintro _ w161 a161 ⟨rfl, b161⟩ F161
  have M161 := M160.step b161
  refine z9 (za rfl) rfl F161 rfl M161 5 (t := 27) (c := #[numF 0 0, numF 0 1, numF 0 2, numF 0 3, numF 0 4, numF 0 5, numF 0 6, numF 0 7, numF ((4294967295 : Int).toNat) 0, numF ((4294967295 : Int).toNat) 1, numF ((4294967295 : Int).toNat) 2, numF ((4294967295 : Int).toNat) 3, numF ((4294967295 : Int).toNat) 4, numF ((4294967295 : Int).toNat) 5, numF ((4294967295 : Int).toNat) 6, numF ((4294967295 : Int).toNat) 7, numF ((4294967296 : Int).toNat) 0, numF ((4294967296 : Int).toNat) 1, numF ((4294967296 : Int).toNat) 2, numF ((4294967296 : Int).toNat) 3, numF ((4294967296 : Int).toNat) 4, numF ((4294967296 : Int).toNat) 5, numF ((4294967296 : Int).toNat) 6, numF ((4294967296 : Int).toNat) 7, numF NM 0, numF NM 1, numF NM 2, numF NM 3, numF NM 4, numF NM 5, numF NM 6, numF NM 7]) (k := 4) (m := 4) (y_litG 44 27 (s := 8) (zv := .agg #[.int .u32 0, .int .u32 0, .int .u32 0, .int .u32 0, .int .u32 0, .int .u32 0, .int .u32 0, .int .u32 0]) Try.underlying44 (by kernel_rfl) (by kernel_rfl) rfl (#[numF 0 0, numF 0 1, numF 0 2, numF 0 3, numF 0 4, numF 0 5, numF 0 6, numF 0 7, numF ((4294967295 : Int).toNat) 0, numF ((4294967295 : Int).toNat) 1, numF ((4294967295 : Int).toNat) 2, numF ((4294967295 : Int).toNat) 3, numF ((4294967295 : Int).toNat) 4, numF ((4294967295 : Int).toNat) 5, numF ((4294967295 : Int).toNat) 6, numF ((4294967295 : Int).toNat) 7, numF ((4294967296 : Int).toNat) 0, numF ((4294967296 : Int).toNat) 1, numF ((4294967296 : Int).toNat) 2, numF ((4294967296 : Int).toNat) 3, numF ((4294967296 : Int).toNat) 4, numF ((4294967296 : Int).toNat) 5, numF ((4294967296 : Int).toNat) 6, numF ((4294967296 : Int).toNat) 7, numF NM 0, numF NM 1, numF NM 2, numF NM 3, numF NM 4, numF NM 5, numF NM 6, numF NM 7]) (by decide) (by decide) (by simp only [List.map_toArray, List.map_cons, List.map_nil, (F161.get (t := 83) rfl), (F161.get (t := 84) rfl), (F161.get (t := 85) rfl), (F161.get (t := 91) rfl)]; kernel_rfl)) ?_
  intro g162 a162 w162 F162 M162
  clear F161 M161
  refine rm rfl F162 fun _ F163 => ?_
  refine ze (za rfl) rfl F163 rfl rfl (enters_of Try.func22 (by kernel_rfl) rfl) #[.int .i64 a4, .int .i64 4] (zla (F163.get rfl) rfl) (zk ((hj4 ▸ z7 a4 4 (by omega) (by omega) (by omega) (by omega) w162))) ?_
  rintro _ w164 a164 ⟨rfl, rfl⟩ F164
  refine rn rfl rfl F164 rfl (.pointer (some ⟨g162, (0 + j4 * 8), none⟩)) (y_ixG 44 (s := 8) Try.underlying44 (by kernel_rfl) _ _ rfl (F164.get rfl) (F164.get rfl) rfl bj4 rfl) fun _ F165 => ?_
  obtain ⟨N166, b166, e166⟩ : ∃ N : Nat, N < 4294967296 ^ 8 ∧ ∀ (i : Nat) (v : Value), (numA N)[i]? = some v → (#[numF 0 0, numF 0 1, numF 0 2, numF 0 3, numF 0 4, numF 0 5, numF 0 6, numF 0 7, numF ((4294967295 : Int).toNat) 0, numF ((4294967295 : Int).toNat) 1, numF ((4294967295 : Int).toNat) 2, numF ((4294967295 : Int).toNat) 3, numF ((4294967295 : Int).toNat) 4, numF ((4294967295 : Int).toNat) 5, numF ((4294967295 : Int).toNat) 6, numF ((4294967295 : Int).toNat) 7, numF ((4294967296 : Int).toNat) 0, numF ((4294967296 : Int).toNat) 1, numF ((4294967296 : Int).toNat) 2, numF ((4294967296 : Int).toNat) 3, numF ((4294967296 : Int).toNat) 4, numF ((4294967296 : Int).toNat) 5, numF ((4294967296 : Int).toNat) 6, numF ((4294967296 : Int).toNat) 7, numF NM 0, numF NM 1, numF NM 2, numF NM 3, numF NM 4, numF NM 5, numF NM 6, numF NM 7] : Array Value)[0 + j4 * 8 + i]? = some v := by
   match j4, bj4 with
   | 0, _ => exact ⟨0, by decide, y_part8 (by kernel_rfl) (by kernel_rfl) (by kernel_rfl) (by kernel_rfl) (by kernel_rfl) (by kernel_rfl) (by kernel_rfl) (by kernel_rfl)⟩
   | 1, _ => exact ⟨((4294967295 : Int).toNat), by decide, y_part8 (by kernel_rfl) (by kernel_rfl) (by kernel_rfl) (by kernel_rfl) (by kernel_rfl) (by kernel_rfl) (by kernel_rfl) (by kernel_rfl)⟩
   | 2, _ => exact ⟨((4294967296 : Int).toNat), by decide, y_part8 (by kernel_rfl) (by kernel_rfl) (by kernel_rfl) (by kernel_rfl) (by kernel_rfl) (by kernel_rfl) (by kernel_rfl) (by kernel_rfl)⟩
   | 3, _ => exact ⟨NM, hNl, y_part8 (by kernel_rfl) (by kernel_rfl) (by kernel_rfl) (by kernel_rfl) (by kernel_rfl) (by kernel_rfl) (by kernel_rfl) (by kernel_rfl)⟩
   | n + 4, h => exact absurd h (by omega)
  refine rn rfl rfl F165 rfl (numV N166) (zwa _ _ rfl (F165.get rfl) (M162.blk (k := 5) rfl) (numA N166) e166 Try.underlying27 rfl zu) fun _ F167 => ?_
  refine rn rfl rfl F167 rfl (.pointer (some ⟨g45, 11, none⟩)) (y_fa (off := 11) rfl (F167.get rfl) (by kernel_rfl) rfl) fun _ F168 => ?_
  refine zy (za rfl) rfl F168 M162 (k := 3) rfl _ _ _ rfl (F168.get rfl) (F168.get rfl) (numA N166) (recA ⟨r.p, r.s, r.l2, r.a, N166, r.l5, r.t, r.c, r.z⟩ ⟨V44.v2, V44.v5⟩) rfl (Nat.le_of_ble_eq_true rfl) (numA_one _) (by kernel_rfl) zu ?_
  intro w169 M169
  clear M162
  exact J47 (⟨r.p, r.s, r.l2, r.a, N166, r.l5, r.t, r.c, r.z⟩) (⟨V44.v2, V44.v5⟩) _ _ ⟨or.p, or.t, or.c, or.z, or.s, or.a, b166⟩ (F168.sub ⟨rfl, trivial⟩) (M169.re ⟨⟨3, rfl, fun _ => rfl⟩, ⟨1, rfl, fun h => by cases h⟩, ⟨2, rfl, fun h => by cases h⟩, trivial⟩)
 refine rn rfl rfl F148 rfl (.bool false) (zh _ _ _ _ rfl (F148.get rfl) rfl Try.underlying3 (zi h150)) fun _ F170 => ?_
 refine rm rfl F170 fun _ F171 => ?_
 refine hK149 _ _ (wp_cond_false (F171.get rfl) ?_)
 refine zT fun _ hK172 => ?_
 by_cases h173 : (jw : Int) = 6
 ·refine rn rfl rfl F171 rfl (.bool true) (zh _ _ _ _ rfl (F171.get rfl) rfl Try.underlying3 (z8 h173)) fun _ F174 => ?_
  refine rm rfl F174 fun _ F175 => ?_
  refine hK172 _ _ (wp_cond_true (F175.get rfl) ?_)
  refine zR ?_
  refine rm rfl F175 fun _ F176 => ?_
  refine z9 (za rfl) rfl F176 rfl M46 4 (t := 3) (c := #[.int .i64 (-1), .int .i64 0, .int .i64 255, .int .i64 256, .int .i64 a4]) (k := 5) (m := 5) (y_litG 38 3 (s := 1) (zv := .int .i64 0) Try.underlying38 (by kernel_rfl) (by kernel_rfl) rfl (#[.int .i64 (-1), .int .i64 0, .int .i64 255, .int .i64 256, .int .i64 a4]) (by decide) (by decide) (by simp only [List.map_toArray, List.map_cons, List.map_nil, (F176.get (t := 100) rfl)]; kernel_rfl)) ?_
  intro g177 a177 w177 F177 M177
  clear F176 M46
  refine rm rfl F177 fun _ F178 => ?_
  refine ze (za rfl) rfl F178 rfl rfl (enters_of Try.func22 (by kernel_rfl) rfl) #[.int .i64 a4, .int .i64 5] (zla (F178.get rfl) rfl) (zk ((hj5 ▸ z7 a4 5 (by omega) (by omega) (by omega) (by omega) w177))) ?_
  rintro _ w179 a179 ⟨rfl, rfl⟩ F179
  refine rn rfl rfl F179 rfl (.pointer (some ⟨g177, (0 + j5 * 1), none⟩)) (y_ixG 38 (s := 1) Try.underlying38 (by kernel_rfl) _ _ rfl (F179.get rfl) (F179.get rfl) rfl bj5 rfl) fun _ F180 => ?_
  obtain ⟨z181, e181, l181, u181⟩ : ∃ z : Int, (#[.int .i64 (-1), .int .i64 0, .int .i64 255, .int .i64 256, .int .i64 a4] : Array Value)[j5]? = some (.int .i64 z) ∧ -9223372036854775808 ≤ z ∧ z < 9223372036854775808 := by
   match j5, bj5 with
   | 0, _ => exact ⟨_, rfl, by omega, by omega⟩
   | 1, _ => exact ⟨_, rfl, by omega, by omega⟩
   | 2, _ => exact ⟨_, rfl, by omega, by omega⟩
   | 3, _ => exact ⟨_, rfl, by omega, by omega⟩
   | 4, _ => exact ⟨_, rfl, by omega, by omega⟩
   | n + 5, h => exact absurd h (by omega)
  refine rn rfl rfl F180 rfl (.int .i64 z181) (y_ld1 _ _ rfl (F180.get rfl) (M177.blk (k := 4) rfl) (show _ from by rw [Nat.zero_add, Nat.mul_one]; exact e181) Try.underlying3 rfl) fun _ F182 => ?_
  refine rn rfl rfl F182 rfl (.pointer (some ⟨g45, 20, none⟩)) (y_fa (off := 20) rfl (F182.get rfl) (by kernel_rfl) rfl) fun _ F183 => ?_
  refine zy (za rfl) rfl F183 M177 (k := 3) rfl _ _ _ rfl (F183.get rfl) (F183.get rfl) (#[.int .i64 z181]) (recA ⟨r.p, r.s, r.l2, r.a, r.b, r.l5, z181, r.c, r.z⟩ ⟨V44.v2, V44.v5⟩) rfl (Nat.le_of_ble_eq_true rfl) (zcb _ _) (by kernel_rfl) (by kernel_rfl) ?_
  intro w184 M184
  clear M177
  exact J47 (⟨r.p, r.s, r.l2, r.a, r.b, r.l5, z181, r.c, r.z⟩) (⟨V44.v2, V44.v5⟩) _ _ ⟨or.p, ⟨l181, u181⟩, or.c, or.z, or.s, or.a, or.b⟩ (F183.sub ⟨rfl, trivial⟩) (M184.re ⟨⟨3, rfl, fun _ => rfl⟩, ⟨1, rfl, fun h => by cases h⟩, ⟨2, rfl, fun h => by cases h⟩, trivial⟩)
 refine rn rfl rfl F171 rfl (.bool false) (zh _ _ _ _ rfl (F171.get rfl) rfl Try.underlying3 (zi h173)) fun _ F185 => ?_
 refine rm rfl F185 fun _ F186 => ?_
 refine hK172 _ _ (wp_cond_false (F186.get rfl) ?_)
 refine zT fun _ hK187 => ?_
 by_cases h188 : (jw : Int) = 7
 ·refine rn rfl rfl F186 rfl (.bool true) (zh _ _ _ _ rfl (F186.get rfl) rfl Try.underlying3 (z8 h188)) fun _ F189 => ?_
  refine rm rfl F189 fun _ F190 => ?_
  refine hK187 _ _ (wp_cond_true (F190.get rfl) ?_)
  refine zR ?_
  refine rm rfl F190 fun _ F191 => ?_
  refine z9 (za rfl) rfl F191 rfl M46 4 (t := 3) (c := #[.int .i64 (-1), .int .i64 0, .int .i64 9223372036854775807, .int .i64 a4]) (k := 4) (m := 4) (y_litG 38 3 (s := 1) (zv := .int .i64 0) Try.underlying38 (by kernel_rfl) (by kernel_rfl) rfl (#[.int .i64 (-1), .int .i64 0, .int .i64 9223372036854775807, .int .i64 a4]) (by decide) (by decide) (by simp only [List.map_toArray, List.map_cons, List.map_nil, (F191.get (t := 109) rfl)]; kernel_rfl)) ?_
  intro g192 a192 w192 F192 M192
  clear F191 M46
  refine rm rfl F192 fun _ F193 => ?_
  refine ze (za rfl) rfl F193 rfl rfl (enters_of Try.func22 (by kernel_rfl) rfl) #[.int .i64 a4, .int .i64 4] (zla (F193.get rfl) rfl) (zk ((hj4 ▸ z7 a4 4 (by omega) (by omega) (by omega) (by omega) w192))) ?_
  rintro _ w194 a194 ⟨rfl, rfl⟩ F194
  refine rn rfl rfl F194 rfl (.pointer (some ⟨g192, (0 + j4 * 1), none⟩)) (y_ixG 38 (s := 1) Try.underlying38 (by kernel_rfl) _ _ rfl (F194.get rfl) (F194.get rfl) rfl bj4 rfl) fun _ F195 => ?_
  obtain ⟨z196, e196, l196, u196⟩ : ∃ z : Int, (#[.int .i64 (-1), .int .i64 0, .int .i64 9223372036854775807, .int .i64 a4] : Array Value)[j4]? = some (.int .i64 z) ∧ -9223372036854775808 ≤ z ∧ z < 9223372036854775808 := by
   match j4, bj4 with
   | 0, _ => exact ⟨_, rfl, by omega, by omega⟩
   | 1, _ => exact ⟨_, rfl, by omega, by omega⟩
   | 2, _ => exact ⟨_, rfl, by omega, by omega⟩
   | 3, _ => exact ⟨_, rfl, by omega, by omega⟩
   | n + 4, h => exact absurd h (by omega)
  refine rn rfl rfl F195 rfl (.int .i64 z196) (y_ld1 _ _ rfl (F195.get rfl) (M192.blk (k := 4) rfl) (show _ from by rw [Nat.zero_add, Nat.mul_one]; exact e196) Try.underlying3 rfl) fun _ F197 => ?_
  refine rn rfl rfl F197 rfl (.pointer (some ⟨g45, 21, none⟩)) (y_fa (off := 21) rfl (F197.get rfl) (by kernel_rfl) rfl) fun _ F198 => ?_
  refine zy (za rfl) rfl F198 M192 (k := 3) rfl _ _ _ rfl (F198.get rfl) (F198.get rfl) (#[.int .i64 z196]) (recA ⟨r.p, r.s, r.l2, r.a, r.b, r.l5, r.t, z196, r.z⟩ ⟨V44.v2, V44.v5⟩) rfl (Nat.le_of_ble_eq_true rfl) (zcb _ _) (by kernel_rfl) (by kernel_rfl) ?_
  intro w199 M199
  clear M192
  exact J47 (⟨r.p, r.s, r.l2, r.a, r.b, r.l5, r.t, z196, r.z⟩) (⟨V44.v2, V44.v5⟩) _ _ ⟨or.p, or.t, ⟨l196, u196⟩, or.z, or.s, or.a, or.b⟩ (F198.sub ⟨rfl, trivial⟩) (M199.re ⟨⟨3, rfl, fun _ => rfl⟩, ⟨1, rfl, fun h => by cases h⟩, ⟨2, rfl, fun h => by cases h⟩, trivial⟩)
 refine rn rfl rfl F186 rfl (.bool false) (zh _ _ _ _ rfl (F186.get rfl) rfl Try.underlying3 (zi h188)) fun _ F200 => ?_
 refine rm rfl F200 fun _ F201 => ?_
 refine hK187 _ _ (wp_cond_false (F201.get rfl) ?_)
 refine zT fun _ hK202 => ?_
 by_cases h203 : (jw : Int) = 8
 rotate_left
 ·refine rn rfl rfl F201 rfl (.bool false) (zh _ _ _ _ rfl (F201.get rfl) rfl Try.underlying3 (zi h203)) fun _ F215 => ?_
  refine rm rfl F215 fun _ F216 => ?_
  refine hK202 _ _ (wp_cond_false (F216.get rfl) ?_)
  refine wp_skip ?_
  exact J47 (⟨r.p, r.s, r.l2, r.a, r.b, r.l5, r.t, r.c, r.z⟩) (⟨V44.v2, V44.v5⟩) _ _ ⟨or.p, or.t, or.c, or.z, or.s, or.a, or.b⟩ (F216.sub ⟨rfl, trivial⟩) (M46.re ⟨⟨3, rfl, fun _ => rfl⟩, ⟨1, rfl, fun h => by cases h⟩, ⟨2, rfl, fun h => by cases h⟩, trivial⟩)
 refine rn rfl rfl F201 rfl (.bool true) (zh _ _ _ _ rfl (F201.get rfl) rfl Try.underlying3 (z8 h203)) fun _ F204 => ?_
 refine rm rfl F204 fun _ F205 => ?_
 refine hK202 _ _ (wp_cond_true (F205.get rfl) ?_)
 refine zR ?_
 refine rm rfl F205 fun _ F206 => ?_
 refine z9 (za rfl) rfl F206 rfl M46 4 (t := 3) (c := #[.int .i64 (-1), .int .i64 0, .int .i64 9223372036854775807, .int .i64 a4]) (k := 4) (m := 4) (y_litG 38 3 (s := 1) (zv := .int .i64 0) Try.underlying38 (by kernel_rfl) (by kernel_rfl) rfl (#[.int .i64 (-1), .int .i64 0, .int .i64 9223372036854775807, .int .i64 a4]) (by decide) (by decide) (by simp only [List.map_toArray, List.map_cons, List.map_nil, (F206.get (t := 118) rfl)]; kernel_rfl)) ?_
 intro g207 a207 w207 F207 M207
 clear F206 M46
 refine rm rfl F207 fun _ F208 => ?_
 refine ze (za rfl) rfl F208 rfl rfl (enters_of Try.func22 (by kernel_rfl) rfl) #[.int .i64 a4, .int .i64 4] (zla (F208.get rfl) rfl) (zk ((hj4 ▸ z7 a4 4 (by omega) (by omega) (by omega) (by omega) w207))) ?_
 rintro _ w209 a209 ⟨rfl, rfl⟩ F209
 refine rn rfl rfl F209 rfl (.pointer (some ⟨g207, (0 + j4 * 1), none⟩)) (y_ixG 38 (s := 1) Try.underlying38 (by kernel_rfl) _ _ rfl (F209.get rfl) (F209.get rfl) rfl bj4 rfl) fun _ F210 => ?_
 obtain ⟨z211, e211, l211, u211⟩ : ∃ z : Int, (#[.int .i64 (-1), .int .i64 0, .int .i64 9223372036854775807, .int .i64 a4] : Array Value)[j4]? = some (.int .i64 z) ∧ -9223372036854775808 ≤ z ∧ z < 9223372036854775808 := by
  match j4, bj4 with
  | 0, _ => exact ⟨_, rfl, by omega, by omega⟩
  | 1, _ => exact ⟨_, rfl, by omega, by omega⟩
  | 2, _ => exact ⟨_, rfl, by omega, by omega⟩
  | 3, _ => exact ⟨_, rfl, by omega, by omega⟩
  | n + 4, h => exact absurd h (by omega)
 refine rn rfl rfl F210 rfl (.int .i64 z211) (y_ld1 _ _ rfl (F210.get rfl) (M207.blk (k := 4) rfl) (show _ from by rw [Nat.zero_add, Nat.mul_one]; exact e211) Try.underlying3 rfl) fun _ F212 => ?_
 refine rn rfl rfl F212 rfl (.pointer (some ⟨g45, 22, none⟩)) (y_fa (off := 22) rfl (F212.get rfl) (by kernel_rfl) rfl) fun _ F213 => ?_
 refine zy (za rfl) rfl F213 M207 (k := 3) rfl _ _ _ rfl (F213.get rfl) (F213.get rfl) (#[.int .i64 z211]) (recA ⟨r.p, r.s, r.l2, r.a, r.b, r.l5, r.t, r.c, z211⟩ ⟨V44.v2, V44.v5⟩) rfl (Nat.le_of_ble_eq_true rfl) (zcb _ _) (by kernel_rfl) (by kernel_rfl) ?_
 intro w214 M214
 clear M207
 exact J47 (⟨r.p, r.s, r.l2, r.a, r.b, r.l5, r.t, r.c, z211⟩) (⟨V44.v2, V44.v5⟩) _ _ ⟨or.p, or.t, or.c, ⟨l211, u211⟩, or.s, or.a, or.b⟩ (F213.sub ⟨rfl, trivial⟩) (M214.re ⟨⟨3, rfl, fun _ => rfl⟩, ⟨1, rfl, fun h => by cases h⟩, ⟨2, rfl, fun h => by cases h⟩, trivial⟩)
end Go.Proofs.Ytlbkogdmojlpmaa
