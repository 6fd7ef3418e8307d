/- sentinellaw1.Make: its value as a function of its arguments. -/
import Derived.Test.YtgccbfkofkohpaaMake
namespace Go.Proofs.Ytgccbfkofkohpaa
set_option linter.unusedVariables false
set_option maxRecDepth 20000
set_option linter.unusedSimpArgs false
open Go.ChangeShapes Go.WideShapes Go.ChangeAt Go.RowKit
def wordI (X : Int) : Int := if (X % 7 == 0) = true then X.tdiv 7 % 3 else if (X % 5 == 0) = true then 4294967295 - X.tdiv 5 % 3 else bits BinOp.xor IntKind.u32 (X % 4294967296) (X / 4294967296 % 4294967296 * 7 % 4294967296)
theorem wordI_bd (X : Int) : 0 ≤ wordI X ∧ wordI X < 4294967296 := by
  unfold wordI
  split
  · omega
  · split
    · omega
    · exact bits_u32_bd _ _ _
def rowA (x : Nat → Int) (k j : Nat) : Int := if j < k then wordI (x j) else 0
def mk1 (n : Nat) (x : Nat → Int) (j : Nat) : Int := if j < n then wordI (x j) else 0
def rowB (z : Nat → Int) (k j : Nat) : Int := if 1 ≤ j ∧ j < k then 0 else z j
def cplI (v : Int) : Int := bits BinOp.xor IntKind.u32 (if IntKind.u32.signed = true then -1 else IntKind.u32.max) v
def rowC (z : Nat → Int) (k j : Nat) : Int := if j < k then cplI (z j) else z j
def rowD (z : Nat → Int) (k j : Nat) : Int := if 4 ≤ j ∧ j < k then 0 else z j
def mkZ (kd : Int) (n : Nat) (x : Nat → Int) : Nat → Int := match kd % 6 == 0, kd % 6 == 1, kd % 6 == 2 with
  | true, _, _ => rowB (mk1 n x) 8
  | false, true, _ => rowC (mk1 n x) 8
  | false, false, true => rowD (mk1 n x) 8
  | false, false, false => mk1 n x
open Classical in
noncomputable def mkN (kd : Int) (n : Nat) (x : Nat → Int) : Nat := if h : ∃ N, N < 4294967296 ^ 8 ∧ ∀ j, j < 8 → digI N j = mkZ kd n x j then Classical.choose h else 0
theorem mk1_bd (n : Nat) {x : Nat → Int} (hx : ∀ k, -9223372036854775808 ≤ x k ∧ x k < 9223372036854775808) (j : Nat) : 0 ≤ mk1 n x j ∧ mk1 n x j < 4294967296 := by
  unfold mk1; split
  · exact wordI_bd _
  · omega
theorem rowA_at (x : Nat → Int) (k : Nat) : (Value.int .u32 (rowA x k k)) = .int .u32 0 := by unfold rowA; rw [if_neg (Nat.lt_irrefl _)]
theorem rowB_start (z : Nat → Int) (j : Nat) : rowB z 1 j = z j := by unfold rowB; rw [if_neg (by omega)]
theorem rowC_start (z : Nat → Int) (j : Nat) : rowC z 0 j = z j := by unfold rowC; rw [if_neg (by omega)]
theorem rowD_start (z : Nat → Int) (j : Nat) : rowD z 4 j = z j := by unfold rowD; rw [if_neg (by omega)]
theorem rowB_at (z : Nat → Int) (k : Nat) : (Value.int .u32 (rowB z k k)) = .int .u32 (z k) := by unfold rowB; rw [if_neg (by omega)]
theorem rowC_at (z : Nat → Int) (k : Nat) : (Value.int .u32 (rowC z k k)) = .int .u32 (z k) := by unfold rowC; rw [if_neg (by omega)]
theorem rowD_at (z : Nat → Int) (k : Nat) : (Value.int .u32 (rowD z k k)) = .int .u32 (z k) := by unfold rowD; rw [if_neg (by omega)]
theorem rowA_end {x : Nat → Int} {n k j : Nat} (hk : k ≤ 8) (hkn : k ≤ n) (hlt : ¬ (k < 8 ∧ k < n)) (hj : j < 8) : rowA x k j = mk1 n x j := by
  unfold rowA mk1
  by_cases h : j < k
  · rw [if_pos h, if_pos (by omega)]
  · rw [if_neg h, if_neg (by omega)]
section
variable {wr : World} {b k : Nat} {z x : Nat → Int}
theorem rowB_next {v : Int} (h0 : 1 ≤ k) (h8 : k < 8) (h : wr.rowIs b 26 8 (fun j => .int .u32 (rowB z k j))) (hv : v = 0) : (wr.setCell ⟨b, k, none⟩ (.int .u32 v)).rowIs b 26 8 (fun j => .int .u32 (rowB z (k + 1) j)) :=
  (h.set k _).congr fun j _ => by
    subst hv
    unfold rowB
    by_cases e : j = k
    · subst e; rw [if_pos rfl, if_pos (by omega)]
    · rw [if_neg e]; by_cases h2 : 1 ≤ j ∧ j < k
      · rw [if_pos h2, if_pos (by omega)]
      · rw [if_neg h2, if_neg (by omega)]
theorem rowD_next {v : Int} (h0 : 4 ≤ k) (h8 : k < 8) (h : wr.rowIs b 26 8 (fun j => .int .u32 (rowD z k j))) (hv : v = 0) : (wr.setCell ⟨b, k, none⟩ (.int .u32 v)).rowIs b 26 8 (fun j => .int .u32 (rowD z (k + 1) j)) :=
  (h.set k _).congr fun j _ => by
    subst hv
    unfold rowD
    by_cases e : j = k
    · subst e; rw [if_pos rfl, if_pos (by omega)]
    · rw [if_neg e]; by_cases h2 : 4 ≤ j ∧ j < k
      · rw [if_pos h2, if_pos (by omega)]
      · rw [if_neg h2, if_neg (by omega)]
theorem rowC_next {v : Int} (h0 : 0 ≤ k) (h8 : k < 8) (h : wr.rowIs b 26 8 (fun j => .int .u32 (rowC z k j))) (hv : v = cplI (z k)) : (wr.setCell ⟨b, k, none⟩ (.int .u32 v)).rowIs b 26 8 (fun j => .int .u32 (rowC z (k + 1) j)) :=
  (h.set k _).congr fun j _ => by
    subst hv
    unfold rowC
    by_cases e : j = k
    · subst e; rw [if_pos rfl, if_pos (by omega)]
    · rw [if_neg e]; by_cases h2 : j < k
      · rw [if_pos h2, if_pos (by omega)]
      · rw [if_neg h2, if_neg (by omega)]
def AtK (w : World) (b k : Nat) (x : Nat → Int) (v : Int) : Prop := w.rowIs b 26 8 (fun j => if j = k then .int .u32 v else .int .u32 (rowA x k j))
theorem AtK.one (h : wr.rowIs b 26 8 (fun j => .int .u32 (rowA x k j))) (v : Int) : AtK (wr.setCell ⟨b, k, none⟩ (.int .u32 v)) b k x v := h.set k _
theorem AtK.two {u : Int} (h : AtK wr b k x u) (v : Int) : AtK (wr.setCell ⟨b, k, none⟩ (.int .u32 v)) b k x v := (World.rowIs.set h k _).congr fun j _ => by
  by_cases e : j = k
  · rw [if_pos e, if_pos e]
  · rw [if_neg e, if_neg e, if_neg e]
theorem AtK.oneE {u : Int} (h : wr.rowIs b 26 8 (fun j => .int .u32 (rowA x k j))) (v : Int) (e : v = u) : AtK (wr.setCell ⟨b, k, none⟩ (.int .u32 v)) b k x u := by subst e; exact AtK.one h v
def AtX (w : World) (b k : Nat) (x : Nat → Int) : Prop := ∃ u, AtK w b k x u
theorem AtX.one (h : wr.rowIs b 26 8 (fun j => .int .u32 (rowA x k j))) (v : Int) : AtX (wr.setCell ⟨b, k, none⟩ (.int .u32 v)) b k x := ⟨v, AtK.one h v⟩
theorem AtX.two (h : AtX wr b k x) (v : Int) : AtX (wr.setCell ⟨b, k, none⟩ (.int .u32 v)) b k x := by obtain ⟨u, h⟩ := h; exact ⟨v, h.two v⟩
theorem AtK.twoE {v' : Int} (h : AtX wr b k x) (v : Int) (e : v = v') : AtK (wr.setCell ⟨b, k, none⟩ (.int .u32 v)) b k x v' := by obtain ⟨u, h⟩ := h; subst e; exact h.two v
theorem mk_next {v X : Int} (h : AtK wr b k x v) (hX : x k = X) (hv : v = wordI X) : wr.drew.rowIs b 26 8 (fun j => .int .u32 (rowA x (k + 1) j)) :=
  World.rowIs.congr (w := wr) h fun j _ => by
    unfold rowA
    by_cases e : j = k
    · subst e; rw [if_pos rfl, if_pos (by omega), hX, hv]
    · rw [if_neg e]; by_cases h2 : j < k
      · rw [if_pos h2, if_pos (by omega)]
      · rw [if_neg h2, if_neg (by omega)]
theorem mk_num {kd : Int} {n : Nat} {Z : Nat → Int} (hzV : Hid (z = mk1 n x)) (hZ : mkZ kd n x = Z) (h : wr.rowIs b 26 8 (fun j => .int .u32 (Z j))) (hb : ∀ j, 0 ≤ Z j ∧ Z j < 4294967296) : Num wr b 26 (mkN kd n x) := by
  subst hZ
  obtain ⟨N, hN, e⟩ := num_of (fun k => (mkZ kd n x k).toNat) (fun k _ => by have := hb k; omega)
  have hE : ∃ N, N < 4294967296 ^ 8 ∧ ∀ j, j < 8 → digI N j = mkZ kd n x j := ⟨N, hN, fun j hj => by
    have := hb j
    unfold digI
    rw [← e j hj]; omega⟩
  unfold mkN
  rw [dif_pos hE]
  obtain ⟨c1, c2⟩ := Classical.choose_spec hE
  exact num_of_row h fun j hj => by unfold numF; rw [c2 j hj]
end
theorem mkN_lt (kd : Int) (n : Nat) (x : Nat → Int) : mkN kd n x < 4294967296 ^ 8 := by
  unfold mkN
  split
  · rename_i h; exact (Classical.choose_spec h).1
  · decide
theorem mk_zero (x : Nat → Int) (w : World) (t : TypeId) : (w.alloc (.cells #[Value.int .u32 0, .int .u32 0, .int .u32 0, .int .u32 0, .int .u32 0, .int .u32 0, .int .u32 0, .int .u32 0] 26)).rowIs w.heap.size 26 8 (fun j => .int .u32 (rowA x 0 j)) := by
  rw [zeroA]
  exact (Num.new w 26 0).row.congr fun j hj => by unfold numF digI dig rowA; simp
theorem rowB_bd {z : Nat → Int} (h : ∀ j, 0 ≤ z j ∧ z j < 4294967296) (k j : Nat) : 0 ≤ rowB z k j ∧ rowB z k j < 4294967296 := by
  unfold rowB; split
  · omega
  · exact h j
theorem rowC_bd {z : Nat → Int} (h : ∀ j, 0 ≤ z j ∧ z j < 4294967296) (k j : Nat) : 0 ≤ rowC z k j ∧ rowC z k j < 4294967296 := by
  unfold rowC; split
  · exact bits_u32_bd _ _ _
  · exact h j
theorem rowD_bd {z : Nat → Int} (h : ∀ j, 0 ≤ z j ∧ z j < 4294967296) (k j : Nat) : 0 ≤ rowD z k j ∧ rowD z k j < 4294967296 := by
  unfold rowD; split
  · omega
  · exact h j
attribute [irreducible] rowA rowB rowC rowD mk1 mkZ mkN
set_option maxHeartbeats 8000000 in
theorem make_det (kd : Int) (hk0 : -9223372036854775808 ≤ kd) (hk1 : kd < 9223372036854775808) (A : Option Addr) (n cap : Nat) (x : Nat → Int) (w : World) (hx : RdI w A n x) :
    Calls Try.prog 21 #[.int .i64 kd, .slice A n cap] w fun e w' => e = .returned (numV (mkN kd n x)) ∧ Below w.heap.size w w' := by
  obtain ⟨hm, hxb, hx⟩ := hx
  obtain ⟨V, hV⟩ : ∃ V, Hid (mkN kd n x = V) := ⟨_, hid rfl⟩
  rw [hV.out]
  unfold maxLen at hm
  go_enter Try.func21, Try.ntmps21
  go_wp2
  have g0 := (Num.new w 26 0).alloc (.cells #[Value.int .u32 0, .int .u32 0, .int .u32 0, .int .u32 0, .int .u32 0, .int .u32 0, .int .u32 0, .int .u32 0] 26)
  rw [← zeroA] at g0
  have g1 := mk_zero x (w.alloc (.cells #[Value.int .u32 0, .int .u32 0, .int .u32 0, .int .u32 0, .int .u32 0, .int .u32 0, .int .u32 0, .int .u32 0] 26)) 0
  rw [World.size_alloc] at g1
  have gb : Below w.heap.size w ((w.alloc (.cells #[Value.int .u32 0, .int .u32 0, .int .u32 0, .int .u32 0, .int .u32 0, .int .u32 0, .int .u32 0, .int .u32 0] 26)).alloc (.cells #[Value.int .u32 0, .int .u32 0, .int .u32 0, .int .u32 0, .int .u32 0, .int .u32 0, .int .u32 0, .int .u32 0] 26)) := ((Below.refl _ _).alloc (Nat.le_refl _) _).alloc (by simp) _
  generalize hW : World.alloc _ _ = W at *
  clear hW
  go_loopw [6] (fun i wr => ∃ k : Nat, k ≤ 8 ∧ k ≤ n ∧ i = .int .i64 k ∧ wr.rowIs (w.heap.size + 1) 26 8 (fun j => .int .u32 (rowA x k j)) ∧ Num wr w.heap.size 26 0 ∧ Below w.heap.size w wr) (fun i _ => 8 - (intOf i).toNat)
  case atStart => exact ⟨0, by omega, by omega, rfl, g1, g0, gb⟩
  case round =>
    obtain ⟨k, hk, hkn, rfl, hn, hz, hb⟩ := hrel
    clear g0 g1 gb
    by_cases hlt : k < 8 ∧ k < n
    · obtain ⟨hl1, hl2⟩ := hlt
      obtain ⟨b, o, rfl, hbl, hc⟩ := hx (by omega)
      have hcx := hb.cell (p := ⟨b, o + k, none⟩) (by simpa using hbl)
      rw [hc k hl2] at hcx
      have hcv := hn.cell (i := k) hl1
      rw [rowA_at] at hcv
      have hcf := hn.frozen k
      have hx0 := (hxb k).1
      have hx1 := (hxb k).2
      obtain ⟨X, hX⟩ : ∃ X, Hid (x k = X) := ⟨_, hid rfl⟩
      rw [hX.out] at hcx hx0 hx1
      clear hc hx hxb
      go_wp2_with fail
      go_still_tail 15, (by kernel_rfl)
      change wpList _ _ _ _ _ (World.drew _)
      go_wp2_with (go_at_call 48; refine (within_any _ _ (by omega) (by omega) (by first | omega | exact (tdiv_bd _ _ (by omega) hx0 hx1).1) (by first | omega | exact (tdiv_bd _ _ (by omega) hx0 hx1).2) _).mono ?_; rintro e w' ⟨rfl, rfl⟩)
      all_goals
        go_roundw
        case rel =>
          refine ⟨k + 1, by omega, by omega, by go_num, ?_, ?_, ?_⟩
          · refine mk_next (v := wordI X) ?_ (hX := hX.out) rfl
            first
              | exact AtK.oneE hn _ (by unfold wordI; simp only [*]; try simp)
              | (refine AtK.twoE ?_ _ (by unfold wordI; simp only [*]; try simp); repeat (first | exact AtX.one hn _ | refine AtX.two ?_ _))
          · repeat (first | exact hz | (refine Num.drew ?_) | (refine Num.far ?_ (by simp) _))
          · repeat (first | exact hb | (refine Below.drew ?_) | (refine Below.setCell ?_ (by simp) _))
        case measure => simp [intOf] <;> omega
    · have hd : (k < 8 ∧ decide ((k : Int) < 8) = true ∧ decide (k < n) = false) ∨ k = 8 := by simp; omega
      obtain ⟨z, hzV⟩ : ∃ z, Hid (z = mk1 n x) := ⟨_, hid rfl⟩
      have hzb : ∀ j, 0 ≤ z j ∧ z j < 4294967296 := fun j => by rw [hzV.out]; exact mk1_bd n hxb j
      replace hn := hn.congr (g := fun j => .int .u32 (z j)) (fun j hj => by rw [hzV.out, rowA_end hk hkn hlt hj])
      clear hx hxb
      rcases hd with ⟨-, hd1, hd2⟩ | rfl
      · clear hlt hk hkn
        have h6 : ((kd % 6 == 0) = true) ∨ ((kd % 6 == 0) = false ∧ (kd % 6 == 1) = true) ∨ ((kd % 6 == 0) = false ∧ (kd % 6 == 1) = false ∧ (kd % 6 == 2) = true) ∨ ((kd % 6 == 0) = false ∧ (kd % 6 == 1) = false ∧ (kd % 6 == 2) = false) := by
          by_cases a0 : kd % 6 = 0 <;> by_cases a1 : kd % 6 = 1 <;> by_cases a2 : kd % 6 = 2 <;> simp [a0, a1, a2]
        rcases h6 with h6 | ⟨h6, h7⟩ | ⟨h6, h7, h8⟩ | ⟨h6, h7, h8⟩
        · skip
          go_wp2_with (go_at_call 48; refine (within_any _ _ (by omega) (by omega) (by omega) (by omega) _).mono ?_; rintro e w' ⟨rfl, rfl⟩)
          go_loopw [7] (fun i wr => ∃ k : Nat, 1 ≤ k ∧ k ≤ 8 ∧ i = .int .i64 k ∧ wr.rowIs (w.heap.size + 1) 26 8 (fun j => .int .u32 (rowB z k j)) ∧ Num wr w.heap.size 26 0 ∧ Below w.heap.size w wr) (fun i _ => 8 - (intOf i).toNat)
          case atStart => exact ⟨1, by omega, by omega, rfl, hn.congr (fun j _ => by rw [rowB_start]), hz, hb⟩
          case round =>
            clear hn hz hb
            obtain ⟨k, hk0, hk, rfl, hn, hz, hb⟩ := hrel
            by_cases hlt : k < 8
            · have hcv := hn.cell (i := k) hlt
              rw [rowB_at] at hcv
              have hcf := hn.frozen k
              have hz0 := hzb k
              generalize hZ : z k = Z at *
              go_wp2
              go_roundw
              case rel =>
                refine ⟨k + 1, by omega, by omega, by go_num, ?_, ?_, ?_⟩
                · refine rowB_next hk0 hlt hn (by first | rfl | (rw [hZ]; rfl))
                · refine Num.far hz (by simp) _
                · refine Below.setCell hb (by simp) _
              case measure => simp [intOf] <;> omega
            · obtain rfl : k = 8 := by omega
              have hN := mk_num hzV (show mkZ kd n x = _ from by unfold mkZ; simp only [h6, hzV.out]) hn (fun j => rowB_bd hzb 8 j)
              rw [hV.out] at hN
              go_wp2_with (first | (go_at_call 48; refine (within_any _ _ (by omega) (by omega) (by omega) (by omega) _).mono ?_; rintro e w' ⟨rfl, rfl⟩) | (refine wpList_load_num rfl _ _ rfl _ rfl _ _ _ hN Try.underlying26 rfl size26 ?_) | (refine wpList_store_num rfl _ _ _ rfl _ rfl _ rfl _ rfl hz size26 ?_; intro w5 hg5 m5))
              exact bodyPost_ret (results_num rfl rfl m5 Try.underlying26 rfl size26) rfl ⟨rfl, below_of_grown hb hg5 (by have := hz.lt; omega) (by omega)⟩
        · skip
          go_wp2_with (go_at_call 48; refine (within_any _ _ (by omega) (by omega) (by omega) (by omega) _).mono ?_; rintro e w' ⟨rfl, rfl⟩)
          go_loopw [8] (fun i wr => ∃ k : Nat, 0 ≤ k ∧ k ≤ 8 ∧ i = .int .i64 k ∧ wr.rowIs (w.heap.size + 1) 26 8 (fun j => .int .u32 (rowC z k j)) ∧ Num wr w.heap.size 26 0 ∧ Below w.heap.size w wr) (fun i _ => 8 - (intOf i).toNat)
          case atStart => exact ⟨0, by omega, by omega, rfl, hn.congr (fun j _ => by rw [rowC_start]), hz, hb⟩
          case round =>
            clear hn hz hb
            obtain ⟨k, hk0, hk, rfl, hn, hz, hb⟩ := hrel
            by_cases hlt : k < 8
            · have hcv := hn.cell (i := k) hlt
              rw [rowC_at] at hcv
              have hcf := hn.frozen k
              have hz0 := hzb k
              generalize hZ : z k = Z at *
              go_wp2
              go_roundw
              case rel =>
                refine ⟨k + 1, by omega, by omega, by go_num, ?_, ?_, ?_⟩
                · refine rowC_next hk0 hlt hn (by first | rfl | (rw [hZ]; rfl))
                · refine Num.far hz (by simp) _
                · refine Below.setCell hb (by simp) _
              case measure => simp [intOf] <;> omega
            · obtain rfl : k = 8 := by omega
              have hN := mk_num hzV (show mkZ kd n x = _ from by unfold mkZ; simp only [h6, h7, hzV.out]) hn (fun j => rowC_bd hzb 8 j)
              rw [hV.out] at hN
              go_wp2_with (first | (go_at_call 48; refine (within_any _ _ (by omega) (by omega) (by omega) (by omega) _).mono ?_; rintro e w' ⟨rfl, rfl⟩) | (refine wpList_load_num rfl _ _ rfl _ rfl _ _ _ hN Try.underlying26 rfl size26 ?_) | (refine wpList_store_num rfl _ _ _ rfl _ rfl _ rfl _ rfl hz size26 ?_; intro w5 hg5 m5))
              exact bodyPost_ret (results_num rfl rfl m5 Try.underlying26 rfl size26) rfl ⟨rfl, below_of_grown hb hg5 (by have := hz.lt; omega) (by omega)⟩
        · skip
          go_wp2_with (go_at_call 48; refine (within_any _ _ (by omega) (by omega) (by omega) (by omega) _).mono ?_; rintro e w' ⟨rfl, rfl⟩)
          go_loopw [9] (fun i wr => ∃ k : Nat, 4 ≤ k ∧ k ≤ 8 ∧ i = .int .i64 k ∧ wr.rowIs (w.heap.size + 1) 26 8 (fun j => .int .u32 (rowD z k j)) ∧ Num wr w.heap.size 26 0 ∧ Below w.heap.size w wr) (fun i _ => 8 - (intOf i).toNat)
          case atStart => exact ⟨4, by omega, by omega, rfl, hn.congr (fun j _ => by rw [rowD_start]), hz, hb⟩
          case round =>
            clear hn hz hb
            obtain ⟨k, hk0, hk, rfl, hn, hz, hb⟩ := hrel
            by_cases hlt : k < 8
            · have hcv := hn.cell (i := k) hlt
              rw [rowD_at] at hcv
              have hcf := hn.frozen k
              have hz0 := hzb k
              generalize hZ : z k = Z at *
              go_wp2
              go_roundw
              case rel =>
                refine ⟨k + 1, by omega, by omega, by go_num, ?_, ?_, ?_⟩
                · refine rowD_next hk0 hlt hn (by first | rfl | (rw [hZ]; rfl))
                · refine Num.far hz (by simp) _
                · refine Below.setCell hb (by simp) _
              case measure => simp [intOf] <;> omega
            · obtain rfl : k = 8 := by omega
              have hN := mk_num hzV (show mkZ kd n x = _ from by unfold mkZ; simp only [h6, h7, h8, hzV.out]) hn (fun j => rowD_bd hzb 8 j)
              rw [hV.out] at hN
              go_wp2_with (first | (go_at_call 48; refine (within_any _ _ (by omega) (by omega) (by omega) (by omega) _).mono ?_; rintro e w' ⟨rfl, rfl⟩) | (refine wpList_load_num rfl _ _ rfl _ rfl _ _ _ hN Try.underlying26 rfl size26 ?_) | (refine wpList_store_num rfl _ _ _ rfl _ rfl _ rfl _ rfl hz size26 ?_; intro w5 hg5 m5))
              exact bodyPost_ret (results_num rfl rfl m5 Try.underlying26 rfl size26) rfl ⟨rfl, below_of_grown hb hg5 (by have := hz.lt; omega) (by omega)⟩
        · have hN := mk_num hzV (show mkZ kd n x = _ from by unfold mkZ; simp only [h6, h7, h8, hzV.out]) hn hzb
          rw [hV.out] at hN
          go_wp2_with (first | (go_at_call 48; refine (within_any _ _ (by omega) (by omega) (by omega) (by omega) _).mono ?_; rintro e w' ⟨rfl, rfl⟩) | (refine wpList_load_num rfl _ _ rfl _ rfl _ _ _ hN Try.underlying26 rfl size26 ?_) | (refine wpList_store_num rfl _ _ _ rfl _ rfl _ rfl _ rfl hz size26 ?_; intro w5 hg5 m5))
          exact bodyPost_ret (results_num rfl rfl m5 Try.underlying26 rfl size26) rfl ⟨rfl, below_of_grown hb hg5 (by have := hz.lt; omega) (by omega)⟩
      · clear hlt hk hkn
        have h6 : ((kd % 6 == 0) = true) ∨ ((kd % 6 == 0) = false ∧ (kd % 6 == 1) = true) ∨ ((kd % 6 == 0) = false ∧ (kd % 6 == 1) = false ∧ (kd % 6 == 2) = true) ∨ ((kd % 6 == 0) = false ∧ (kd % 6 == 1) = false ∧ (kd % 6 == 2) = false) := by
          by_cases a0 : kd % 6 = 0 <;> by_cases a1 : kd % 6 = 1 <;> by_cases a2 : kd % 6 = 2 <;> simp [a0, a1, a2]
        rcases h6 with h6 | ⟨h6, h7⟩ | ⟨h6, h7, h8⟩ | ⟨h6, h7, h8⟩
        · skip
          go_wp2_with (go_at_call 48; refine (within_any _ _ (by omega) (by omega) (by omega) (by omega) _).mono ?_; rintro e w' ⟨rfl, rfl⟩)
          go_loopw [7] (fun i wr => ∃ k : Nat, 1 ≤ k ∧ k ≤ 8 ∧ i = .int .i64 k ∧ wr.rowIs (w.heap.size + 1) 26 8 (fun j => .int .u32 (rowB z k j)) ∧ Num wr w.heap.size 26 0 ∧ Below w.heap.size w wr) (fun i _ => 8 - (intOf i).toNat)
          case atStart => exact ⟨1, by omega, by omega, rfl, hn.congr (fun j _ => by rw [rowB_start]), hz, hb⟩
          case round =>
            clear hn hz hb
            obtain ⟨k, hk0, hk, rfl, hn, hz, hb⟩ := hrel
            by_cases hlt : k < 8
            · have hcv := hn.cell (i := k) hlt
              rw [rowB_at] at hcv
              have hcf := hn.frozen k
              have hz0 := hzb k
              generalize hZ : z k = Z at *
              go_wp2
              go_roundw
              case rel =>
                refine ⟨k + 1, by omega, by omega, by go_num, ?_, ?_, ?_⟩
                · refine rowB_next hk0 hlt hn (by first | rfl | (rw [hZ]; rfl))
                · refine Num.far hz (by simp) _
                · refine Below.setCell hb (by simp) _
              case measure => simp [intOf] <;> omega
            · obtain rfl : k = 8 := by omega
              have hN := mk_num hzV (show mkZ kd n x = _ from by unfold mkZ; simp only [h6, hzV.out]) hn (fun j => rowB_bd hzb 8 j)
              rw [hV.out] at hN
              go_wp2_with (first | (go_at_call 48; refine (within_any _ _ (by omega) (by omega) (by omega) (by omega) _).mono ?_; rintro e w' ⟨rfl, rfl⟩) | (refine wpList_load_num rfl _ _ rfl _ rfl _ _ _ hN Try.underlying26 rfl size26 ?_) | (refine wpList_store_num rfl _ _ _ rfl _ rfl _ rfl _ rfl hz size26 ?_; intro w5 hg5 m5))
              exact bodyPost_ret (results_num rfl rfl m5 Try.underlying26 rfl size26) rfl ⟨rfl, below_of_grown hb hg5 (by have := hz.lt; omega) (by omega)⟩
        · skip
          go_wp2_with (go_at_call 48; refine (within_any _ _ (by omega) (by omega) (by omega) (by omega) _).mono ?_; rintro e w' ⟨rfl, rfl⟩)
          go_loopw [8] (fun i wr => ∃ k : Nat, 0 ≤ k ∧ k ≤ 8 ∧ i = .int .i64 k ∧ wr.rowIs (w.heap.size + 1) 26 8 (fun j => .int .u32 (rowC z k j)) ∧ Num wr w.heap.size 26 0 ∧ Below w.heap.size w wr) (fun i _ => 8 - (intOf i).toNat)
          case atStart => exact ⟨0, by omega, by omega, rfl, hn.congr (fun j _ => by rw [rowC_start]), hz, hb⟩
          case round =>
            clear hn hz hb
            obtain ⟨k, hk0, hk, rfl, hn, hz, hb⟩ := hrel
            by_cases hlt : k < 8
            · have hcv := hn.cell (i := k) hlt
              rw [rowC_at] at hcv
              have hcf := hn.frozen k
              have hz0 := hzb k
              generalize hZ : z k = Z at *
              go_wp2
              go_roundw
              case rel =>
                refine ⟨k + 1, by omega, by omega, by go_num, ?_, ?_, ?_⟩
                · refine rowC_next hk0 hlt hn (by first | rfl | (rw [hZ]; rfl))
                · refine Num.far hz (by simp) _
                · refine Below.setCell hb (by simp) _
              case measure => simp [intOf] <;> omega
            · obtain rfl : k = 8 := by omega
              have hN := mk_num hzV (show mkZ kd n x = _ from by unfold mkZ; simp only [h6, h7, hzV.out]) hn (fun j => rowC_bd hzb 8 j)
              rw [hV.out] at hN
              go_wp2_with (first | (go_at_call 48; refine (within_any _ _ (by omega) (by omega) (by omega) (by omega) _).mono ?_; rintro e w' ⟨rfl, rfl⟩) | (refine wpList_load_num rfl _ _ rfl _ rfl _ _ _ hN Try.underlying26 rfl size26 ?_) | (refine wpList_store_num rfl _ _ _ rfl _ rfl _ rfl _ rfl hz size26 ?_; intro w5 hg5 m5))
              exact bodyPost_ret (results_num rfl rfl m5 Try.underlying26 rfl size26) rfl ⟨rfl, below_of_grown hb hg5 (by have := hz.lt; omega) (by omega)⟩
        · skip
          go_wp2_with (go_at_call 48; refine (within_any _ _ (by omega) (by omega) (by omega) (by omega) _).mono ?_; rintro e w' ⟨rfl, rfl⟩)
          go_loopw [9] (fun i wr => ∃ k : Nat, 4 ≤ k ∧ k ≤ 8 ∧ i = .int .i64 k ∧ wr.rowIs (w.heap.size + 1) 26 8 (fun j => .int .u32 (rowD z k j)) ∧ Num wr w.heap.size 26 0 ∧ Below w.heap.size w wr) (fun i _ => 8 - (intOf i).toNat)
          case atStart => exact ⟨4, by omega, by omega, rfl, hn.congr (fun j _ => by rw [rowD_start]), hz, hb⟩
          case round =>
            clear hn hz hb
            obtain ⟨k, hk0, hk, rfl, hn, hz, hb⟩ := hrel
            by_cases hlt : k < 8
            · have hcv := hn.cell (i := k) hlt
              rw [rowD_at] at hcv
              have hcf := hn.frozen k
              have hz0 := hzb k
              generalize hZ : z k = Z at *
              go_wp2
              go_roundw
              case rel =>
                refine ⟨k + 1, by omega, by omega, by go_num, ?_, ?_, ?_⟩
                · refine rowD_next hk0 hlt hn (by first | rfl | (rw [hZ]; rfl))
                · refine Num.far hz (by simp) _
                · refine Below.setCell hb (by simp) _
              case measure => simp [intOf] <;> omega
            · obtain rfl : k = 8 := by omega
              have hN := mk_num hzV (show mkZ kd n x = _ from by unfold mkZ; simp only [h6, h7, h8, hzV.out]) hn (fun j => rowD_bd hzb 8 j)
              rw [hV.out] at hN
              go_wp2_with (first | (go_at_call 48; refine (within_any _ _ (by omega) (by omega) (by omega) (by omega) _).mono ?_; rintro e w' ⟨rfl, rfl⟩) | (refine wpList_load_num rfl _ _ rfl _ rfl _ _ _ hN Try.underlying26 rfl size26 ?_) | (refine wpList_store_num rfl _ _ _ rfl _ rfl _ rfl _ rfl hz size26 ?_; intro w5 hg5 m5))
              exact bodyPost_ret (results_num rfl rfl m5 Try.underlying26 rfl size26) rfl ⟨rfl, below_of_grown hb hg5 (by have := hz.lt; omega) (by omega)⟩
        · have hN := mk_num hzV (show mkZ kd n x = _ from by unfold mkZ; simp only [h6, h7, h8, hzV.out]) hn hzb
          rw [hV.out] at hN
          go_wp2_with (first | (go_at_call 48; refine (within_any _ _ (by omega) (by omega) (by omega) (by omega) _).mono ?_; rintro e w' ⟨rfl, rfl⟩) | (refine wpList_load_num rfl _ _ rfl _ rfl _ _ _ hN Try.underlying26 rfl size26 ?_) | (refine wpList_store_num rfl _ _ _ rfl _ rfl _ rfl _ rfl hz size26 ?_; intro w5 hg5 m5))
          exact bodyPost_ret (results_num rfl rfl m5 Try.underlying26 rfl size26) rfl ⟨rfl, below_of_grown hb hg5 (by have := hz.lt; omega) (by omega)⟩
end Go.Proofs.Ytgccbfkofkohpaa
