/- limb.Pick, sentinelref1.Pick: contracts. -/
import Derived.Test.YtgccbfkofkohpaaGaKn
namespace Go.Proofs.Ytgccbfkofkohpaa
set_option linter.unusedVariables false
set_option maxRecDepth 20000
set_option linter.unusedSimpArgs false
open Go.ChangeShapes Go.WideShapes Go.ChangeAt Go.RowKit

def pickN (y : Int) (a b : Nat) : Nat := if y = 0 then b else a
theorem mask_one (y : Int) (h0 : 0 < y) (h1 : y < 4294967296) : bits .or .u32 y (-y % 4294967296) / 2147483648 = 1 := by
  obtain ⟨y, rfl⟩ := Int.eq_ofNat_of_zero_le (Int.le_of_lt h0)
  have e : -(y : Int) % 4294967296 = ((4294967296 - y : Nat) : Int) := by omega
  rw [e, u32_or_nat _ _ (by omega) (by omega)]
  have h := Nat.or_div_two_pow (a := y) (b := 4294967296 - y) (n := 31)
  have h2 : (y ||| (4294967296 - y)) / 2147483648 = y / 2147483648 ||| (4294967296 - y) / 2147483648 := h
  have h3 : (y / 2147483648 = 0 ∧ (4294967296 - y) / 2147483648 = 1) ∨ (y / 2147483648 = 1 ∧ (4294967296 - y) / 2147483648 = 1) ∨ (y / 2147483648 = 1 ∧ (4294967296 - y) / 2147483648 = 0) := by omega
  have h4 : (y ||| (4294967296 - y)) / 2147483648 = 1 := by
    rw [h2]
    rcases h3 with ⟨a, b⟩ | ⟨a, b⟩ | ⟨a, b⟩ <;> rw [a, b] <;> rfl
  omega
theorem and_all (x : Int) (h0 : 0 ≤ x) (h1 : x < 4294967296) : bits .and .u32 x 4294967295 = x := by
  rw [u32_and _ _ h0 h1 (by omega) (by omega)]
  have : x.toNat &&& (4294967295 : Int).toNat = x.toNat % 2 ^ 32 := Nat.and_two_pow_sub_one_eq_mod x.toNat 32
  rw [this]; omega
theorem and_none (x : Int) (h0 : 0 ≤ x) (h1 : x < 4294967296) : bits .and .u32 x 0 = 0 := by
  rw [u32_and _ _ h0 h1 (by omega) (by omega)]; simp
theorem not_all (x : Int) (h0 : 0 ≤ x) (h1 : x < 4294967296) : bits .andNot .u32 x 4294967295 = 0 := by
  rw [u32_andNot _ _ h0 h1 (by omega) (by omega)]; simp
theorem not_none (x : Int) (h0 : 0 ≤ x) (h1 : x < 4294967296) : bits .andNot .u32 x 0 = x := by
  rw [u32_andNot _ _ h0 h1 (by omega) (by omega)]
  have : x.toNat &&& (4294967295 - (0 : Int).toNat) = x.toNat % 2 ^ 32 := Nat.and_two_pow_sub_one_eq_mod x.toNat 32
  rw [this]; omega
theorem or_none (x : Int) (h0 : 0 ≤ x) (h1 : x < 4294967296) : bits .or .u32 x 0 = x ∧ bits .or .u32 0 x = x := by
  rw [u32_or _ _ h0 h1 (by omega) (by omega), u32_or _ _ (by omega) (by omega) h0 h1]; simp; omega
/-- k digits of r, the others of a. -/
def mixF (r a k j : Nat) : Value := if j < k then numF r j else numF a j
theorem mix_set (r a k j : Nat) : (if j = k then numF r k else mixF r a k j) = mixF r a (k + 1) j := by
  unfold mixF
  by_cases h : j = k
  · subst h; rw [if_pos rfl, if_pos (by omega)]
  · rw [if_neg h]
    by_cases h2 : j < k
    · rw [if_pos h2, if_pos (by omega)]
    · rw [if_neg h2, if_neg (by omega)]
set_option maxHeartbeats 2000000 in
theorem pick_any (y : Int) (h0 : 0 ≤ y) (h1 : y < 4294967296) (a b : Nat) (w : World) :
    Calls Try.prog 76 #[.int .u32 y, numV a, numV b] w fun e w' => e = .returned (numV (pickN y a b)) ∧ Below w.heap.size w w' := by
  have hr : y = 0 ∧ pickN y a b = b ∨ 0 < y ∧ pickN y a b = a := by
    unfold pickN
    by_cases h : y = 0
    · exact .inl ⟨h, if_pos h⟩
    · exact .inr ⟨by omega, if_neg h⟩
  rcases hr with ⟨rfl, hr⟩ | ⟨hy, hr⟩
  · rw [hr]
    clear hr
    have hm : bits .or .u32 0 0 = 0 := by decide +kernel
    go_enter Try.func76, Try.ntmps76
    go_wp2
    have g0 := ((Num.new w 26 a).alloc (.cells (numA b) 26)).alloc (.cells #[Value.int .u32 0, .int .u32 0, .int .u32 0, .int .u32 0, .int .u32 0, .int .u32 0, .int .u32 0, .int .u32 0] 26)
    have g1 := (Num.new (w.alloc (.cells (numA a) 26)) 26 b).alloc (.cells #[Value.int .u32 0, .int .u32 0, .int .u32 0, .int .u32 0, .int .u32 0, .int .u32 0, .int .u32 0, .int .u32 0] 26)
    have g2 := heap_alloc_new ((w.alloc (.cells (numA a) 26)).alloc (.cells (numA b) 26)) (.cells #[Value.int .u32 0, .int .u32 0, .int .u32 0, .int .u32 0, .int .u32 0, .int .u32 0, .int .u32 0, .int .u32 0] 26)
    simp only [World.size_alloc] at g1 g2
    have gb : Below w.heap.size w (((w.alloc (.cells (numA a) 26)).alloc (.cells (numA b) 26)).alloc (.cells #[Value.int .u32 0, .int .u32 0, .int .u32 0, .int .u32 0, .int .u32 0, .int .u32 0, .int .u32 0, .int .u32 0] 26)) := (((Below.refl _ _).alloc (Nat.le_refl _) _).alloc (by simp) _).alloc (by simp; omega) _
    have gs : w.heap.size + 2 < (((w.alloc (.cells (numA a) 26)).alloc (.cells (numA b) 26)).alloc (.cells #[Value.int .u32 0, .int .u32 0, .int .u32 0, .int .u32 0, .int .u32 0, .int .u32 0, .int .u32 0, .int .u32 0] 26)).heap.size := by simp
    generalize hW : World.alloc _ _ = W at *
    clear hW
    go_loopw [15] (fun i wr => ∃ k : Nat, k ≤ 8 ∧ i = .int .i64 k ∧ wr.rowIs w.heap.size 26 8 (mixF b a k) ∧ W.grownBy wr (some w.heap.size)) (fun i _ => 8 - (intOf i).toNat)
    case atStart => exact ⟨0, by omega, rfl, g0.row.congr fun j _ => by unfold mixF; rw [if_neg (by omega)], World.grownBy.refl _ _⟩
    case round =>
      obtain ⟨k, hk, rfl, hr, hg⟩ := hrel
      by_cases hlt : k < 8
      · have hc0 := hr.cell hlt
        have hc1 := hg.cell (g1.cell hlt) (by simp)
        have hz := hr.frozen k
        unfold mixF numF at hc0
        rw [if_neg (by omega)] at hc0
        have ha0 := digI_ge a k
        have ha1 := digI_lt a k
        have hb0 := digI_ge b k
        have hb1 := digI_lt b k
        have f1 := and_none (digI a k) ha0 ha1
        have f2 := not_none (digI b k) hb0 hb1
        have f3 := (or_none (digI b k) hb0 hb1).2
        go_wp2
        go_still_tail 13, (by kernel_rfl)
        change wpList _ _ _ _ _ (World.drew _)
        go_wp2
        go_roundw
        case rel => exact ⟨k + 1, by omega, by go_num, (hr.set k _).congr fun j _ => mix_set b a k j, only_drewN (grown_set hg rfl _) 1⟩
        case measure => simp [intOf] <;> omega
      · obtain rfl : k = 8 := by omega
        have m0 : Num wr w.heap.size 26 b := num_of_row hr fun j hj => by unfold mixF; rw [if_pos hj]
        have m2 := (hg.block _ (by omega) (by simp <;> omega)).trans g2
        have m3 := below_of_grown gb hg (by omega) (by omega)
        have m4 := hg.size
        go_wp2_with (first | (refine wpList_load_num rfl _ _ rfl _ rfl _ _ _ m0 Try.underlying26 rfl size26 ?_) | (refine wpList_store_num rfl _ _ _ rfl _ rfl _ rfl _ rfl m2 size26 ?_; intro w5 g5 m5))
        exact bodyPost_ret (results_num rfl rfl m5 Try.underlying26 rfl size26) rfl ⟨rfl, below_of_grown m3 g5 (by omega) (by omega)⟩
  · rw [hr]
    clear hr
    have hm := mask_one y hy h1
    go_enter Try.func76, Try.ntmps76
    go_wp2
    clear hm
    rw [show (-1 : Int) % 4294967296 = 4294967295 by decide]
    have g0 := ((Num.new w 26 a).alloc (.cells (numA b) 26)).alloc (.cells #[Value.int .u32 0, .int .u32 0, .int .u32 0, .int .u32 0, .int .u32 0, .int .u32 0, .int .u32 0, .int .u32 0] 26)
    have g1 := (Num.new (w.alloc (.cells (numA a) 26)) 26 b).alloc (.cells #[Value.int .u32 0, .int .u32 0, .int .u32 0, .int .u32 0, .int .u32 0, .int .u32 0, .int .u32 0, .int .u32 0] 26)
    have g2 := heap_alloc_new ((w.alloc (.cells (numA a) 26)).alloc (.cells (numA b) 26)) (.cells #[Value.int .u32 0, .int .u32 0, .int .u32 0, .int .u32 0, .int .u32 0, .int .u32 0, .int .u32 0, .int .u32 0] 26)
    simp only [World.size_alloc] at g1 g2
    have gb : Below w.heap.size w (((w.alloc (.cells (numA a) 26)).alloc (.cells (numA b) 26)).alloc (.cells #[Value.int .u32 0, .int .u32 0, .int .u32 0, .int .u32 0, .int .u32 0, .int .u32 0, .int .u32 0, .int .u32 0] 26)) := (((Below.refl _ _).alloc (Nat.le_refl _) _).alloc (by simp) _).alloc (by simp; omega) _
    have gs : w.heap.size + 2 < (((w.alloc (.cells (numA a) 26)).alloc (.cells (numA b) 26)).alloc (.cells #[Value.int .u32 0, .int .u32 0, .int .u32 0, .int .u32 0, .int .u32 0, .int .u32 0, .int .u32 0, .int .u32 0] 26)).heap.size := by simp
    generalize hW : World.alloc _ _ = W at *
    clear hW
    go_loopw [15] (fun i wr => ∃ k : Nat, k ≤ 8 ∧ i = .int .i64 k ∧ wr.rowIs w.heap.size 26 8 (mixF a a k) ∧ W.grownBy wr (some w.heap.size)) (fun i _ => 8 - (intOf i).toNat)
    case atStart => exact ⟨0, by omega, rfl, g0.row.congr fun j _ => by unfold mixF; rw [if_neg (by omega)], World.grownBy.refl _ _⟩
    case round =>
      obtain ⟨k, hk, rfl, hr, hg⟩ := hrel
      by_cases hlt : k < 8
      · have hc0 := hr.cell hlt
        have hc1 := hg.cell (g1.cell hlt) (by simp)
        have hz := hr.frozen k
        unfold mixF numF at hc0
        rw [if_neg (by omega)] at hc0
        have ha0 := digI_ge a k
        have ha1 := digI_lt a k
        have hb0 := digI_ge b k
        have hb1 := digI_lt b k
        have f1 := and_all (digI a k) ha0 ha1
        have f2 := not_all (digI b k) hb0 hb1
        have f3 := (or_none (digI a k) ha0 ha1).1
        go_wp2
        go_still_tail 13, (by kernel_rfl)
        change wpList _ _ _ _ _ (World.drew _)
        go_wp2
        go_roundw
        case rel => exact ⟨k + 1, by omega, by go_num, (hr.set k _).congr fun j _ => mix_set a a k j, only_drewN (grown_set hg rfl _) 1⟩
        case measure => simp [intOf] <;> omega
      · obtain rfl : k = 8 := by omega
        have m0 : Num wr w.heap.size 26 a := num_of_row hr fun j hj => by unfold mixF; rw [if_pos hj]
        have m2 := (hg.block _ (by omega) (by simp <;> omega)).trans g2
        have m3 := below_of_grown gb hg (by omega) (by omega)
        have m4 := hg.size
        go_wp2_with (first | (refine wpList_load_num rfl _ _ rfl _ rfl _ _ _ m0 Try.underlying26 rfl size26 ?_) | (refine wpList_store_num rfl _ _ _ rfl _ rfl _ rfl _ rfl m2 size26 ?_; intro w5 g5 m5))
        exact bodyPost_ret (results_num rfl rfl m5 Try.underlying26 rfl size26) rfl ⟨rfl, below_of_grown m3 g5 (by omega) (by omega)⟩
end Go.Proofs.Ytgccbfkofkohpaa
