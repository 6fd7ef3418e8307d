/- sentinelref1.Rest at nothing. -/
import Derived.Test.YteihojjciklfoaaRefR
import Derived.Test.YteihojjciklfoaaEqn
import Derived.Test.YteihojjciklfoaaNews
namespace Go.Proofs.Yteihojjciklfoaa
set_option linter.unusedVariables false
set_option linter.unusedSimpArgs false
open Go.ChangeShapes Go.WideShapes Go.ChangeAt Go.RowKit
set_option maxRecDepth 100000 in
set_option maxHeartbeats 4000000 in
theorem rrest_zero (lo hi : Nat) (w : World) :
    Calls Try.prog 24 #[numV lo, numV hi, numV 0] w fun e w' => e = .returned (.tuple #[numV 0, .bool false]) ∧ Below w.heap.size w w' := by
  have ng := noGuard
  obtain ⟨W, hW⟩ : ∃ W, W = ((((w.alloc (.cells (numA lo) 26)).alloc (.cells (numA hi) 26)).alloc (.cells (numA 0) 26)).alloc (.cells #[Value.int .u32 0, .int .u32 0, .int .u32 0, .int .u32 0, .int .u32 0, .int .u32 0, .int .u32 0, .int .u32 0] 26)).alloc (.cells #[Value.int .u32 0, .int .u32 0, .int .u32 0, .int .u32 0, .int .u32 0, .int .u32 0, .int .u32 0, .int .u32 0] 26) := ⟨_, rfl⟩
  have n0 : Num W w.heap.size 26 lo := by rw [hW]; exact (((((Num.new w _ lo).alloc _).alloc _).alloc _).alloc _)
  have n1 : Num W (w.heap.size + 1) 26 hi := by
    have := ((((Num.new (w.alloc (.cells (numA lo) 26)) 26 hi).alloc (.cells (numA 0) 26)).alloc (.cells #[Value.int .u32 0, .int .u32 0, .int .u32 0, .int .u32 0, .int .u32 0, .int .u32 0, .int .u32 0, .int .u32 0] 26)).alloc (.cells #[Value.int .u32 0, .int .u32 0, .int .u32 0, .int .u32 0, .int .u32 0, .int .u32 0, .int .u32 0, .int .u32 0] 26))
    simp only [World.size_alloc] at this; rw [hW]; exact this
  have n2 : Num W (w.heap.size + 1 + 1) 26 0 := by
    have := (((Num.new ((w.alloc (.cells (numA lo) 26)).alloc (.cells (numA hi) 26)) 26 0).alloc (.cells #[Value.int .u32 0, .int .u32 0, .int .u32 0, .int .u32 0, .int .u32 0, .int .u32 0, .int .u32 0, .int .u32 0] 26)).alloc (.cells #[Value.int .u32 0, .int .u32 0, .int .u32 0, .int .u32 0, .int .u32 0, .int .u32 0, .int .u32 0, .int .u32 0] 26))
    simp only [World.size_alloc] at this; rw [hW]; exact this
  have n3 : W.heap[w.heap.size + 1 + 1 + 1]? = some (.cells #[Value.int .u32 0, .int .u32 0, .int .u32 0, .int .u32 0, .int .u32 0, .int .u32 0, .int .u32 0, .int .u32 0] 26 (0, 0)) := by
    have := heap_alloc2_old (((w.alloc (.cells (numA lo) 26)).alloc (.cells (numA hi) 26)).alloc (.cells (numA 0) 26)) (.cells #[Value.int .u32 0, .int .u32 0, .int .u32 0, .int .u32 0, .int .u32 0, .int .u32 0, .int .u32 0, .int .u32 0] 26) (.cells #[Value.int .u32 0, .int .u32 0, .int .u32 0, .int .u32 0, .int .u32 0, .int .u32 0, .int .u32 0, .int .u32 0] 26)
    simp only [World.size_alloc] at this; rw [hW]; exact this
  have n4 : Num W (w.heap.size + 1 + 1 + 1 + 1) 26 0 := by
    have := heap_alloc2_new (((w.alloc (.cells (numA lo) 26)).alloc (.cells (numA hi) 26)).alloc (.cells (numA 0) 26)) (.cells #[Value.int .u32 0, .int .u32 0, .int .u32 0, .int .u32 0, .int .u32 0, .int .u32 0, .int .u32 0, .int .u32 0] 26) (.cells #[Value.int .u32 0, .int .u32 0, .int .u32 0, .int .u32 0, .int .u32 0, .int .u32 0, .int .u32 0, .int .u32 0] 26)
    simp only [World.size_alloc] at this; rw [hW]; unfold Num; exact this.trans (by rw [zeroA])
  have gb : Below w.heap.size w W := by rw [hW]; exact (((((Below.refl _ _).alloc (Nat.le_refl _) _).alloc (by simp) _).alloc (by simp; omega) _).alloc (by simp; omega) _).alloc (by simp; omega) _
  have e2 := fun w => eqn_same 0 w
  go_enter Try.func24, Try.ntmps24
  go_upto_region 2 with fail
  rw [← hW]
  clear hW
  go_wp2_with (first | (refine wpList_load_num rfl _ (.tmp 5) rfl _ rfl _ _ _ n2 Try.underlying26 rfl size26 ?_) | (refine wpList_load_num rfl _ (.tmp 8) rfl _ rfl _ _ _ n4 Try.underlying26 rfl size26 ?_) | (refine wpList_store_num rfl _ _ _ rfl _ rfl _ rfl _ rfl n3 size26 ?_; intro v gv mv))
  exact bodyPost_ret (results_num_tmp rfl rfl mv Try.underlying26 rfl size26) rfl ⟨rfl, below_of_grown gb gv gb.size (by omega)⟩
theorem rrest_any (lo hi m : Nat) (hlo : lo < 4294967296 ^ 8) (hhi : hi < 4294967296 ^ 8) (hm : m < 4294967296 ^ 8) (w : World) :
    Calls Try.prog 24 #[numV lo, numV hi, numV m] w fun e w' => e = .returned (.tuple #[numV (if m = 0 then 0 else (lo + hi * 4294967296 ^ 8) % m), .bool (decide (m ≠ 0))]) ∧ Below w.heap.size w w' := by
  by_cases h : m = 0
  · subst h
    rw [if_pos rfl, show decide ((0 : Nat) ≠ 0) = false by decide]
    exact rrest_zero lo hi w
  · rw [if_neg h, show decide (m ≠ 0) = true by simp [h]]
    exact rrest_pos lo hi m hlo hhi hm (by omega) w
end Go.Proofs.Yteihojjciklfoaa
