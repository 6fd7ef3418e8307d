/- sentinellaw4.known: it is true. -/
import Derived.Test.YtgccbfkofkohpaaGaGd
namespace Go.Proofs.Ytgccbfkofkohpaa
set_option linter.unusedVariables false
set_option maxRecDepth 20000
set_option linter.unusedSimpArgs false
open Go.ChangeShapes Go.WideShapes Go.ChangeAt Go.RowKit
attribute [local go_sem] eqn_same
theorem gknown_pack : RunsTo 15 #[.int .i64 12] (.tuple #[.agg (groupA 12 4079 2039 4), .bool true]) ∧
    RunsTo 15 #[.int .i64 11] (.tuple #[.agg (groupA 0 0 0 0), .bool false]) ∧
    (∀ w, Calls Try.prog 18 #[.int .i64 4079] w fun e w' => e = .returned (.bool true) ∧ w = w') ∧
    (∀ w, Calls Try.prog 18 #[.int .i64 4081] w fun e w' => e = .returned (.bool false) ∧ w = w') ∧
    RunsTo 23 #[.agg (groupA 12 4079 2039 4), numV 4, numV 2] (numV 16) ∧
    RunsTo 27 #[.agg (groupA 12 4079 2039 4), numV 16] (.bool true) ∧
    RunsTo 25 #[.agg (groupA 12 4079 2039 4), numV 4, numV 4] (numV 16) := by
  have t12 := tab_of (k := 12) (p := 4079) (D := 63) (E := 45) (by decide) (by decide) (by decide) (by decide) (by decide) tab12
  refine ⟨fun w => ?_, fun w => ?_, fun w => ?_, fun w => ?_, fun w => ?_, fun w => ?_, fun w => ?_⟩
  · refine (gmake_any 12 (by decide) (by decide) w).mono ?_
    rintro e w' ⟨V, rfl, h, hb⟩
    have := gm_known (k := 12) (p := 4079) (by decide) (by decide) (by decide) t12 h
    exact ⟨by rw [this]; rfl, hb⟩
  · refine (gmake_any 11 (by decide) (by decide) w).mono ?_
    rintro e w' ⟨V, rfl, h, hb⟩
    exact ⟨by rw [gm_none (by decide) h], hb⟩
  · have := prime_any 4079 (by decide) (by decide) w
    rw [show primeB 4079 = true from primeF_yes (n := 4079) (D := 63) (by decide) (by decide) (by decide) (by decide +kernel)] at this
    exact this
  · have := prime_any 4081 (by decide) (by decide) w
    rw [show primeB 4081 = false from primeF_no (n := 4081) (d := 7) (by decide) (by decide) (by decide)] at this
    exact this
  · have := graise_any 12 4079 2039 4 (by decide) (by decide) (by decide) 4 2 (by decide) (by decide) w
    rw [show 4 ^ 2 % 4079 = 16 by decide] at this
    exact this
  · have := ghas_any 12 4079 2039 4 (by decide) (by decide) (by decide) 16 (by decide) (by decide) w
    rw [show hasB 16 4079 2039 = true by decide +kernel] at this
    exact this
  · have := gtimes_any 12 4079 2039 4 (by decide) (by decide) (by decide) 4 4 (by decide) (by decide) w
    rw [show 4 * 4 % 4079 = 16 by decide] at this
    exact this
set_option maxRecDepth 100000 in
set_option maxHeartbeats 8000000 in
theorem gknown_any (w : World) : Calls Try.prog 13 #[] w fun e w' => e = .returned (.bool true) ∧ Below w.heap.size w w' := by
  obtain ⟨k1, k2, k3, k4, k5, k6, k7⟩ := gknown_pack
  have ng := noGuard
  have f2 := fun w => from_ref 2 (by decide) (by decide) w
  rw [show ((2 : Int)).toNat = 2 from rfl] at f2
  have f4 := fun w => from_ref 4 (by decide) (by decide) w
  rw [show ((4 : Int)).toNat = 4 from rfl] at f4
  have f16 := fun w => from_ref 16 (by decide) (by decide) w
  rw [show ((16 : Int)).toNat = 16 from rfl] at f16
  have f2039 := fun w => from_ref 2039 (by decide) (by decide) w
  rw [show ((2039 : Int)).toNat = 2039 from rfl] at f2039
  have f4079 := fun w => from_ref 4079 (by decide) (by decide) w
  rw [show ((4079 : Int)).toNat = 4079 from rfl] at f4079
  go_enter Try.func13, Try.ntmps13
  go_wp2_with (fail)
  refine (k1 _).mono ?_
  rintro e w1 ⟨rfl, bw1⟩
  have c_1 := bw1
  clear bw1
  go_upto_region 2 with (first | (refine wpList_store_blk rfl _ (.tmp 1) _ rfl _ rfl (groupA 12 4079 2039 4) rfl (groupA_cells _ _ _ _) _ (heap_alloc_new _ _) rfl size_group ?_; intro w2 gw2 mw2))
  try simp only [Act.put, List.setIfInBounds_toArray, List.set_cons_zero, List.set_cons_succ]
  have log := hid (show _ ≤ w1.heap.size from c_1.size)
  have b_1 := step_new gw2
  have c_2 := step_trans c_1 b_1
  clear c_1 b_1
  clear gw2
  go_wp2_with (fail)
  refine (k2 _).mono ?_
  rintro e w3 ⟨rfl, bw3⟩
  have g_1 := mw2.step bw3
  have c_3 := step_trans c_2 bw3
  clear mw2 c_2 bw3
  go_upto_region 3 with (first | (refine wpList_store_blk rfl _ (.tmp 3) _ rfl _ rfl (groupA 0 0 0 0) rfl (groupA_cells _ _ _ _) _ (heap_alloc_new _ _) rfl size_group ?_; intro w4 gw4 mw4))
  try simp only [Act.put, List.setIfInBounds_toArray, List.set_cons_zero, List.set_cons_succ]
  have ng_z := hid (show _ ≠ w3.heap.size from Nat.ne_of_lt g_1.lt)
  have loz := hid (show _ ≤ w3.heap.size from c_3.size)
  have b_2 := step_new gw4
  have g_2 := g_1.step b_2
  have c_4 := step_trans c_3 b_2
  clear g_1 c_3 b_2
  clear gw4
  refine wp_region_later (by kernel_rfl) (by kernel_rfl) ?_
  go_big_quiet_step (fail)
  go_big_quiet_step (fail)
  go_big_quiet_step (fail)
  go_big_quiet_step (fail)
  go_big_quiet_step (fail)
  go_big_quiet_step (fail)
  go_big_quiet_step (fail)
  first | (refine wpQuiet_load_part rfl _ (.tmp 19) rfl _ _ rfl _ _ (numA 4079) _ g_2 groupA_p Try.underlying26 rfl size26 ?_; simp only [Act.put, List.setIfInBounds_toArray, List.set_cons_zero, List.set_cons_succ]) | go_big_quiet_step (fail)
  go_big_quiet_step (exact later_of (f4079 _))
  go_big_quiet_step (fail)
  go_big_quiet_step (fail)
  go_big_quiet_step (fail)
  go_big_quiet_step (fail)
  first | (refine wpQuiet_load_part rfl _ (.tmp 25) rfl _ _ rfl _ _ (numA 2039) _ g_2 groupA_q Try.underlying26 rfl size26 ?_; simp only [Act.put, List.setIfInBounds_toArray, List.set_cons_zero, List.set_cons_succ]) | go_big_quiet_step (fail)
  go_big_quiet_step (exact later_of (f2039 _))
  go_big_quiet_step (fail)
  go_big_quiet_step (fail)
  go_big_quiet_step (fail)
  go_big_quiet_step (fail)
  first | (refine wpQuiet_load_part rfl _ (.tmp 31) rfl _ _ rfl _ _ (numA 4) _ g_2 groupA_g Try.underlying26 rfl size26 ?_; simp only [Act.put, List.setIfInBounds_toArray, List.set_cons_zero, List.set_cons_succ]) | go_big_quiet_step (fail)
  go_big_quiet_step (exact later_of (f4 _))
  go_big_quiet_step (fail)
  go_big_quiet_step (fail)
  go_big_quiet_step (fail)
  go_big_quiet_step (exact later_same (k3 _))
  go_big_quiet_step (fail)
  go_big_quiet_step (fail)
  go_big_quiet_step (exact later_same (k4 _))
  go_big_quiet_step (fail)
  go_big_quiet_step (fail)
  go_big_quiet_step (fail)
  first | (refine wpQuiet_load_blk rfl _ (.tmp 1) rfl _ rfl _ _ _ g_2 Try.underlying28 rfl size_group ?_; simp only [Act.put, List.setIfInBounds_toArray, List.set_cons_zero, List.set_cons_succ]) | go_big_quiet_step (fail)
  go_big_quiet_step (exact later_of (f4 _))
  go_big_quiet_step (exact later_of (f2 _))
  go_big_quiet_step (exact later_of (k5 _))
  go_big_quiet_step (exact later_of (f16 _))
  go_big_quiet_step (fail)
  go_big_quiet_step (fail)
  go_big_quiet_step (fail)
  first | (refine wpQuiet_load_blk rfl _ (.tmp 1) rfl _ rfl _ _ _ g_2 Try.underlying28 rfl size_group ?_; simp only [Act.put, List.setIfInBounds_toArray, List.set_cons_zero, List.set_cons_succ]) | go_big_quiet_step (fail)
  go_big_quiet_step (exact later_of (f16 _))
  go_big_quiet_step (exact later_of (k6 _))
  go_big_quiet_step (fail)
  go_big_quiet_step (fail)
  first | (refine wpQuiet_load_blk rfl _ (.tmp 1) rfl _ rfl _ _ _ g_2 Try.underlying28 rfl size_group ?_; simp only [Act.put, List.setIfInBounds_toArray, List.set_cons_zero, List.set_cons_succ]) | go_big_quiet_step (fail)
  go_big_quiet_step (exact later_of (f4 _))
  go_big_quiet_step (exact later_of (f4 _))
  go_big_quiet_step (exact later_of (k7 _))
  go_big_quiet_step (exact later_of (f16 _))
  go_big_quiet_step (fail)
  go_big_quiet_step (fail)
  go_big_quiet_step (fail)
  refine wpQuiet_nil ?_
  intro X_1
  have g_3 := g_2.step X_1.h
  have c_5 := step_trans c_4 X_1.h
  clear g_2 c_4
  go_wp2
  go_ret
  exact ⟨rfl, c_5⟩
end Go.Proofs.Ytgccbfkofkohpaa
