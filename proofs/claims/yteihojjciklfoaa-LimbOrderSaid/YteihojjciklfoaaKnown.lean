/- sentinellaw1.known: it is true. -/
import Derived.Test.YteihojjciklfoaaLater
namespace Go.Proofs.Yteihojjciklfoaa
set_option linter.unusedVariables false
set_option linter.unusedSimpArgs false
open Go.ChangeShapes Go.WideShapes Go.ChangeAt Go.RowKit
attribute [local go_sem] eqn_same

theorem digI_small (n k : Nat) (hk : 1 ≤ k) (hn : n < 4294967296) : digI n k = 0 := by
  unfold digI; rw [dig_of_lt (m := 1) (by omega) hk]; rfl
theorem digI_zero (n : Nat) (hn : n < 4294967296) : digI n 0 = (n : Int) := by
  unfold digI dig; simp; omega
theorem topI_small (n : Nat) (h0 : n ≠ 0) (hn : n < 4294967296) : topI n 8 = Lib.bitLen n := by
  simp only [topI, digI_small n 7 (by omega) hn, digI_small n 6 (by omega) hn, digI_small n 5 (by omega) hn, digI_small n 4 (by omega) hn, digI_small n 3 (by omega) hn, digI_small n 2 (by omega) hn, digI_small n 1 (by omega) hn, digI_zero n hn, if_true]
  rw [if_neg (by omega)]
  simp
theorem top8 : topI 8 8 = 4 := by rw [topI_small 8 (by decide) (by decide)]; decide
theorem byte256 : ((byteN 256 30).toNat : Int) = 1 := by decide +kernel
theorem read256 : readN [1, 0] = 256 := by decide
theorem from7 (w : World) : Calls Try.prog 29 #[.int .i64 7] w fun e w' => e = .returned (numV 7) ∧ Below w.heap.size w w' := from_any 7 (by omega) (by omega) w
theorem from8 (w : World) : Calls Try.prog 29 #[.int .i64 8] w fun e w' => e = .returned (numV 8) ∧ Below w.heap.size w w' := from_any 8 (by omega) (by omega) w
theorem from256 (w : World) : Calls Try.prog 29 #[.int .i64 256] w fun e w' => e = .returned (numV 256) ∧ Below w.heap.size w w' := from_any 256 (by omega) (by omega) w
theorem carry34 : carryI 3 4 = 0 := by decide +kernel
set_option maxHeartbeats 4000000 in
theorem known_any (w : World) : Calls Try.prog 15 #[] w fun e w' => e = .returned (.bool true) ∧ Below w.heap.size w w' := by
  have ng := noGuard
  go_enter Try.func15, Try.ntmps15
  go_wp2_with fail
  refine (from_any 3 (by omega) (by omega) _).mono ?_
  rintro e w1 ⟨rfl, b1⟩
  go_wp2_with fail
  refine (from_any 4 (by omega) (by omega) _).mono ?_
  rintro e w2 ⟨rfl, b2⟩
  have c2 := step_trans b1 b2
  go_wp2_with fail
  refine (add_any 3 4 (by decide) (by decide) _).mono ?_
  rintro e w3 ⟨rfl, b3⟩
  have c3 := step_trans c2 b3
  go_wp2_with (refine wpList_store_num rfl _ _ _ rfl _ rfl _ rfl _ rfl (heap_alloc_new _ _) size26 ?_; intro w4 g4 m4)
  have c4 := step_trans c3 (step_new g4)
  have m4' : Num w4 w3.heap.size 26 7 := m4
  clear m4 g4
  have rd5 : Rd (w4.alloc (.cells #[Value.int .u8 1, .int .u8 0] 5)) (some ⟨w4.heap.size, 0, none⟩) [1, 0] := Bts.rd (t := 5) (heap_alloc_new w4 (.cells (bvs [1, 0]) 5))
  refine (read_any _ [1, 0] 2 2 rfl (by omega) (by omega) (by unfold maxLen; omega) _ rd5).mono ?_
  rintro e w5 ⟨rfl, b5⟩
  have m5 := (m4'.alloc _).step b5
  have c5 := step_trans (step_trans c4 (step_alloc _ _)) b5
  go_wp2_with (refine wpList_store_num rfl _ _ _ rfl _ rfl _ rfl _ rfl (heap_alloc_new _ _) size26 ?_; intro w6 g6 k6)
  have m6 := m5.step (step_new g6)
  have c6 := step_trans c5 (step_new g6)
  have k6' : Num w6 w5.heap.size 26 256 := by rw [← read256]; exact k6
  clear k6 g6 m5
  refine (from_any 256 (by omega) (by omega) _).mono ?_
  rintro e w7 ⟨rfl, b7⟩
  have m7 := m6.step b7
  have k7 := k6'.step b7
  have c7 := step_trans c6 b7
  go_wp2_with fail
  refine (bytes_any _ _).mono ?_
  rintro e w8 ⟨g8, rfl, h8, t8, b8⟩
  have m8 := m7.step b8
  have k8 := k7.step b8
  have c8 := step_trans c7 b8
  have t9 : ∀ x : Later w8, x.w.cell? ⟨g8, 30, none⟩ = some (.int .u8 1) := fun x => by
    rw [← byte256]
    exact (t8.below x.h t8.lt).cell (bytesN_get 256 (by omega))
  have ht8 := top8
  go_wp2_with fail
  have hc34 := carry34
  refine wp_region_later (by kernel_rfl) (by kernel_rfl) ?_
  go_big_quiet_step (exact later_of (from8 _))
  go_big_quiet_step (exact later_of (bits_any 8 _))
  go_big_quiet_step (fail)
  go_big_quiet_step (fail)
  refine wpQuiet_load_num rfl _ _ rfl _ rfl _ _ _ m8 Try.underlying26 rfl size26 ?_
  simp only [Act.put, List.setIfInBounds_toArray, List.set_cons_zero, List.set_cons_succ]
  go_big_quiet_step (exact later_of (from7 _))
  go_big_quiet_step (fail)
  go_big_quiet_step (fail)
  go_big_quiet_step (fail)
  go_big_quiet_step (fail)
  go_big_quiet_step (fail)
  go_big_quiet_step (fail)
  go_big_quiet_step (fail)
  go_big_quiet_step (fail)
  go_big_quiet_step (fail)
  go_big_quiet_step (fail)
  refine wpQuiet_load_num rfl _ _ rfl _ rfl _ _ _ k8 Try.underlying26 rfl size26 ?_
  simp only [Act.put, List.setIfInBounds_toArray, List.set_cons_zero, List.set_cons_succ]
  go_big_quiet_step (exact later_of (from256 _))
  repeat go_big_quiet_step (fail)
  refine wpQuiet_nil ?_
  intro x
  go_wp2
  go_ret
  exact ⟨rfl, step_trans c8 x.h⟩
end Go.Proofs.Yteihojjciklfoaa
