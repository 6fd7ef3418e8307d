/- sentinellaw2.MontMakes: the walk. -/
import Derived.Test.YtcfobgimpflneaaGaKnown
import Derived.Test.YtcfobgimpflneaaGaKn
import Derived.Test.YtcfobgimpflneaaMtRd
import Derived.Test.YtcfobgimpflneaaMtEq
namespace Go.Proofs.Ytcfobgimpflneaa
set_option linter.unusedVariables false
set_option linter.unusedSimpArgs false
open Go.ChangeShapes Go.WideShapes Go.ChangeAt Go.RowKit
attribute [local go_sem] eqn_same
attribute [local go_sem high] eq_mont
theorem makes_pack {M N : Nat} (hM : M < 4294967296 ^ 8) (ho : N % 2 = 1) (h1 : 1 < N) (hN : N < 4294967296 ^ 8) : ∃ (m0 r0 t0 r1 t1 : Nat) (n0 n1 : Int) (b : Bool), RunsTo 14 #[numV M] (.tuple #[.agg (montA m0 r0 t0 n0), .bool b]) ∧
    RunsTo 15 #[numV M] (.tuple #[.agg (montA m0 r0 t0 n0), .bool b]) ∧
    RunsTo 14 #[numV N] (.tuple #[.agg (montA N r1 t1 n1), .bool true]) ∧
    RunsTo 15 #[numV N] (.tuple #[.agg (montA N r1 t1 n1), .bool true]) ∧
    (n1 * digI N 0 % 4294967296 = 4294967295) ∧
    (0 ≤ n1 ∧ n1 < 4294967296) := by
  obtain ⟨C, hC, k1, k2⟩ := mr_of ho h1 hN
  have hq : ngI (digI N 0) * digI N 0 % 4294967296 = 4294967295 := by
    obtain ⟨q, hq⟩ := hC.ng
    omega
  rw [hC.eq] at k1 k2
  by_cases h : M % 2 = 1 ∧ M ≠ 1
  · obtain ⟨C', hC', j1, j2⟩ := mr_of (m := M) h.1 (by omega) hM
    rw [hC'.eq] at j1 j2
    exact ⟨_, _, _, _, _, _, _, true, j1, j2, k1, k2, hq, ngI_bd _⟩
  · obtain ⟨j1, j2⟩ := mr_none h hM
    exact ⟨_, _, _, _, _, _, _, false, j1, j2, k1, k2, hq, ngI_bd _⟩
set_option maxRecDepth 100000 in
set_option maxHeartbeats 16000000 in
theorem MontMakes_walk (a0 : Int) (hk0 : -9223372036854775808 ≤ a0) (hl0 : a0 < 9223372036854775808)
    (A1 : Option Addr) (n1 cap1 : Nat) (x1 : Nat → Int) (w : World) (hr1 : RdI w A1 n1 x1) :
    Calls Try.prog 3 #[.int .i64 a0, .slice A1 n1 cap1] w fun e w' => e = .returned (.bool true) ∧ Below w.heap.size w w' := by
  have ng := noGuard
  obtain ⟨M, eM⟩ : ∃ M, Hid (mkN a0 n1 x1 = M) := ⟨_, hid rfl⟩
  have mkM := fun (w : World) (hx : RdI w A1 n1 x1) => make_det a0 hk0 hl0 A1 n1 cap1 x1 w hx
  rw [eM.out] at mkM
  have bM : M < 4294967296 ^ 8 := by rw [← eM.out]; exact mkN_lt _ _ _
  clear eM
  obtain ⟨N, eN⟩ : ∃ N, Hid (oddN (mkN a0 n1 x1) = N) := ⟨_, hid rfl⟩
  have mkN := fun (w : World) (hx : RdI w A1 n1 x1) => odd_any a0 hk0 hl0 A1 n1 cap1 x1 w hx
  rw [eN.out] at mkN
  obtain ⟨oN, gN, bN⟩ : N % 2 = 1 ∧ 1 < N ∧ N < 4294967296 ^ 8 := by rw [← eN.out]; exact oddN_spec (mkN_lt _ _ _)
  clear eN
  obtain ⟨m0, r0, t0, r1, t1, n0, n1, b, k0, k1, k2, k3, hq, l0, l1⟩ := makes_pack bM oN gN bN
  clear oN gN bN bM
  go_enter Try.func3, Try.ntmps3
  go_wp2_with (fail)
  refine (mknown_any _).mono ?_
  rintro e w1 ⟨rfl, bw1⟩
  have r1_1 := hr1.step bw1
  have c_1 := bw1
  clear hr1 bw1
  go_wp2_with (fail)
  refine (mkM _ r1_1).mono ?_
  rintro e w2 ⟨rfl, bw2⟩
  have r1_2 := r1_1.step bw2
  have c_2 := step_trans c_1 bw2
  clear r1_1 c_1 bw2
  go_wp2_with (first | (refine wpList_store_num rfl _ (.tmp 5) _ rfl _ rfl _ rfl _ rfl (heap_alloc_new _ _) size26 ?_; intro w3 gw3 mw3; have b_1 := step_new gw3; have r1_3 := r1_2.step b_1; have c_3 := step_trans c_2 b_1; clear r1_2 c_2 b_1 gw3) | (refine wpList_load_num rfl _ (.tmp 5) rfl _ rfl _ _ _ mw3 Try.underlying26 rfl size26 ?_))
  refine (k0 _).mono ?_
  rintro e w4 ⟨rfl, bw4⟩
  have r1_4 := r1_3.step bw4
  have m_1 := mw3.step bw4
  have c_4 := step_trans c_3 bw4
  clear r1_3 mw3 c_3 bw4
  go_upto_region 5 with (first | (refine wpList_load_num rfl _ (.tmp 5) rfl _ rfl _ _ _ m_1 Try.underlying26 rfl size26 ?_) | (refine wpList_store_blk rfl _ (.tmp 6) _ rfl _ rfl (montA m0 r0 t0 n0) rfl (montA_cells _ _ _ _) _ (heap_alloc_new _ _) rfl size_mont ?_; intro w5 gw5 mw5))
  try simp only [Act.put, List.setIfInBounds_toArray, List.set_cons_zero, List.set_cons_succ]
  have nm_c := hid (show _ ≠ w4.heap.size from Nat.ne_of_lt m_1.lt)
  have loc := hid (show _ ≤ w4.heap.size from c_4.size)
  have b_2 := step_new gw5
  have r1_5 := r1_4.step b_2
  have m_2 := m_1.step b_2
  have c_5 := step_trans c_4 b_2
  clear r1_4 m_1 c_4 b_2
  clear gw5
  go_wp2_with (first | (refine wpList_load_num rfl _ (.tmp 5) rfl _ rfl _ _ _ m_2 Try.underlying26 rfl size26 ?_))
  refine (k1 _).mono ?_
  rintro e w6 ⟨rfl, bw6⟩
  have r1_6 := r1_5.step bw6
  have m_3 := m_2.step bw6
  have c_6 := mw5.step bw6
  have c_7 := step_trans c_5 bw6
  clear r1_5 m_2 mw5 c_5 bw6
  go_upto_region 6 with (first | (refine wpList_store_blk rfl _ (.tmp 8) _ rfl _ rfl (montA m0 r0 t0 n0) rfl (montA_cells _ _ _ _) _ (heap_alloc_new _ _) rfl size_mont ?_; intro w7 gw7 mw7))
  try simp only [Act.put, List.setIfInBounds_toArray, List.set_cons_zero, List.set_cons_succ]
  have nm_dd := hid (show _ ≠ w6.heap.size from Nat.ne_of_lt m_3.lt)
  have nc_dd := hid (show _ ≠ w6.heap.size from Nat.ne_of_lt c_6.lt)
  have lodd := hid (show _ ≤ w6.heap.size from c_7.size)
  have b_3 := step_new gw7
  have r1_7 := r1_6.step b_3
  have m_4 := m_3.step b_3
  have c_8 := c_6.step b_3
  have c_9 := step_trans c_7 b_3
  clear r1_6 m_3 c_6 c_7 b_3
  clear gw7
  go_wp2_with (fail)
  refine (mkN _ r1_7).mono ?_
  rintro e w8 ⟨rfl, bw8⟩
  have r1_8 := r1_7.step bw8
  have c_10 := c_8.step bw8
  have dd_1 := mw7.step bw8
  have c_11 := step_trans c_9 bw8
  clear r1_7 c_8 mw7 c_9 bw8
  go_wp2_with (fail)
  refine (k2 _).mono ?_
  rintro e w9 ⟨rfl, bw9⟩
  have r1_9 := r1_8.step bw9
  have c_12 := c_10.step bw9
  have dd_2 := dd_1.step bw9
  have c_13 := step_trans c_11 bw9
  clear r1_8 c_10 dd_1 c_11 bw9
  go_upto_region 7 with (first | (refine wpList_store_blk rfl _ (.tmp 10) _ rfl _ rfl (montA N r1 t1 n1) rfl (montA_cells _ _ _ _) _ (heap_alloc_new _ _) rfl size_mont ?_; intro w10 gw10 mw10))
  try simp only [Act.put, List.setIfInBounds_toArray, List.set_cons_zero, List.set_cons_succ]
  have nc_x := hid (show _ ≠ w9.heap.size from Nat.ne_of_lt c_12.lt)
  have ndd_x := hid (show _ ≠ w9.heap.size from Nat.ne_of_lt dd_2.lt)
  have lox := hid (show _ ≤ w9.heap.size from c_13.size)
  have b_4 := step_new gw10
  have r1_10 := r1_9.step b_4
  have c_14 := c_12.step b_4
  have dd_3 := dd_2.step b_4
  have c_15 := step_trans c_13 b_4
  clear r1_9 c_12 dd_2 c_13 b_4
  clear gw10
  go_wp2_with (fail)
  refine (mkN _ r1_10).mono ?_
  rintro e w11 ⟨rfl, bw11⟩
  have r1_11 := r1_10.step bw11
  have c_16 := c_14.step bw11
  have dd_4 := dd_3.step bw11
  have x_1 := mw10.step bw11
  have c_17 := step_trans c_15 bw11
  clear r1_10 c_14 dd_3 mw10 c_15 bw11
  go_wp2_with (fail)
  refine (k3 _).mono ?_
  rintro e w12 ⟨rfl, bw12⟩
  have c_18 := c_16.step bw12
  have dd_5 := dd_4.step bw12
  have x_2 := x_1.step bw12
  have c_19 := step_trans c_17 bw12
  clear c_16 dd_4 x_1 c_17 bw12
  go_upto_region 8 with (first | (refine wpList_load_blk rfl _ (.tmp 6) rfl _ rfl _ _ _ c_18 Try.underlying29 rfl size_mont ?_) | (refine wpList_load_blk rfl _ (.tmp 8) rfl _ rfl _ _ _ dd_5 Try.underlying29 rfl size_mont ?_) | (refine wpList_load_blk rfl _ (.tmp 10) rfl _ rfl _ _ _ x_2 Try.underlying29 rfl size_mont ?_) | (refine wpList_store_blk rfl _ (.tmp 12) _ rfl _ rfl (montA N r1 t1 n1) rfl (montA_cells _ _ _ _) _ (heap_alloc_new _ _) rfl size_mont ?_; intro w13 gw13 mw13))
  try simp only [Act.put, List.setIfInBounds_toArray, List.set_cons_zero, List.set_cons_succ]
  have nc_y := hid (show _ ≠ w12.heap.size from Nat.ne_of_lt c_18.lt)
  have ndd_y := hid (show _ ≠ w12.heap.size from Nat.ne_of_lt dd_5.lt)
  have nx_y := hid (show _ ≠ w12.heap.size from Nat.ne_of_lt x_2.lt)
  have loy := hid (show _ ≤ w12.heap.size from c_19.size)
  have b_5 := step_new gw13
  have c_20 := c_18.step b_5
  have dd_6 := dd_5.step b_5
  have x_3 := x_2.step b_5
  have c_21 := step_trans c_19 b_5
  clear c_18 dd_5 x_2 c_19 b_5
  clear gw13
  have cx := fun Q : Later w13 => (show Q.w.cell? ⟨_, 24, none⟩ = some (.int .u32 n1) from (x_3.below Q.h x_3.lt).cell rfl)
  have cn := fun Q : Later w13 => (show Q.w.cell? ⟨_, 0, none⟩ = some (.int .u32 (digI N 0)) from (x_3.below Q.h x_3.lt).cell rfl)
  refine wp_region_plain ?_
  go_big_quiet_step (fail)
  go_big_quiet_step (fail)
  go_big_quiet_step (fail)
  go_big_quiet_step (fail)
  first | (refine wpQuiet_load_blk rfl _ (.tmp 6) rfl _ rfl _ _ _ c_20 Try.underlying29 rfl size_mont ?_; simp only [Act.put, List.setIfInBounds_toArray, List.set_cons_zero, List.set_cons_succ]) | go_big_quiet_step (fail)
  first | (refine wpQuiet_load_blk rfl _ (.tmp 8) rfl _ rfl _ _ _ dd_6 Try.underlying29 rfl size_mont ?_; simp only [Act.put, List.setIfInBounds_toArray, List.set_cons_zero, List.set_cons_succ]) | go_big_quiet_step (fail)
  go_big_quiet_step (fail)
  go_big_quiet_step (fail)
  go_big_quiet_step (fail)
  go_big_quiet_step (fail)
  go_big_quiet_step (fail)
  go_big_quiet_step (fail)
  first | (refine wpQuiet_load_blk rfl _ (.tmp 10) rfl _ rfl _ _ _ x_3 Try.underlying29 rfl size_mont ?_; simp only [Act.put, List.setIfInBounds_toArray, List.set_cons_zero, List.set_cons_succ]) | go_big_quiet_step (fail)
  first | (refine wpQuiet_load_blk rfl _ (.tmp 12) rfl _ rfl _ _ _ mw13 Try.underlying29 rfl size_mont ?_; simp only [Act.put, List.setIfInBounds_toArray, List.set_cons_zero, List.set_cons_succ]) | go_big_quiet_step (fail)
  go_big_quiet_step (fail)
  go_big_quiet_step (fail)
  go_big_quiet_step (fail)
  go_big_quiet_step (fail)
  go_big_quiet_step (fail)
  go_big_quiet_step (fail)
  go_big_quiet_step (fail)
  go_big_quiet_step (fail)
  go_big_quiet_step (fail)
  go_big_quiet_step (fail)
  go_big_quiet_step (fail)
  go_big_quiet_step (fail)
  refine wpQuiet_nil ?_
  intro X_1
  have c_22 := c_20.step X_1.h
  have dd_7 := dd_6.step X_1.h
  have x_4 := x_3.step X_1.h
  have y_1 := mw13.step X_1.h
  have c_23 := step_trans c_21 X_1.h
  clear c_20 dd_6 x_3 mw13 c_21
  go_wp2
  go_ret
  exact ⟨rfl, c_23⟩
end Go.Proofs.Ytcfobgimpflneaa
