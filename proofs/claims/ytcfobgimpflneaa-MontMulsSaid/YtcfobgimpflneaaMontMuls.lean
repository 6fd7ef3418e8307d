/- sentinellaw2.MontMuls: the walk. -/
import Derived.Test.YtcfobgimpflneaaGaKnown
import Derived.Test.YtcfobgimpflneaaGaKn
namespace Go.Proofs.Ytcfobgimpflneaa
set_option linter.unusedVariables false
set_option linter.unusedSimpArgs false
open Go.ChangeShapes Go.WideShapes Go.ChangeAt Go.RowKit
attribute [local go_sem] eqn_same
theorem muls_pack {M A B : Nat} (ho : M % 2 = 1) (h1 : 1 < M) (hM : M < 4294967296 ^ 8) (hA : A < 4294967296 ^ 8) (hB : B < 4294967296 ^ 8) : ∃ (C : Array Value) (P Q L H D X Z Y O : Nat), MR M C ∧
    RunsTo 14 #[numV M] (.tuple #[.agg C, .bool true]) ∧
    RunsTo 17 #[.agg C, numV A] (numV P) ∧
    RunsTo 17 #[.agg C, numV B] (numV Q) ∧
    RunsTo 18 #[numV A, numV B] (.tuple #[numV L, numV H]) ∧
    RunsTo 19 #[numV L, numV H, numV M] (.tuple #[numV D, .bool true]) ∧
    RunsTo 20 #[.agg C, numV A] (numV P) ∧
    RunsTo 21 #[.agg C, numV P] (numV X) ∧
    RunsTo 22 #[numV A, numV M] (numV X) ∧
    RunsTo 23 #[.agg C, numV P, numV Q] (numV Z) ∧
    RunsTo 24 #[.agg C, numV P, numV Q] (numV Z) ∧
    RunsTo 21 #[.agg C, numV Z] (numV D) ∧
    RunsTo 23 #[.agg C, numV Q, numV P] (numV Z) ∧
    RunsTo 22 #[numV B, numV M] (numV Y) ∧
    RunsTo 21 #[.agg C, numV Y] (numV O) ∧
    RunsTo 17 #[.agg C, numV O] (numV Y) := by
  obtain ⟨C, hC, k1, -⟩ := mr_of ho h1 hM
  have h0 : 0 < M := by omega
  have hP : A * 4294967296 ^ 8 % M < M := Nat.mod_lt _ h0
  have hQ : B * 4294967296 ^ 8 % M < M := Nat.mod_lt _ h0
  have hY : B % M < M := Nat.mod_lt _ h0
  have hO := mm_lt h0 (B % M)
  refine ⟨C, A * 4294967296 ^ 8 % M, B * 4294967296 ^ 8 % M, A * B % 4294967296 ^ 8, A * B / 4294967296 ^ 8, A * B % M, A % M, A * B * 4294967296 ^ 8 % M, B % M, mm M (B % M), hC, k1, hC.in_ hA, hC.in_ hB, fun w => rmul_any A B hA hB w, fun w => ?_, hC.rin hA, fun w => ?_, fun w => mbelow_any A M hA h0 hM w, fun w => ?_, fun w => ?_, fun w => ?_, fun w => ?_, fun w => mbelow_any B M hB h0 hM w, hC.out (Nat.lt_trans hY hM), fun w => ?_⟩
  · exact rest_prod hA hB h0 hM w
  · have := hC.out (a := A * 4294967296 ^ 8 % M) (Nat.lt_trans hP hM) w
    rw [mm_out ho] at this; exact this
  · have := hC.mul (a := A * 4294967296 ^ 8 % M) (b := B * 4294967296 ^ 8 % M) (Nat.lt_trans hP hM) hQ w
    rw [mm_mul ho] at this; exact this
  · have := hC.rmul (a := A * 4294967296 ^ 8 % M) (b := B * 4294967296 ^ 8 % M) (Nat.lt_trans hP hM) (Nat.lt_trans hQ hM) w
    rw [mm_mul ho] at this; exact this
  · have := hC.out (a := A * B * 4294967296 ^ 8 % M) (Nat.lt_trans (Nat.mod_lt _ h0) hM) w
    rw [mm_out ho] at this; exact this
  · have := hC.mul (a := B * 4294967296 ^ 8 % M) (b := A * 4294967296 ^ 8 % M) (Nat.lt_trans hQ hM) hP w
    rw [mm_mul ho, Nat.mul_comm B A] at this; exact this
  · have := hC.in_ (a := mm M (B % M)) (Nat.lt_trans hO hM) w
    rw [Nat.mul_comm, mm_spec ho, Nat.mod_mod] at this; exact this
set_option maxRecDepth 100000 in
set_option maxHeartbeats 16000000 in
theorem MontMuls_walk (a0 : Int) (hk0 : -9223372036854775808 ≤ a0) (hl0 : a0 < 9223372036854775808)
    (A1 : Option Addr) (n1 cap1 : Nat) (x1 : Nat → Int)
    (a2 : Int) (hk2 : -9223372036854775808 ≤ a2) (hl2 : a2 < 9223372036854775808)
    (A3 : Option Addr) (n3 cap3 : Nat) (x3 : Nat → Int)
    (a4 : Int) (hk4 : -9223372036854775808 ≤ a4) (hl4 : a4 < 9223372036854775808)
    (A5 : Option Addr) (n5 cap5 : Nat) (x5 : Nat → Int) (w : World) (hr1 : RdI w A1 n1 x1) (hr3 : RdI w A3 n3 x3) (hr5 : RdI w A5 n5 x5) :
    Calls Try.prog 4 #[.int .i64 a0, .slice A1 n1 cap1, .int .i64 a2, .slice A3 n3 cap3, .int .i64 a4, .slice A5 n5 cap5] w fun e w' => e = .returned (.bool true) ∧ Below w.heap.size w w' := by
  have ng := noGuard
  obtain ⟨M, eM⟩ : ∃ M, Hid (oddN (mkN a0 n1 x1) = M) := ⟨_, hid rfl⟩
  have mkM := fun (w : World) (hx : RdI w A1 n1 x1) => odd_any a0 hk0 hl0 A1 n1 cap1 x1 w hx
  rw [eM.out] at mkM
  obtain ⟨oM, gM, bM⟩ : M % 2 = 1 ∧ 1 < M ∧ M < 4294967296 ^ 8 := by rw [← eM.out]; exact oddN_spec (mkN_lt _ _ _)
  clear eM
  obtain ⟨A, eA⟩ : ∃ A, Hid (mkN a2 n3 x3 = A) := ⟨_, hid rfl⟩
  have mkA := fun (w : World) (hx : RdI w A3 n3 x3) => make_det a2 hk2 hl2 A3 n3 cap3 x3 w hx
  rw [eA.out] at mkA
  have bA : A < 4294967296 ^ 8 := by rw [← eA.out]; exact mkN_lt _ _ _
  clear eA
  obtain ⟨B, eB⟩ : ∃ B, Hid (mkN a4 n5 x5 = B) := ⟨_, hid rfl⟩
  have mkB := fun (w : World) (hx : RdI w A5 n5 x5) => make_det a4 hk4 hl4 A5 n5 cap5 x5 w hx
  rw [eB.out] at mkB
  have bB : B < 4294967296 ^ 8 := by rw [← eB.out]; exact mkN_lt _ _ _
  clear eB
  obtain ⟨C, P, Q, L, H, D, X, Z, Y, O, hC, k0, k1, k2, k3, k4, k5, k6, k7, k8, k9, k10, k11, k12, k13, k14⟩ := muls_pack oM gM bM bA bB
  clear oM gM bM bA bB
  go_enter Try.func4, Try.ntmps4
  go_wp2_with (fail)
  refine (mknown_any _).mono ?_
  rintro e w1 ⟨rfl, bw1⟩
  have r1_1 := hr1.step bw1
  have r3_1 := hr3.step bw1
  have r5_1 := hr5.step bw1
  have c_1 := bw1
  clear hr1 hr3 hr5 bw1
  go_wp2_with (fail)
  refine (mkM _ r1_1).mono ?_
  rintro e w2 ⟨rfl, bw2⟩
  have r1_2 := r1_1.step bw2
  have r3_2 := r3_1.step bw2
  have r5_2 := r5_1.step bw2
  have c_2 := step_trans c_1 bw2
  clear r1_1 r3_1 r5_1 c_1 bw2
  go_wp2_with (first | (refine wpList_store_num rfl _ (.tmp 13) _ rfl _ rfl _ rfl _ rfl (heap_alloc_new _ _) size26 ?_; intro w3 gw3 mw3; have b_1 := step_new gw3; have r3_3 := r3_2.step b_1; have r5_3 := r5_2.step b_1; have c_3 := step_trans c_2 b_1; clear r3_2 r5_2 c_2 b_1 gw3) | (refine wpList_load_num rfl _ (.tmp 13) rfl _ rfl _ _ _ mw3 Try.underlying26 rfl size26 ?_))
  refine (k0 _).mono ?_
  rintro e w4 ⟨rfl, bw4⟩
  have r3_4 := r3_3.step bw4
  have r5_4 := r5_3.step bw4
  have m_1 := mw3.step bw4
  have c_4 := step_trans c_3 bw4
  clear r3_3 r5_3 mw3 c_3 bw4
  go_upto_region 5 with (first | (refine wpList_store_blk rfl _ (.tmp 14) _ rfl _ rfl (C) rfl hC.cells _ (heap_alloc_new _ _) (by rw [hC.size]; rfl) hC.info ?_; intro w5 gw5 mw5))
  try simp only [Act.put, List.setIfInBounds_toArray, List.set_cons_zero, List.set_cons_succ]
  have nm_t := hid (show _ ≠ w4.heap.size from Nat.ne_of_lt m_1.lt)
  have lot := hid (show _ ≤ w4.heap.size from c_4.size)
  have b_2 := step_new gw5
  have r3_5 := r3_4.step b_2
  have r5_5 := r5_4.step b_2
  have m_2 := m_1.step b_2
  have c_5 := step_trans c_4 b_2
  clear r3_4 r5_4 m_1 c_4 b_2
  clear gw5
  try simp only [Act.put, List.setIfInBounds_toArray, List.set_cons_zero, List.set_cons_succ]
  go_upto_region 7 with (fail)
  go_wp2_with (fail)
  refine (mkA _ r3_5).mono ?_
  rintro e w6 ⟨rfl, bw6⟩
  have r3_6 := r3_5.step bw6
  have r5_6 := r5_5.step bw6
  have m_3 := m_2.step bw6
  have t_1 := mw5.step bw6
  have c_6 := step_trans c_5 bw6
  clear r3_5 r5_5 m_2 mw5 c_5 bw6
  go_wp2_with (fail)
  refine (mkB _ r5_6).mono ?_
  rintro e w7 ⟨rfl, bw7⟩
  have r5_7 := r5_6.step bw7
  have m_4 := m_3.step bw7
  have t_2 := t_1.step bw7
  have c_7 := step_trans c_6 bw7
  clear r5_6 m_3 t_1 c_6 bw7
  go_upto_region 8 with (first | (refine wpList_store_num rfl _ (.tmp 16) _ rfl _ rfl _ rfl _ rfl (news2 w7 _).1 size26 ?_; intro w8 gw8 mw8) | (refine wpList_store_num rfl _ (.tmp 17) _ rfl _ rfl _ rfl _ rfl ((gw8.block _ (by simp) (by simp)).trans (news2 w7 _).2) size26 ?_; intro w9 gw9 mw9; have b_3 := step_new2 gw8 gw9; have qw8 := (mw8.grown gw9 (by simp <;> omega)); have m_5 := m_4.step b_3; have t_3 := t_2.step b_3; have c_8 := step_trans c_7 b_3; clear m_4 t_2 c_7 b_3 gw8 gw9 mw8) | (refine wpList_load_blk rfl _ (.tmp 14) rfl _ rfl _ _ _ t_3 Try.underlying29 rfl hC.info ?_) | (refine wpList_load_num rfl _ (.tmp 16) rfl _ rfl _ _ _ qw8 Try.underlying26 rfl size26 ?_))
  try simp only [Act.put, List.setIfInBounds_toArray, List.set_cons_zero, List.set_cons_succ]
  refine wp_region_news 8 26 (.cells #[Value.int .u32 0, .int .u32 0, .int .u32 0, .int .u32 0, .int .u32 0, .int .u32 0, .int .u32 0, .int .u32 0] 26) (fun _ _ _ _ _ h => h) (by kernel_rfl) (by kernel_rfl) (by kernel_rfl) (by kernel_rfl) (by kernel_rfl) (by kernel_rfl) (by kernel_rfl) (by kernel_rfl) num_new ?_
  intro V_1
  simp only [calmN, isNew, hush, hushT, List.drop_succ_cons, List.drop_zero]
  have m_6 := m_5.step V_1.h
  have t_4 := t_3.step V_1.h
  have x_1 := qw8.step V_1.h
  have y_1 := mw9.step V_1.h
  have c_9 := step_trans c_8 V_1.h
  (refine wpQuiet_load_blk rfl _ (.tmp 14) rfl _ rfl _ _ _ t_4 Try.underlying29 rfl hC.info ?_; simp only [Act.put, List.setIfInBounds_toArray, List.set_cons_zero, List.set_cons_succ])
  (refine wpQuiet_load_num rfl _ (.tmp 16) rfl _ rfl _ _ _ x_1 Try.underlying26 rfl size26 ?_; simp only [Act.put, List.setIfInBounds_toArray, List.set_cons_zero, List.set_cons_succ])
  go_big_quiet_step (exact later_of (k1 _))
  (refine wpQuiet_load_blk rfl _ (.tmp 14) rfl _ rfl _ _ _ t_4 Try.underlying29 rfl hC.info ?_; simp only [Act.put, List.setIfInBounds_toArray, List.set_cons_zero, List.set_cons_succ])
  (refine wpQuiet_load_num rfl _ (.tmp 17) rfl _ rfl _ _ _ y_1 Try.underlying26 rfl size26 ?_; simp only [Act.put, List.setIfInBounds_toArray, List.set_cons_zero, List.set_cons_succ])
  go_big_quiet_step (exact later_of (k2 _))
  go_big_quiet_step (fail)
  go_big_quiet_step (fail)
  go_big_quiet_step (fail)
  go_big_quiet_step (fail)
  refine wpQuiet_nil ?_
  intro X_1 p_1 hp_1
  obtain ⟨hp_11, hp_12⟩ := hp_1
  have m_7 := m_6.step X_1.h
  have t_5 := t_4.step X_1.h
  have x_2 := x_1.step X_1.h
  have y_2 := y_1.step X_1.h
  have c_10 := step_trans c_9 X_1.h
  obtain ⟨lp_16, ep_16⟩ := hp_11 6 _ rfl rfl
  obtain ⟨lp_17, ep_17⟩ := hp_11 7 _ rfl rfl
  have np_q := hid (show p_1 6 ≠ p_1 7 from fun h => absurd (hp_12 6 7 _ _ rfl rfl rfl rfl h) (by decide))
  simp only [layN, isNew, Act.put, List.setIfInBounds_toArray, List.set_cons_zero, List.set_cons_succ, Nat.zero_add, Nat.reduceAdd]
  clear hp_11 hp_12
  generalize p_1 6 = bp_16 at *
  generalize p_1 7 = bp_17 at *
  go_wp2_with (first | (refine wpList_store_num rfl _ (.tmp 18) _ rfl _ rfl _ rfl _ rfl ep_16 size26 ?_; intro w10 gw10 mw10; have m_8 := m_7.grown gw10 (ne_new m_5.lt lp_16); have t_6 := t_5.grown gw10 (ne_new t_3.lt lp_16); have x_3 := x_2.grown gw10 (ne_new qw8.lt lp_16); have y_3 := y_2.grown gw10 (ne_new mw9.lt lp_16); replace ep_17 := (gw10.block _ (heap_lt ep_17) (ne_some np_q.out.symm)).trans ep_17; have c_11 := below_of_grown c_10 gw10 c_10.size (Nat.le_trans c_8.size lp_16); clear m_7 t_5 x_2 y_2 ep_16 c_10 gw10) | (refine wpList_store_num rfl _ (.tmp 19) _ rfl _ rfl _ rfl _ rfl ep_17 size26 ?_; intro w11 gw11 mw11; have m_9 := m_8.grown gw11 (ne_new m_5.lt lp_17); have t_7 := t_6.grown gw11 (ne_new t_3.lt lp_17); have x_4 := x_3.grown gw11 (ne_new qw8.lt lp_17); have y_4 := y_3.grown gw11 (ne_new mw9.lt lp_17); have p_2 := mw10.grown gw11 (ne_some np_q.out); have c_12 := below_of_grown c_11 gw11 c_11.size (Nat.le_trans c_8.size lp_17); clear m_8 t_6 x_3 y_3 mw10 ep_17 c_11 gw11 m_5 t_3 qw8 mw9 c_8 m_6 t_4 x_1 y_1 c_9 lp_16 lp_17) | (refine wpList_load_num rfl _ (.tmp 16) rfl _ rfl _ _ _ x_4 Try.underlying26 rfl size26 ?_) | (refine wpList_load_num rfl _ (.tmp 17) rfl _ rfl _ _ _ y_4 Try.underlying26 rfl size26 ?_))
  refine (k3 _).mono ?_
  rintro e w12 ⟨rfl, bw12⟩
  have m_10 := m_9.step bw12
  have t_8 := t_7.step bw12
  have x_5 := x_4.step bw12
  have y_5 := y_4.step bw12
  have p_3 := p_2.step bw12
  have q_1 := mw11.step bw12
  have c_13 := step_trans c_12 bw12
  clear m_9 t_7 x_4 y_4 p_2 mw11 c_12 bw12
  go_wp2_with (first | (refine wpList_store_num rfl _ (.tmp 20) _ rfl _ rfl _ rfl _ rfl (news2 w12 _).1 size26 ?_; intro w13 gw13 mw13) | (refine wpList_store_num rfl _ (.tmp 21) _ rfl _ rfl _ rfl _ rfl ((gw13.block _ (by simp) (by simp)).trans (news2 w12 _).2) size26 ?_; intro w14 gw14 mw14; have b_4 := step_new2 gw13 gw14; have qw13 := (mw13.grown gw14 (by simp <;> omega)); have m_11 := m_10.step b_4; have t_9 := t_8.step b_4; have x_6 := x_5.step b_4; have y_6 := y_5.step b_4; have p_4 := p_3.step b_4; have q_2 := q_1.step b_4; have c_14 := step_trans c_13 b_4; clear m_10 t_8 x_5 y_5 p_3 q_1 c_13 b_4 gw13 gw14 mw13) | (refine wpList_load_num rfl _ (.tmp 13) rfl _ rfl _ _ _ m_11 Try.underlying26 rfl size26 ?_) | (refine wpList_load_num rfl _ (.tmp 20) rfl _ rfl _ _ _ qw13 Try.underlying26 rfl size26 ?_) | (refine wpList_load_num rfl _ (.tmp 21) rfl _ rfl _ _ _ mw14 Try.underlying26 rfl size26 ?_))
  refine (k4 _).mono ?_
  rintro e w15 ⟨rfl, bw15⟩
  have m_12 := m_11.step bw15
  have t_10 := t_9.step bw15
  have x_7 := x_6.step bw15
  have y_7 := y_6.step bw15
  have p_5 := p_4.step bw15
  have q_3 := q_2.step bw15
  have lo_1 := qw13.step bw15
  have hi_1 := mw14.step bw15
  have c_15 := step_trans c_14 bw15
  clear m_11 t_9 x_6 y_6 p_4 q_2 qw13 mw14 c_14 bw15
  go_upto_region 11 with (first | (refine wpList_store_num rfl _ (.tmp 22) _ rfl _ rfl _ rfl _ rfl (heap_alloc_new _ _) size26 ?_; intro w16 gw16 mw16; have b_5 := step_new gw16; have m_13 := m_12.step b_5; have t_11 := t_10.step b_5; have x_8 := x_7.step b_5; have y_8 := y_7.step b_5; have p_6 := p_5.step b_5; have q_4 := q_3.step b_5; have lo_2 := lo_1.step b_5; have hi_2 := hi_1.step b_5; have c_16 := step_trans c_15 b_5; clear m_12 t_10 x_7 y_7 p_5 q_3 lo_1 hi_1 c_15 b_5 gw16) | (refine wpList_load_blk rfl _ (.tmp 14) rfl _ rfl _ _ _ t_11 Try.underlying29 rfl hC.info ?_) | (refine wpList_load_num rfl _ (.tmp 16) rfl _ rfl _ _ _ x_8 Try.underlying26 rfl size26 ?_) | (refine wpList_load_num rfl _ (.tmp 18) rfl _ rfl _ _ _ p_6 Try.underlying26 rfl size26 ?_))
  try simp only [Act.put, List.setIfInBounds_toArray, List.set_cons_zero, List.set_cons_succ]
  refine wp_region_later (by kernel_rfl) (by kernel_rfl) ?_
  (refine wpQuiet_load_num rfl _ (.tmp 18) rfl _ rfl _ _ _ p_6 Try.underlying26 rfl size26 ?_; simp only [Act.put, List.setIfInBounds_toArray, List.set_cons_zero, List.set_cons_succ])
  (refine wpQuiet_load_blk rfl _ (.tmp 14) rfl _ rfl _ _ _ t_11 Try.underlying29 rfl hC.info ?_; simp only [Act.put, List.setIfInBounds_toArray, List.set_cons_zero, List.set_cons_succ])
  (refine wpQuiet_load_num rfl _ (.tmp 16) rfl _ rfl _ _ _ x_8 Try.underlying26 rfl size26 ?_; simp only [Act.put, List.setIfInBounds_toArray, List.set_cons_zero, List.set_cons_succ])
  go_big_quiet_step (exact later_of (k5 _))
  go_big_quiet_step (fail)
  go_big_quiet_step (fail)
  first | (refine wpQuiet_load_blk rfl _ (.tmp 14) rfl _ rfl _ _ _ t_11 Try.underlying29 rfl hC.info ?_; simp only [Act.put, List.setIfInBounds_toArray, List.set_cons_zero, List.set_cons_succ]) | go_big_quiet_step (fail)
  first | (refine wpQuiet_load_num rfl _ (.tmp 18) rfl _ rfl _ _ _ p_6 Try.underlying26 rfl size26 ?_; simp only [Act.put, List.setIfInBounds_toArray, List.set_cons_zero, List.set_cons_succ]) | go_big_quiet_step (fail)
  go_big_quiet_step (exact later_of (k6 _))
  first | (refine wpQuiet_load_num rfl _ (.tmp 16) rfl _ rfl _ _ _ x_8 Try.underlying26 rfl size26 ?_; simp only [Act.put, List.setIfInBounds_toArray, List.set_cons_zero, List.set_cons_succ]) | go_big_quiet_step (fail)
  first | (refine wpQuiet_load_num rfl _ (.tmp 13) rfl _ rfl _ _ _ m_13 Try.underlying26 rfl size26 ?_; simp only [Act.put, List.setIfInBounds_toArray, List.set_cons_zero, List.set_cons_succ]) | go_big_quiet_step (fail)
  go_big_quiet_step (exact later_of (k7 _))
  go_big_quiet_step (fail)
  go_big_quiet_step (fail)
  go_big_quiet_step (fail)
  first | (refine wpQuiet_load_blk rfl _ (.tmp 14) rfl _ rfl _ _ _ t_11 Try.underlying29 rfl hC.info ?_; simp only [Act.put, List.setIfInBounds_toArray, List.set_cons_zero, List.set_cons_succ]) | go_big_quiet_step (fail)
  first | (refine wpQuiet_load_num rfl _ (.tmp 18) rfl _ rfl _ _ _ p_6 Try.underlying26 rfl size26 ?_; simp only [Act.put, List.setIfInBounds_toArray, List.set_cons_zero, List.set_cons_succ]) | go_big_quiet_step (fail)
  first | (refine wpQuiet_load_num rfl _ (.tmp 19) rfl _ rfl _ _ _ q_4 Try.underlying26 rfl size26 ?_; simp only [Act.put, List.setIfInBounds_toArray, List.set_cons_zero, List.set_cons_succ]) | go_big_quiet_step (fail)
  go_big_quiet_step (exact later_of (k8 _))
  first | (refine wpQuiet_load_blk rfl _ (.tmp 14) rfl _ rfl _ _ _ t_11 Try.underlying29 rfl hC.info ?_; simp only [Act.put, List.setIfInBounds_toArray, List.set_cons_zero, List.set_cons_succ]) | go_big_quiet_step (fail)
  first | (refine wpQuiet_load_num rfl _ (.tmp 18) rfl _ rfl _ _ _ p_6 Try.underlying26 rfl size26 ?_; simp only [Act.put, List.setIfInBounds_toArray, List.set_cons_zero, List.set_cons_succ]) | go_big_quiet_step (fail)
  first | (refine wpQuiet_load_num rfl _ (.tmp 19) rfl _ rfl _ _ _ q_4 Try.underlying26 rfl size26 ?_; simp only [Act.put, List.setIfInBounds_toArray, List.set_cons_zero, List.set_cons_succ]) | go_big_quiet_step (fail)
  go_big_quiet_step (exact later_of (k9 _))
  go_big_quiet_step (fail)
  go_big_quiet_step (fail)
  go_big_quiet_step (fail)
  first | (refine wpQuiet_load_blk rfl _ (.tmp 14) rfl _ rfl _ _ _ t_11 Try.underlying29 rfl hC.info ?_; simp only [Act.put, List.setIfInBounds_toArray, List.set_cons_zero, List.set_cons_succ]) | go_big_quiet_step (fail)
  first | (refine wpQuiet_load_blk rfl _ (.tmp 14) rfl _ rfl _ _ _ t_11 Try.underlying29 rfl hC.info ?_; simp only [Act.put, List.setIfInBounds_toArray, List.set_cons_zero, List.set_cons_succ]) | go_big_quiet_step (fail)
  first | (refine wpQuiet_load_num rfl _ (.tmp 18) rfl _ rfl _ _ _ p_6 Try.underlying26 rfl size26 ?_; simp only [Act.put, List.setIfInBounds_toArray, List.set_cons_zero, List.set_cons_succ]) | go_big_quiet_step (fail)
  first | (refine wpQuiet_load_num rfl _ (.tmp 19) rfl _ rfl _ _ _ q_4 Try.underlying26 rfl size26 ?_; simp only [Act.put, List.setIfInBounds_toArray, List.set_cons_zero, List.set_cons_succ]) | go_big_quiet_step (fail)
  go_big_quiet_step (exact later_of (k8 _))
  go_big_quiet_step (exact later_of (k10 _))
  first | (refine wpQuiet_load_num rfl _ (.tmp 22) rfl _ rfl _ _ _ mw16 Try.underlying26 rfl size26 ?_; simp only [Act.put, List.setIfInBounds_toArray, List.set_cons_zero, List.set_cons_succ]) | go_big_quiet_step (fail)
  go_big_quiet_step (fail)
  go_big_quiet_step (fail)
  go_big_quiet_step (fail)
  first | (refine wpQuiet_load_blk rfl _ (.tmp 14) rfl _ rfl _ _ _ t_11 Try.underlying29 rfl hC.info ?_; simp only [Act.put, List.setIfInBounds_toArray, List.set_cons_zero, List.set_cons_succ]) | go_big_quiet_step (fail)
  first | (refine wpQuiet_load_num rfl _ (.tmp 18) rfl _ rfl _ _ _ p_6 Try.underlying26 rfl size26 ?_; simp only [Act.put, List.setIfInBounds_toArray, List.set_cons_zero, List.set_cons_succ]) | go_big_quiet_step (fail)
  first | (refine wpQuiet_load_num rfl _ (.tmp 19) rfl _ rfl _ _ _ q_4 Try.underlying26 rfl size26 ?_; simp only [Act.put, List.setIfInBounds_toArray, List.set_cons_zero, List.set_cons_succ]) | go_big_quiet_step (fail)
  go_big_quiet_step (exact later_of (k8 _))
  first | (refine wpQuiet_load_blk rfl _ (.tmp 14) rfl _ rfl _ _ _ t_11 Try.underlying29 rfl hC.info ?_; simp only [Act.put, List.setIfInBounds_toArray, List.set_cons_zero, List.set_cons_succ]) | go_big_quiet_step (fail)
  first | (refine wpQuiet_load_num rfl _ (.tmp 19) rfl _ rfl _ _ _ q_4 Try.underlying26 rfl size26 ?_; simp only [Act.put, List.setIfInBounds_toArray, List.set_cons_zero, List.set_cons_succ]) | go_big_quiet_step (fail)
  first | (refine wpQuiet_load_num rfl _ (.tmp 18) rfl _ rfl _ _ _ p_6 Try.underlying26 rfl size26 ?_; simp only [Act.put, List.setIfInBounds_toArray, List.set_cons_zero, List.set_cons_succ]) | go_big_quiet_step (fail)
  go_big_quiet_step (exact later_of (k11 _))
  go_big_quiet_step (fail)
  go_big_quiet_step (fail)
  go_big_quiet_step (fail)
  first | (refine wpQuiet_load_blk rfl _ (.tmp 14) rfl _ rfl _ _ _ t_11 Try.underlying29 rfl hC.info ?_; simp only [Act.put, List.setIfInBounds_toArray, List.set_cons_zero, List.set_cons_succ]) | go_big_quiet_step (fail)
  first | (refine wpQuiet_load_blk rfl _ (.tmp 14) rfl _ rfl _ _ _ t_11 Try.underlying29 rfl hC.info ?_; simp only [Act.put, List.setIfInBounds_toArray, List.set_cons_zero, List.set_cons_succ]) | go_big_quiet_step (fail)
  first | (refine wpQuiet_load_num rfl _ (.tmp 17) rfl _ rfl _ _ _ y_8 Try.underlying26 rfl size26 ?_; simp only [Act.put, List.setIfInBounds_toArray, List.set_cons_zero, List.set_cons_succ]) | go_big_quiet_step (fail)
  first | (refine wpQuiet_load_num rfl _ (.tmp 13) rfl _ rfl _ _ _ m_13 Try.underlying26 rfl size26 ?_; simp only [Act.put, List.setIfInBounds_toArray, List.set_cons_zero, List.set_cons_succ]) | go_big_quiet_step (fail)
  go_big_quiet_step (exact later_of (k12 _))
  go_big_quiet_step (exact later_of (k13 _))
  go_big_quiet_step (exact later_of (k14 _))
  first | (refine wpQuiet_load_num rfl _ (.tmp 17) rfl _ rfl _ _ _ y_8 Try.underlying26 rfl size26 ?_; simp only [Act.put, List.setIfInBounds_toArray, List.set_cons_zero, List.set_cons_succ]) | go_big_quiet_step (fail)
  first | (refine wpQuiet_load_num rfl _ (.tmp 13) rfl _ rfl _ _ _ m_13 Try.underlying26 rfl size26 ?_; simp only [Act.put, List.setIfInBounds_toArray, List.set_cons_zero, List.set_cons_succ]) | go_big_quiet_step (fail)
  go_big_quiet_step (exact later_of (k12 _))
  go_big_quiet_step (fail)
  go_big_quiet_step (fail)
  go_big_quiet_step (fail)
  refine wpQuiet_nil ?_
  intro X_2
  have m_14 := m_13.step X_2.h
  have t_12 := t_11.step X_2.h
  have x_9 := x_8.step X_2.h
  have y_9 := y_8.step X_2.h
  have p_7 := p_6.step X_2.h
  have q_5 := q_4.step X_2.h
  have lo_3 := lo_2.step X_2.h
  have hi_3 := hi_2.step X_2.h
  have all_1 := mw16.step X_2.h
  have c_17 := step_trans c_16 X_2.h
  clear m_13 t_11 x_8 y_8 p_6 q_4 lo_2 hi_2 mw16 c_16
  go_wp2
  go_ret
  exact ⟨rfl, c_17⟩
end Go.Proofs.Ytcfobgimpflneaa
