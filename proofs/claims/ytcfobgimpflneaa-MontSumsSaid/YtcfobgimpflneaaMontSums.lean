/- sentinellaw2.MontSums: the walk. -/
import Derived.Test.YtcfobgimpflneaaGaKnown
import Derived.Test.YtcfobgimpflneaaGaKn
import Derived.Test.YtcfobgimpflneaaMtRd
namespace Go.Proofs.Ytcfobgimpflneaa
set_option linter.unusedVariables false
set_option linter.unusedSimpArgs false
open Go.ChangeShapes Go.WideShapes Go.ChangeAt Go.RowKit
attribute [local go_sem] eqn_same
theorem sums_pack {M A B : Nat} (ho : M % 2 = 1) (h1 : 1 < M) (hM : M < 4294967296 ^ 8) (hA : A < 4294967296 ^ 8) (hB : B < 4294967296 ^ 8) : ∃ (C : Array Value) (X Y S P T E F D R Q : Nat) (p r : Int), MR M C ∧
    RunsTo 14 #[numV M] (.tuple #[.agg C, .bool true]) ∧
    RunsTo 22 #[numV A, numV M] (numV X) ∧
    RunsTo 22 #[numV B, numV M] (numV Y) ∧
    (0 ≤ p ∧ p ≤ 1) ∧
    (0 ≤ r ∧ r ≤ 1) ∧
    RunsTo 32 #[numV X, numV Y] (.tuple #[numV S, .int .u32 p]) ∧
    RunsTo 27 #[.int .i64 p] (numV P) ∧
    RunsTo 19 #[numV S, numV P, numV M] (.tuple #[numV T, .bool true]) ∧
    RunsTo 17 #[.agg C, numV X] (numV E) ∧
    RunsTo 17 #[.agg C, numV Y] (numV F) ∧
    RunsTo 32 #[numV E, numV F] (.tuple #[numV D, .int .u32 r]) ∧
    RunsTo 27 #[.int .i64 r] (numV R) ∧
    RunsTo 19 #[numV D, numV R, numV M] (.tuple #[numV Q, .bool true]) ∧
    RunsTo 17 #[.agg C, numV T] (numV Q) := by
  obtain ⟨C, hC, k1, -⟩ := mr_of ho h1 hM
  have h0 : 0 < M := by omega
  have hX : A % M < M := Nat.mod_lt _ h0
  have hY : B % M < M := Nat.mod_lt _ h0
  have hX2 := Nat.lt_trans hX hM
  have hY2 := Nat.lt_trans hY hM
  have hE : A % M * 4294967296 ^ 8 % M < M := Nat.mod_lt _ h0
  have hF : B % M * 4294967296 ^ 8 % M < M := Nat.mod_lt _ h0
  have hE2 := Nat.lt_trans hE hM
  have hF2 := Nat.lt_trans hF hM
  have b1 := overI_ge (A % M) (B % M)
  have b2 := overI_le (A % M) (B % M)
  have b3 := overI_ge (A % M * 4294967296 ^ 8 % M) (B % M * 4294967296 ^ 8 % M)
  have b4 := overI_le (A % M * 4294967296 ^ 8 % M) (B % M * 4294967296 ^ 8 % M)
  have s1 := addN_over hX2 hY2
  have s2 := addN_over hE2 hF2
  refine ⟨C, A % M, B % M, addN (A % M) (B % M), (overI (A % M) (B % M)).toNat, (A % M + B % M) % M, A % M * 4294967296 ^ 8 % M, B % M * 4294967296 ^ 8 % M, addN (A % M * 4294967296 ^ 8 % M) (B % M * 4294967296 ^ 8 % M), (overI (A % M * 4294967296 ^ 8 % M) (B % M * 4294967296 ^ 8 % M)).toNat, (A % M * 4294967296 ^ 8 % M + B % M * 4294967296 ^ 8 % M) % M, overI (A % M) (B % M), overI (A % M * 4294967296 ^ 8 % M) (B % M * 4294967296 ^ 8 % M), hC, k1, mbelow_any A M hA h0 hM, mbelow_any B M hB h0 hM, ⟨b1, b2⟩, ⟨b3, b4⟩, radd_any _ _ hX2 hY2, from_ref _ (by omega) (by omega), rest_val (addN_lt hX2 hY2) (small_lt b2) h0 hM (by rw [s1]), hC.in_ hX2, hC.in_ hY2, radd_any _ _ hE2 hF2, from_ref _ (by omega) (by omega), rest_val (addN_lt hE2 hF2) (small_lt b4) h0 hM (by rw [s2]), fun w => ?_⟩
  have := hC.in_ (a := (A % M + B % M) % M) (Nat.lt_trans (Nat.mod_lt _ h0) hM) w
  rw [show (A % M + B % M) % M * 4294967296 ^ 8 % M = (A % M * 4294967296 ^ 8 % M + B % M * 4294967296 ^ 8 % M) % M by rw [Nat.mod_mul_mod, Nat.add_mul, Nat.add_mod]] at this
  exact this
set_option maxRecDepth 100000 in
set_option maxHeartbeats 16000000 in
theorem MontSums_walk (a0 : Int) (hk0 : -9223372036854775808 ≤ a0) (hl0 : a0 < 9223372036854775808)
    (A1 : Option Addr) (n1 cap1 : Nat) (x1 : Nat → Int)
    (a2 : Int) (hk2 : -9223372036854775808 ≤ a2) (hl2 : a2 < 9223372036854775808)
    (A3 : Option Addr) (n3 cap3 : Nat) (x3 : Nat → Int)
    (a4 : Int) (hk4 : -9223372036854775808 ≤ a4) (hl4 : a4 < 9223372036854775808)
    (A5 : Option Addr) (n5 cap5 : Nat) (x5 : Nat → Int) (w : World) (hr1 : RdI w A1 n1 x1) (hr3 : RdI w A3 n3 x3) (hr5 : RdI w A5 n5 x5) :
    Calls Try.prog 10 #[.int .i64 a0, .slice A1 n1 cap1, .int .i64 a2, .slice A3 n3 cap3, .int .i64 a4, .slice A5 n5 cap5] w fun e w' => e = .returned (.bool true) ∧ Below w.heap.size w w' := by
  have ng := noGuard
  obtain ⟨M, eM⟩ : ∃ M, Hid (oddN (mkN a0 n1 x1) = M) := ⟨_, hid rfl⟩
  have mkM := fun (w : World) (hx : RdI w A1 n1 x1) => odd_any a0 hk0 hl0 A1 n1 cap1 x1 w hx
  rw [eM.out] at mkM
  obtain ⟨oM, gM, bM⟩ : M % 2 = 1 ∧ 1 < M ∧ M < 4294967296 ^ 8 := by rw [← eM.out]; exact oddN_spec (mkN_lt _ _ _)
  clear eM
  obtain ⟨A, eA⟩ : ∃ A, Hid (mkN a2 n3 x3 = A) := ⟨_, hid rfl⟩
  have mkA := fun (w : World) (hx : RdI w A3 n3 x3) => make_det a2 hk2 hl2 A3 n3 cap3 x3 w hx
  rw [eA.out] at mkA
  have bA : A < 4294967296 ^ 8 := by rw [← eA.out]; exact mkN_lt _ _ _
  clear eA
  obtain ⟨B, eB⟩ : ∃ B, Hid (mkN a4 n5 x5 = B) := ⟨_, hid rfl⟩
  have mkB := fun (w : World) (hx : RdI w A5 n5 x5) => make_det a4 hk4 hl4 A5 n5 cap5 x5 w hx
  rw [eB.out] at mkB
  have bB : B < 4294967296 ^ 8 := by rw [← eB.out]; exact mkN_lt _ _ _
  clear eB
  obtain ⟨C, X, Y, S, P, T, E, F, D, R, Q, p, r, hC, k0, k1, k2, ⟨p0, p1⟩, ⟨r0, r1⟩, k3, kp, k4, k5, k6, k7, kr, k8, k9⟩ := sums_pack oM gM bM bA bB
  clear oM gM bM bA bB
  go_enter Try.func10, Try.ntmps10
  go_wp2_with (fail)
  refine (mknown_any _).mono ?_
  rintro e w1 ⟨rfl, bw1⟩
  have r1_1 := hr1.step bw1
  have r3_1 := hr3.step bw1
  have r5_1 := hr5.step bw1
  have c_1 := bw1
  clear hr1 hr3 hr5 bw1
  go_wp2_with (fail)
  refine (mkM _ r1_1).mono ?_
  rintro e w2 ⟨rfl, bw2⟩
  have r1_2 := r1_1.step bw2
  have r3_2 := r3_1.step bw2
  have r5_2 := r5_1.step bw2
  have c_2 := step_trans c_1 bw2
  clear r1_1 r3_1 r5_1 c_1 bw2
  go_wp2_with (first | (refine wpList_store_num rfl _ (.tmp 13) _ rfl _ rfl _ rfl _ rfl (heap_alloc_new _ _) size26 ?_; intro w3 gw3 mw3; have b_1 := step_new gw3; have r3_3 := r3_2.step b_1; have r5_3 := r5_2.step b_1; have c_3 := step_trans c_2 b_1; clear r3_2 r5_2 c_2 b_1 gw3) | (refine wpList_load_num rfl _ (.tmp 13) rfl _ rfl _ _ _ mw3 Try.underlying26 rfl size26 ?_))
  refine (k0 _).mono ?_
  rintro e w4 ⟨rfl, bw4⟩
  have r3_4 := r3_3.step bw4
  have r5_4 := r5_3.step bw4
  have m_1 := mw3.step bw4
  have c_4 := step_trans c_3 bw4
  clear r3_3 r5_3 mw3 c_3 bw4
  go_upto_region 5 with (first | (refine wpList_store_blk rfl _ (.tmp 14) _ rfl _ rfl (C) rfl hC.cells _ (heap_alloc_new _ _) (by rw [hC.size]; rfl) hC.info ?_; intro w5 gw5 mw5))
  try simp only [Act.put, List.setIfInBounds_toArray, List.set_cons_zero, List.set_cons_succ]
  have nm_t := hid (show _ ≠ w4.heap.size from Nat.ne_of_lt m_1.lt)
  have lot := hid (show _ ≤ w4.heap.size from c_4.size)
  have b_2 := step_new gw5
  have r3_5 := r3_4.step b_2
  have r5_5 := r5_4.step b_2
  have m_2 := m_1.step b_2
  have c_5 := step_trans c_4 b_2
  clear r3_4 r5_4 m_1 c_4 b_2
  clear gw5
  try simp only [Act.put, List.setIfInBounds_toArray, List.set_cons_zero, List.set_cons_succ]
  go_upto_region 7 with (fail)
  try simp only [Act.put, List.setIfInBounds_toArray, List.set_cons_zero, List.set_cons_succ]
  refine wp_region_news 12 26 (.cells #[Value.int .u32 0, .int .u32 0, .int .u32 0, .int .u32 0, .int .u32 0, .int .u32 0, .int .u32 0, .int .u32 0] 26) (fun _ _ _ _ _ h => h) (by kernel_rfl) (by kernel_rfl) (by kernel_rfl) (by kernel_rfl) (by kernel_rfl) (by kernel_rfl) (by kernel_rfl) (by kernel_rfl) num_new ?_
  intro V_1
  simp only [calmN, isNew, hush, hushT, List.drop_succ_cons, List.drop_zero]
  have r3_6 := r3_5.step V_1.h
  have r5_6 := r5_5.step V_1.h
  have m_3 := m_2.step V_1.h
  have t_1 := mw5.step V_1.h
  have c_6 := step_trans c_5 V_1.h
  have RR := r3_6
  have RS := r5_6
  go_big_quiet_step (fail)
  go_big_quiet_step (fail)
  go_big_quiet_step (exact later_of (mkA _ (RR.step (Later.h _))))
  (refine wpQuiet_load_num rfl _ (.tmp 13) rfl _ rfl _ _ _ m_3 Try.underlying26 rfl size26 ?_; simp only [Act.put, List.setIfInBounds_toArray, List.set_cons_zero, List.set_cons_succ])
  go_big_quiet_step (exact later_of (k1 _))
  go_big_quiet_step (fail)
  go_big_quiet_step (fail)
  go_big_quiet_step (exact later_of (mkB _ (RS.step (Later.h _))))
  (refine wpQuiet_load_num rfl _ (.tmp 13) rfl _ rfl _ _ _ m_3 Try.underlying26 rfl size26 ?_; simp only [Act.put, List.setIfInBounds_toArray, List.set_cons_zero, List.set_cons_succ])
  go_big_quiet_step (exact later_of (k2 _))
  go_big_quiet_step (fail)
  go_big_quiet_step (fail)
  go_big_quiet_step (fail)
  go_big_quiet_step (fail)
  refine wpQuiet_nil ?_
  intro X_1 p_1 hp_1
  obtain ⟨hp_11, hp_12⟩ := hp_1
  have r3_7 := r3_6.step X_1.h
  have r5_7 := r5_6.step X_1.h
  have m_4 := m_3.step X_1.h
  have t_2 := t_1.step X_1.h
  have c_7 := step_trans c_6 X_1.h
  obtain ⟨lp_110, ep_110⟩ := hp_11 10 _ rfl rfl
  obtain ⟨lp_111, ep_111⟩ := hp_11 11 _ rfl rfl
  have nx_y := hid (show p_1 10 ≠ p_1 11 from fun h => absurd (hp_12 10 11 _ _ rfl rfl rfl rfl h) (by decide))
  simp only [layN, isNew, Act.put, List.setIfInBounds_toArray, List.set_cons_zero, List.set_cons_succ, Nat.zero_add, Nat.reduceAdd]
  clear hp_11 hp_12
  generalize p_1 10 = bp_110 at *
  generalize p_1 11 = bp_111 at *
  have nm_x := hid (show _ ≠ bp_110 from Nat.ne_of_lt (Nat.lt_of_lt_of_le m_2.lt lp_110))
  have nt_x := hid (show _ ≠ bp_110 from Nat.ne_of_lt (Nat.lt_of_lt_of_le mw5.lt lp_110))
  have lox := hid (show _ ≤ bp_110 from Nat.le_trans c_5.size lp_110)
  have nm_y := hid (show _ ≠ bp_111 from Nat.ne_of_lt (Nat.lt_of_lt_of_le m_2.lt lp_111))
  have nt_y := hid (show _ ≠ bp_111 from Nat.ne_of_lt (Nat.lt_of_lt_of_le mw5.lt lp_111))
  have loy := hid (show _ ≤ bp_111 from Nat.le_trans c_5.size lp_111)
  try clear RR RS
  go_wp2_with (first | (refine wpList_store_num rfl _ (.tmp 16) _ rfl _ rfl _ rfl _ rfl ep_110 size26 ?_; intro w6 gw6 mw6; have m_5 := m_4.grown gw6 (ne_new m_2.lt lp_110); have t_3 := t_2.grown gw6 (ne_new mw5.lt lp_110); replace ep_111 := (gw6.block _ (heap_lt ep_111) (ne_some nx_y.out.symm)).trans ep_111; have c_8 := below_of_grown c_7 gw6 c_7.size (Nat.le_trans c_5.size lp_110); clear m_4 t_2 ep_110 c_7 gw6) | (refine wpList_store_num rfl _ (.tmp 17) _ rfl _ rfl _ rfl _ rfl ep_111 size26 ?_; intro w7 gw7 mw7; have m_6 := m_5.grown gw7 (ne_new m_2.lt lp_111); have t_4 := t_3.grown gw7 (ne_new mw5.lt lp_111); have x_1 := mw6.grown gw7 (ne_some nx_y.out); have c_9 := below_of_grown c_8 gw7 c_8.size (Nat.le_trans c_5.size lp_111); clear m_5 t_3 mw6 ep_111 c_8 gw7 r3_5 r5_5 m_2 mw5 c_5 r3_6 r5_6 m_3 t_1 c_6 lp_110 lp_111) | (refine wpList_load_num rfl _ (.tmp 16) rfl _ rfl _ _ _ x_1 Try.underlying26 rfl size26 ?_) | (refine wpList_load_num rfl _ (.tmp 17) rfl _ rfl _ _ _ mw7 Try.underlying26 rfl size26 ?_))
  refine (k3 _).mono ?_
  rintro e w8 ⟨rfl, bw8⟩
  have m_7 := m_6.step bw8
  have t_5 := t_4.step bw8
  have x_2 := x_1.step bw8
  have y_1 := mw7.step bw8
  have c_10 := step_trans c_9 bw8
  clear m_6 t_4 x_1 mw7 c_9 bw8
  go_upto_region 9 with (first | (refine wpList_store_num rfl _ (.tmp 18) _ rfl _ rfl _ rfl _ rfl (heap_alloc_new _ _) size26 ?_; intro w9 gw9 mw9; have b_3 := step_new gw9; have los := hid (show _ ≤ w8.heap.size from Nat.le_trans c_10.size (by omega)); have nm_s := hid (show _ ≠ w8.heap.size from Nat.ne_of_lt (Nat.lt_of_lt_of_le m_7.lt (by omega))); have nt_s := hid (show _ ≠ w8.heap.size from Nat.ne_of_lt (Nat.lt_of_lt_of_le t_5.lt (by omega))); have nx_s := hid (show _ ≠ w8.heap.size from Nat.ne_of_lt (Nat.lt_of_lt_of_le x_2.lt (by omega))); have ny_s := hid (show _ ≠ w8.heap.size from Nat.ne_of_lt (Nat.lt_of_lt_of_le y_1.lt (by omega))); have m_8 := m_7.step b_3; have t_6 := t_5.step b_3; have x_3 := x_2.step b_3; have y_2 := y_1.step b_3; have c_11 := step_trans c_10 b_3; clear m_7 t_5 x_2 y_1 c_10 b_3 gw9) | (refine wpList_load_num rfl _ (.tmp 18) rfl _ rfl _ _ _ mw9 Try.underlying26 rfl size26 ?_))
  try simp only [Act.put, List.setIfInBounds_toArray, List.set_cons_zero, List.set_cons_succ]
  refine wp_region_news 9 26 (.cells #[Value.int .u32 0, .int .u32 0, .int .u32 0, .int .u32 0, .int .u32 0, .int .u32 0, .int .u32 0, .int .u32 0] 26) (fun _ _ _ _ _ h => h) (by kernel_rfl) (by kernel_rfl) (by kernel_rfl) (by kernel_rfl) (by kernel_rfl) (by kernel_rfl) (by kernel_rfl) (by kernel_rfl) num_new ?_
  intro V_2
  simp only [calmN, isNew, hush, hushT, List.drop_succ_cons, List.drop_zero]
  have m_9 := m_8.step V_2.h
  have t_7 := t_6.step V_2.h
  have x_4 := x_3.step V_2.h
  have y_3 := y_2.step V_2.h
  have s_1 := mw9.step V_2.h
  have c_12 := step_trans c_11 V_2.h
  (refine wpQuiet_load_num rfl _ (.tmp 18) rfl _ rfl _ _ _ s_1 Try.underlying26 rfl size26 ?_; simp only [Act.put, List.setIfInBounds_toArray, List.set_cons_zero, List.set_cons_succ])
  go_big_quiet_step (fail)
  go_big_quiet_step (fail)
  go_big_quiet_step (exact later_of (kp _))
  (refine wpQuiet_load_num rfl _ (.tmp 13) rfl _ rfl _ _ _ m_9 Try.underlying26 rfl size26 ?_; simp only [Act.put, List.setIfInBounds_toArray, List.set_cons_zero, List.set_cons_succ])
  go_big_quiet_step (exact later_of (k4 _))
  go_big_quiet_step (fail)
  go_big_quiet_step (fail)
  go_big_quiet_step (fail)
  go_big_quiet_step (fail)
  refine wpQuiet_nil ?_
  intro X_2 p_2 hp_2
  obtain ⟨hp_21, hp_22⟩ := hp_2
  have m_10 := m_9.step X_2.h
  have t_8 := t_7.step X_2.h
  have x_5 := x_4.step X_2.h
  have y_4 := y_3.step X_2.h
  have s_2 := s_1.step X_2.h
  have c_13 := step_trans c_12 X_2.h
  simp only [layN, isNew, Act.put, List.setIfInBounds_toArray, List.set_cons_zero, List.set_cons_succ, Nat.zero_add, Nat.reduceAdd]
  clear hp_21 hp_22
  clear m_8 t_6 x_3 y_2 mw9 c_11 m_9 t_7 x_4 y_3 s_1 c_12
  go_upto_region 10 with (first | (refine wpList_store_num rfl _ (.tmp 18) _ rfl _ rfl _ rfl _ rfl s_2 size26 ?_; intro w10 gw10 mw10; have m_11 := m_10.grown gw10 (ne_some nm_s.out); have t_9 := t_8.grown gw10 (ne_some nt_s.out); have x_6 := x_5.grown gw10 (ne_some nx_s.out); have y_5 := y_4.grown gw10 (ne_some ny_s.out); have c_14 := below_of_grown c_13 gw10 c_13.size los.out; clear s_2 m_10 t_8 x_5 y_4 c_13 gw10) | (refine wpList_load_blk rfl _ (.tmp 14) rfl _ rfl _ _ _ t_9 Try.underlying29 rfl hC.info ?_) | (refine wpList_load_num rfl _ (.tmp 16) rfl _ rfl _ _ _ x_6 Try.underlying26 rfl size26 ?_))
  try simp only [Act.put, List.setIfInBounds_toArray, List.set_cons_zero, List.set_cons_succ]
  refine wp_region_news 11 26 (.cells #[Value.int .u32 0, .int .u32 0, .int .u32 0, .int .u32 0, .int .u32 0, .int .u32 0, .int .u32 0, .int .u32 0] 26) (fun _ _ _ _ _ h => h) (by kernel_rfl) (by kernel_rfl) (by kernel_rfl) (by kernel_rfl) (by kernel_rfl) (by kernel_rfl) (by kernel_rfl) (by kernel_rfl) num_new ?_
  intro V_3
  simp only [calmN, isNew, hush, hushT, List.drop_succ_cons, List.drop_zero]
  have m_12 := m_11.step V_3.h
  have t_10 := t_9.step V_3.h
  have x_7 := x_6.step V_3.h
  have y_6 := y_5.step V_3.h
  have s_3 := mw10.step V_3.h
  have c_15 := step_trans c_14 V_3.h
  (refine wpQuiet_load_blk rfl _ (.tmp 14) rfl _ rfl _ _ _ t_10 Try.underlying29 rfl hC.info ?_; simp only [Act.put, List.setIfInBounds_toArray, List.set_cons_zero, List.set_cons_succ])
  (refine wpQuiet_load_num rfl _ (.tmp 16) rfl _ rfl _ _ _ x_7 Try.underlying26 rfl size26 ?_; simp only [Act.put, List.setIfInBounds_toArray, List.set_cons_zero, List.set_cons_succ])
  go_big_quiet_step (exact later_of (k5 _))
  (refine wpQuiet_load_blk rfl _ (.tmp 14) rfl _ rfl _ _ _ t_10 Try.underlying29 rfl hC.info ?_; simp only [Act.put, List.setIfInBounds_toArray, List.set_cons_zero, List.set_cons_succ])
  (refine wpQuiet_load_num rfl _ (.tmp 17) rfl _ rfl _ _ _ y_6 Try.underlying26 rfl size26 ?_; simp only [Act.put, List.setIfInBounds_toArray, List.set_cons_zero, List.set_cons_succ])
  go_big_quiet_step (exact later_of (k6 _))
  go_big_quiet_step (exact later_of (k7 _))
  go_big_quiet_step (fail)
  go_big_quiet_step (fail)
  go_big_quiet_step (fail)
  go_big_quiet_step (fail)
  go_big_quiet_step (fail)
  go_big_quiet_step (fail)
  refine wpQuiet_nil ?_
  intro X_3 p_3 hp_3
  obtain ⟨hp_31, hp_32⟩ := hp_3
  have m_13 := m_12.step X_3.h
  have t_11 := t_10.step X_3.h
  have x_8 := x_7.step X_3.h
  have y_7 := y_6.step X_3.h
  have s_4 := s_3.step X_3.h
  have c_16 := step_trans c_15 X_3.h
  obtain ⟨lp_310, ep_310⟩ := hp_31 10 _ rfl rfl
  simp only [layN, isNew, Act.put, List.setIfInBounds_toArray, List.set_cons_zero, List.set_cons_succ, Nat.zero_add, Nat.reduceAdd]
  clear hp_31 hp_32
  generalize p_3 10 = bp_310 at *
  have nm_p := hid (show _ ≠ bp_310 from Nat.ne_of_lt (Nat.lt_of_lt_of_le m_11.lt lp_310))
  have nt_p := hid (show _ ≠ bp_310 from Nat.ne_of_lt (Nat.lt_of_lt_of_le t_9.lt lp_310))
  have nx_p := hid (show _ ≠ bp_310 from Nat.ne_of_lt (Nat.lt_of_lt_of_le x_6.lt lp_310))
  have ny_p := hid (show _ ≠ bp_310 from Nat.ne_of_lt (Nat.lt_of_lt_of_le y_5.lt lp_310))
  have ns_p := hid (show _ ≠ bp_310 from Nat.ne_of_lt (Nat.lt_of_lt_of_le mw10.lt lp_310))
  have lop := hid (show _ ≤ bp_310 from Nat.le_trans c_14.size lp_310)
  go_upto_region 11 with (first | (refine wpList_store_num rfl _ (.tmp 20) _ rfl _ rfl _ rfl _ rfl ep_310 size26 ?_; intro w11 gw11 mw11; have m_14 := m_13.grown gw11 (ne_new m_11.lt lp_310); have t_12 := t_11.grown gw11 (ne_new t_9.lt lp_310); have x_9 := x_8.grown gw11 (ne_new x_6.lt lp_310); have y_8 := y_7.grown gw11 (ne_new y_5.lt lp_310); have s_5 := s_4.grown gw11 (ne_new mw10.lt lp_310); have c_17 := below_of_grown c_16 gw11 c_16.size (Nat.le_trans c_14.size lp_310); clear m_13 t_11 x_8 y_7 s_4 ep_310 c_16 gw11 m_11 t_9 x_6 y_5 mw10 c_14 m_12 t_10 x_7 y_6 s_3 c_15 lp_310) | (refine wpList_load_num rfl _ (.tmp 20) rfl _ rfl _ _ _ mw11 Try.underlying26 rfl size26 ?_))
  try simp only [Act.put, List.setIfInBounds_toArray, List.set_cons_zero, List.set_cons_succ]
  refine wp_region_news 9 26 (.cells #[Value.int .u32 0, .int .u32 0, .int .u32 0, .int .u32 0, .int .u32 0, .int .u32 0, .int .u32 0, .int .u32 0] 26) (fun _ _ _ _ _ h => h) (by kernel_rfl) (by kernel_rfl) (by kernel_rfl) (by kernel_rfl) (by kernel_rfl) (by kernel_rfl) (by kernel_rfl) (by kernel_rfl) num_new ?_
  intro V_4
  simp only [calmN, isNew, hush, hushT, List.drop_succ_cons, List.drop_zero]
  have m_15 := m_14.step V_4.h
  have t_13 := t_12.step V_4.h
  have x_10 := x_9.step V_4.h
  have y_9 := y_8.step V_4.h
  have s_6 := s_5.step V_4.h
  have p_4 := mw11.step V_4.h
  have c_18 := step_trans c_17 V_4.h
  (refine wpQuiet_load_num rfl _ (.tmp 20) rfl _ rfl _ _ _ p_4 Try.underlying26 rfl size26 ?_; simp only [Act.put, List.setIfInBounds_toArray, List.set_cons_zero, List.set_cons_succ])
  go_big_quiet_step (fail)
  go_big_quiet_step (fail)
  go_big_quiet_step (exact later_of (kr _))
  (refine wpQuiet_load_num rfl _ (.tmp 13) rfl _ rfl _ _ _ m_15 Try.underlying26 rfl size26 ?_; simp only [Act.put, List.setIfInBounds_toArray, List.set_cons_zero, List.set_cons_succ])
  go_big_quiet_step (exact later_of (k8 _))
  go_big_quiet_step (fail)
  go_big_quiet_step (fail)
  go_big_quiet_step (fail)
  go_big_quiet_step (fail)
  refine wpQuiet_nil ?_
  intro X_4 p_5 hp_5
  obtain ⟨hp_51, hp_52⟩ := hp_5
  have m_16 := m_15.step X_4.h
  have t_14 := t_13.step X_4.h
  have x_11 := x_10.step X_4.h
  have y_10 := y_9.step X_4.h
  have s_7 := s_6.step X_4.h
  have p_6 := p_4.step X_4.h
  have c_19 := step_trans c_18 X_4.h
  simp only [layN, isNew, Act.put, List.setIfInBounds_toArray, List.set_cons_zero, List.set_cons_succ, Nat.zero_add, Nat.reduceAdd]
  clear hp_51 hp_52
  clear m_14 t_12 x_9 y_8 s_5 mw11 c_17 m_15 t_13 x_10 y_9 s_6 p_4 c_18
  go_upto_region 12 with (first | (refine wpList_store_num rfl _ (.tmp 20) _ rfl _ rfl _ rfl _ rfl p_6 size26 ?_; intro w12 gw12 mw12; have m_17 := m_16.grown gw12 (ne_some nm_p.out); have t_15 := t_14.grown gw12 (ne_some nt_p.out); have x_12 := x_11.grown gw12 (ne_some nx_p.out); have y_11 := y_10.grown gw12 (ne_some ny_p.out); have s_8 := s_7.grown gw12 (ne_some ns_p.out); have c_20 := below_of_grown c_19 gw12 c_19.size lop.out; clear p_6 m_16 t_14 x_11 y_10 s_7 c_19 gw12) | (refine wpList_load_blk rfl _ (.tmp 14) rfl _ rfl _ _ _ t_15 Try.underlying29 rfl hC.info ?_) | (refine wpList_load_num rfl _ (.tmp 18) rfl _ rfl _ _ _ s_8 Try.underlying26 rfl size26 ?_))
  try simp only [Act.put, List.setIfInBounds_toArray, List.set_cons_zero, List.set_cons_succ]
  refine wp_region_later (by kernel_rfl) (by kernel_rfl) ?_
  (refine wpQuiet_load_blk rfl _ (.tmp 14) rfl _ rfl _ _ _ t_15 Try.underlying29 rfl hC.info ?_; simp only [Act.put, List.setIfInBounds_toArray, List.set_cons_zero, List.set_cons_succ])
  (refine wpQuiet_load_num rfl _ (.tmp 18) rfl _ rfl _ _ _ s_8 Try.underlying26 rfl size26 ?_; simp only [Act.put, List.setIfInBounds_toArray, List.set_cons_zero, List.set_cons_succ])
  go_big_quiet_step (exact later_of (k9 _))
  (refine wpQuiet_load_num rfl _ (.tmp 20) rfl _ rfl _ _ _ mw12 Try.underlying26 rfl size26 ?_; simp only [Act.put, List.setIfInBounds_toArray, List.set_cons_zero, List.set_cons_succ])
  go_big_quiet_step (fail)
  go_big_quiet_step (fail)
  refine wpQuiet_nil ?_
  intro X_5
  have m_18 := m_17.step X_5.h
  have t_16 := t_15.step X_5.h
  have x_13 := x_12.step X_5.h
  have y_12 := y_11.step X_5.h
  have s_9 := s_8.step X_5.h
  have p_7 := mw12.step X_5.h
  have c_21 := step_trans c_20 X_5.h
  clear m_17 t_15 x_12 y_11 s_8 mw12 c_20
  go_wp2
  go_ret
  exact ⟨rfl, c_21⟩
end Go.Proofs.Ytcfobgimpflneaa
