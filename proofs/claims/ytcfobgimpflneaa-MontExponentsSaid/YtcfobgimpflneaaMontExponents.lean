/- sentinellaw2.MontExponents: the walk. -/
import Derived.Test.YtcfobgimpflneaaGaKnown
import Derived.Test.YtcfobgimpflneaaGaKn
import Derived.Test.YtcfobgimpflneaaMtRd
namespace Go.Proofs.Ytcfobgimpflneaa
set_option linter.unusedVariables false
set_option linter.unusedSimpArgs false
open Go.ChangeShapes Go.WideShapes Go.ChangeAt Go.RowKit
attribute [local go_sem] eqn_same
theorem exps_pack {M A B : Nat} {u v : Int} (ho : M % 2 = 1) (h1 : 1 < M) (hM : M < 4294967296 ^ 8) (hA : A < 4294967296 ^ 8) (hB : B < 4294967296 ^ 8) (u0 : 0 ≤ u) (u1 : u < 40) (v0 : 0 ≤ v) (v1 : v < 40) : ∃ (C : Array Value) (U V W P Q L H Z Y E F X : Nat), MR M C ∧
    RunsTo 14 #[numV M] (.tuple #[.agg C, .bool true]) ∧
    RunsTo 27 #[.int .i64 u] (numV U) ∧
    RunsTo 27 #[.int .i64 v] (numV V) ∧
    RunsTo 27 #[.int .i64 (u * v)] (numV W) ∧
    RunsTo 26 #[.agg C, numV A, numV U] (numV P) ∧
    RunsTo 26 #[.agg C, numV P, numV V] (numV Q) ∧
    RunsTo 18 #[numV A, numV B] (.tuple #[numV L, numV H]) ∧
    RunsTo 19 #[numV L, numV H, numV M] (.tuple #[numV Z, .bool true]) ∧
    RunsTo 26 #[.agg C, numV B, numV U] (numV Y) ∧
    RunsTo 18 #[numV P, numV Y] (.tuple #[numV E, numV F]) ∧
    RunsTo 19 #[numV E, numV F, numV M] (.tuple #[numV X, .bool true]) ∧
    RunsTo 26 #[.agg C, numV A, numV W] (numV Q) ∧
    RunsTo 26 #[.agg C, numV Z, numV U] (numV X) ∧
    (0 ≤ u * v ∧ u * v < 1600) := by
  obtain ⟨C, hC, k1, -⟩ := mr_of ho h1 hM
  have h0 : 0 < M := by omega
  obtain ⟨U, rfl⟩ := Int.eq_ofNat_of_zero_le u0
  obtain ⟨V, rfl⟩ := Int.eq_ofNat_of_zero_le v0
  have hUV : U * V < 1600 := Nat.lt_of_le_of_lt (Nat.mul_le_mul (show U ≤ 39 by omega) (show V ≤ 39 by omega)) (by decide)
  have hU : U < 4294967296 ^ 8 := Nat.lt_trans (m := 200) (by omega) (by decide)
  have hV : V < 4294967296 ^ 8 := Nat.lt_trans (m := 200) (by omega) (by decide)
  have hW : U * V < 4294967296 ^ 8 := Nat.lt_trans hUV (by decide)
  have hP : A ^ U % M < M := Nat.mod_lt _ h0
  have hQ : B ^ U % M < M := Nat.mod_lt _ h0
  have hZ : A * B % M < M := Nat.mod_lt _ h0
  have hF : ∀ n : Nat, n < 1600 → ∀ w, Calls Try.prog 27 #[.int .i64 (n : Int)] w fun e w' => e = .returned (numV n) ∧ Below w.heap.size w w' := fun n hn w => from_ref (n : Int) (by omega) (by omega) w
  have eUV : ((U : Nat) : Int) * ((V : Nat) : Int) = ((U * V : Nat) : Int) := (Int.natCast_mul _ _).symm
  refine ⟨C, U, V, U * V, A ^ U % M, (A ^ U % M) ^ V % M, A * B % 4294967296 ^ 8, A * B / 4294967296 ^ 8, A * B % M, B ^ U % M, A ^ U % M * (B ^ U % M) % 4294967296 ^ 8, A ^ U % M * (B ^ U % M) / 4294967296 ^ 8, A ^ U % M * (B ^ U % M) % M, hC, k1, hF U (by omega), hF V (by omega), ?_, hC.pow hA hU, hC.pow (Nat.lt_trans hP hM) hV, rmul_any _ _ hA hB, rest_prod hA hB h0 hM, hC.pow hB hU, rmul_any _ _ (Nat.lt_trans hP hM) (Nat.lt_trans hQ hM), rest_prod (Nat.lt_trans hP hM) (Nat.lt_trans hQ hM) h0 hM, fun w => ?_, fun w => ?_, ?_⟩
  · rw [eUV]; exact hF _ hUV
  · have := hC.pow hA hW w
    rw [Nat.pow_mul, Nat.pow_mod] at this
    exact this
  · have := hC.pow (Nat.lt_trans hZ hM) hU w
    rw [show (A * B % M) ^ U % M = A ^ U % M * (B ^ U % M) % M by rw [← Nat.pow_mod, Nat.mul_pow, Nat.mul_mod]] at this
    exact this
  · rw [eUV]; omega
set_option maxRecDepth 100000 in
set_option maxHeartbeats 16000000 in
theorem MontExponents_walk (a0 : Int) (hk0 : -9223372036854775808 ≤ a0) (hl0 : a0 < 9223372036854775808)
    (A1 : Option Addr) (n1 cap1 : Nat) (x1 : Nat → Int)
    (a2 : Int) (hk2 : -9223372036854775808 ≤ a2) (hl2 : a2 < 9223372036854775808)
    (A3 : Option Addr) (n3 cap3 : Nat) (x3 : Nat → Int)
    (a4 : Int) (hk4 : -9223372036854775808 ≤ a4) (hl4 : a4 < 9223372036854775808)
    (A5 : Option Addr) (n5 cap5 : Nat) (x5 : Nat → Int)
    (a6 : Int) (hk6 : -9223372036854775808 ≤ a6) (hl6 : a6 < 9223372036854775808)
    (a7 : Int) (hk7 : -9223372036854775808 ≤ a7) (hl7 : a7 < 9223372036854775808) (w : World) (hr1 : RdI w A1 n1 x1) (hr3 : RdI w A3 n3 x3) (hr5 : RdI w A5 n5 x5) :
    Calls Try.prog 8 #[.int .i64 a0, .slice A1 n1 cap1, .int .i64 a2, .slice A3 n3 cap3, .int .i64 a4, .slice A5 n5 cap5, .int .i64 a6, .int .i64 a7] w fun e w' => e = .returned (.bool true) ∧ Below w.heap.size w w' := by
  have ng := noGuard
  obtain ⟨M, eM⟩ : ∃ M, Hid (oddN (mkN a0 n1 x1) = M) := ⟨_, hid rfl⟩
  have mkM := fun (w : World) (hx : RdI w A1 n1 x1) => odd_any a0 hk0 hl0 A1 n1 cap1 x1 w hx
  rw [eM.out] at mkM
  obtain ⟨oM, gM, bM⟩ : M % 2 = 1 ∧ 1 < M ∧ M < 4294967296 ^ 8 := by rw [← eM.out]; exact oddN_spec (mkN_lt _ _ _)
  clear eM
  obtain ⟨A, eA⟩ : ∃ A, Hid (mkN a2 n3 x3 = A) := ⟨_, hid rfl⟩
  have mkA := fun (w : World) (hx : RdI w A3 n3 x3) => make_det a2 hk2 hl2 A3 n3 cap3 x3 w hx
  rw [eA.out] at mkA
  have bA : A < 4294967296 ^ 8 := by rw [← eA.out]; exact mkN_lt _ _ _
  clear eA
  obtain ⟨B, eB⟩ : ∃ B, Hid (mkN a4 n5 x5 = B) := ⟨_, hid rfl⟩
  have mkB := fun (w : World) (hx : RdI w A5 n5 x5) => make_det a4 hk4 hl4 A5 n5 cap5 x5 w hx
  rw [eB.out] at mkB
  have bB : B < 4294967296 ^ 8 := by rw [← eB.out]; exact mkN_lt _ _ _
  clear eB
  obtain ⟨u, eu⟩ : ∃ u, Hid (a6 % 40 = u) := ⟨_, hid rfl⟩
  have kwu := fun (w : World) => mwithin_any a6 40 (by omega) (by omega) hk6 hl6 w
  rw [eu.out] at kwu
  obtain ⟨pu, qu⟩ : 0 ≤ u ∧ u < 40 := by have := eu.out; omega
  clear eu
  obtain ⟨v, ev⟩ : ∃ v, Hid (a7 % 40 = v) := ⟨_, hid rfl⟩
  have kwv := fun (w : World) => mwithin_any a7 40 (by omega) (by omega) hk7 hl7 w
  rw [ev.out] at kwv
  obtain ⟨pv, qv⟩ : 0 ≤ v ∧ v < 40 := by have := ev.out; omega
  clear ev
  obtain ⟨C, U, V, W, P, Q, L, H, Z, Y, E, F, X, hC, k0, ku, kv, kuv, k1, k2, k3, k4, k5, k6, k7, k8, k9, m0, m1⟩ := exps_pack oM gM bM bA bB pu qu pv qv
  clear oM gM bM bA bB
  go_enter Try.func8, Try.ntmps8
  go_wp2_with (fail)
  refine (mknown_any _).mono ?_
  rintro e w1 ⟨rfl, bw1⟩
  have r1_1 := hr1.step bw1
  have r3_1 := hr3.step bw1
  have r5_1 := hr5.step bw1
  have c_1 := bw1
  clear hr1 hr3 hr5 bw1
  go_wp2_with (fail)
  refine (mkM _ r1_1).mono ?_
  rintro e w2 ⟨rfl, bw2⟩
  have r1_2 := r1_1.step bw2
  have r3_2 := r3_1.step bw2
  have r5_2 := r5_1.step bw2
  have c_2 := step_trans c_1 bw2
  clear r1_1 r3_1 r5_1 c_1 bw2
  go_wp2_with (first | (refine wpList_store_num rfl _ (.tmp 17) _ rfl _ rfl _ rfl _ rfl (heap_alloc_new _ _) size26 ?_; intro w3 gw3 mw3; have b_1 := step_new gw3; have r3_3 := r3_2.step b_1; have r5_3 := r5_2.step b_1; have c_3 := step_trans c_2 b_1; clear r3_2 r5_2 c_2 b_1 gw3) | (refine wpList_load_num rfl _ (.tmp 17) rfl _ rfl _ _ _ mw3 Try.underlying26 rfl size26 ?_))
  refine (k0 _).mono ?_
  rintro e w4 ⟨rfl, bw4⟩
  have r3_4 := r3_3.step bw4
  have r5_4 := r5_3.step bw4
  have m_1 := mw3.step bw4
  have c_4 := step_trans c_3 bw4
  clear r3_3 r5_3 mw3 c_3 bw4
  go_upto_region 5 with (first | (refine wpList_store_blk rfl _ (.tmp 18) _ rfl _ rfl (C) rfl hC.cells _ (heap_alloc_new _ _) (by rw [hC.size]; rfl) hC.info ?_; intro w5 gw5 mw5))
  try simp only [Act.put, List.setIfInBounds_toArray, List.set_cons_zero, List.set_cons_succ]
  have nm_t := hid (show _ ≠ w4.heap.size from Nat.ne_of_lt m_1.lt)
  have lot := hid (show _ ≤ w4.heap.size from c_4.size)
  have b_2 := step_new gw5
  have r3_5 := r3_4.step b_2
  have r5_5 := r5_4.step b_2
  have m_2 := m_1.step b_2
  have c_5 := step_trans c_4 b_2
  clear r3_4 r5_4 m_1 c_4 b_2
  clear gw5
  try simp only [Act.put, List.setIfInBounds_toArray, List.set_cons_zero, List.set_cons_succ]
  go_upto_region 7 with (fail)
  go_wp2_with (fail)
  refine (mkA _ r3_5).mono ?_
  rintro e w6 ⟨rfl, bw6⟩
  have r3_6 := r3_5.step bw6
  have r5_6 := r5_5.step bw6
  have m_3 := m_2.step bw6
  have t_1 := mw5.step bw6
  have c_6 := step_trans c_5 bw6
  clear r3_5 r5_5 m_2 mw5 c_5 bw6
  go_wp2_with (fail)
  refine (mkB _ r5_6).mono ?_
  rintro e w7 ⟨rfl, bw7⟩
  have r5_7 := r5_6.step bw7
  have m_4 := m_3.step bw7
  have t_2 := t_1.step bw7
  have c_7 := step_trans c_6 bw7
  clear r5_6 m_3 t_1 c_6 bw7
  go_wp2_with (first | (refine wpList_store_num rfl _ (.tmp 20) _ rfl _ rfl _ rfl _ rfl (news2 w7 _).1 size26 ?_; intro w8 gw8 mw8) | (refine wpList_store_num rfl _ (.tmp 21) _ rfl _ rfl _ rfl _ rfl ((gw8.block _ (by simp) (by simp)).trans (news2 w7 _).2) size26 ?_; intro w9 gw9 mw9; have b_3 := step_new2 gw8 gw9; have qw8 := (mw8.grown gw9 (by simp <;> omega)); have m_5 := m_4.step b_3; have t_3 := t_2.step b_3; have c_8 := step_trans c_7 b_3; clear m_4 t_2 c_7 b_3 gw8 gw9 mw8))
  refine (kwu _).mono ?_
  rintro e w10 ⟨rfl, rfl⟩
  go_wp2_with (fail)
  refine (kwv _).mono ?_
  rintro e w11 ⟨rfl, rfl⟩
  go_upto_region 9 with (first | (refine wpList_load_blk rfl _ (.tmp 18) rfl _ rfl _ _ _ t_3 Try.underlying29 rfl hC.info ?_) | (refine wpList_load_num rfl _ (.tmp 20) rfl _ rfl _ _ _ qw8 Try.underlying26 rfl size26 ?_))
  try simp only [Act.put, List.setIfInBounds_toArray, List.set_cons_zero, List.set_cons_succ]
  refine wp_region_news 10 26 (.cells #[Value.int .u32 0, .int .u32 0, .int .u32 0, .int .u32 0, .int .u32 0, .int .u32 0, .int .u32 0, .int .u32 0] 26) (fun _ _ _ _ _ h => h) (by kernel_rfl) (by kernel_rfl) (by kernel_rfl) (by kernel_rfl) (by kernel_rfl) (by kernel_rfl) (by kernel_rfl) (by kernel_rfl) num_new ?_
  intro V_1
  simp only [calmN, isNew, hush, hushT, List.drop_succ_cons, List.drop_zero]
  have m_6 := m_5.step V_1.h
  have t_4 := t_3.step V_1.h
  have x_1 := qw8.step V_1.h
  have y_1 := mw9.step V_1.h
  have c_9 := step_trans c_8 V_1.h
  (refine wpQuiet_load_blk rfl _ (.tmp 18) rfl _ rfl _ _ _ t_4 Try.underlying29 rfl hC.info ?_; simp only [Act.put, List.setIfInBounds_toArray, List.set_cons_zero, List.set_cons_succ])
  (refine wpQuiet_load_blk rfl _ (.tmp 18) rfl _ rfl _ _ _ t_4 Try.underlying29 rfl hC.info ?_; simp only [Act.put, List.setIfInBounds_toArray, List.set_cons_zero, List.set_cons_succ])
  (refine wpQuiet_load_num rfl _ (.tmp 20) rfl _ rfl _ _ _ x_1 Try.underlying26 rfl size26 ?_; simp only [Act.put, List.setIfInBounds_toArray, List.set_cons_zero, List.set_cons_succ])
  go_big_quiet_step (fail)
  go_big_quiet_step (exact later_of (ku _))
  go_big_quiet_step (exact later_of (k1 _))
  go_big_quiet_step (fail)
  go_big_quiet_step (exact later_of (kv _))
  go_big_quiet_step (exact later_of (k2 _))
  go_big_quiet_step (fail)
  go_big_quiet_step (fail)
  refine wpQuiet_nil ?_
  intro X_1 p_1 hp_1
  obtain ⟨hp_11, hp_12⟩ := hp_1
  have m_7 := m_6.step X_1.h
  have t_5 := t_4.step X_1.h
  have x_2 := x_1.step X_1.h
  have y_2 := y_1.step X_1.h
  have c_10 := step_trans c_9 X_1.h
  obtain ⟨lp_19, ep_19⟩ := hp_11 9 _ rfl rfl
  simp only [layN, isNew, Act.put, List.setIfInBounds_toArray, List.set_cons_zero, List.set_cons_succ, Nat.zero_add, Nat.reduceAdd]
  clear hp_11 hp_12
  generalize p_1 9 = bp_19 at *
  go_wp2_with (first | (refine wpList_store_num rfl _ (.tmp 24) _ rfl _ rfl _ rfl _ rfl ep_19 size26 ?_; intro w12 gw12 mw12; have m_8 := m_7.grown gw12 (ne_new m_5.lt lp_19); have t_6 := t_5.grown gw12 (ne_new t_3.lt lp_19); have x_3 := x_2.grown gw12 (ne_new qw8.lt lp_19); have y_3 := y_2.grown gw12 (ne_new mw9.lt lp_19); have c_11 := below_of_grown c_10 gw12 c_10.size (Nat.le_trans c_8.size lp_19); clear m_7 t_5 x_2 y_2 ep_19 c_10 gw12 m_5 t_3 qw8 mw9 c_8 m_6 t_4 x_1 y_1 c_9 lp_19) | (refine wpList_load_num rfl _ (.tmp 20) rfl _ rfl _ _ _ x_3 Try.underlying26 rfl size26 ?_) | (refine wpList_load_num rfl _ (.tmp 21) rfl _ rfl _ _ _ y_3 Try.underlying26 rfl size26 ?_))
  refine (k3 _).mono ?_
  rintro e w13 ⟨rfl, bw13⟩
  have m_9 := m_8.step bw13
  have t_7 := t_6.step bw13
  have x_4 := x_3.step bw13
  have y_4 := y_3.step bw13
  have p_2 := mw12.step bw13
  have c_12 := step_trans c_11 bw13
  clear m_8 t_6 x_3 y_3 mw12 c_11 bw13
  go_wp2_with (first | (refine wpList_store_num rfl _ (.tmp 25) _ rfl _ rfl _ rfl _ rfl (news2 w13 _).1 size26 ?_; intro w14 gw14 mw14) | (refine wpList_store_num rfl _ (.tmp 26) _ rfl _ rfl _ rfl _ rfl ((gw14.block _ (by simp) (by simp)).trans (news2 w13 _).2) size26 ?_; intro w15 gw15 mw15; have b_4 := step_new2 gw14 gw15; have qw14 := (mw14.grown gw15 (by simp <;> omega)); have m_10 := m_9.step b_4; have t_8 := t_7.step b_4; have x_5 := x_4.step b_4; have y_5 := y_4.step b_4; have p_3 := p_2.step b_4; have c_13 := step_trans c_12 b_4; clear m_9 t_7 x_4 y_4 p_2 c_12 b_4 gw14 gw15 mw14) | (refine wpList_load_num rfl _ (.tmp 17) rfl _ rfl _ _ _ m_10 Try.underlying26 rfl size26 ?_) | (refine wpList_load_num rfl _ (.tmp 25) rfl _ rfl _ _ _ qw14 Try.underlying26 rfl size26 ?_) | (refine wpList_load_num rfl _ (.tmp 26) rfl _ rfl _ _ _ mw15 Try.underlying26 rfl size26 ?_))
  refine (k4 _).mono ?_
  rintro e w16 ⟨rfl, bw16⟩
  have m_11 := m_10.step bw16
  have t_9 := t_8.step bw16
  have x_6 := x_5.step bw16
  have y_6 := y_5.step bw16
  have p_4 := p_3.step bw16
  have lo_1 := qw14.step bw16
  have hi_1 := mw15.step bw16
  have c_14 := step_trans c_13 bw16
  clear m_10 t_8 x_5 y_5 p_3 qw14 mw15 c_13 bw16
  go_upto_region 12 with (first | (refine wpList_store_num rfl _ (.tmp 27) _ rfl _ rfl _ rfl _ rfl (heap_alloc_new _ _) size26 ?_; intro w17 gw17 mw17; have b_5 := step_new gw17; have m_12 := m_11.step b_5; have t_10 := t_9.step b_5; have x_7 := x_6.step b_5; have y_7 := y_6.step b_5; have p_5 := p_4.step b_5; have lo_2 := lo_1.step b_5; have hi_2 := hi_1.step b_5; have c_15 := step_trans c_14 b_5; clear m_11 t_9 x_6 y_6 p_4 lo_1 hi_1 c_14 b_5 gw17) | (refine wpList_load_blk rfl _ (.tmp 18) rfl _ rfl _ _ _ t_10 Try.underlying29 rfl hC.info ?_) | (refine wpList_load_num rfl _ (.tmp 20) rfl _ rfl _ _ _ x_7 Try.underlying26 rfl size26 ?_))
  try simp only [Act.put, List.setIfInBounds_toArray, List.set_cons_zero, List.set_cons_succ]
  refine wp_region_news 16 26 (.cells #[Value.int .u32 0, .int .u32 0, .int .u32 0, .int .u32 0, .int .u32 0, .int .u32 0, .int .u32 0, .int .u32 0] 26) (fun _ _ _ _ _ h => h) (by kernel_rfl) (by kernel_rfl) (by kernel_rfl) (by kernel_rfl) (by kernel_rfl) (by kernel_rfl) (by kernel_rfl) (by kernel_rfl) num_new ?_
  intro V_2
  simp only [calmN, isNew, hush, hushT, List.drop_succ_cons, List.drop_zero]
  have m_13 := m_12.step V_2.h
  have t_11 := t_10.step V_2.h
  have x_8 := x_7.step V_2.h
  have y_8 := y_7.step V_2.h
  have p_6 := p_5.step V_2.h
  have lo_3 := lo_2.step V_2.h
  have hi_3 := hi_2.step V_2.h
  have z_1 := mw17.step V_2.h
  have c_16 := step_trans c_15 V_2.h
  (refine wpQuiet_load_blk rfl _ (.tmp 18) rfl _ rfl _ _ _ t_11 Try.underlying29 rfl hC.info ?_; simp only [Act.put, List.setIfInBounds_toArray, List.set_cons_zero, List.set_cons_succ])
  (refine wpQuiet_load_num rfl _ (.tmp 20) rfl _ rfl _ _ _ x_8 Try.underlying26 rfl size26 ?_; simp only [Act.put, List.setIfInBounds_toArray, List.set_cons_zero, List.set_cons_succ])
  go_big_quiet_step (fail)
  go_big_quiet_step (exact later_of (ku _))
  go_big_quiet_step (exact later_of (k1 _))
  (refine wpQuiet_load_blk rfl _ (.tmp 18) rfl _ rfl _ _ _ t_11 Try.underlying29 rfl hC.info ?_; simp only [Act.put, List.setIfInBounds_toArray, List.set_cons_zero, List.set_cons_succ])
  (refine wpQuiet_load_num rfl _ (.tmp 21) rfl _ rfl _ _ _ y_8 Try.underlying26 rfl size26 ?_; simp only [Act.put, List.setIfInBounds_toArray, List.set_cons_zero, List.set_cons_succ])
  go_big_quiet_step (fail)
  go_big_quiet_step (exact later_of (ku _))
  go_big_quiet_step (exact later_of (k5 _))
  go_big_quiet_step (exact later_of (k6 _))
  go_big_quiet_step (fail)
  go_big_quiet_step (fail)
  go_big_quiet_step (fail)
  go_big_quiet_step (fail)
  go_big_quiet_step (fail)
  go_big_quiet_step (fail)
  go_big_quiet_step (fail)
  refine wpQuiet_nil ?_
  intro X_2 p_7 hp_7
  obtain ⟨hp_71, hp_72⟩ := hp_7
  have m_14 := m_13.step X_2.h
  have t_12 := t_11.step X_2.h
  have x_9 := x_8.step X_2.h
  have y_9 := y_8.step X_2.h
  have p_8 := p_6.step X_2.h
  have lo_4 := lo_3.step X_2.h
  have hi_4 := hi_3.step X_2.h
  have z_2 := z_1.step X_2.h
  have c_17 := step_trans c_16 X_2.h
  obtain ⟨lp_714, ep_714⟩ := hp_71 14 _ rfl rfl
  obtain ⟨lp_715, ep_715⟩ := hp_71 15 _ rfl rfl
  have ng_h := hid (show p_7 14 ≠ p_7 15 from fun h => absurd (hp_72 14 15 _ _ rfl rfl rfl rfl h) (by decide))
  simp only [layN, isNew, Act.put, List.setIfInBounds_toArray, List.set_cons_zero, List.set_cons_succ, Nat.zero_add, Nat.reduceAdd]
  clear hp_71 hp_72
  generalize p_7 14 = bp_714 at *
  generalize p_7 15 = bp_715 at *
  go_wp2_with (first | (refine wpList_store_num rfl _ (.tmp 29) _ rfl _ rfl _ rfl _ rfl ep_714 size26 ?_; intro w18 gw18 mw18; have m_15 := m_14.grown gw18 (ne_new m_12.lt lp_714); have t_13 := t_12.grown gw18 (ne_new t_10.lt lp_714); have x_10 := x_9.grown gw18 (ne_new x_7.lt lp_714); have y_10 := y_9.grown gw18 (ne_new y_7.lt lp_714); have p_9 := p_8.grown gw18 (ne_new p_5.lt lp_714); have lo_5 := lo_4.grown gw18 (ne_new lo_2.lt lp_714); have hi_5 := hi_4.grown gw18 (ne_new hi_2.lt lp_714); have z_3 := z_2.grown gw18 (ne_new mw17.lt lp_714); replace ep_715 := (gw18.block _ (heap_lt ep_715) (ne_some ng_h.out.symm)).trans ep_715; have c_18 := below_of_grown c_17 gw18 c_17.size (Nat.le_trans c_15.size lp_714); clear m_14 t_12 x_9 y_9 p_8 lo_4 hi_4 z_2 ep_714 c_17 gw18) | (refine wpList_store_num rfl _ (.tmp 30) _ rfl _ rfl _ rfl _ rfl ep_715 size26 ?_; intro w19 gw19 mw19; have m_16 := m_15.grown gw19 (ne_new m_12.lt lp_715); have t_14 := t_13.grown gw19 (ne_new t_10.lt lp_715); have x_11 := x_10.grown gw19 (ne_new x_7.lt lp_715); have y_11 := y_10.grown gw19 (ne_new y_7.lt lp_715); have p_10 := p_9.grown gw19 (ne_new p_5.lt lp_715); have lo_6 := lo_5.grown gw19 (ne_new lo_2.lt lp_715); have hi_6 := hi_5.grown gw19 (ne_new hi_2.lt lp_715); have z_4 := z_3.grown gw19 (ne_new mw17.lt lp_715); have g_1 := mw18.grown gw19 (ne_some ng_h.out); have c_19 := below_of_grown c_18 gw19 c_18.size (Nat.le_trans c_15.size lp_715); clear m_15 t_13 x_10 y_10 p_9 lo_5 hi_5 z_3 mw18 ep_715 c_18 gw19 m_12 t_10 x_7 y_7 p_5 lo_2 hi_2 mw17 c_15 m_13 t_11 x_8 y_8 p_6 lo_3 hi_3 z_1 c_16 lp_714 lp_715) | (refine wpList_load_num rfl _ (.tmp 17) rfl _ rfl _ _ _ m_16 Try.underlying26 rfl size26 ?_) | (refine wpList_load_num rfl _ (.tmp 29) rfl _ rfl _ _ _ g_1 Try.underlying26 rfl size26 ?_) | (refine wpList_load_num rfl _ (.tmp 30) rfl _ rfl _ _ _ mw19 Try.underlying26 rfl size26 ?_))
  refine (k7 _).mono ?_
  rintro e w20 ⟨rfl, bw20⟩
  have m_17 := m_16.step bw20
  have t_15 := t_14.step bw20
  have x_12 := x_11.step bw20
  have y_12 := y_11.step bw20
  have p_11 := p_10.step bw20
  have lo_7 := lo_6.step bw20
  have hi_7 := hi_6.step bw20
  have z_5 := z_4.step bw20
  have g_2 := g_1.step bw20
  have h_1 := mw19.step bw20
  have c_20 := step_trans c_19 bw20
  clear m_16 t_14 x_11 y_11 p_10 lo_6 hi_6 z_4 g_1 mw19 c_19 bw20
  go_upto_region 14 with (first | (refine wpList_store_num rfl _ (.tmp 31) _ rfl _ rfl _ rfl _ rfl (heap_alloc_new _ _) size26 ?_; intro w21 gw21 mw21; have b_6 := step_new gw21; have m_18 := m_17.step b_6; have t_16 := t_15.step b_6; have x_13 := x_12.step b_6; have y_13 := y_12.step b_6; have p_12 := p_11.step b_6; have lo_8 := lo_7.step b_6; have hi_8 := hi_7.step b_6; have z_6 := z_5.step b_6; have g_3 := g_2.step b_6; have h_2 := h_1.step b_6; have c_21 := step_trans c_20 b_6; clear m_17 t_15 x_12 y_12 p_11 lo_7 hi_7 z_5 g_2 h_1 c_20 b_6 gw21) | (refine wpList_load_blk rfl _ (.tmp 18) rfl _ rfl _ _ _ t_16 Try.underlying29 rfl hC.info ?_) | (refine wpList_load_num rfl _ (.tmp 20) rfl _ rfl _ _ _ x_13 Try.underlying26 rfl size26 ?_) | (refine wpList_load_num rfl _ (.tmp 24) rfl _ rfl _ _ _ p_12 Try.underlying26 rfl size26 ?_))
  try simp only [Act.put, List.setIfInBounds_toArray, List.set_cons_zero, List.set_cons_succ]
  refine wp_region_later (by kernel_rfl) (by kernel_rfl) ?_
  (refine wpQuiet_load_num rfl _ (.tmp 24) rfl _ rfl _ _ _ p_12 Try.underlying26 rfl size26 ?_; simp only [Act.put, List.setIfInBounds_toArray, List.set_cons_zero, List.set_cons_succ])
  (refine wpQuiet_load_blk rfl _ (.tmp 18) rfl _ rfl _ _ _ t_16 Try.underlying29 rfl hC.info ?_; simp only [Act.put, List.setIfInBounds_toArray, List.set_cons_zero, List.set_cons_succ])
  (refine wpQuiet_load_num rfl _ (.tmp 20) rfl _ rfl _ _ _ x_13 Try.underlying26 rfl size26 ?_; simp only [Act.put, List.setIfInBounds_toArray, List.set_cons_zero, List.set_cons_succ])
  go_big_quiet_step (fail)
  go_big_quiet_step (fail)
  go_big_quiet_step (fail)
  go_big_quiet_step (exact later_of (kuv _))
  go_big_quiet_step (exact later_of (k8 _))
  go_big_quiet_step (fail)
  go_big_quiet_step (fail)
  first | (refine wpQuiet_load_blk rfl _ (.tmp 18) rfl _ rfl _ _ _ t_16 Try.underlying29 rfl hC.info ?_; simp only [Act.put, List.setIfInBounds_toArray, List.set_cons_zero, List.set_cons_succ]) | go_big_quiet_step (fail)
  first | (refine wpQuiet_load_num rfl _ (.tmp 27) rfl _ rfl _ _ _ z_6 Try.underlying26 rfl size26 ?_; simp only [Act.put, List.setIfInBounds_toArray, List.set_cons_zero, List.set_cons_succ]) | go_big_quiet_step (fail)
  go_big_quiet_step (fail)
  go_big_quiet_step (exact later_of (ku _))
  go_big_quiet_step (exact later_of (k9 _))
  first | (refine wpQuiet_load_num rfl _ (.tmp 31) rfl _ rfl _ _ _ mw21 Try.underlying26 rfl size26 ?_; simp only [Act.put, List.setIfInBounds_toArray, List.set_cons_zero, List.set_cons_succ]) | go_big_quiet_step (fail)
  go_big_quiet_step (fail)
  go_big_quiet_step (fail)
  go_big_quiet_step (fail)
  refine wpQuiet_nil ?_
  intro X_3
  have m_19 := m_18.step X_3.h
  have t_17 := t_16.step X_3.h
  have x_14 := x_13.step X_3.h
  have y_14 := y_13.step X_3.h
  have p_13 := p_12.step X_3.h
  have lo_9 := lo_8.step X_3.h
  have hi_9 := hi_8.step X_3.h
  have z_7 := z_6.step X_3.h
  have g_4 := g_3.step X_3.h
  have h_3 := h_2.step X_3.h
  have ww_1 := mw21.step X_3.h
  have c_22 := step_trans c_21 X_3.h
  clear m_18 t_16 x_13 y_13 p_12 lo_8 hi_8 z_6 g_3 h_2 mw21 c_21
  go_wp2
  go_ret
  exact ⟨rfl, c_22⟩
end Go.Proofs.Ytcfobgimpflneaa
