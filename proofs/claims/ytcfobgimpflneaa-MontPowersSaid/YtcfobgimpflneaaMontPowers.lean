/- sentinellaw2.MontPowers: the walk. -/
import Derived.Test.YtcfobgimpflneaaGaKnown
import Derived.Test.YtcfobgimpflneaaGaKn
import Derived.Test.YtcfobgimpflneaaMtRd
namespace Go.Proofs.Ytcfobgimpflneaa
set_option linter.unusedVariables false
set_option linter.unusedSimpArgs false
open Go.ChangeShapes Go.WideShapes Go.ChangeAt Go.RowKit
attribute [local go_sem] eqn_same
theorem powers_pack {M A K : Nat} {u v : Int} (ho : M % 2 = 1) (h1 : 1 < M) (hM : M < 4294967296 ^ 8) (hA : A < 4294967296 ^ 8) (hK : K < 4294967296 ^ 8) (u0 : 0 ≤ u) (u1 : u < 200) (v0 : 0 ≤ v) (v1 : v < 200) : ∃ (C : Array Value) (U V W P Q L H R X Y : Nat), MR M C ∧
    RunsTo 14 #[numV M] (.tuple #[.agg C, .bool true]) ∧
    RunsTo 27 #[.int .i64 u] (numV U) ∧
    RunsTo 27 #[.int .i64 v] (numV V) ∧
    RunsTo 27 #[.int .i64 (u + v)] (numV W) ∧
    RunsTo 26 #[.agg C, numV A, numV U] (numV P) ∧
    RunsTo 26 #[.agg C, numV A, numV V] (numV Q) ∧
    RunsTo 18 #[numV P, numV Q] (.tuple #[numV L, numV H]) ∧
    RunsTo 19 #[numV L, numV H, numV M] (.tuple #[numV R, .bool true]) ∧
    RunsTo 28 #[numV A, numV U, numV M] (numV P) ∧
    RunsTo 26 #[.agg C, numV A, numV W] (numV R) ∧
    RunsTo 26 #[.agg C, numV A, .agg #[.int .u32 0, .int .u32 0, .int .u32 0, .int .u32 0, .int .u32 0, .int .u32 0, .int .u32 0, .int .u32 0]] (numV 1) ∧
    RunsTo 26 #[.agg C, numV A, numV 1] (numV X) ∧
    RunsTo 22 #[numV A, numV M] (numV X) ∧
    RunsTo 26 #[.agg C, numV A, numV K] (numV Y) ∧
    RunsTo 28 #[numV A, numV K, numV M] (numV Y) := by
  obtain ⟨C, hC, k1, -⟩ := mr_of ho h1 hM
  have h0 : 0 < M := by omega
  have hU : u.toNat < 4294967296 ^ 8 := Nat.lt_trans (m := 200) (by omega) (by decide)
  have hV : v.toNat < 4294967296 ^ 8 := Nat.lt_trans (m := 200) (by omega) (by decide)
  have hW : (u + v).toNat < 4294967296 ^ 8 := Nat.lt_trans (m := 400) (by omega) (by decide)
  have hP : A ^ u.toNat % M < M := Nat.mod_lt _ h0
  have hQ : A ^ v.toNat % M < M := Nat.mod_lt _ h0
  refine ⟨C, u.toNat, v.toNat, (u + v).toNat, A ^ u.toNat % M, A ^ v.toNat % M, A ^ u.toNat % M * (A ^ v.toNat % M) % 4294967296 ^ 8, A ^ u.toNat % M * (A ^ v.toNat % M) / 4294967296 ^ 8, A ^ u.toNat % M * (A ^ v.toNat % M) % M, A % M, A ^ K % M, hC, k1, from_ref u (by omega) (by omega), from_ref v (by omega) (by omega), from_ref (u + v) (by omega) (by omega), hC.pow hA hU, hC.pow hA hV, rmul_any _ _ (Nat.lt_trans hP hM) (Nat.lt_trans hQ hM), rest_prod (Nat.lt_trans hP hM) (Nat.lt_trans hQ hM) h0 hM, hC.rpow hA hU, fun w => ?_, fun w => ?_, fun w => ?_, mbelow_any A M hA h0 hM, hC.pow hA hK, hC.rpow hA hK⟩
  · have := hC.pow hA hW w
    rw [show (u + v).toNat = u.toNat + v.toNat by omega, Nat.pow_add, Nat.mul_mod] at this
    rw [show (u + v).toNat = u.toNat + v.toNat by omega]; exact this
  · have := hC.pow hA (x := 0) (by decide) w
    rw [Nat.pow_zero, Nat.mod_eq_of_lt h1] at this
    rw [zeroA]; exact this
  · have := hC.pow hA (x := 1) (by decide) w
    rw [Nat.pow_one] at this
    exact this
set_option maxRecDepth 100000 in
set_option maxHeartbeats 16000000 in
theorem MontPowers_walk (a0 : Int) (hk0 : -9223372036854775808 ≤ a0) (hl0 : a0 < 9223372036854775808)
    (A1 : Option Addr) (n1 cap1 : Nat) (x1 : Nat → Int)
    (a2 : Int) (hk2 : -9223372036854775808 ≤ a2) (hl2 : a2 < 9223372036854775808)
    (A3 : Option Addr) (n3 cap3 : Nat) (x3 : Nat → Int)
    (a4 : Int) (hk4 : -9223372036854775808 ≤ a4) (hl4 : a4 < 9223372036854775808)
    (a5 : Int) (hk5 : -9223372036854775808 ≤ a5) (hl5 : a5 < 9223372036854775808)
    (A6 : Option Addr) (n6 cap6 : Nat) (x6 : Nat → Int) (w : World) (hr1 : RdI w A1 n1 x1) (hr3 : RdI w A3 n3 x3) (hr6 : RdI w A6 n6 x6) :
    Calls Try.prog 5 #[.int .i64 a0, .slice A1 n1 cap1, .int .i64 a2, .slice A3 n3 cap3, .int .i64 a4, .int .i64 a5, .slice A6 n6 cap6] w fun e w' => e = .returned (.bool true) ∧ Below w.heap.size w w' := by
  have ng := noGuard
  obtain ⟨M, eM⟩ : ∃ M, Hid (oddN (mkN a0 n1 x1) = M) := ⟨_, hid rfl⟩
  have mkM := fun (w : World) (hx : RdI w A1 n1 x1) => odd_any a0 hk0 hl0 A1 n1 cap1 x1 w hx
  rw [eM.out] at mkM
  obtain ⟨oM, gM, bM⟩ : M % 2 = 1 ∧ 1 < M ∧ M < 4294967296 ^ 8 := by rw [← eM.out]; exact oddN_spec (mkN_lt _ _ _)
  clear eM
  obtain ⟨A, eA⟩ : ∃ A, Hid (mkN a2 n3 x3 = A) := ⟨_, hid rfl⟩
  have mkA := fun (w : World) (hx : RdI w A3 n3 x3) => make_det a2 hk2 hl2 A3 n3 cap3 x3 w hx
  rw [eA.out] at mkA
  have bA : A < 4294967296 ^ 8 := by rw [← eA.out]; exact mkN_lt _ _ _
  clear eA
  obtain ⟨K, eK⟩ : ∃ K, Hid (mkN 2 n6 x6 = K) := ⟨_, hid rfl⟩
  have mkK := fun (w : World) (hx : RdI w A6 n6 x6) => make_det 2 (by decide) (by decide) A6 n6 cap6 x6 w hx
  rw [eK.out] at mkK
  have bK : K < 4294967296 ^ 8 := by rw [← eK.out]; exact mkN_lt _ _ _
  clear eK
  obtain ⟨u, eu⟩ : ∃ u, Hid (a4 % 200 = u) := ⟨_, hid rfl⟩
  have kwu := fun (w : World) => mwithin_any a4 200 (by omega) (by omega) hk4 hl4 w
  rw [eu.out] at kwu
  obtain ⟨pu, qu⟩ : 0 ≤ u ∧ u < 200 := by have := eu.out; omega
  clear eu
  obtain ⟨v, ev⟩ : ∃ v, Hid (a5 % 200 = v) := ⟨_, hid rfl⟩
  have kwv := fun (w : World) => mwithin_any a5 200 (by omega) (by omega) hk5 hl5 w
  rw [ev.out] at kwv
  obtain ⟨pv, qv⟩ : 0 ≤ v ∧ v < 200 := by have := ev.out; omega
  clear ev
  obtain ⟨C, U, V, W, P, Q, L, H, R, X, Y, hC, k0, ku, kv, kuv, k1, k2, k3, k4, k5, k6, k7, k8, k9, k10, k11⟩ := powers_pack oM gM bM bA bK pu qu pv qv
  clear oM gM bM bA bK
  go_enter Try.func5, Try.ntmps5
  go_wp2_with (fail)
  refine (mknown_any _).mono ?_
  rintro e w1 ⟨rfl, bw1⟩
  have r1_1 := hr1.step bw1
  have r3_1 := hr3.step bw1
  have r6_1 := hr6.step bw1
  have c_1 := bw1
  clear hr1 hr3 hr6 bw1
  go_wp2_with (fail)
  refine (mkM _ r1_1).mono ?_
  rintro e w2 ⟨rfl, bw2⟩
  have r1_2 := r1_1.step bw2
  have r3_2 := r3_1.step bw2
  have r6_2 := r6_1.step bw2
  have c_2 := step_trans c_1 bw2
  clear r1_1 r3_1 r6_1 c_1 bw2
  go_wp2_with (first | (refine wpList_store_num rfl _ (.tmp 15) _ rfl _ rfl _ rfl _ rfl (heap_alloc_new _ _) size26 ?_; intro w3 gw3 mw3; have b_1 := step_new gw3; have r3_3 := r3_2.step b_1; have r6_3 := r6_2.step b_1; have c_3 := step_trans c_2 b_1; clear r3_2 r6_2 c_2 b_1 gw3) | (refine wpList_load_num rfl _ (.tmp 15) rfl _ rfl _ _ _ mw3 Try.underlying26 rfl size26 ?_))
  refine (k0 _).mono ?_
  rintro e w4 ⟨rfl, bw4⟩
  have r3_4 := r3_3.step bw4
  have r6_4 := r6_3.step bw4
  have m_1 := mw3.step bw4
  have c_4 := step_trans c_3 bw4
  clear r3_3 r6_3 mw3 c_3 bw4
  go_upto_region 5 with (first | (refine wpList_store_blk rfl _ (.tmp 16) _ rfl _ rfl (C) rfl hC.cells _ (heap_alloc_new _ _) (by rw [hC.size]; rfl) hC.info ?_; intro w5 gw5 mw5))
  try simp only [Act.put, List.setIfInBounds_toArray, List.set_cons_zero, List.set_cons_succ]
  have nm_t := hid (show _ ≠ w4.heap.size from Nat.ne_of_lt m_1.lt)
  have lot := hid (show _ ≤ w4.heap.size from c_4.size)
  have b_2 := step_new gw5
  have r3_5 := r3_4.step b_2
  have r6_5 := r6_4.step b_2
  have m_2 := m_1.step b_2
  have c_5 := step_trans c_4 b_2
  clear r3_4 r6_4 m_1 c_4 b_2
  clear gw5
  try simp only [Act.put, List.setIfInBounds_toArray, List.set_cons_zero, List.set_cons_succ]
  go_upto_region 7 with (fail)
  go_wp2_with (fail)
  refine (mkA _ r3_5).mono ?_
  rintro e w6 ⟨rfl, bw6⟩
  have r3_6 := r3_5.step bw6
  have r6_6 := r6_5.step bw6
  have m_3 := m_2.step bw6
  have t_1 := mw5.step bw6
  have c_6 := step_trans c_5 bw6
  clear r3_5 r6_5 m_2 mw5 c_5 bw6
  go_wp2_with (first | (refine wpList_store_num rfl _ (.tmp 18) _ rfl _ rfl _ rfl _ rfl (heap_alloc_new _ _) size26 ?_; intro w7 gw7 mw7; have b_3 := step_new gw7; have r6_7 := r6_6.step b_3; have m_4 := m_3.step b_3; have t_2 := t_1.step b_3; have c_7 := step_trans c_6 b_3; clear r6_6 m_3 t_1 c_6 b_3 gw7))
  refine (kwu _).mono ?_
  rintro e w8 ⟨rfl, rfl⟩
  go_wp2_with (fail)
  refine (kwv _).mono ?_
  rintro e w9 ⟨rfl, rfl⟩
  go_upto_region 9 with (first | (refine wpList_load_blk rfl _ (.tmp 16) rfl _ rfl _ _ _ t_2 Try.underlying29 rfl hC.info ?_) | (refine wpList_load_num rfl _ (.tmp 18) rfl _ rfl _ _ _ mw7 Try.underlying26 rfl size26 ?_))
  try simp only [Act.put, List.setIfInBounds_toArray, List.set_cons_zero, List.set_cons_succ]
  refine wp_region_news 12 26 (.cells #[Value.int .u32 0, .int .u32 0, .int .u32 0, .int .u32 0, .int .u32 0, .int .u32 0, .int .u32 0, .int .u32 0] 26) (fun _ _ _ _ _ h => h) (by kernel_rfl) (by kernel_rfl) (by kernel_rfl) (by kernel_rfl) (by kernel_rfl) (by kernel_rfl) (by kernel_rfl) (by kernel_rfl) num_new ?_
  intro V_1
  simp only [calmN, isNew, hush, hushT, List.drop_succ_cons, List.drop_zero]
  have r6_8 := r6_7.step V_1.h
  have m_5 := m_4.step V_1.h
  have t_3 := t_2.step V_1.h
  have x_1 := mw7.step V_1.h
  have c_8 := step_trans c_7 V_1.h
  (refine wpQuiet_load_blk rfl _ (.tmp 16) rfl _ rfl _ _ _ t_3 Try.underlying29 rfl hC.info ?_; simp only [Act.put, List.setIfInBounds_toArray, List.set_cons_zero, List.set_cons_succ])
  (refine wpQuiet_load_num rfl _ (.tmp 18) rfl _ rfl _ _ _ x_1 Try.underlying26 rfl size26 ?_; simp only [Act.put, List.setIfInBounds_toArray, List.set_cons_zero, List.set_cons_succ])
  go_big_quiet_step (fail)
  go_big_quiet_step (exact later_of (ku _))
  go_big_quiet_step (exact later_of (k1 _))
  (refine wpQuiet_load_blk rfl _ (.tmp 16) rfl _ rfl _ _ _ t_3 Try.underlying29 rfl hC.info ?_; simp only [Act.put, List.setIfInBounds_toArray, List.set_cons_zero, List.set_cons_succ])
  (refine wpQuiet_load_num rfl _ (.tmp 18) rfl _ rfl _ _ _ x_1 Try.underlying26 rfl size26 ?_; simp only [Act.put, List.setIfInBounds_toArray, List.set_cons_zero, List.set_cons_succ])
  go_big_quiet_step (fail)
  go_big_quiet_step (exact later_of (kv _))
  go_big_quiet_step (exact later_of (k2 _))
  go_big_quiet_step (fail)
  go_big_quiet_step (fail)
  go_big_quiet_step (fail)
  go_big_quiet_step (fail)
  refine wpQuiet_nil ?_
  intro X_1 p_1 hp_1
  obtain ⟨hp_11, hp_12⟩ := hp_1
  have r6_9 := r6_8.step X_1.h
  have m_6 := m_5.step X_1.h
  have t_4 := t_3.step X_1.h
  have x_2 := x_1.step X_1.h
  have c_9 := step_trans c_8 X_1.h
  obtain ⟨lp_110, ep_110⟩ := hp_11 10 _ rfl rfl
  obtain ⟨lp_111, ep_111⟩ := hp_11 11 _ rfl rfl
  have np_q := hid (show p_1 10 ≠ p_1 11 from fun h => absurd (hp_12 10 11 _ _ rfl rfl rfl rfl h) (by decide))
  simp only [layN, isNew, Act.put, List.setIfInBounds_toArray, List.set_cons_zero, List.set_cons_succ, Nat.zero_add, Nat.reduceAdd]
  clear hp_11 hp_12
  generalize p_1 10 = bp_110 at *
  generalize p_1 11 = bp_111 at *
  go_wp2_with (first | (refine wpList_store_num rfl _ (.tmp 21) _ rfl _ rfl _ rfl _ rfl ep_110 size26 ?_; intro w10 gw10 mw10; have r6_10 := RdI.far r6_7 r6_9 gw10 lp_110; have m_7 := m_6.grown gw10 (ne_new m_4.lt lp_110); have t_5 := t_4.grown gw10 (ne_new t_2.lt lp_110); have x_3 := x_2.grown gw10 (ne_new mw7.lt lp_110); replace ep_111 := (gw10.block _ (heap_lt ep_111) (ne_some np_q.out.symm)).trans ep_111; have c_10 := below_of_grown c_9 gw10 c_9.size (Nat.le_trans c_7.size lp_110); clear r6_9 m_6 t_4 x_2 ep_110 c_9 gw10) | (refine wpList_store_num rfl _ (.tmp 22) _ rfl _ rfl _ rfl _ rfl ep_111 size26 ?_; intro w11 gw11 mw11; have r6_11 := RdI.far r6_7 r6_10 gw11 lp_111; have m_8 := m_7.grown gw11 (ne_new m_4.lt lp_111); have t_6 := t_5.grown gw11 (ne_new t_2.lt lp_111); have x_4 := x_3.grown gw11 (ne_new mw7.lt lp_111); have p_2 := mw10.grown gw11 (ne_some np_q.out); have c_11 := below_of_grown c_10 gw11 c_10.size (Nat.le_trans c_7.size lp_111); clear r6_10 m_7 t_5 x_3 mw10 ep_111 c_10 gw11 r6_7 m_4 t_2 mw7 c_7 r6_8 m_5 t_3 x_1 c_8 lp_110 lp_111) | (refine wpList_load_num rfl _ (.tmp 21) rfl _ rfl _ _ _ p_2 Try.underlying26 rfl size26 ?_) | (refine wpList_load_num rfl _ (.tmp 22) rfl _ rfl _ _ _ mw11 Try.underlying26 rfl size26 ?_))
  refine (k3 _).mono ?_
  rintro e w12 ⟨rfl, bw12⟩
  have r6_12 := r6_11.step bw12
  have m_9 := m_8.step bw12
  have t_7 := t_6.step bw12
  have x_5 := x_4.step bw12
  have p_3 := p_2.step bw12
  have q_1 := mw11.step bw12
  have c_12 := step_trans c_11 bw12
  clear r6_11 m_8 t_6 x_4 p_2 mw11 c_11 bw12
  go_wp2_with (first | (refine wpList_store_num rfl _ (.tmp 23) _ rfl _ rfl _ rfl _ rfl (news2 w12 _).1 size26 ?_; intro w13 gw13 mw13) | (refine wpList_store_num rfl _ (.tmp 24) _ rfl _ rfl _ rfl _ rfl ((gw13.block _ (by simp) (by simp)).trans (news2 w12 _).2) size26 ?_; intro w14 gw14 mw14; have b_4 := step_new2 gw13 gw14; have qw13 := (mw13.grown gw14 (by simp <;> omega)); have r6_13 := r6_12.step b_4; have m_10 := m_9.step b_4; have t_8 := t_7.step b_4; have x_6 := x_5.step b_4; have p_4 := p_3.step b_4; have q_2 := q_1.step b_4; have c_13 := step_trans c_12 b_4; clear r6_12 m_9 t_7 x_5 p_3 q_1 c_12 b_4 gw13 gw14 mw13) | (refine wpList_load_num rfl _ (.tmp 15) rfl _ rfl _ _ _ m_10 Try.underlying26 rfl size26 ?_) | (refine wpList_load_num rfl _ (.tmp 23) rfl _ rfl _ _ _ qw13 Try.underlying26 rfl size26 ?_) | (refine wpList_load_num rfl _ (.tmp 24) rfl _ rfl _ _ _ mw14 Try.underlying26 rfl size26 ?_))
  refine (k4 _).mono ?_
  rintro e w15 ⟨rfl, bw15⟩
  have r6_14 := r6_13.step bw15
  have m_11 := m_10.step bw15
  have t_9 := t_8.step bw15
  have x_7 := x_6.step bw15
  have p_5 := p_4.step bw15
  have q_3 := q_2.step bw15
  have lo_1 := qw13.step bw15
  have hi_1 := mw14.step bw15
  have c_14 := step_trans c_13 bw15
  clear r6_13 m_10 t_8 x_6 p_4 q_2 qw13 mw14 c_13 bw15
  go_wp2_with (first | (refine wpList_store_num rfl _ (.tmp 25) _ rfl _ rfl _ rfl _ rfl (heap_alloc_new _ _) size26 ?_; intro w16 gw16 mw16; have b_5 := step_new gw16; have r6_15 := r6_14.step b_5; have m_12 := m_11.step b_5; have t_10 := t_9.step b_5; have x_8 := x_7.step b_5; have p_6 := p_5.step b_5; have q_4 := q_3.step b_5; have lo_2 := lo_1.step b_5; have hi_2 := hi_1.step b_5; have c_15 := step_trans c_14 b_5; clear r6_14 m_11 t_9 x_7 p_5 q_3 lo_1 hi_1 c_14 b_5 gw16))
  refine (mkK _ r6_15).mono ?_
  rintro e w17 ⟨rfl, bw17⟩
  have r6_16 := r6_15.step bw17
  have m_13 := m_12.step bw17
  have t_11 := t_10.step bw17
  have x_9 := x_8.step bw17
  have p_7 := p_6.step bw17
  have q_5 := q_4.step bw17
  have lo_3 := lo_2.step bw17
  have hi_3 := hi_2.step bw17
  have r_1 := mw16.step bw17
  have c_16 := step_trans c_15 bw17
  clear r6_15 m_12 t_10 x_8 p_6 q_4 lo_2 hi_2 mw16 c_15 bw17
  go_upto_region 13 with (first | (refine wpList_store_num rfl _ (.tmp 27) _ rfl _ rfl _ rfl _ rfl (heap_alloc_new _ _) size26 ?_; intro w18 gw18 mw18; have b_6 := step_new gw18; have m_14 := m_13.step b_6; have t_12 := t_11.step b_6; have x_10 := x_9.step b_6; have p_8 := p_7.step b_6; have q_6 := q_5.step b_6; have lo_4 := lo_3.step b_6; have hi_4 := hi_3.step b_6; have r_2 := r_1.step b_6; have c_17 := step_trans c_16 b_6; clear m_13 t_11 x_9 p_7 q_5 lo_3 hi_3 r_1 c_16 b_6 gw18) | (refine wpList_load_num rfl _ (.tmp 18) rfl _ rfl _ _ _ x_10 Try.underlying26 rfl size26 ?_) | (refine wpList_load_num rfl _ (.tmp 21) rfl _ rfl _ _ _ p_8 Try.underlying26 rfl size26 ?_))
  try simp only [Act.put, List.setIfInBounds_toArray, List.set_cons_zero, List.set_cons_succ]
  refine wp_region_later (by kernel_rfl) (by kernel_rfl) ?_
  (refine wpQuiet_load_num rfl _ (.tmp 21) rfl _ rfl _ _ _ p_8 Try.underlying26 rfl size26 ?_; simp only [Act.put, List.setIfInBounds_toArray, List.set_cons_zero, List.set_cons_succ])
  (refine wpQuiet_load_num rfl _ (.tmp 18) rfl _ rfl _ _ _ x_10 Try.underlying26 rfl size26 ?_; simp only [Act.put, List.setIfInBounds_toArray, List.set_cons_zero, List.set_cons_succ])
  go_big_quiet_step (fail)
  go_big_quiet_step (exact later_of (ku _))
  (refine wpQuiet_load_num rfl _ (.tmp 15) rfl _ rfl _ _ _ m_14 Try.underlying26 rfl size26 ?_; simp only [Act.put, List.setIfInBounds_toArray, List.set_cons_zero, List.set_cons_succ])
  go_big_quiet_step (exact later_of (k5 _))
  go_big_quiet_step (fail)
  go_big_quiet_step (fail)
  first | (refine wpQuiet_load_blk rfl _ (.tmp 16) rfl _ rfl _ _ _ t_12 Try.underlying29 rfl hC.info ?_; simp only [Act.put, List.setIfInBounds_toArray, List.set_cons_zero, List.set_cons_succ]) | go_big_quiet_step (fail)
  first | (refine wpQuiet_load_num rfl _ (.tmp 18) rfl _ rfl _ _ _ x_10 Try.underlying26 rfl size26 ?_; simp only [Act.put, List.setIfInBounds_toArray, List.set_cons_zero, List.set_cons_succ]) | go_big_quiet_step (fail)
  go_big_quiet_step (fail)
  go_big_quiet_step (fail)
  go_big_quiet_step (fail)
  go_big_quiet_step (exact later_of (kuv _))
  go_big_quiet_step (exact later_of (k6 _))
  first | (refine wpQuiet_load_num rfl _ (.tmp 25) rfl _ rfl _ _ _ r_2 Try.underlying26 rfl size26 ?_; simp only [Act.put, List.setIfInBounds_toArray, List.set_cons_zero, List.set_cons_succ]) | go_big_quiet_step (fail)
  go_big_quiet_step (fail)
  go_big_quiet_step (fail)
  go_big_quiet_step (fail)
  first | (refine wpQuiet_load_blk rfl _ (.tmp 16) rfl _ rfl _ _ _ t_12 Try.underlying29 rfl hC.info ?_; simp only [Act.put, List.setIfInBounds_toArray, List.set_cons_zero, List.set_cons_succ]) | go_big_quiet_step (fail)
  first | (refine wpQuiet_load_num rfl _ (.tmp 18) rfl _ rfl _ _ _ x_10 Try.underlying26 rfl size26 ?_; simp only [Act.put, List.setIfInBounds_toArray, List.set_cons_zero, List.set_cons_succ]) | go_big_quiet_step (fail)
  go_big_quiet_step (fail)
  go_big_quiet_step (exact later_of (k7 _))
  go_big_quiet_step (exact later_of (rfrom_one _))
  go_big_quiet_step (fail)
  go_big_quiet_step (fail)
  go_big_quiet_step (fail)
  first | (refine wpQuiet_load_blk rfl _ (.tmp 16) rfl _ rfl _ _ _ t_12 Try.underlying29 rfl hC.info ?_; simp only [Act.put, List.setIfInBounds_toArray, List.set_cons_zero, List.set_cons_succ]) | go_big_quiet_step (fail)
  first | (refine wpQuiet_load_num rfl _ (.tmp 18) rfl _ rfl _ _ _ x_10 Try.underlying26 rfl size26 ?_; simp only [Act.put, List.setIfInBounds_toArray, List.set_cons_zero, List.set_cons_succ]) | go_big_quiet_step (fail)
  go_big_quiet_step (exact later_of (rfrom_one _))
  go_big_quiet_step (exact later_of (k8 _))
  first | (refine wpQuiet_load_num rfl _ (.tmp 18) rfl _ rfl _ _ _ x_10 Try.underlying26 rfl size26 ?_; simp only [Act.put, List.setIfInBounds_toArray, List.set_cons_zero, List.set_cons_succ]) | go_big_quiet_step (fail)
  first | (refine wpQuiet_load_num rfl _ (.tmp 15) rfl _ rfl _ _ _ m_14 Try.underlying26 rfl size26 ?_; simp only [Act.put, List.setIfInBounds_toArray, List.set_cons_zero, List.set_cons_succ]) | go_big_quiet_step (fail)
  go_big_quiet_step (exact later_of (k9 _))
  go_big_quiet_step (fail)
  go_big_quiet_step (fail)
  go_big_quiet_step (fail)
  first | (refine wpQuiet_load_blk rfl _ (.tmp 16) rfl _ rfl _ _ _ t_12 Try.underlying29 rfl hC.info ?_; simp only [Act.put, List.setIfInBounds_toArray, List.set_cons_zero, List.set_cons_succ]) | go_big_quiet_step (fail)
  first | (refine wpQuiet_load_num rfl _ (.tmp 18) rfl _ rfl _ _ _ x_10 Try.underlying26 rfl size26 ?_; simp only [Act.put, List.setIfInBounds_toArray, List.set_cons_zero, List.set_cons_succ]) | go_big_quiet_step (fail)
  first | (refine wpQuiet_load_num rfl _ (.tmp 27) rfl _ rfl _ _ _ mw18 Try.underlying26 rfl size26 ?_; simp only [Act.put, List.setIfInBounds_toArray, List.set_cons_zero, List.set_cons_succ]) | go_big_quiet_step (fail)
  go_big_quiet_step (exact later_of (k10 _))
  first | (refine wpQuiet_load_num rfl _ (.tmp 18) rfl _ rfl _ _ _ x_10 Try.underlying26 rfl size26 ?_; simp only [Act.put, List.setIfInBounds_toArray, List.set_cons_zero, List.set_cons_succ]) | go_big_quiet_step (fail)
  first | (refine wpQuiet_load_num rfl _ (.tmp 27) rfl _ rfl _ _ _ mw18 Try.underlying26 rfl size26 ?_; simp only [Act.put, List.setIfInBounds_toArray, List.set_cons_zero, List.set_cons_succ]) | go_big_quiet_step (fail)
  first | (refine wpQuiet_load_num rfl _ (.tmp 15) rfl _ rfl _ _ _ m_14 Try.underlying26 rfl size26 ?_; simp only [Act.put, List.setIfInBounds_toArray, List.set_cons_zero, List.set_cons_succ]) | go_big_quiet_step (fail)
  go_big_quiet_step (exact later_of (k11 _))
  go_big_quiet_step (fail)
  go_big_quiet_step (fail)
  go_big_quiet_step (fail)
  refine wpQuiet_nil ?_
  intro X_2
  have m_15 := m_14.step X_2.h
  have t_13 := t_12.step X_2.h
  have x_11 := x_10.step X_2.h
  have p_9 := p_8.step X_2.h
  have q_7 := q_6.step X_2.h
  have lo_5 := lo_4.step X_2.h
  have hi_5 := hi_4.step X_2.h
  have r_3 := r_2.step X_2.h
  have k_1 := mw18.step X_2.h
  have c_18 := step_trans c_17 X_2.h
  clear m_14 t_12 x_10 p_8 q_6 lo_4 hi_4 r_2 mw18 c_17
  go_wp2
  go_ret
  exact ⟨rfl, c_18⟩
end Go.Proofs.Ytcfobgimpflneaa
