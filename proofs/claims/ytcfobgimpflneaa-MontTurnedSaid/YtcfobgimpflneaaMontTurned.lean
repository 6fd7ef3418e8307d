/- sentinellaw2.MontTurned: the walk. -/
import Derived.Test.YtcfobgimpflneaaGaKnown
import Derived.Test.YtcfobgimpflneaaGaKn
import Derived.Test.YtcfobgimpflneaaMtRd
import Derived.Test.YtcfobgimpflneaaMtISpec
namespace Go.Proofs.Ytcfobgimpflneaa
set_option linter.unusedVariables false
set_option linter.unusedSimpArgs false
open Go.ChangeShapes Go.WideShapes Go.ChangeAt Go.RowKit
attribute [local go_sem] eqn_same
theorem turned_pack {M A : Nat} (ho : M % 2 = 1) (h1 : 1 < M) (hM : M < 4294967296 ^ 8) (hA : A < 4294967296 ^ 8) : ∃ (X Y L : Nat) (v : Int) (b : Bool), RunsTo 22 #[numV A, numV M] (numV X) ∧
    RunsTo 29 #[numV X, numV M] (.tuple #[numV Y, .bool b]) ∧
    RunsTo 29 #[numV 1, numV M] (.tuple #[numV 1, .bool true]) ∧
    RunsTo 33 #[numV M, numV 1] (.tuple #[numV L, .int .u32 v]) ∧
    RunsTo 29 #[numV L, numV M] (.tuple #[numV L, .bool true]) ∧
    RunsTo 29 #[.agg #[.int .u32 0, .int .u32 0, .int .u32 0, .int .u32 0, .int .u32 0, .int .u32 0, .int .u32 0, .int .u32 0], numV M] (.tuple #[numV 0, .bool false]) ∧
    RunsTo 29 #[numV 5, numV 1] (.tuple #[numV 0, .bool false]) ∧
    RunsTo 30 #[numV X, numV M] (.tuple #[numV Y, .bool b]) ∧
    ((b = true ∧ RunsTo 29 #[numV Y, numV M] (.tuple #[numV X, .bool true])) ∨ b = false) := by
  have h0 : 0 < M := by omega
  have hX : A % M < M := Nat.mod_lt _ h0
  have hXP := Nat.lt_trans hX hM
  refine ⟨A % M, invN (A % M) M, M - 1, lentI M 1, invB (A % M) M, mbelow_any A M hA h0 hM, inverse_any _ M hXP hM, fun w => ?_, fun w => ?_, fun w => ?_, fun w => ?_, fun w => ?_, rinverse_any _ M hXP hM, ?_⟩
  · have := inverse_any 1 M (by decide) hM w
    rw [(inv_one h1).1, (inv_one h1).2] at this; exact this
  · have := rsub_any M 1 hM (by decide) w
    rw [show subN M 1 = M - 1 by unfold subN; rw [if_pos (by omega)]] at this; exact this
  · have := inverse_any (M - 1) M (by omega) hM w
    rw [(inv_last h1).1, (inv_last h1).2] at this; exact this
  · have := inverse_any 0 M (by decide) hM w
    rw [inv_none h1, inv_no (inv_none h1)] at this
    rw [zeroA]; exact this
  · have := inverse_any 5 1 (by decide) (by decide) w
    rw [(inv_small (a := 5) (m := 1) (by decide)).1, (inv_small (a := 5) (m := 1) (by decide)).2] at this; exact this
  · cases h : invB (A % M) M with
    | false => exact .inr rfl
    | true =>
      refine .inl ⟨rfl, fun w => ?_⟩
      have := inverse_any (invN (A % M) M) M (inv_lt hM) hM w
      rw [(inv_back hX h).1, (inv_back hX h).2] at this; exact this
set_option maxRecDepth 100000 in
set_option maxHeartbeats 16000000 in
theorem MontTurned_walk (a0 : Int) (hk0 : -9223372036854775808 ≤ a0) (hl0 : a0 < 9223372036854775808)
    (A1 : Option Addr) (n1 cap1 : Nat) (x1 : Nat → Int)
    (a2 : Int) (hk2 : -9223372036854775808 ≤ a2) (hl2 : a2 < 9223372036854775808)
    (A3 : Option Addr) (n3 cap3 : Nat) (x3 : Nat → Int) (w : World) (hr1 : RdI w A1 n1 x1) (hr3 : RdI w A3 n3 x3) :
    Calls Try.prog 11 #[.int .i64 a0, .slice A1 n1 cap1, .int .i64 a2, .slice A3 n3 cap3] w fun e w' => e = .returned (.bool true) ∧ Below w.heap.size w w' := by
  have ng := noGuard
  obtain ⟨A, eA⟩ : ∃ A, Hid (mkN a0 n1 x1 = A) := ⟨_, hid rfl⟩
  have mkA := fun (w : World) (hx : RdI w A1 n1 x1) => make_det a0 hk0 hl0 A1 n1 cap1 x1 w hx
  rw [eA.out] at mkA
  have bA : A < 4294967296 ^ 8 := by rw [← eA.out]; exact mkN_lt _ _ _
  clear eA
  obtain ⟨M, eM⟩ : ∃ M, Hid (oddN (mkN a2 n3 x3) = M) := ⟨_, hid rfl⟩
  have mkM := fun (w : World) (hx : RdI w A3 n3 x3) => odd_any a2 hk2 hl2 A3 n3 cap3 x3 w hx
  rw [eM.out] at mkM
  obtain ⟨oM, gM, bM⟩ : M % 2 = 1 ∧ 1 < M ∧ M < 4294967296 ^ 8 := by rw [← eM.out]; exact oddN_spec (mkN_lt _ _ _)
  clear eM
  obtain ⟨X, Y, L, v, b, k0, k1, k2, k3, k4, k5, k6, k7, kb⟩ := turned_pack oM gM bM bA
  clear oM gM bM bA
  go_enter Try.func11, Try.ntmps11
  go_wp2_with (fail)
  refine (mknown_any _).mono ?_
  rintro e w1 ⟨rfl, bw1⟩
  have r1_1 := hr1.step bw1
  have r3_1 := hr3.step bw1
  have c_1 := bw1
  clear hr1 hr3 bw1
  go_wp2_with (fail)
  refine (mkM _ r3_1).mono ?_
  rintro e w2 ⟨rfl, bw2⟩
  have r1_2 := r1_1.step bw2
  have r3_2 := r3_1.step bw2
  have c_2 := step_trans c_1 bw2
  clear r1_1 r3_1 c_1 bw2
  go_upto_region 4 with (first | (refine wpList_store_num rfl _ (.tmp 9) _ rfl _ rfl _ rfl _ rfl (heap_alloc_new _ _) size26 ?_; intro w3 gw3 mw3; have b_1 := step_new gw3; have r1_3 := r1_2.step b_1; have c_3 := step_trans c_2 b_1; clear r1_2 c_2 b_1 gw3))
  try simp only [Act.put, List.setIfInBounds_toArray, List.set_cons_zero, List.set_cons_succ]
  refine wp_region_news 6 26 (.cells #[Value.int .u32 0, .int .u32 0, .int .u32 0, .int .u32 0, .int .u32 0, .int .u32 0, .int .u32 0, .int .u32 0] 26) (fun _ _ _ _ _ h => h) (by kernel_rfl) (by kernel_rfl) (by kernel_rfl) (by kernel_rfl) (by kernel_rfl) (by kernel_rfl) (by kernel_rfl) (by kernel_rfl) num_new ?_
  intro V_1
  simp only [calmN, isNew, hush, hushT, List.drop_succ_cons, List.drop_zero]
  have r1_4 := r1_3.step V_1.h
  have m_1 := mw3.step V_1.h
  have c_4 := step_trans c_3 V_1.h
  have RR := r1_4
  go_big_quiet_step (fail)
  go_big_quiet_step (fail)
  go_big_quiet_step (exact later_of (mkA _ (RR.step (Later.h _))))
  (refine wpQuiet_load_num rfl _ (.tmp 9) rfl _ rfl _ _ _ m_1 Try.underlying26 rfl size26 ?_; simp only [Act.put, List.setIfInBounds_toArray, List.set_cons_zero, List.set_cons_succ])
  go_big_quiet_step (exact later_of (k0 _))
  go_big_quiet_step (fail)
  go_big_quiet_step (fail)
  refine wpQuiet_nil ?_
  intro X_1 p_1 hp_1
  obtain ⟨hp_11, hp_12⟩ := hp_1
  have r1_5 := r1_4.step X_1.h
  have m_2 := m_1.step X_1.h
  have c_5 := step_trans c_4 X_1.h
  obtain ⟨lp_15, ep_15⟩ := hp_11 5 _ rfl rfl
  simp only [layN, isNew, Act.put, List.setIfInBounds_toArray, List.set_cons_zero, List.set_cons_succ, Nat.zero_add, Nat.reduceAdd]
  clear hp_11 hp_12
  generalize p_1 5 = bp_15 at *
  try clear RR
  go_wp2_with (first | (refine wpList_store_num rfl _ (.tmp 10) _ rfl _ rfl _ rfl _ rfl ep_15 size26 ?_; intro w4 gw4 mw4; have m_3 := m_2.grown gw4 (ne_new mw3.lt lp_15); have c_6 := below_of_grown c_5 gw4 c_5.size (Nat.le_trans c_3.size lp_15); clear m_2 ep_15 c_5 gw4 r1_3 mw3 c_3 r1_4 m_1 c_4 lp_15) | (refine wpList_load_num rfl _ (.tmp 9) rfl _ rfl _ _ _ m_3 Try.underlying26 rfl size26 ?_) | (refine wpList_load_num rfl _ (.tmp 10) rfl _ rfl _ _ _ mw4 Try.underlying26 rfl size26 ?_))
  refine (k1 _).mono ?_
  rintro e w5 ⟨rfl, bw5⟩
  have m_4 := m_3.step bw5
  have x_1 := mw4.step bw5
  have c_7 := step_trans c_6 bw5
  clear m_3 mw4 c_6 bw5
  go_upto_region 6 with (first | (refine wpList_store_num rfl _ (.tmp 11) _ rfl _ rfl _ rfl _ rfl (heap_alloc_new _ _) size26 ?_; intro w6 gw6 mw6; have b_2 := step_new gw6; have m_5 := m_4.step b_2; have x_2 := x_1.step b_2; have c_8 := step_trans c_7 b_2; clear m_4 x_1 c_7 b_2 gw6))
  try simp only [Act.put, List.setIfInBounds_toArray, List.set_cons_zero, List.set_cons_succ]
  refine wp_region_news 7 26 (.cells #[Value.int .u32 0, .int .u32 0, .int .u32 0, .int .u32 0, .int .u32 0, .int .u32 0, .int .u32 0, .int .u32 0] 26) (fun _ _ _ _ _ h => h) (by kernel_rfl) (by kernel_rfl) (by kernel_rfl) (by kernel_rfl) (by kernel_rfl) (by kernel_rfl) (by kernel_rfl) (by kernel_rfl) num_new ?_
  intro V_2
  simp only [calmN, isNew, hush, hushT, List.drop_succ_cons, List.drop_zero]
  have m_6 := m_5.step V_2.h
  have x_3 := x_2.step V_2.h
  have y_1 := mw6.step V_2.h
  have c_9 := step_trans c_8 V_2.h
  go_big_quiet_step (exact later_of (rfrom_one _))
  (refine wpQuiet_load_num rfl _ (.tmp 9) rfl _ rfl _ _ _ m_6 Try.underlying26 rfl size26 ?_; simp only [Act.put, List.setIfInBounds_toArray, List.set_cons_zero, List.set_cons_succ])
  go_big_quiet_step (exact later_of (k2 _))
  go_big_quiet_step (fail)
  go_big_quiet_step (fail)
  go_big_quiet_step (fail)
  go_big_quiet_step (fail)
  go_big_quiet_step (fail)
  go_big_quiet_step (fail)
  refine wpQuiet_nil ?_
  intro X_2 p_2 hp_2
  obtain ⟨hp_21, hp_22⟩ := hp_2
  have m_7 := m_6.step X_2.h
  have x_4 := x_3.step X_2.h
  have y_2 := y_1.step X_2.h
  have c_10 := step_trans c_9 X_2.h
  obtain ⟨lp_26, ep_26⟩ := hp_21 6 _ rfl rfl
  simp only [layN, isNew, Act.put, List.setIfInBounds_toArray, List.set_cons_zero, List.set_cons_succ, Nat.zero_add, Nat.reduceAdd]
  clear hp_21 hp_22
  generalize p_2 6 = bp_26 at *
  go_upto_region 7 with (first | (refine wpList_store_num rfl _ (.tmp 13) _ rfl _ rfl _ rfl _ rfl ep_26 size26 ?_; intro w7 gw7 mw7; have m_8 := m_7.grown gw7 (ne_new m_5.lt lp_26); have x_5 := x_4.grown gw7 (ne_new x_2.lt lp_26); have y_3 := y_2.grown gw7 (ne_new mw6.lt lp_26); have c_11 := below_of_grown c_10 gw7 c_10.size (Nat.le_trans c_8.size lp_26); clear m_7 x_4 y_2 ep_26 c_10 gw7 m_5 x_2 mw6 c_8 m_6 x_3 y_1 c_9 lp_26) | (refine wpList_load_num rfl _ (.tmp 9) rfl _ rfl _ _ _ m_8 Try.underlying26 rfl size26 ?_))
  try simp only [Act.put, List.setIfInBounds_toArray, List.set_cons_zero, List.set_cons_succ]
  refine wp_region_news 7 26 (.cells #[Value.int .u32 0, .int .u32 0, .int .u32 0, .int .u32 0, .int .u32 0, .int .u32 0, .int .u32 0, .int .u32 0] 26) (fun _ _ _ _ _ h => h) (by kernel_rfl) (by kernel_rfl) (by kernel_rfl) (by kernel_rfl) (by kernel_rfl) (by kernel_rfl) (by kernel_rfl) (by kernel_rfl) num_new ?_
  intro V_3
  simp only [calmN, isNew, hush, hushT, List.drop_succ_cons, List.drop_zero]
  have m_9 := m_8.step V_3.h
  have x_6 := x_5.step V_3.h
  have y_4 := y_3.step V_3.h
  have one_1 := mw7.step V_3.h
  have c_12 := step_trans c_11 V_3.h
  (refine wpQuiet_load_num rfl _ (.tmp 9) rfl _ rfl _ _ _ m_9 Try.underlying26 rfl size26 ?_; simp only [Act.put, List.setIfInBounds_toArray, List.set_cons_zero, List.set_cons_succ])
  go_big_quiet_step (exact later_of (rfrom_one _))
  go_big_quiet_step (exact later_of (k3 _))
  go_big_quiet_step (fail)
  go_big_quiet_step (fail)
  go_big_quiet_step (fail)
  go_big_quiet_step (fail)
  go_big_quiet_step (fail)
  go_big_quiet_step (fail)
  refine wpQuiet_nil ?_
  intro X_3 p_3 hp_3
  obtain ⟨hp_31, hp_32⟩ := hp_3
  have m_10 := m_9.step X_3.h
  have x_7 := x_6.step X_3.h
  have y_5 := y_4.step X_3.h
  have one_2 := one_1.step X_3.h
  have c_13 := step_trans c_12 X_3.h
  obtain ⟨lp_36, ep_36⟩ := hp_31 6 _ rfl rfl
  simp only [layN, isNew, Act.put, List.setIfInBounds_toArray, List.set_cons_zero, List.set_cons_succ, Nat.zero_add, Nat.reduceAdd]
  clear hp_31 hp_32
  generalize p_3 6 = bp_36 at *
  go_wp2_with (first | (refine wpList_store_num rfl _ (.tmp 15) _ rfl _ rfl _ rfl _ rfl ep_36 size26 ?_; intro w8 gw8 mw8; have m_11 := m_10.grown gw8 (ne_new m_8.lt lp_36); have x_8 := x_7.grown gw8 (ne_new x_5.lt lp_36); have y_6 := y_5.grown gw8 (ne_new y_3.lt lp_36); have one_3 := one_2.grown gw8 (ne_new mw7.lt lp_36); have c_14 := below_of_grown c_13 gw8 c_13.size (Nat.le_trans c_11.size lp_36); clear m_10 x_7 y_5 one_2 ep_36 c_13 gw8 m_8 x_5 y_3 mw7 c_11 m_9 x_6 y_4 one_1 c_12 lp_36) | (refine wpList_load_num rfl _ (.tmp 9) rfl _ rfl _ _ _ m_11 Try.underlying26 rfl size26 ?_) | (refine wpList_load_num rfl _ (.tmp 15) rfl _ rfl _ _ _ mw8 Try.underlying26 rfl size26 ?_))
  refine (k4 _).mono ?_
  rintro e w9 ⟨rfl, bw9⟩
  have m_12 := m_11.step bw9
  have x_9 := x_8.step bw9
  have y_7 := y_6.step bw9
  have one_4 := one_3.step bw9
  have last_1 := mw8.step bw9
  have c_15 := step_trans c_14 bw9
  clear m_11 x_8 y_6 one_3 mw8 c_14 bw9
  go_wp2_with (first | (refine wpList_store_num rfl _ (.tmp 17) _ rfl _ rfl _ rfl _ rfl (heap_alloc_new _ _) size26 ?_; intro w10 gw10 mw10; have b_3 := step_new gw10; have m_13 := m_12.step b_3; have x_10 := x_9.step b_3; have y_8 := y_7.step b_3; have one_5 := one_4.step b_3; have last_2 := last_1.step b_3; have c_16 := step_trans c_15 b_3; clear m_12 x_9 y_7 one_4 last_1 c_15 b_3 gw10) | (refine wpList_load_num rfl _ (.tmp 9) rfl _ rfl _ _ _ m_13 Try.underlying26 rfl size26 ?_))
  refine (k5 _).mono ?_
  rintro e w11 ⟨rfl, bw11⟩
  have m_14 := m_13.step bw11
  have x_11 := x_10.step bw11
  have y_9 := y_8.step bw11
  have one_6 := one_5.step bw11
  have last_3 := last_2.step bw11
  have z_1 := mw10.step bw11
  have c_17 := step_trans c_16 bw11
  clear m_13 x_10 y_8 one_5 last_2 mw10 c_16 bw11
  go_wp2_with (first | (refine wpList_store_num rfl _ (.tmp 19) _ rfl _ rfl _ rfl _ rfl (heap_alloc_new _ _) size26 ?_; intro w12 gw12 mw12; have b_4 := step_new gw12; have m_15 := m_14.step b_4; have x_12 := x_11.step b_4; have y_10 := y_9.step b_4; have one_7 := one_6.step b_4; have last_4 := last_3.step b_4; have z_2 := z_1.step b_4; have c_18 := step_trans c_17 b_4; clear m_14 x_11 y_9 one_6 last_3 z_1 c_17 b_4 gw12))
  refine (rfrom5 _).mono ?_
  rintro e w13 ⟨rfl, bw13⟩
  have m_16 := m_15.step bw13
  have x_13 := x_12.step bw13
  have y_11 := y_10.step bw13
  have one_8 := one_7.step bw13
  have last_5 := last_4.step bw13
  have z_3 := z_2.step bw13
  have zz_1 := mw12.step bw13
  have c_19 := step_trans c_18 bw13
  clear m_15 x_12 y_10 one_7 last_4 z_2 mw12 c_18 bw13
  go_wp2_with (fail)
  refine (rfrom_one _).mono ?_
  rintro e w14 ⟨rfl, bw14⟩
  have m_17 := m_16.step bw14
  have x_14 := x_13.step bw14
  have y_12 := y_11.step bw14
  have one_9 := one_8.step bw14
  have last_6 := last_5.step bw14
  have z_4 := z_3.step bw14
  have c_20 := step_trans c_19 bw14
  clear m_16 x_13 y_11 one_8 last_5 z_3 c_19 bw14
  go_wp2_with (fail)
  refine (k6 _).mono ?_
  rintro e w15 ⟨rfl, bw15⟩
  have m_18 := m_17.step bw15
  have x_15 := x_14.step bw15
  have y_13 := y_12.step bw15
  have one_10 := one_9.step bw15
  have last_7 := last_6.step bw15
  have z_5 := z_4.step bw15
  have c_21 := step_trans c_20 bw15
  clear m_17 x_14 y_12 one_9 last_6 z_4 c_20 bw15
  go_wp2_with (first | (refine wpList_store_num rfl _ (.tmp 21) _ rfl _ rfl _ rfl _ rfl (heap_alloc_new _ _) size26 ?_; intro w16 gw16 mw16; have b_5 := step_new gw16; have m_19 := m_18.step b_5; have x_16 := x_15.step b_5; have y_14 := y_13.step b_5; have one_11 := one_10.step b_5; have last_8 := last_7.step b_5; have z_6 := z_5.step b_5; have c_22 := step_trans c_21 b_5; clear m_18 x_15 y_13 one_10 last_7 z_5 c_21 b_5 gw16) | (refine wpList_load_num rfl _ (.tmp 9) rfl _ rfl _ _ _ m_19 Try.underlying26 rfl size26 ?_) | (refine wpList_load_num rfl _ (.tmp 10) rfl _ rfl _ _ _ x_16 Try.underlying26 rfl size26 ?_))
  refine (k7 _).mono ?_
  rintro e w17 ⟨rfl, bw17⟩
  have m_20 := m_19.step bw17
  have x_17 := x_16.step bw17
  have y_15 := y_14.step bw17
  have one_12 := one_11.step bw17
  have last_9 := last_8.step bw17
  have z_7 := z_6.step bw17
  have yy_1 := mw16.step bw17
  have c_23 := step_trans c_22 bw17
  clear m_19 x_16 y_14 one_11 last_8 z_6 mw16 c_22 bw17
  go_upto_region 12 with (first | (refine wpList_store_num rfl _ (.tmp 23) _ rfl _ rfl _ rfl _ rfl (heap_alloc_new _ _) size26 ?_; intro w18 gw18 mw18; have b_6 := step_new gw18; have m_21 := m_20.step b_6; have x_18 := x_17.step b_6; have y_16 := y_15.step b_6; have one_13 := one_12.step b_6; have last_10 := last_9.step b_6; have z_8 := z_7.step b_6; have c_24 := step_trans c_23 b_6; clear m_20 x_17 y_15 one_12 last_9 z_7 c_23 b_6 gw18) | (refine wpList_load_num rfl _ (.tmp 13) rfl _ rfl _ _ _ one_13 Try.underlying26 rfl size26 ?_))
  try simp only [Act.put, List.setIfInBounds_toArray, List.set_cons_zero, List.set_cons_succ]
  have kn := fun w => eqn_same 1 w
  rcases kb with ⟨rfl, k8⟩ | rfl
  · refine wp_region_later (by kernel_rfl) (by kernel_rfl) ?_
    go_big_quiet_step (fail)
    go_big_quiet_step (fail)
    go_big_quiet_step (fail)
    go_big_quiet_step (fail)
    go_big_quiet_step (fail)
    go_big_quiet_step (fail)
    go_big_quiet_step (fail)
    go_big_quiet_step (fail)
    go_big_quiet_step (fail)
    go_big_quiet_step (fail)
    go_big_quiet_step (fail)
    go_big_quiet_step (fail)
    go_big_quiet_step (fail)
    first | (refine wpQuiet_load_num rfl _ (.tmp 13) rfl _ rfl _ _ _ one_13 Try.underlying26 rfl size26 ?_; simp only [Act.put, List.setIfInBounds_toArray, List.set_cons_zero, List.set_cons_succ]) | go_big_quiet_step (fail)
    go_big_quiet_step (exact later_of (rfrom_one _))
    go_big_quiet_step (fail)
    go_big_quiet_step (fail)
    go_big_quiet_step (fail)
    first | (refine wpQuiet_load_num rfl _ (.tmp 17) rfl _ rfl _ _ _ z_8 Try.underlying26 rfl size26 ?_; simp only [Act.put, List.setIfInBounds_toArray, List.set_cons_zero, List.set_cons_succ]) | go_big_quiet_step (fail)
    first | (refine wpQuiet_load_num rfl _ (.tmp 15) rfl _ rfl _ _ _ last_10 Try.underlying26 rfl size26 ?_; simp only [Act.put, List.setIfInBounds_toArray, List.set_cons_zero, List.set_cons_succ]) | go_big_quiet_step (fail)
    go_big_quiet_step (fail)
    go_big_quiet_step (fail)
    go_big_quiet_step (fail)
    go_big_quiet_step (fail)
    go_big_quiet_step (fail)
    go_big_quiet_step (fail)
    go_big_quiet_step (fail)
    refine wpQuiet_nil ?_
    intro X_4
    have m_22 := m_21.step X_4.h
    have x_19 := x_18.step X_4.h
    have y_17 := y_16.step X_4.h
    have one_14 := one_13.step X_4.h
    have last_11 := last_10.step X_4.h
    have z_9 := z_8.step X_4.h
    have v_1 := mw18.step X_4.h
    have c_25 := step_trans c_24 X_4.h
    clear m_21 x_18 y_16 one_13 last_10 z_8 mw18 c_24
    go_wp2_with (first | (refine wpList_load_num rfl _ (.tmp 9) rfl _ rfl _ _ _ m_22 Try.underlying26 rfl size26 ?_) | (refine wpList_load_num rfl _ (.tmp 11) rfl _ rfl _ _ _ y_17 Try.underlying26 rfl size26 ?_))
    refine (k8 _).mono ?_
    rintro e w19 ⟨rfl, bw19⟩
    have m_23 := m_22.step bw19
    have x_20 := x_19.step bw19
    have y_18 := y_17.step bw19
    have one_15 := one_14.step bw19
    have last_12 := last_11.step bw19
    have z_10 := z_9.step bw19
    have v_2 := v_1.step bw19
    have c_26 := step_trans c_25 bw19
    clear m_22 x_19 y_17 one_14 last_11 z_9 v_1 c_25 bw19
    go_upto_region 17 with (first | (refine wpList_store_num rfl _ (.tmp 25) _ rfl _ rfl _ rfl _ rfl (heap_alloc_new _ _) size26 ?_; intro w20 gw20 mw20; have b_7 := step_new gw20; have m_24 := m_23.step b_7; have x_21 := x_20.step b_7; have y_19 := y_18.step b_7; have one_16 := one_15.step b_7; have last_13 := last_12.step b_7; have z_11 := z_10.step b_7; have v_3 := v_2.step b_7; have c_27 := step_trans c_26 b_7; clear m_23 x_20 y_18 one_15 last_12 z_10 v_2 c_26 b_7 gw20) | (refine wpList_load_num rfl _ (.tmp 10) rfl _ rfl _ _ _ x_21 Try.underlying26 rfl size26 ?_) | (refine wpList_load_num rfl _ (.tmp 25) rfl _ rfl _ _ _ mw20 Try.underlying26 rfl size26 ?_))
    try simp only [Act.put, List.setIfInBounds_toArray, List.set_cons_zero, List.set_cons_succ]
    refine wp_region_plain ?_
    go_big_quiet_step (fail)
    go_big_quiet_step (fail)
    first | (refine wpQuiet_load_num rfl _ (.tmp 25) rfl _ rfl _ _ _ mw20 Try.underlying26 rfl size26 ?_; simp only [Act.put, List.setIfInBounds_toArray, List.set_cons_zero, List.set_cons_succ]) | go_big_quiet_step (fail)
    first | (refine wpQuiet_load_num rfl _ (.tmp 10) rfl _ rfl _ _ _ x_21 Try.underlying26 rfl size26 ?_; simp only [Act.put, List.setIfInBounds_toArray, List.set_cons_zero, List.set_cons_succ]) | go_big_quiet_step (fail)
    go_big_quiet_step (fail)
    go_big_quiet_step (fail)
    go_big_quiet_step (fail)
    refine wpQuiet_nil ?_
    intro X_5
    have m_25 := m_24.step X_5.h
    have x_22 := x_21.step X_5.h
    have y_20 := y_19.step X_5.h
    have one_17 := one_16.step X_5.h
    have last_14 := last_13.step X_5.h
    have z_12 := z_11.step X_5.h
    have v_4 := v_3.step X_5.h
    have ww_1 := mw20.step X_5.h
    have c_28 := step_trans c_27 X_5.h
    clear m_24 x_21 y_19 one_16 last_13 z_11 v_3 mw20 c_27
    go_wp2
    go_ret
    exact ⟨rfl, c_28⟩
  · refine wp_region_later (by kernel_rfl) (by kernel_rfl) ?_
    go_big_quiet_step (fail)
    go_big_quiet_step (fail)
    go_big_quiet_step (fail)
    go_big_quiet_step (fail)
    go_big_quiet_step (fail)
    go_big_quiet_step (fail)
    go_big_quiet_step (fail)
    go_big_quiet_step (fail)
    go_big_quiet_step (fail)
    go_big_quiet_step (fail)
    go_big_quiet_step (fail)
    go_big_quiet_step (fail)
    go_big_quiet_step (fail)
    first | (refine wpQuiet_load_num rfl _ (.tmp 13) rfl _ rfl _ _ _ one_13 Try.underlying26 rfl size26 ?_; simp only [Act.put, List.setIfInBounds_toArray, List.set_cons_zero, List.set_cons_succ]) | go_big_quiet_step (fail)
    go_big_quiet_step (exact later_of (rfrom_one _))
    go_big_quiet_step (fail)
    go_big_quiet_step (fail)
    go_big_quiet_step (fail)
    first | (refine wpQuiet_load_num rfl _ (.tmp 17) rfl _ rfl _ _ _ z_8 Try.underlying26 rfl size26 ?_; simp only [Act.put, List.setIfInBounds_toArray, List.set_cons_zero, List.set_cons_succ]) | go_big_quiet_step (fail)
    first | (refine wpQuiet_load_num rfl _ (.tmp 15) rfl _ rfl _ _ _ last_10 Try.underlying26 rfl size26 ?_; simp only [Act.put, List.setIfInBounds_toArray, List.set_cons_zero, List.set_cons_succ]) | go_big_quiet_step (fail)
    go_big_quiet_step (fail)
    go_big_quiet_step (fail)
    go_big_quiet_step (fail)
    go_big_quiet_step (fail)
    go_big_quiet_step (fail)
    go_big_quiet_step (fail)
    go_big_quiet_step (fail)
    refine wpQuiet_nil ?_
    intro X_4
    have m_22 := m_21.step X_4.h
    have x_19 := x_18.step X_4.h
    have y_17 := y_16.step X_4.h
    have one_14 := one_13.step X_4.h
    have last_11 := last_10.step X_4.h
    have z_9 := z_8.step X_4.h
    have v_1 := mw18.step X_4.h
    have c_25 := step_trans c_24 X_4.h
    clear m_21 x_18 y_16 one_13 last_10 z_8 mw18 c_24
    go_wp2
    go_ret
    exact ⟨rfl, c_25⟩
end Go.Proofs.Ytcfobgimpflneaa
