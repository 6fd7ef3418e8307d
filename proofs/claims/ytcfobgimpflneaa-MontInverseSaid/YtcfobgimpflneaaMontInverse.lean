/- sentinellaw2.MontInverse: the walk. -/
import Derived.Test.YtcfobgimpflneaaGaKnown
import Derived.Test.YtcfobgimpflneaaGaKn
import Derived.Test.YtcfobgimpflneaaMtRd
import Derived.Test.YtcfobgimpflneaaMtISpec
namespace Go.Proofs.Ytcfobgimpflneaa
set_option linter.unusedVariables false
set_option linter.unusedSimpArgs false
open Go.ChangeShapes Go.WideShapes Go.ChangeAt Go.RowKit
attribute [local go_sem] eqn_same
theorem inverse_pack {X M : Nat} (hX : X < 4294967296 ^ 8) (hM : M < 4294967296 ^ 8) : ∃ (Y : Nat) (b : Bool), RunsTo 29 #[numV X, numV M] (.tuple #[numV Y, .bool b]) ∧
    RunsTo 30 #[numV X, numV M] (.tuple #[numV Y, .bool b]) ∧
    ((b = false ∧ Y = 0) ∨ (b = true ∧ ∃ L H : Nat, RunsTo 18 #[numV X, numV Y] (.tuple #[numV L, numV H]) ∧ RunsTo 19 #[numV L, numV H, numV M] (.tuple #[numV 1, .bool true]) ∧ RunsTo 31 #[numV Y, numV M] (.int .i64 (-1)))) := by
  refine ⟨invN X M, invB X M, inverse_any X M hX hM, rinverse_any X M hX hM, ?_⟩
  cases h : invB X M with
  | false => exact .inl ⟨rfl, inv_no h⟩
  | true =>
    obtain ⟨h1, h2⟩ := inv_spec h
    have hY := inv_lt (a := X) hM
    refine .inr ⟨rfl, _, _, rmul_any X _ hX hY, ?_, fun w => ?_⟩
    · have := fun w => rest_prod hX hY (M := M) (by omega) hM w
      rw [h1] at this; exact this
    · have := rcmp_any _ M hY hM w
      rw [show cmpI (invN X M) M = -1 by unfold cmpI; rw [if_pos h2]] at this; exact this
theorem small_pack (A : Nat) : ∃ D U : Nat, ∃ d : Int, digI A 0 = d ∧ 0 ≤ d ∧ d < 4294967296 ∧ U < 4294967296 ^ 8 ∧ RunsTo 27 #[.int .i64 (d % 5000)] (numV U) := by
  have h0 := digI_ge A 0
  have h1 := digI_lt A 0
  exact ⟨0, (digI A 0 % 5000).toNat, digI A 0, rfl, h0, h1, Nat.lt_trans (m := 5000) (by omega) (by decide), from_ref _ (by omega) (by omega)⟩
set_option maxRecDepth 100000 in
set_option maxHeartbeats 16000000 in
theorem MontInverse_walk (a0 : Int) (hk0 : -9223372036854775808 ≤ a0) (hl0 : a0 < 9223372036854775808)
    (A1 : Option Addr) (n1 cap1 : Nat) (x1 : Nat → Int)
    (a2 : Int) (hk2 : -9223372036854775808 ≤ a2) (hl2 : a2 < 9223372036854775808)
    (A3 : Option Addr) (n3 cap3 : Nat) (x3 : Nat → Int)
    (a4 : Bool) (w : World) (hr1 : RdI w A1 n1 x1) (hr3 : RdI w A3 n3 x3) :
    Calls Try.prog 6 #[.int .i64 a0, .slice A1 n1 cap1, .int .i64 a2, .slice A3 n3 cap3, .bool a4] w fun e w' => e = .returned (.bool true) ∧ Below w.heap.size w w' := by
  have ng := noGuard
  obtain ⟨A, eA⟩ : ∃ A, Hid (mkN a0 n1 x1 = A) := ⟨_, hid rfl⟩
  have mkA := fun (w : World) (hx : RdI w A1 n1 x1) => make_det a0 hk0 hl0 A1 n1 cap1 x1 w hx
  rw [eA.out] at mkA
  have bA : A < 4294967296 ^ 8 := by rw [← eA.out]; exact mkN_lt _ _ _
  clear eA
  obtain ⟨B, eB⟩ : ∃ B, Hid (mkN a2 n3 x3 = B) := ⟨_, hid rfl⟩
  have mkB := fun (w : World) (hx : RdI w A3 n3 x3) => make_det a2 hk2 hl2 A3 n3 cap3 x3 w hx
  rw [eB.out] at mkB
  have bB : B < 4294967296 ^ 8 := by rw [← eB.out]; exact mkN_lt _ _ _
  clear eB
  go_enter Try.func6, Try.ntmps6
  go_wp2_with (fail)
  refine (mknown_any _).mono ?_
  rintro e w1 ⟨rfl, bw1⟩
  have r1_1 := hr1.step bw1
  have r3_1 := hr3.step bw1
  have c_1 := bw1
  clear hr1 hr3 bw1
  go_wp2_with (fail)
  refine (mkA _ r1_1).mono ?_
  rintro e w2 ⟨rfl, bw2⟩
  have r1_2 := r1_1.step bw2
  have r3_2 := r3_1.step bw2
  have c_2 := step_trans c_1 bw2
  clear r1_1 r3_1 c_1 bw2
  go_wp2_with (fail)
  refine (mkB _ r3_2).mono ?_
  rintro e w3 ⟨rfl, bw3⟩
  have r3_3 := r3_2.step bw3
  have c_3 := step_trans c_2 bw3
  clear r3_2 c_2 bw3
  go_upto_region 4 with (first | (refine wpList_store_num rfl _ (.tmp 11) _ rfl _ rfl _ rfl _ rfl (news2 w3 _).1 size26 ?_; intro w4 gw4 mw4) | (refine wpList_store_num rfl _ (.tmp 12) _ rfl _ rfl _ rfl _ rfl ((gw4.block _ (by simp) (by simp)).trans (news2 w3 _).2) size26 ?_; intro w5 gw5 mw5; have b_1 := step_new2 gw4 gw5; have qw4 := (mw4.grown gw5 (by simp <;> omega)); have lox := hid (show _ ≤ w3.heap.size from Nat.le_trans c_3.size (by omega)); have lom := hid (show _ ≤ w3.heap.size + 1 from Nat.le_trans c_3.size (by omega)); have nx_m := hid (show w3.heap.size ≠ w3.heap.size + 1 by omega); have c_4 := step_trans c_3 b_1; clear c_3 b_1 gw4 gw5 mw4))
  try simp only [Act.put, List.setIfInBounds_toArray, List.set_cons_zero, List.set_cons_succ]
  cases a4
  · obtain ⟨Y, b, k1, k2, kb⟩ := inverse_pack bA bB
    go_wp2_with (first | (refine wpList_load_num rfl _ (.tmp 11) rfl _ rfl _ _ _ qw4 Try.underlying26 rfl size26 ?_) | (refine wpList_load_num rfl _ (.tmp 12) rfl _ rfl _ _ _ mw5 Try.underlying26 rfl size26 ?_))
    refine (k1 _).mono ?_
    rintro e w6 ⟨rfl, bw6⟩
    have x_1 := qw4.step bw6
    have m_1 := mw5.step bw6
    have c_5 := step_trans c_4 bw6
    clear qw4 mw5 c_4 bw6
    go_wp2_with (first | (refine wpList_store_num rfl _ (.tmp 13) _ rfl _ rfl _ rfl _ rfl (heap_alloc_new _ _) size26 ?_; intro w7 gw7 mw7; have b_2 := step_new gw7; have nx_y := hid (show _ ≠ w6.heap.size from Nat.ne_of_lt (Nat.lt_of_lt_of_le x_1.lt (by omega))); have nm_y := hid (show _ ≠ w6.heap.size from Nat.ne_of_lt (Nat.lt_of_lt_of_le m_1.lt (by omega))); have x_2 := x_1.step b_2; have m_2 := m_1.step b_2; have c_6 := step_trans c_5 b_2; clear x_1 m_1 c_5 b_2 gw7) | (refine wpList_load_num rfl _ (.tmp 11) rfl _ rfl _ _ _ x_2 Try.underlying26 rfl size26 ?_) | (refine wpList_load_num rfl _ (.tmp 12) rfl _ rfl _ _ _ m_2 Try.underlying26 rfl size26 ?_))
    refine (k2 _).mono ?_
    rintro e w8 ⟨rfl, bw8⟩
    have x_3 := x_2.step bw8
    have m_3 := m_2.step bw8
    have y_1 := mw7.step bw8
    have c_7 := step_trans c_6 bw8
    clear x_2 m_2 mw7 c_6 bw8
    go_upto_region 8 with (first | (refine wpList_store_num rfl _ (.tmp 15) _ rfl _ rfl _ rfl _ rfl (heap_alloc_new _ _) size26 ?_; intro w9 gw9 mw9; have b_3 := step_new gw9; have nx_z := hid (show _ ≠ w8.heap.size from Nat.ne_of_lt (Nat.lt_of_lt_of_le x_3.lt (by omega))); have nm_z := hid (show _ ≠ w8.heap.size from Nat.ne_of_lt (Nat.lt_of_lt_of_le m_3.lt (by omega))); have x_4 := x_3.step b_3; have m_4 := m_3.step b_3; have y_2 := y_1.step b_3; have c_8 := step_trans c_7 b_3; clear x_3 m_3 y_1 c_7 b_3 gw9) | (refine wpList_load_num rfl _ (.tmp 11) rfl _ rfl _ _ _ x_4 Try.underlying26 rfl size26 ?_) | (refine wpList_load_num rfl _ (.tmp 13) rfl _ rfl _ _ _ y_2 Try.underlying26 rfl size26 ?_) | (refine wpList_load_num rfl _ (.tmp 15) rfl _ rfl _ _ _ mw9 Try.underlying26 rfl size26 ?_))
    try simp only [Act.put, List.setIfInBounds_toArray, List.set_cons_zero, List.set_cons_succ]
    rcases kb with ⟨rfl, rfl⟩ | ⟨rfl, L, H, k3, k4, k5⟩
    · have e0 := fun w => eqn_zero w
      refine wp_region_plain ?_
      go_big_quiet_step (fail)
      go_big_quiet_step (fail)
      go_big_quiet_step (fail)
      go_big_quiet_step (fail)
      first | (refine wpQuiet_load_num rfl _ (.tmp 13) rfl _ rfl _ _ _ y_2 Try.underlying26 rfl size26 ?_; simp only [Act.put, List.setIfInBounds_toArray, List.set_cons_zero, List.set_cons_succ]) | go_big_quiet_step (fail)
      first | (refine wpQuiet_load_num rfl _ (.tmp 15) rfl _ rfl _ _ _ mw9 Try.underlying26 rfl size26 ?_; simp only [Act.put, List.setIfInBounds_toArray, List.set_cons_zero, List.set_cons_succ]) | go_big_quiet_step (fail)
      go_big_quiet_step (fail)
      go_big_quiet_step (fail)
      refine wpQuiet_nil ?_
      intro X_1
      have x_5 := x_4.step X_1.h
      have m_5 := m_4.step X_1.h
      have y_3 := y_2.step X_1.h
      have z_1 := mw9.step X_1.h
      have c_9 := step_trans c_8 X_1.h
      clear x_4 m_4 y_2 mw9 c_8
      go_upto_region 11 with (first | (refine wpList_load_num rfl _ (.tmp 11) rfl _ rfl _ _ _ x_5 Try.underlying26 rfl size26 ?_) | (refine wpList_load_num rfl _ (.tmp 13) rfl _ rfl _ _ _ y_3 Try.underlying26 rfl size26 ?_))
      try simp only [Act.put, List.setIfInBounds_toArray, List.set_cons_zero, List.set_cons_succ]
      refine wp_region_plain ?_
      (refine wpQuiet_load_num rfl _ (.tmp 13) rfl _ rfl _ _ _ y_3 Try.underlying26 rfl size26 ?_; simp only [Act.put, List.setIfInBounds_toArray, List.set_cons_zero, List.set_cons_succ])
      go_big_quiet_step (fail)
      go_big_quiet_step (fail)
      go_big_quiet_step (fail)
      refine wpQuiet_nil ?_
      intro X_2
      have x_6 := x_5.step X_2.h
      have m_6 := m_5.step X_2.h
      have y_4 := y_3.step X_2.h
      have z_2 := z_1.step X_2.h
      have c_10 := step_trans c_9 X_2.h
      clear x_5 m_5 y_3 z_1 c_9
      go_wp2
      go_ret
      exact ⟨rfl, c_10⟩
    · refine wp_region_plain ?_
      go_big_quiet_step (fail)
      go_big_quiet_step (fail)
      go_big_quiet_step (fail)
      go_big_quiet_step (fail)
      first | (refine wpQuiet_load_num rfl _ (.tmp 13) rfl _ rfl _ _ _ y_2 Try.underlying26 rfl size26 ?_; simp only [Act.put, List.setIfInBounds_toArray, List.set_cons_zero, List.set_cons_succ]) | go_big_quiet_step (fail)
      first | (refine wpQuiet_load_num rfl _ (.tmp 15) rfl _ rfl _ _ _ mw9 Try.underlying26 rfl size26 ?_; simp only [Act.put, List.setIfInBounds_toArray, List.set_cons_zero, List.set_cons_succ]) | go_big_quiet_step (fail)
      go_big_quiet_step (fail)
      go_big_quiet_step (fail)
      refine wpQuiet_nil ?_
      intro X_1
      have x_5 := x_4.step X_1.h
      have m_5 := m_4.step X_1.h
      have y_3 := y_2.step X_1.h
      have z_1 := mw9.step X_1.h
      have c_9 := step_trans c_8 X_1.h
      clear x_4 m_4 y_2 mw9 c_8
      go_wp2_with (first | (refine wpList_load_num rfl _ (.tmp 11) rfl _ rfl _ _ _ x_5 Try.underlying26 rfl size26 ?_) | (refine wpList_load_num rfl _ (.tmp 13) rfl _ rfl _ _ _ y_3 Try.underlying26 rfl size26 ?_))
      refine (k3 _).mono ?_
      rintro e w10 ⟨rfl, bw10⟩
      have x_6 := x_5.step bw10
      have m_6 := m_5.step bw10
      have y_4 := y_3.step bw10
      have z_2 := z_1.step bw10
      have c_10 := step_trans c_9 bw10
      clear x_5 m_5 y_3 z_1 c_9 bw10
      go_wp2_with (first | (refine wpList_store_num rfl _ (.tmp 17) _ rfl _ rfl _ rfl _ rfl (news2 w10 _).1 size26 ?_; intro w11 gw11 mw11) | (refine wpList_store_num rfl _ (.tmp 18) _ rfl _ rfl _ rfl _ rfl ((gw11.block _ (by simp) (by simp)).trans (news2 w10 _).2) size26 ?_; intro w12 gw12 mw12; have b_4 := step_new2 gw11 gw12; have qw11 := (mw11.grown gw12 (by simp <;> omega)); have nx_lo := hid (show _ ≠ w10.heap.size from Nat.ne_of_lt (Nat.lt_of_lt_of_le x_6.lt (by omega))); have nm_lo := hid (show _ ≠ w10.heap.size from Nat.ne_of_lt (Nat.lt_of_lt_of_le m_6.lt (by omega))); have nx_hi := hid (show _ ≠ w10.heap.size + 1 from Nat.ne_of_lt (Nat.lt_of_lt_of_le x_6.lt (by omega))); have nm_hi := hid (show _ ≠ w10.heap.size + 1 from Nat.ne_of_lt (Nat.lt_of_lt_of_le m_6.lt (by omega))); have x_7 := x_6.step b_4; have m_7 := m_6.step b_4; have y_5 := y_4.step b_4; have z_3 := z_2.step b_4; have c_11 := step_trans c_10 b_4; clear x_6 m_6 y_4 z_2 c_10 b_4 gw11 gw12 mw11) | (refine wpList_load_num rfl _ (.tmp 12) rfl _ rfl _ _ _ m_7 Try.underlying26 rfl size26 ?_) | (refine wpList_load_num rfl _ (.tmp 17) rfl _ rfl _ _ _ qw11 Try.underlying26 rfl size26 ?_) | (refine wpList_load_num rfl _ (.tmp 18) rfl _ rfl _ _ _ mw12 Try.underlying26 rfl size26 ?_))
      refine (k4 _).mono ?_
      rintro e w13 ⟨rfl, bw13⟩
      have x_8 := x_7.step bw13
      have m_8 := m_7.step bw13
      have y_6 := y_5.step bw13
      have z_4 := z_3.step bw13
      have lo_1 := qw11.step bw13
      have hi_1 := mw12.step bw13
      have c_12 := step_trans c_11 bw13
      clear x_7 m_7 y_5 z_3 qw11 mw12 c_11 bw13
      go_upto_region 14 with (first | (refine wpList_store_num rfl _ (.tmp 19) _ rfl _ rfl _ rfl _ rfl (heap_alloc_new _ _) size26 ?_; intro w14 gw14 mw14; have b_5 := step_new gw14; have nx_r := hid (show _ ≠ w13.heap.size from Nat.ne_of_lt (Nat.lt_of_lt_of_le x_8.lt (by omega))); have nm_r := hid (show _ ≠ w13.heap.size from Nat.ne_of_lt (Nat.lt_of_lt_of_le m_8.lt (by omega))); have x_9 := x_8.step b_5; have m_9 := m_8.step b_5; have y_7 := y_6.step b_5; have z_5 := z_4.step b_5; have lo_2 := lo_1.step b_5; have hi_2 := hi_1.step b_5; have c_13 := step_trans c_12 b_5; clear x_8 m_8 y_6 z_4 lo_1 hi_1 c_12 b_5 gw14) | (refine wpList_load_num rfl _ (.tmp 19) rfl _ rfl _ _ _ mw14 Try.underlying26 rfl size26 ?_))
      try simp only [Act.put, List.setIfInBounds_toArray, List.set_cons_zero, List.set_cons_succ]
      refine wp_region_later (by kernel_rfl) (by kernel_rfl) ?_
      (refine wpQuiet_load_num rfl _ (.tmp 19) rfl _ rfl _ _ _ mw14 Try.underlying26 rfl size26 ?_; simp only [Act.put, List.setIfInBounds_toArray, List.set_cons_zero, List.set_cons_succ])
      go_big_quiet_step (exact later_of (rfrom_one _))
      go_big_quiet_step (fail)
      go_big_quiet_step (fail)
      first | (refine wpQuiet_load_num rfl _ (.tmp 13) rfl _ rfl _ _ _ y_7 Try.underlying26 rfl size26 ?_; simp only [Act.put, List.setIfInBounds_toArray, List.set_cons_zero, List.set_cons_succ]) | go_big_quiet_step (fail)
      first | (refine wpQuiet_load_num rfl _ (.tmp 12) rfl _ rfl _ _ _ m_9 Try.underlying26 rfl size26 ?_; simp only [Act.put, List.setIfInBounds_toArray, List.set_cons_zero, List.set_cons_succ]) | go_big_quiet_step (fail)
      go_big_quiet_step (exact later_of (k5 _))
      go_big_quiet_step (fail)
      go_big_quiet_step (fail)
      go_big_quiet_step (fail)
      refine wpQuiet_nil ?_
      intro X_2
      have x_10 := x_9.step X_2.h
      have m_10 := m_9.step X_2.h
      have y_8 := y_7.step X_2.h
      have z_6 := z_5.step X_2.h
      have lo_3 := lo_2.step X_2.h
      have hi_3 := hi_2.step X_2.h
      have r_1 := mw14.step X_2.h
      have c_14 := step_trans c_13 X_2.h
      clear x_9 m_9 y_7 z_5 lo_2 hi_2 mw14 c_13
      go_wp2
      go_ret
      exact ⟨rfl, c_14⟩
  · obtain ⟨-, X, u, e1, u0, u1, bX, ku⟩ := small_pack A
    obtain ⟨-, M, v, e2, v0, v1, bM, kv⟩ := small_pack B
    obtain ⟨Y, b, k1, k2, kb⟩ := inverse_pack bX bM
    have E1 := hid e1
    have E2 := hid e2
    clear e1 e2
    go_upto_region 5 with fail
    refine wp_region_news 10 26 (.cells #[Value.int .u32 0, .int .u32 0, .int .u32 0, .int .u32 0, .int .u32 0, .int .u32 0, .int .u32 0, .int .u32 0] 26) (fun _ _ _ _ _ h => h) (by kernel_rfl) (by kernel_rfl) (by kernel_rfl) (by kernel_rfl) (by kernel_rfl) (by kernel_rfl) (by kernel_rfl) (by kernel_rfl) num_new ?_
    intro V_1
    simp only [calmN, isNew, hush, hushT, List.drop_succ_cons, List.drop_zero]
    have x_1 := qw4.step V_1.h
    have m_1 := mw5.step V_1.h
    have c_5 := step_trans c_4 V_1.h
    have cx := fun Q : Later V_1.w => (show Q.w.cell? ⟨_, 0, none⟩ = some (.int .u32 u) from (by rw [← E1.out]; exact (x_1.later Q).cell (k := 0) (by omega)))
    have cm := fun Q : Later V_1.w => (show Q.w.cell? ⟨_, 0, none⟩ = some (.int .u32 v) from (by rw [← E2.out]; exact (m_1.later Q).cell (k := 0) (by omega)))
    go_big_quiet_step (fail)
    go_big_quiet_step (fail)
    go_big_quiet_step (fail)
    go_big_quiet_step (fail)
    go_big_quiet_step (exact later_of (ku _))
    go_big_quiet_step (fail)
    go_big_quiet_step (fail)
    go_big_quiet_step (fail)
    go_big_quiet_step (fail)
    go_big_quiet_step (exact later_of (kv _))
    go_big_quiet_step (fail)
    go_big_quiet_step (fail)
    refine wpQuiet_nil ?_
    intro X_1 p_1 hp_1
    obtain ⟨hp_11, hp_12⟩ := hp_1
    have x_2 := x_1.step X_1.h
    have m_2 := m_1.step X_1.h
    have c_6 := step_trans c_5 X_1.h
    simp only [layN, isNew, Act.put, List.setIfInBounds_toArray, List.set_cons_zero, List.set_cons_succ, Nat.zero_add, Nat.reduceAdd]
    clear hp_11 hp_12
    clear qw4 mw5 c_4 x_1 m_1 c_5
    clear cx cm
    go_upto_region 6 with (first | (refine wpList_store_num rfl _ (.tmp 11) _ rfl _ rfl _ rfl _ rfl x_2 size26 ?_; intro w6 gw6 mw6; have m_3 := m_2.grown gw6 (ne_some nx_m.out.symm); have c_7 := below_of_grown c_6 gw6 c_6.size lox.out; clear x_2 m_2 c_6 gw6) | (refine wpList_store_num rfl _ (.tmp 12) _ rfl _ rfl _ rfl _ rfl m_3 size26 ?_; intro w7 gw7 mw7; have x_3 := mw6.grown gw7 (ne_some nx_m.out); have c_8 := below_of_grown c_7 gw7 c_7.size lom.out; clear m_3 mw6 c_7 gw7) | (refine wpList_load_num rfl _ (.tmp 11) rfl _ rfl _ _ _ x_3 Try.underlying26 rfl size26 ?_) | (refine wpList_load_num rfl _ (.tmp 12) rfl _ rfl _ _ _ mw7 Try.underlying26 rfl size26 ?_))
    try simp only [Act.put, List.setIfInBounds_toArray, List.set_cons_zero, List.set_cons_succ]
    go_wp2_with (first | (refine wpList_load_num rfl _ (.tmp 11) rfl _ rfl _ _ _ x_3 Try.underlying26 rfl size26 ?_) | (refine wpList_load_num rfl _ (.tmp 12) rfl _ rfl _ _ _ mw7 Try.underlying26 rfl size26 ?_))
    refine (k1 _).mono ?_
    rintro e w8 ⟨rfl, bw8⟩
    have x_4 := x_3.step bw8
    have m_4 := mw7.step bw8
    have c_9 := step_trans c_8 bw8
    clear x_3 mw7 c_8 bw8
    go_wp2_with (first | (refine wpList_store_num rfl _ (.tmp 13) _ rfl _ rfl _ rfl _ rfl (heap_alloc_new _ _) size26 ?_; intro w9 gw9 mw9; have b_2 := step_new gw9; have nx_y := hid (show _ ≠ w8.heap.size from Nat.ne_of_lt (Nat.lt_of_lt_of_le x_4.lt (by omega))); have nm_y := hid (show _ ≠ w8.heap.size from Nat.ne_of_lt (Nat.lt_of_lt_of_le m_4.lt (by omega))); have x_5 := x_4.step b_2; have m_5 := m_4.step b_2; have c_10 := step_trans c_9 b_2; clear x_4 m_4 c_9 b_2 gw9) | (refine wpList_load_num rfl _ (.tmp 11) rfl _ rfl _ _ _ x_5 Try.underlying26 rfl size26 ?_) | (refine wpList_load_num rfl _ (.tmp 12) rfl _ rfl _ _ _ m_5 Try.underlying26 rfl size26 ?_))
    refine (k2 _).mono ?_
    rintro e w10 ⟨rfl, bw10⟩
    have x_6 := x_5.step bw10
    have m_6 := m_5.step bw10
    have y_1 := mw9.step bw10
    have c_11 := step_trans c_10 bw10
    clear x_5 m_5 mw9 c_10 bw10
    go_upto_region 8 with (first | (refine wpList_store_num rfl _ (.tmp 15) _ rfl _ rfl _ rfl _ rfl (heap_alloc_new _ _) size26 ?_; intro w11 gw11 mw11; have b_3 := step_new gw11; have nx_z := hid (show _ ≠ w10.heap.size from Nat.ne_of_lt (Nat.lt_of_lt_of_le x_6.lt (by omega))); have nm_z := hid (show _ ≠ w10.heap.size from Nat.ne_of_lt (Nat.lt_of_lt_of_le m_6.lt (by omega))); have x_7 := x_6.step b_3; have m_7 := m_6.step b_3; have y_2 := y_1.step b_3; have c_12 := step_trans c_11 b_3; clear x_6 m_6 y_1 c_11 b_3 gw11) | (refine wpList_load_num rfl _ (.tmp 11) rfl _ rfl _ _ _ x_7 Try.underlying26 rfl size26 ?_) | (refine wpList_load_num rfl _ (.tmp 13) rfl _ rfl _ _ _ y_2 Try.underlying26 rfl size26 ?_) | (refine wpList_load_num rfl _ (.tmp 15) rfl _ rfl _ _ _ mw11 Try.underlying26 rfl size26 ?_))
    try simp only [Act.put, List.setIfInBounds_toArray, List.set_cons_zero, List.set_cons_succ]
    rcases kb with ⟨rfl, rfl⟩ | ⟨rfl, L, H, k3, k4, k5⟩
    · have e0 := fun w => eqn_zero w
      refine wp_region_plain ?_
      go_big_quiet_step (fail)
      go_big_quiet_step (fail)
      go_big_quiet_step (fail)
      go_big_quiet_step (fail)
      first | (refine wpQuiet_load_num rfl _ (.tmp 13) rfl _ rfl _ _ _ y_2 Try.underlying26 rfl size26 ?_; simp only [Act.put, List.setIfInBounds_toArray, List.set_cons_zero, List.set_cons_succ]) | go_big_quiet_step (fail)
      first | (refine wpQuiet_load_num rfl _ (.tmp 15) rfl _ rfl _ _ _ mw11 Try.underlying26 rfl size26 ?_; simp only [Act.put, List.setIfInBounds_toArray, List.set_cons_zero, List.set_cons_succ]) | go_big_quiet_step (fail)
      go_big_quiet_step (fail)
      go_big_quiet_step (fail)
      refine wpQuiet_nil ?_
      intro X_2
      have x_8 := x_7.step X_2.h
      have m_8 := m_7.step X_2.h
      have y_3 := y_2.step X_2.h
      have z_1 := mw11.step X_2.h
      have c_13 := step_trans c_12 X_2.h
      clear x_7 m_7 y_2 mw11 c_12
      go_upto_region 11 with (first | (refine wpList_load_num rfl _ (.tmp 11) rfl _ rfl _ _ _ x_8 Try.underlying26 rfl size26 ?_) | (refine wpList_load_num rfl _ (.tmp 13) rfl _ rfl _ _ _ y_3 Try.underlying26 rfl size26 ?_))
      try simp only [Act.put, List.setIfInBounds_toArray, List.set_cons_zero, List.set_cons_succ]
      refine wp_region_plain ?_
      (refine wpQuiet_load_num rfl _ (.tmp 13) rfl _ rfl _ _ _ y_3 Try.underlying26 rfl size26 ?_; simp only [Act.put, List.setIfInBounds_toArray, List.set_cons_zero, List.set_cons_succ])
      go_big_quiet_step (fail)
      go_big_quiet_step (fail)
      go_big_quiet_step (fail)
      refine wpQuiet_nil ?_
      intro X_3
      have x_9 := x_8.step X_3.h
      have m_9 := m_8.step X_3.h
      have y_4 := y_3.step X_3.h
      have z_2 := z_1.step X_3.h
      have c_14 := step_trans c_13 X_3.h
      clear x_8 m_8 y_3 z_1 c_13
      go_wp2
      go_ret
      exact ⟨rfl, c_14⟩
    · refine wp_region_plain ?_
      go_big_quiet_step (fail)
      go_big_quiet_step (fail)
      go_big_quiet_step (fail)
      go_big_quiet_step (fail)
      first | (refine wpQuiet_load_num rfl _ (.tmp 13) rfl _ rfl _ _ _ y_2 Try.underlying26 rfl size26 ?_; simp only [Act.put, List.setIfInBounds_toArray, List.set_cons_zero, List.set_cons_succ]) | go_big_quiet_step (fail)
      first | (refine wpQuiet_load_num rfl _ (.tmp 15) rfl _ rfl _ _ _ mw11 Try.underlying26 rfl size26 ?_; simp only [Act.put, List.setIfInBounds_toArray, List.set_cons_zero, List.set_cons_succ]) | go_big_quiet_step (fail)
      go_big_quiet_step (fail)
      go_big_quiet_step (fail)
      refine wpQuiet_nil ?_
      intro X_2
      have x_8 := x_7.step X_2.h
      have m_8 := m_7.step X_2.h
      have y_3 := y_2.step X_2.h
      have z_1 := mw11.step X_2.h
      have c_13 := step_trans c_12 X_2.h
      clear x_7 m_7 y_2 mw11 c_12
      go_wp2_with (first | (refine wpList_load_num rfl _ (.tmp 11) rfl _ rfl _ _ _ x_8 Try.underlying26 rfl size26 ?_) | (refine wpList_load_num rfl _ (.tmp 13) rfl _ rfl _ _ _ y_3 Try.underlying26 rfl size26 ?_))
      refine (k3 _).mono ?_
      rintro e w12 ⟨rfl, bw12⟩
      have x_9 := x_8.step bw12
      have m_9 := m_8.step bw12
      have y_4 := y_3.step bw12
      have z_2 := z_1.step bw12
      have c_14 := step_trans c_13 bw12
      clear x_8 m_8 y_3 z_1 c_13 bw12
      go_wp2_with (first | (refine wpList_store_num rfl _ (.tmp 17) _ rfl _ rfl _ rfl _ rfl (news2 w12 _).1 size26 ?_; intro w13 gw13 mw13) | (refine wpList_store_num rfl _ (.tmp 18) _ rfl _ rfl _ rfl _ rfl ((gw13.block _ (by simp) (by simp)).trans (news2 w12 _).2) size26 ?_; intro w14 gw14 mw14; have b_4 := step_new2 gw13 gw14; have qw13 := (mw13.grown gw14 (by simp <;> omega)); have nx_lo := hid (show _ ≠ w12.heap.size from Nat.ne_of_lt (Nat.lt_of_lt_of_le x_9.lt (by omega))); have nm_lo := hid (show _ ≠ w12.heap.size from Nat.ne_of_lt (Nat.lt_of_lt_of_le m_9.lt (by omega))); have nx_hi := hid (show _ ≠ w12.heap.size + 1 from Nat.ne_of_lt (Nat.lt_of_lt_of_le x_9.lt (by omega))); have nm_hi := hid (show _ ≠ w12.heap.size + 1 from Nat.ne_of_lt (Nat.lt_of_lt_of_le m_9.lt (by omega))); have x_10 := x_9.step b_4; have m_10 := m_9.step b_4; have y_5 := y_4.step b_4; have z_3 := z_2.step b_4; have c_15 := step_trans c_14 b_4; clear x_9 m_9 y_4 z_2 c_14 b_4 gw13 gw14 mw13) | (refine wpList_load_num rfl _ (.tmp 12) rfl _ rfl _ _ _ m_10 Try.underlying26 rfl size26 ?_) | (refine wpList_load_num rfl _ (.tmp 17) rfl _ rfl _ _ _ qw13 Try.underlying26 rfl size26 ?_) | (refine wpList_load_num rfl _ (.tmp 18) rfl _ rfl _ _ _ mw14 Try.underlying26 rfl size26 ?_))
      refine (k4 _).mono ?_
      rintro e w15 ⟨rfl, bw15⟩
      have x_11 := x_10.step bw15
      have m_11 := m_10.step bw15
      have y_6 := y_5.step bw15
      have z_4 := z_3.step bw15
      have lo_1 := qw13.step bw15
      have hi_1 := mw14.step bw15
      have c_16 := step_trans c_15 bw15
      clear x_10 m_10 y_5 z_3 qw13 mw14 c_15 bw15
      go_upto_region 14 with (first | (refine wpList_store_num rfl _ (.tmp 19) _ rfl _ rfl _ rfl _ rfl (heap_alloc_new _ _) size26 ?_; intro w16 gw16 mw16; have b_5 := step_new gw16; have nx_r := hid (show _ ≠ w15.heap.size from Nat.ne_of_lt (Nat.lt_of_lt_of_le x_11.lt (by omega))); have nm_r := hid (show _ ≠ w15.heap.size from Nat.ne_of_lt (Nat.lt_of_lt_of_le m_11.lt (by omega))); have x_12 := x_11.step b_5; have m_12 := m_11.step b_5; have y_7 := y_6.step b_5; have z_5 := z_4.step b_5; have lo_2 := lo_1.step b_5; have hi_2 := hi_1.step b_5; have c_17 := step_trans c_16 b_5; clear x_11 m_11 y_6 z_4 lo_1 hi_1 c_16 b_5 gw16) | (refine wpList_load_num rfl _ (.tmp 19) rfl _ rfl _ _ _ mw16 Try.underlying26 rfl size26 ?_))
      try simp only [Act.put, List.setIfInBounds_toArray, List.set_cons_zero, List.set_cons_succ]
      refine wp_region_later (by kernel_rfl) (by kernel_rfl) ?_
      (refine wpQuiet_load_num rfl _ (.tmp 19) rfl _ rfl _ _ _ mw16 Try.underlying26 rfl size26 ?_; simp only [Act.put, List.setIfInBounds_toArray, List.set_cons_zero, List.set_cons_succ])
      go_big_quiet_step (exact later_of (rfrom_one _))
      go_big_quiet_step (fail)
      go_big_quiet_step (fail)
      first | (refine wpQuiet_load_num rfl _ (.tmp 13) rfl _ rfl _ _ _ y_7 Try.underlying26 rfl size26 ?_; simp only [Act.put, List.setIfInBounds_toArray, List.set_cons_zero, List.set_cons_succ]) | go_big_quiet_step (fail)
      first | (refine wpQuiet_load_num rfl _ (.tmp 12) rfl _ rfl _ _ _ m_12 Try.underlying26 rfl size26 ?_; simp only [Act.put, List.setIfInBounds_toArray, List.set_cons_zero, List.set_cons_succ]) | go_big_quiet_step (fail)
      go_big_quiet_step (exact later_of (k5 _))
      go_big_quiet_step (fail)
      go_big_quiet_step (fail)
      go_big_quiet_step (fail)
      refine wpQuiet_nil ?_
      intro X_3
      have x_13 := x_12.step X_3.h
      have m_13 := m_12.step X_3.h
      have y_8 := y_7.step X_3.h
      have z_6 := z_5.step X_3.h
      have lo_3 := lo_2.step X_3.h
      have hi_3 := hi_2.step X_3.h
      have r_1 := mw16.step X_3.h
      have c_18 := step_trans c_17 X_3.h
      clear x_12 m_12 y_7 z_5 lo_2 hi_2 mw16 c_17
      go_wp2
      go_ret
      exact ⟨rfl, c_18⟩
end Go.Proofs.Ytcfobgimpflneaa
