/- sentinellaw2.MontUnits: the walk. -/
import Derived.Test.YtcfobgimpflneaaGaKnown
import Derived.Test.YtcfobgimpflneaaGaKn
namespace Go.Proofs.Ytcfobgimpflneaa
set_option linter.unusedVariables false
set_option linter.unusedSimpArgs false
open Go.ChangeShapes Go.WideShapes Go.ChangeAt Go.RowKit
attribute [local go_sem] eqn_same
theorem units_pack {M B : Nat} (ho : M % 2 = 1) (h1 : 1 < M) (hM : M < 4294967296 ^ 8) (hB : B < 4294967296 ^ 8) : ∃ (C : Array Value) (R T X Y : Nat), MR M C ∧
    (∀ (j : Nat) (v : Value), (numA R)[j]? = some v → C[8 + j]? = some v) ∧
    (∀ (j : Nat) (v : Value), (numA T)[j]? = some v → C[16 + j]? = some v) ∧
    RunsTo 14 #[numV M] (.tuple #[.agg C, .bool true]) ∧
    RunsTo 17 #[.agg C, numV B] (numV X) ∧
    RunsTo 19 #[.agg #[.int .u32 0, .int .u32 0, .int .u32 0, .int .u32 0, .int .u32 0, .int .u32 0, .int .u32 0, .int .u32 0], numV R, numV M] (.tuple #[numV T, .bool true]) ∧
    RunsTo 17 #[.agg C, numV 1] (numV R) ∧
    RunsTo 23 #[.agg C, numV X, numV R] (numV X) ∧
    RunsTo 21 #[.agg C, numV R] (numV 1) ∧
    RunsTo 23 #[.agg C, numV X, numV 1] (numV Y) ∧
    RunsTo 21 #[.agg C, numV X] (numV Y) ∧
    RunsTo 23 #[.agg C, numV X, .agg #[.int .u32 0, .int .u32 0, .int .u32 0, .int .u32 0, .int .u32 0, .int .u32 0, .int .u32 0, .int .u32 0]] (numV 0) := by
  obtain ⟨C, hC, k1, -⟩ := mr_of ho h1 hM
  have hX : B * 4294967296 ^ 8 % M < M := Nat.mod_lt _ (by omega)
  have hR : 4294967296 ^ 8 % M < M := Nat.mod_lt _ (by omega)
  have e1 : (1 * 4294967296 ^ 8 % M) = 4294967296 ^ 8 % M := by rw [Nat.one_mul]
  refine ⟨C, 4294967296 ^ 8 % M, 4294967296 ^ 8 * 4294967296 ^ 8 % M, B * 4294967296 ^ 8 % M, mm M (B * 4294967296 ^ 8 % M), hC, hC.pr, hC.pt, k1, hC.in_ hB, fun w => ?_, fun w => ?_, fun w => ?_, fun w => ?_, fun w => ?_, hC.out (by omega), fun w => ?_⟩
  · have := rrest_any 0 (4294967296 ^ 8 % M) M (by decide) (by omega) hM w
    rw [if_neg (by omega), Nat.zero_add, decide_eq_true (show M ≠ 0 by omega), Nat.mod_mul_mod] at this
    rw [zeroA]; exact this
  · have := hC.in_ (a := 1) (by decide) w
    rw [e1] at this; exact this
  · have := hC.mul (a := B * 4294967296 ^ 8 % M) (b := 4294967296 ^ 8 % M) (by omega) hR w
    rw [← e1, mm_mul ho, Nat.mul_one] at this
    rw [← e1]; exact this
  · have := hC.out (a := 4294967296 ^ 8 % M) (by omega) w
    rw [← e1, mm_out ho, Nat.mod_eq_of_lt h1] at this
    rw [← e1]; exact this
  · have := hC.mul (a := B * 4294967296 ^ 8 % M) (b := 1) (by omega) h1 w
    rw [Nat.mul_one] at this; exact this
  · have := hC.mul (a := B * 4294967296 ^ 8 % M) (b := 0) (by omega) (by omega) w
    rw [Nat.mul_zero, show mm M 0 = 0 from (mm_unique ho (by omega) (by simp)).symm] at this
    rw [zeroA]; exact this
set_option maxRecDepth 100000 in
set_option maxHeartbeats 16000000 in
theorem MontUnits_walk (a0 : Int) (hk0 : -9223372036854775808 ≤ a0) (hl0 : a0 < 9223372036854775808)
    (A1 : Option Addr) (n1 cap1 : Nat) (x1 : Nat → Int)
    (a2 : Int) (hk2 : -9223372036854775808 ≤ a2) (hl2 : a2 < 9223372036854775808)
    (A3 : Option Addr) (n3 cap3 : Nat) (x3 : Nat → Int) (w : World) (hr1 : RdI w A1 n1 x1) (hr3 : RdI w A3 n3 x3) :
    Calls Try.prog 9 #[.int .i64 a0, .slice A1 n1 cap1, .int .i64 a2, .slice A3 n3 cap3] w fun e w' => e = .returned (.bool true) ∧ Below w.heap.size w w' := by
  have ng := noGuard
  obtain ⟨M, eM⟩ : ∃ M, Hid (oddN (mkN a0 n1 x1) = M) := ⟨_, hid rfl⟩
  have mkM := fun (w : World) (hx : RdI w A1 n1 x1) => odd_any a0 hk0 hl0 A1 n1 cap1 x1 w hx
  rw [eM.out] at mkM
  obtain ⟨oM, gM, bM⟩ : M % 2 = 1 ∧ 1 < M ∧ M < 4294967296 ^ 8 := by rw [← eM.out]; exact oddN_spec (mkN_lt _ _ _)
  clear eM
  obtain ⟨B, eB⟩ : ∃ B, Hid (mkN a2 n3 x3 = B) := ⟨_, hid rfl⟩
  have mkB := fun (w : World) (hx : RdI w A3 n3 x3) => make_det a2 hk2 hl2 A3 n3 cap3 x3 w hx
  rw [eB.out] at mkB
  have bB : B < 4294967296 ^ 8 := by rw [← eB.out]; exact mkN_lt _ _ _
  clear eB
  obtain ⟨C, R, T, X, Y, hC, P1, P2, k0, k1, k2, k3, k4, k5, k6, k7, k8⟩ := units_pack oM gM bM bB
  clear oM gM bM bB
  go_enter Try.func9, Try.ntmps9
  go_wp2_with (fail)
  refine (mknown_any _).mono ?_
  rintro e w1 ⟨rfl, bw1⟩
  have r1_1 := hr1.step bw1
  have r3_1 := hr3.step bw1
  have c_1 := bw1
  clear hr1 hr3 bw1
  go_wp2_with (fail)
  refine (mkM _ r1_1).mono ?_
  rintro e w2 ⟨rfl, bw2⟩
  have r1_2 := r1_1.step bw2
  have r3_2 := r3_1.step bw2
  have c_2 := step_trans c_1 bw2
  clear r1_1 r3_1 c_1 bw2
  go_wp2_with (first | (refine wpList_store_num rfl _ (.tmp 9) _ rfl _ rfl _ rfl _ rfl (heap_alloc_new _ _) size26 ?_; intro w3 gw3 mw3; have b_1 := step_new gw3; have r3_3 := r3_2.step b_1; have c_3 := step_trans c_2 b_1; clear r3_2 c_2 b_1 gw3) | (refine wpList_load_num rfl _ (.tmp 9) rfl _ rfl _ _ _ mw3 Try.underlying26 rfl size26 ?_))
  refine (k0 _).mono ?_
  rintro e w4 ⟨rfl, bw4⟩
  have r3_4 := r3_3.step bw4
  have m_1 := mw3.step bw4
  have c_4 := step_trans c_3 bw4
  clear r3_3 mw3 c_3 bw4
  go_upto_region 5 with (first | (refine wpList_store_blk rfl _ (.tmp 10) _ rfl _ rfl (C) rfl hC.cells _ (heap_alloc_new _ _) (by rw [hC.size]; rfl) hC.info ?_; intro w5 gw5 mw5))
  try simp only [Act.put, List.setIfInBounds_toArray, List.set_cons_zero, List.set_cons_succ]
  have nm_t := hid (show _ ≠ w4.heap.size from Nat.ne_of_lt m_1.lt)
  have lot := hid (show _ ≤ w4.heap.size from c_4.size)
  have b_2 := step_new gw5
  have r3_5 := r3_4.step b_2
  have m_2 := m_1.step b_2
  have c_5 := step_trans c_4 b_2
  clear r3_4 m_1 c_4 b_2
  clear gw5
  try simp only [Act.put, List.setIfInBounds_toArray, List.set_cons_zero, List.set_cons_succ]
  go_upto_region 7 with (first | (refine wpList_load_blk rfl _ (.tmp 10) rfl _ rfl _ _ _ mw5 Try.underlying29 rfl hC.info ?_))
  refine wp_region_news 6 26 (.cells #[Value.int .u32 0, .int .u32 0, .int .u32 0, .int .u32 0, .int .u32 0, .int .u32 0, .int .u32 0, .int .u32 0] 26) (fun _ _ _ _ _ h => h) (by kernel_rfl) (by kernel_rfl) (by kernel_rfl) (by kernel_rfl) (by kernel_rfl) (by kernel_rfl) (by kernel_rfl) (by kernel_rfl) num_new ?_
  intro V_1
  simp only [calmN, isNew, hush, hushT, List.drop_succ_cons, List.drop_zero]
  have r3_6 := r3_5.step V_1.h
  have m_3 := m_2.step V_1.h
  have t_1 := mw5.step V_1.h
  have c_6 := step_trans c_5 V_1.h
  have RR := r3_6
  (refine wpQuiet_load_blk rfl _ (.tmp 10) rfl _ rfl _ _ _ t_1 Try.underlying29 rfl hC.info ?_; simp only [Act.put, List.setIfInBounds_toArray, List.set_cons_zero, List.set_cons_succ])
  go_big_quiet_step (fail)
  go_big_quiet_step (fail)
  go_big_quiet_step (exact later_of (mkB _ (RR.step (Later.h _))))
  go_big_quiet_step (exact later_of (k1 _))
  go_big_quiet_step (fail)
  go_big_quiet_step (fail)
  refine wpQuiet_nil ?_
  intro X_1 p_1 hp_1
  obtain ⟨hp_11, hp_12⟩ := hp_1
  have r3_7 := r3_6.step X_1.h
  have m_4 := m_3.step X_1.h
  have t_2 := t_1.step X_1.h
  have c_7 := step_trans c_6 X_1.h
  obtain ⟨lp_15, ep_15⟩ := hp_11 5 _ rfl rfl
  simp only [layN, isNew, Act.put, List.setIfInBounds_toArray, List.set_cons_zero, List.set_cons_succ, Nat.zero_add, Nat.reduceAdd]
  clear hp_11 hp_12
  generalize p_1 5 = bp_15 at *
  try clear RR
  go_wp2_with (first | (refine wpList_store_num rfl _ (.tmp 12) _ rfl _ rfl _ rfl _ rfl ep_15 size26 ?_; intro w6 gw6 mw6; have m_5 := m_4.grown gw6 (ne_new m_2.lt lp_15); have t_3 := t_2.grown gw6 (ne_new mw5.lt lp_15); have c_8 := below_of_grown c_7 gw6 c_7.size (Nat.le_trans c_5.size lp_15); clear m_4 t_2 ep_15 c_7 gw6 r3_5 m_2 mw5 c_5 r3_6 m_3 t_1 c_6 lp_15) | (refine wpList_load_num rfl _ (.tmp 9) rfl _ rfl _ _ _ m_5 Try.underlying26 rfl size26 ?_) | (refine wpList_load_part rfl _ (.tmp 34) rfl _ _ rfl _ _ (numA R) _ t_3 P1 Try.underlying26 rfl size26 ?_))
  refine (k2 _).mono ?_
  rintro e w7 ⟨rfl, bw7⟩
  have m_6 := m_5.step bw7
  have t_4 := t_3.step bw7
  have x_1 := mw6.step bw7
  have c_9 := step_trans c_8 bw7
  clear m_5 t_3 mw6 c_8 bw7
  go_upto_region 9 with (first | (refine wpList_store_num rfl _ (.tmp 13) _ rfl _ rfl _ rfl _ rfl (heap_alloc_new _ _) size26 ?_; intro w8 gw8 mw8; have b_3 := step_new gw8; have m_7 := m_6.step b_3; have t_5 := t_4.step b_3; have x_2 := x_1.step b_3; have c_10 := step_trans c_9 b_3; clear m_6 t_4 x_1 c_9 b_3 gw8) | (refine wpList_load_blk rfl _ (.tmp 10) rfl _ rfl _ _ _ t_5 Try.underlying29 rfl hC.info ?_))
  try simp only [Act.put, List.setIfInBounds_toArray, List.set_cons_zero, List.set_cons_succ]
  have e0 := fun w => eqn_zero w
  refine wp_region_later (by kernel_rfl) (by kernel_rfl) ?_
  (refine wpQuiet_load_blk rfl _ (.tmp 10) rfl _ rfl _ _ _ t_5 Try.underlying29 rfl hC.info ?_; simp only [Act.put, List.setIfInBounds_toArray, List.set_cons_zero, List.set_cons_succ])
  go_big_quiet_step (exact later_of (rfrom_one _))
  go_big_quiet_step (exact later_of (k3 _))
  go_big_quiet_step (fail)
  (refine wpQuiet_load_part rfl _ (.tmp 43) rfl _ _ rfl _ _ (numA R) _ t_5 P1 Try.underlying26 rfl size26 ?_; simp only [Act.put, List.setIfInBounds_toArray, List.set_cons_zero, List.set_cons_succ])
  go_big_quiet_step (fail)
  go_big_quiet_step (fail)
  first | (refine wpQuiet_load_blk rfl _ (.tmp 10) rfl _ rfl _ _ _ t_5 Try.underlying29 rfl hC.info ?_; simp only [Act.put, List.setIfInBounds_toArray, List.set_cons_zero, List.set_cons_succ]) | go_big_quiet_step (fail)
  first | (refine wpQuiet_load_num rfl _ (.tmp 12) rfl _ rfl _ _ _ x_2 Try.underlying26 rfl size26 ?_; simp only [Act.put, List.setIfInBounds_toArray, List.set_cons_zero, List.set_cons_succ]) | go_big_quiet_step (fail)
  go_big_quiet_step (fail)
  first | (refine wpQuiet_load_part rfl _ (.tmp 49) rfl _ _ rfl _ _ (numA R) _ t_5 P1 Try.underlying26 rfl size26 ?_; simp only [Act.put, List.setIfInBounds_toArray, List.set_cons_zero, List.set_cons_succ]) | go_big_quiet_step (fail)
  go_big_quiet_step (exact later_of (k4 _))
  first | (refine wpQuiet_load_num rfl _ (.tmp 12) rfl _ rfl _ _ _ x_2 Try.underlying26 rfl size26 ?_; simp only [Act.put, List.setIfInBounds_toArray, List.set_cons_zero, List.set_cons_succ]) | go_big_quiet_step (fail)
  go_big_quiet_step (fail)
  go_big_quiet_step (fail)
  go_big_quiet_step (fail)
  first | (refine wpQuiet_load_blk rfl _ (.tmp 10) rfl _ rfl _ _ _ t_5 Try.underlying29 rfl hC.info ?_; simp only [Act.put, List.setIfInBounds_toArray, List.set_cons_zero, List.set_cons_succ]) | go_big_quiet_step (fail)
  go_big_quiet_step (fail)
  first | (refine wpQuiet_load_part rfl _ (.tmp 57) rfl _ _ rfl _ _ (numA R) _ t_5 P1 Try.underlying26 rfl size26 ?_; simp only [Act.put, List.setIfInBounds_toArray, List.set_cons_zero, List.set_cons_succ]) | go_big_quiet_step (fail)
  go_big_quiet_step (exact later_of (k5 _))
  go_big_quiet_step (exact later_of (rfrom_one _))
  go_big_quiet_step (fail)
  go_big_quiet_step (fail)
  go_big_quiet_step (fail)
  first | (refine wpQuiet_load_blk rfl _ (.tmp 10) rfl _ rfl _ _ _ t_5 Try.underlying29 rfl hC.info ?_; simp only [Act.put, List.setIfInBounds_toArray, List.set_cons_zero, List.set_cons_succ]) | go_big_quiet_step (fail)
  first | (refine wpQuiet_load_num rfl _ (.tmp 12) rfl _ rfl _ _ _ x_2 Try.underlying26 rfl size26 ?_; simp only [Act.put, List.setIfInBounds_toArray, List.set_cons_zero, List.set_cons_succ]) | go_big_quiet_step (fail)
  go_big_quiet_step (exact later_of (rfrom_one _))
  go_big_quiet_step (exact later_of (k6 _))
  first | (refine wpQuiet_load_blk rfl _ (.tmp 10) rfl _ rfl _ _ _ t_5 Try.underlying29 rfl hC.info ?_; simp only [Act.put, List.setIfInBounds_toArray, List.set_cons_zero, List.set_cons_succ]) | go_big_quiet_step (fail)
  first | (refine wpQuiet_load_num rfl _ (.tmp 12) rfl _ rfl _ _ _ x_2 Try.underlying26 rfl size26 ?_; simp only [Act.put, List.setIfInBounds_toArray, List.set_cons_zero, List.set_cons_succ]) | go_big_quiet_step (fail)
  go_big_quiet_step (exact later_of (k7 _))
  go_big_quiet_step (fail)
  go_big_quiet_step (fail)
  go_big_quiet_step (fail)
  first | (refine wpQuiet_load_blk rfl _ (.tmp 10) rfl _ rfl _ _ _ t_5 Try.underlying29 rfl hC.info ?_; simp only [Act.put, List.setIfInBounds_toArray, List.set_cons_zero, List.set_cons_succ]) | go_big_quiet_step (fail)
  first | (refine wpQuiet_load_num rfl _ (.tmp 12) rfl _ rfl _ _ _ x_2 Try.underlying26 rfl size26 ?_; simp only [Act.put, List.setIfInBounds_toArray, List.set_cons_zero, List.set_cons_succ]) | go_big_quiet_step (fail)
  go_big_quiet_step (fail)
  go_big_quiet_step (exact later_of (k8 _))
  go_big_quiet_step (fail)
  go_big_quiet_step (fail)
  go_big_quiet_step (fail)
  go_big_quiet_step (fail)
  first | (refine wpQuiet_load_num rfl _ (.tmp 13) rfl _ rfl _ _ _ mw8 Try.underlying26 rfl size26 ?_; simp only [Act.put, List.setIfInBounds_toArray, List.set_cons_zero, List.set_cons_succ]) | go_big_quiet_step (fail)
  go_big_quiet_step (fail)
  first | (refine wpQuiet_load_part rfl _ (.tmp 83) rfl _ _ rfl _ _ (numA T) _ t_5 P2 Try.underlying26 rfl size26 ?_; simp only [Act.put, List.setIfInBounds_toArray, List.set_cons_zero, List.set_cons_succ]) | go_big_quiet_step (fail)
  go_big_quiet_step (fail)
  go_big_quiet_step (fail)
  go_big_quiet_step (fail)
  refine wpQuiet_nil ?_
  intro X_2
  have m_8 := m_7.step X_2.h
  have t_6 := t_5.step X_2.h
  have x_3 := x_2.step X_2.h
  have two_1 := mw8.step X_2.h
  have c_11 := step_trans c_10 X_2.h
  clear m_7 t_5 x_2 mw8 c_10
  go_wp2
  go_ret
  exact ⟨rfl, c_11⟩
end Go.Proofs.Ytcfobgimpflneaa
