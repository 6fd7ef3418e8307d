/- sentinellaw1.LimbSmall: the walk. -/
import Derived.Test.YteihojjciklfoaaKnown
import Derived.Test.YteihojjciklfoaaRest
import Derived.Test.YteihojjciklfoaaNews
import Derived.Test.YteihojjciklfoaaEqn
namespace Go.Proofs.Yteihojjciklfoaa
set_option linter.unusedVariables false
set_option linter.unusedSimpArgs false
open Go.ChangeShapes Go.WideShapes Go.ChangeAt Go.RowKit
attribute [local go_sem] eqn_same
section
variable {x y z : Int} (hx : 0 ≤ x) (hx' : x < 2147483648) (hy : 0 ≤ y) (hy' : y < 2147483648)
theorem mul_bd (hx : 0 ≤ x) (hx' : x < 2147483648) (hy : 0 ≤ y) (hy' : y < 2147483648) : 0 ≤ x * y ∧ x * y < 4611686018427387904 := by
  refine ⟨Int.mul_nonneg hx hy, ?_⟩
  have h1 : x * y ≤ 2147483647 * y := Int.mul_le_mul_of_nonneg_right (by omega) hy
  omega
include hx hx' hy hy'
theorem sm_mul (w : World) : Calls Try.prog 21 #[numV x.toNat, numV y.toNat] w fun e w' => e = .returned (.tuple #[numV (x * y).toNat, numV 0]) ∧ Below w.heap.size w w' := by
  obtain ⟨h1, h2⟩ := mul_bd hx hx' hy hy'
  have h := mul_any x.toNat y.toNat (by omega) (by omega) w
  have e : x.toNat * y.toNat = (x * y).toNat := (Int.toNat_mul hx hy).symm
  rw [e, Nat.mod_eq_of_lt (by omega), Nat.div_eq_of_lt (by omega)] at h
  exact h
theorem sm_rest (hz : 1 ≤ z) (hz' : z ≤ 2147483648) (w : World) : Calls Try.prog 23 #[numV (x * y).toNat, numV 0, numV z.toNat] w fun e w' => e = .returned (.tuple #[numV (x * y % z).toNat, .bool true]) ∧ Below w.heap.size w w' := by
  obtain ⟨h1, h2⟩ := mul_bd hx hx' hy hy'
  have h := rest_pos (x * y).toNat 0 z.toNat (by omega) (by decide +kernel) (by omega) (by omega) w
  have e : ((x * y).toNat + 0 * 4294967296 ^ 8) % z.toNat = (x * y % z).toNat := by
    rw [Nat.zero_mul, Nat.add_zero, Int.toNat_emod h1 (by omega)]
  rw [e] at h
  exact h
theorem sm_add (w : World) : Calls Try.prog 17 #[numV x.toNat, numV y.toNat] w fun e w' => e = .returned (.tuple #[numV (x + y).toNat, .int .u32 0]) ∧ Below w.heap.size w w' := by
  have h := add_num x.toNat y.toNat (by omega) (by omega) w
  have e1 : addN x.toNat y.toNat = (x + y).toNat := by unfold addN; rw [if_pos (by omega)]; omega
  have e2 : overI x.toNat y.toNat = 0 := by unfold overI; rw [if_pos (by omega)]
  rw [e1, e2] at h
  exact h
theorem sm_sub (hle : y ≤ x) (w : World) : Calls Try.prog 19 #[numV x.toNat, numV y.toNat] w fun e w' => e = .returned (.tuple #[numV (x - y).toNat, .int .u32 0]) ∧ Below w.heap.size w w' := by
  have h := sub_any x.toNat y.toNat (by omega) (by omega) w
  have e1 : subN x.toNat y.toNat = (x - y).toNat := by unfold subN; rw [if_pos (by omega)]; omega
  have e2 : lentI x.toNat y.toNat = 0 := by unfold lentI; rw [if_pos (by omega)]
  rw [e1, e2] at h
  exact h
end
theorem sm_from (x : Int) (h0 : 0 ≤ x) (h1 : x < 9223372036854775808) (w : World) : Calls Try.prog 29 #[.int .i64 x] w fun e w' => e = .returned (numV x.toNat) ∧ Below w.heap.size w w' := from_any x (by omega) h1 w
theorem sm_neg (x : Int) (h0 : 0 ≤ x) (h1 : x < 2147483648) (w : World) : Calls Try.prog 29 #[.int .i64 (-1 - x)] w fun e w' => e = .returned (numV 0) ∧ Below w.heap.size w w' := by
  have h := from_any (-1 - x) (by omega) (by omega) w
  rw [show (-1 - x).toNat = 0 by omega] at h
  exact h
set_option maxRecDepth 100000 in
set_option maxHeartbeats 20000000 in
theorem LimbSmall_walk (a0 : Int) (hk0 : -9223372036854775808 ≤ a0) (hl0 : a0 < 9223372036854775808)
    (a1 : Int) (hk1 : -9223372036854775808 ≤ a1) (hl1 : a1 < 9223372036854775808)
    (a2 : Int) (hk2 : -9223372036854775808 ≤ a2) (hl2 : a2 < 9223372036854775808) (w : World)  :
    Calls Try.prog 7 #[.int .i64 a0, .int .i64 a1, .int .i64 a2] w fun e w' => e = .returned (.bool true) ∧ Below w.heap.size w w' := by
  have ng := noGuard
  go_enter Try.func7, Try.ntmps7
  go_wp2_with (fail)
  refine (known_any _).mono ?_
  rintro e w1 ⟨rfl, bw1⟩
  have c_1 := bw1
  clear bw1
  go_wp2_with (fail)
  refine (within_any a0 2147483648 (by omega) (by omega) hk0 hl0 _).mono ?_
  rintro e w2 ⟨rfl, rfl⟩
  go_wp2_with (fail)
  refine (within_any a1 2147483648 (by omega) (by omega) hk1 hl1 _).mono ?_
  rintro e w3 ⟨rfl, rfl⟩
  go_wp2_with (fail)
  refine (within_any a2 2147483648 (by omega) (by omega) hk2 hl2 _).mono ?_
  rintro e w4 ⟨rfl, rfl⟩
  obtain ⟨x, hx0, hx, hx'⟩ : ∃ x : Int, x = a0 % 2147483648 ∧ 0 ≤ x ∧ x < 2147483648 := ⟨_, rfl, by omega, by omega⟩
  obtain ⟨y, hy0, hy, hy'⟩ : ∃ y : Int, y = a1 % 2147483648 ∧ 0 ≤ y ∧ y < 2147483648 := ⟨_, rfl, by omega, by omega⟩
  obtain ⟨z, hz0, hz, hz'⟩ : ∃ z : Int, z = a2 % 2147483648 ∧ 0 ≤ z ∧ z < 2147483648 := ⟨_, rfl, by omega, by omega⟩
  rw [← hx0, ← hy0, ← hz0]
  clear hx0 hy0 hz0
  have e0 := fun w => eqn_zero w
  obtain ⟨hxy, hxy'⟩ := mul_bd hx hx' hy hy'
  go_wp2_with (fail)
  refine (sm_from x hx (by omega) _).mono ?_
  rintro e w5 ⟨rfl, bw5⟩
  have c_2 := step_trans c_1 bw5
  clear c_1 bw5
  go_wp2_with (fail)
  refine (sm_from y hy (by omega) _).mono ?_
  rintro e w6 ⟨rfl, bw6⟩
  have c_3 := step_trans c_2 bw6
  clear c_2 bw6
  go_wp2_with (fail)
  refine (sm_mul hx hx' hy hy' _).mono ?_
  rintro e w7 ⟨rfl, bw7⟩
  have c_4 := step_trans c_3 bw7
  clear c_3 bw7
  go_wp2_with (first | (refine wpList_store_num rfl _ (.tmp 10) _ rfl _ rfl _ rfl _ rfl (news2 w7 _).1 size26 ?_; intro w8 gw8 mw8) | (refine wpList_store_num rfl _ (.tmp 11) _ rfl _ rfl _ rfl _ rfl ((gw8.block _ (by simp) (by simp)).trans (news2 w7 _).2) size26 ?_; intro w9 gw9 mw9; have b_1 := step_new2 gw8 gw9; have qw8 := (mw8.grown gw9 (by simp <;> omega)); have c_5 := step_trans c_4 b_1; clear c_4 b_1 gw8 gw9 mw8) | (refine wpList_load_num rfl _ (.tmp 10) rfl _ rfl _ _ _ qw8 Try.underlying26 rfl size26 ?_) | (refine wpList_load_num rfl _ (.tmp 11) rfl _ rfl _ _ _ mw9 Try.underlying26 rfl size26 ?_))
  refine wp_region_news 9 26 (.cells #[Value.int .u32 0, .int .u32 0, .int .u32 0, .int .u32 0, .int .u32 0, .int .u32 0, .int .u32 0, .int .u32 0] 26) (fun _ _ _ _ _ h => h) (by kernel_rfl) (by kernel_rfl) (by kernel_rfl) (by kernel_rfl) (by kernel_rfl) (by kernel_rfl) (by kernel_rfl) (by kernel_rfl) num_new ?_
  intro V_1
  simp only [calmN, isNew, hush, hushT, List.drop_succ_cons, List.drop_zero]
  have L_1 := qw8.step V_1.h
  have H_1 := mw9.step V_1.h
  have c_6 := step_trans c_5 V_1.h
  (refine wpQuiet_load_num rfl _ (.tmp 10) rfl _ rfl _ _ _ L_1 Try.underlying26 rfl size26 ?_; simp only [Act.put, List.setIfInBounds_toArray, List.set_cons_zero, List.set_cons_succ])
  (refine wpQuiet_load_num rfl _ (.tmp 11) rfl _ rfl _ _ _ H_1 Try.underlying26 rfl size26 ?_; simp only [Act.put, List.setIfInBounds_toArray, List.set_cons_zero, List.set_cons_succ])
  go_big_quiet_step (fail)
  go_big_quiet_step (exact later_of (sm_from (1 + z) (by omega) (by omega) _))
  go_big_quiet_step (exact later_of (sm_rest hx hx' hy hy' (by omega) (by omega) _))
  go_big_quiet_step (fail)
  go_big_quiet_step (fail)
  go_big_quiet_step (fail)
  go_big_quiet_step (fail)
  go_big_quiet_step (fail)
  go_big_quiet_step (fail)
  refine wpQuiet_nil ?_
  intro X_1 p_1 hp_1
  obtain ⟨hp_11, hp_12⟩ := hp_1
  have L_2 := L_1.step X_1.h
  have H_2 := H_1.step X_1.h
  have c_7 := step_trans c_6 X_1.h
  obtain ⟨lp_18, ep_18⟩ := hp_11 8 _ rfl rfl
  simp only [layN, isNew, Act.put, List.setIfInBounds_toArray, List.set_cons_zero, List.set_cons_succ, Nat.zero_add, Nat.reduceAdd]
  clear hp_11 hp_12
  generalize p_1 8 = bp_18 at *
  go_wp2_with (first | (refine wpList_store_num rfl _ (.tmp 12) _ rfl _ rfl _ rfl _ rfl ep_18 size26 ?_; intro w10 gw10 mw10; have L_3 := L_2.grown gw10 (ne_new qw8.lt lp_18); have H_3 := H_2.grown gw10 (ne_new mw9.lt lp_18); have c_8 := below_of_grown c_7 gw10 c_7.size (Nat.le_trans c_5.size lp_18); clear L_2 H_2 ep_18 c_7 gw10 qw8 mw9 c_5 L_1 H_1 c_6 lp_18))
  refine (sm_from x hx (by omega) _).mono ?_
  rintro e w11 ⟨rfl, bw11⟩
  have L_4 := L_3.step bw11
  have H_4 := H_3.step bw11
  have r_1 := mw10.step bw11
  have c_9 := step_trans c_8 bw11
  clear L_3 H_3 mw10 c_8 bw11
  go_wp2_with (fail)
  refine (sm_from y hy (by omega) _).mono ?_
  rintro e w12 ⟨rfl, bw12⟩
  have L_5 := L_4.step bw12
  have H_5 := H_4.step bw12
  have r_2 := r_1.step bw12
  have c_10 := step_trans c_9 bw12
  clear L_4 H_4 r_1 c_9 bw12
  go_wp2_with (fail)
  refine (sm_add hx hx' hy hy' _).mono ?_
  rintro e w13 ⟨rfl, bw13⟩
  have L_6 := L_5.step bw13
  have H_6 := H_5.step bw13
  have r_3 := r_2.step bw13
  have c_11 := step_trans c_10 bw13
  clear L_5 H_5 r_2 c_10 bw13
  have hM : 0 ≤ max x y ∧ max x y < 2147483648 ∧ 0 ≤ min x y ∧ min x y < 2147483648 ∧ min x y ≤ max x y := by omega
  obtain ⟨hM1, hM2, hM3, hM4, hM5⟩ := hM
  go_wp2_with (first | (refine wpList_store_num rfl _ (.tmp 14) _ rfl _ rfl _ rfl _ rfl (heap_alloc_new _ _) size26 ?_; intro w14 gw14 mw14; have b_2 := step_new gw14; have L_7 := L_6.step b_2; have H_7 := H_6.step b_2; have r_4 := r_3.step b_2; have c_12 := step_trans c_11 b_2; clear L_6 H_6 r_3 c_11 b_2 gw14))
  refine (sm_from (max x y) hM1 (by omega) _).mono ?_
  rintro e w15 ⟨rfl, bw15⟩
  have L_8 := L_7.step bw15
  have H_8 := H_7.step bw15
  have r_5 := r_4.step bw15
  have s_1 := mw14.step bw15
  have c_13 := step_trans c_12 bw15
  clear L_7 H_7 r_4 mw14 c_12 bw15
  go_wp2_with (fail)
  refine (sm_from (min x y) hM3 (by omega) _).mono ?_
  rintro e w16 ⟨rfl, bw16⟩
  have L_9 := L_8.step bw16
  have H_9 := H_8.step bw16
  have r_6 := r_5.step bw16
  have s_2 := s_1.step bw16
  have c_14 := step_trans c_13 bw16
  clear L_8 H_8 r_5 s_1 c_13 bw16
  go_wp2_with (fail)
  refine (sm_sub hM1 hM2 hM3 hM4 hM5 _).mono ?_
  rintro e w17 ⟨rfl, bw17⟩
  have L_10 := L_9.step bw17
  have H_10 := H_9.step bw17
  have r_7 := r_6.step bw17
  have s_3 := s_2.step bw17
  have c_15 := step_trans c_14 bw17
  clear L_9 H_9 r_6 s_2 c_14 bw17
  go_wp2_with (first | (refine wpList_store_num rfl _ (.tmp 16) _ rfl _ rfl _ rfl _ rfl (heap_alloc_new _ _) size26 ?_; intro w18 gw18 mw18; have b_3 := step_new gw18; have L_11 := L_10.step b_3; have H_11 := H_10.step b_3; have r_8 := r_7.step b_3; have s_4 := s_3.step b_3; have c_16 := step_trans c_15 b_3; clear L_10 H_10 r_7 s_3 c_15 b_3 gw18) | (refine wpList_load_num rfl _ (.tmp 10) rfl _ rfl _ _ _ L_11 Try.underlying26 rfl size26 ?_))
  have r1 := Go.IntWalk.i64_in (x * y) (by omega)
  have r2 := Go.IntWalk.i64_in (x + y) (by omega)
  have r3 := Go.IntWalk.i64_in (max x y - min x y) (by omega)
  have r4 := Go.IntWalk.i64_in (-1 - x) (by omega)
  have r5 : (x * y).tmod (1 + z) = x * y % (1 + z) := Int.tmod_eq_emod_of_nonneg hxy
  have r6 : ((1 + z : Int) == 0) = false := by simp; omega
  obtain ⟨hr1, hr2⟩ : 0 ≤ x * y % (1 + z) ∧ x * y % (1 + z) < 2147483648 + 1 := ⟨Int.emod_nonneg _ (by omega), Int.lt_of_lt_of_le (Int.emod_lt_of_pos _ (by omega)) (by omega)⟩
  refine wp_region_later (by kernel_rfl) (by kernel_rfl) ?_
  (refine wpQuiet_load_num rfl _ (.tmp 10) rfl _ rfl _ _ _ L_11 Try.underlying26 rfl size26 ?_; simp only [Act.put, List.setIfInBounds_toArray, List.set_cons_zero, List.set_cons_succ])
  go_big_quiet_step (fail)
  go_big_quiet_step (fail)
  go_big_quiet_step (fail)
  go_big_quiet_step (exact later_of (sm_from (x * y) hxy (by omega) _))
  go_big_quiet_step (fail)
  go_big_quiet_step (fail)
  first | (refine wpQuiet_load_num rfl _ (.tmp 11) rfl _ rfl _ _ _ H_11 Try.underlying26 rfl size26 ?_; simp only [Act.put, List.setIfInBounds_toArray, List.set_cons_zero, List.set_cons_succ]) | go_big_quiet_step (fail)
  go_big_quiet_step (fail)
  go_big_quiet_step (fail)
  go_big_quiet_step (fail)
  go_big_quiet_step (fail)
  go_big_quiet_step (fail)
  go_big_quiet_step (fail)
  go_big_quiet_step (fail)
  first | (refine wpQuiet_load_num rfl _ (.tmp 12) rfl _ rfl _ _ _ r_8 Try.underlying26 rfl size26 ?_; simp only [Act.put, List.setIfInBounds_toArray, List.set_cons_zero, List.set_cons_succ]) | go_big_quiet_step (fail)
  go_big_quiet_step (fail)
  go_big_quiet_step (fail)
  go_big_quiet_step (fail)
  go_big_quiet_step (fail)
  go_big_quiet_step (fail)
  go_big_quiet_step (exact later_of (sm_from (x * y % (1 + z)) hr1 (by omega) _))
  go_big_quiet_step (fail)
  go_big_quiet_step (fail)
  go_big_quiet_step (fail)
  first | (refine wpQuiet_load_num rfl _ (.tmp 14) rfl _ rfl _ _ _ s_4 Try.underlying26 rfl size26 ?_; simp only [Act.put, List.setIfInBounds_toArray, List.set_cons_zero, List.set_cons_succ]) | go_big_quiet_step (fail)
  go_big_quiet_step (fail)
  go_big_quiet_step (fail)
  go_big_quiet_step (fail)
  go_big_quiet_step (exact later_of (sm_from (x + y) (by omega) (by omega) _))
  go_big_quiet_step (fail)
  go_big_quiet_step (fail)
  go_big_quiet_step (fail)
  go_big_quiet_step (fail)
  go_big_quiet_step (fail)
  go_big_quiet_step (fail)
  go_big_quiet_step (fail)
  first | (refine wpQuiet_load_num rfl _ (.tmp 16) rfl _ rfl _ _ _ mw18 Try.underlying26 rfl size26 ?_; simp only [Act.put, List.setIfInBounds_toArray, List.set_cons_zero, List.set_cons_succ]) | go_big_quiet_step (fail)
  go_big_quiet_step (fail)
  go_big_quiet_step (fail)
  go_big_quiet_step (fail)
  go_big_quiet_step (fail)
  go_big_quiet_step (fail)
  go_big_quiet_step (fail)
  go_big_quiet_step (fail)
  go_big_quiet_step (exact later_of (sm_from (max x y - min x y) (by omega) (by omega) _))
  go_big_quiet_step (fail)
  go_big_quiet_step (fail)
  go_big_quiet_step (fail)
  go_big_quiet_step (fail)
  go_big_quiet_step (fail)
  go_big_quiet_step (fail)
  go_big_quiet_step (fail)
  go_big_quiet_step (fail)
  go_big_quiet_step (fail)
  go_big_quiet_step (exact later_of (sm_neg x hx hx' _))
  go_big_quiet_step (fail)
  go_big_quiet_step (fail)
  go_big_quiet_step (fail)
  go_big_quiet_step (fail)
  refine wpQuiet_nil ?_
  intro X_2
  have L_12 := L_11.step X_2.h
  have H_12 := H_11.step X_2.h
  have r_9 := r_8.step X_2.h
  have s_5 := s_4.step X_2.h
  have d_1 := mw18.step X_2.h
  have c_17 := step_trans c_16 X_2.h
  clear L_11 H_11 r_8 s_4 mw18 c_16
  go_wp2
  go_ret
  exact ⟨rfl, c_17⟩
end Go.Proofs.Yteihojjciklfoaa
