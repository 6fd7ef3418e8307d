/- sentinellaw1.LimbKnown: the walk. -/
import Derived.Test.YteihojjciklfoaaKnown
import Derived.Test.YteihojjciklfoaaRest
import Derived.Test.YteihojjciklfoaaNews
namespace Go.Proofs.Yteihojjciklfoaa
set_option linter.unusedVariables false
set_option linter.unusedSimpArgs false
open Go.ChangeShapes Go.WideShapes Go.ChangeAt Go.RowKit
attribute [local go_sem] eqn_same
def allN : Nat := 4294967296 ^ 8 - 1
def topN : Nat := 2147483648 * 4294967296 ^ 7
def predN : Nat := 4294967296 ^ 8 - 2
theorem allN_lt : allN < 4294967296 ^ 8 := by decide +kernel
theorem topN_lt : topN < 4294967296 ^ 8 := by decide +kernel
theorem one_lt : 1 < 4294967296 ^ 8 := by decide +kernel
theorem dig_eq (n k : Nat) (v : Nat) (h : n / 4294967296 ^ k % 4294967296 = v) : digI n k = (v : Int) := by unfold digI dig; rw [h]
theorem allA : #[Value.int .u32 4294967295, .int .u32 4294967295, .int .u32 4294967295, .int .u32 4294967295, .int .u32 4294967295, .int .u32 4294967295, .int .u32 4294967295, .int .u32 4294967295] = numA allN := by
  simp only [numA, numF, dig_eq allN 0 4294967295 (by decide +kernel), dig_eq allN 1 4294967295 (by decide +kernel), dig_eq allN 2 4294967295 (by decide +kernel), dig_eq allN 3 4294967295 (by decide +kernel), dig_eq allN 4 4294967295 (by decide +kernel), dig_eq allN 5 4294967295 (by decide +kernel), dig_eq allN 6 4294967295 (by decide +kernel), dig_eq allN 7 4294967295 (by decide +kernel)]
  rfl
theorem topA : #[Value.int .u32 0, .int .u32 0, .int .u32 0, .int .u32 0, .int .u32 0, .int .u32 0, .int .u32 0, .int .u32 2147483648] = numA topN := by
  simp only [numA, numF, dig_eq topN 0 0 (by decide +kernel), dig_eq topN 1 0 (by decide +kernel), dig_eq topN 2 0 (by decide +kernel), dig_eq topN 3 0 (by decide +kernel), dig_eq topN 4 0 (by decide +kernel), dig_eq topN 5 0 (by decide +kernel), dig_eq topN 6 0 (by decide +kernel), dig_eq topN 7 2147483648 (by decide +kernel)]
  rfl
theorem zeroV8 : (.agg #[Value.int .u32 0, .int .u32 0, .int .u32 0, .int .u32 0, .int .u32 0, .int .u32 0, .int .u32 0, .int .u32 0]) = numV 0 := by rw [zeroA]
theorem kn_one (w : World) : Calls Try.prog 29 #[.int .i64 1] w fun e w' => e = .returned (numV 1) ∧ Below w.heap.size w w' := from_any 1 (by omega) (by omega) w
theorem kn_two (w : World) : Calls Try.prog 29 #[.int .i64 2] w fun e w' => e = .returned (numV 2) ∧ Below w.heap.size w w' := from_any 2 (by omega) (by omega) w
theorem kn_add (w : World) : Calls Try.prog 17 #[numV allN, numV 1] w fun e w' => e = .returned (.tuple #[numV 0, .int .u32 1]) ∧ Below w.heap.size w w' := by
  have h := add_num allN 1 allN_lt one_lt w
  rw [show addN allN 1 = 0 by unfold addN; decide +kernel, show overI allN 1 = 1 by unfold overI; decide +kernel] at h
  exact h
theorem kn_sub (w : World) : Calls Try.prog 19 #[(.agg #[Value.int .u32 0, .int .u32 0, .int .u32 0, .int .u32 0, .int .u32 0, .int .u32 0, .int .u32 0, .int .u32 0]), numV 1] w fun e w' => e = .returned (.tuple #[numV allN, .int .u32 1]) ∧ Below w.heap.size w w' := by
  have h := sub_any 0 1 (by decide +kernel) one_lt w
  rw [show subN 0 1 = allN by unfold subN; decide +kernel, show lentI 0 1 = 1 by unfold lentI; decide +kernel] at h
  rw [zeroV8]; exact h
theorem kn_mul (w : World) : Calls Try.prog 21 #[numV allN, numV allN] w fun e w' => e = .returned (.tuple #[numV 1, numV predN]) ∧ Below w.heap.size w w' := by
  have h := mul_any allN allN allN_lt allN_lt w
  rw [show allN * allN % 4294967296 ^ 8 = 1 by decide +kernel, show allN * allN / 4294967296 ^ 8 = predN by decide +kernel] at h
  exact h
theorem kn_pred (w : World) : Calls Try.prog 19 #[numV allN, numV 1] w fun e w' => e = .returned (.tuple #[numV predN, .int .u32 0]) ∧ Below w.heap.size w w' := by
  have h := sub_any allN 1 allN_lt one_lt w
  rw [show subN allN 1 = predN by unfold subN; decide +kernel, show lentI allN 1 = 0 by unfold lentI; decide +kernel] at h
  exact h
theorem kn_top (w : World) : Calls Try.prog 21 #[numV topN, numV 2] w fun e w' => e = .returned (.tuple #[numV 0, numV 1]) ∧ Below w.heap.size w w' := by
  have h := mul_any topN 2 topN_lt (by decide +kernel) w
  rw [show topN * 2 % 4294967296 ^ 8 = 0 by decide +kernel, show topN * 2 / 4294967296 ^ 8 = 1 by decide +kernel] at h
  exact h
theorem oneA : #[Value.int .u32 1, .int .u32 0, .int .u32 0, .int .u32 0, .int .u32 0, .int .u32 0, .int .u32 0, .int .u32 0] = numA 1 := fromA 1 (by omega)
theorem kn_topx (w : World) : Calls Try.prog 21 #[numV topN, numV 2] w fun e w' => e = .returned (.tuple #[(.agg #[Value.int .u32 0, .int .u32 0, .int .u32 0, .int .u32 0, .int .u32 0, .int .u32 0, .int .u32 0, .int .u32 0]), .agg #[Value.int .u32 1, .int .u32 0, .int .u32 0, .int .u32 0, .int .u32 0, .int .u32 0, .int .u32 0, .int .u32 0]]) ∧ Below w.heap.size w w' := by
  rw [zeroV8, oneA]; exact kn_top w
theorem kn_rest (w : World) : Calls Try.prog 23 #[numV allN, numV allN, numV allN] w fun e w' => e = .returned (.tuple #[numV 0, .bool true]) ∧ Below w.heap.size w w' := by
  have h := rest_pos allN allN allN allN_lt allN_lt allN_lt (by decide +kernel) w
  rw [show (allN + allN * 4294967296 ^ 8) % allN = 0 by decide +kernel] at h
  exact h
theorem kn_rest1 (w : World) : Calls Try.prog 23 #[(.agg #[Value.int .u32 0, .int .u32 0, .int .u32 0, .int .u32 0, .int .u32 0, .int .u32 0, .int .u32 0, .int .u32 0]), numV 1, numV allN] w fun e w' => e = .returned (.tuple #[numV 1, .bool true]) ∧ Below w.heap.size w w' := by
  have h := rest_pos 0 1 allN (by decide +kernel) one_lt allN_lt (by decide +kernel) w
  rw [show (0 + 1 * 4294967296 ^ 8) % allN = 1 by decide +kernel] at h
  rw [zeroV8]; exact h
theorem kn_bits (w : World) : Calls Try.prog 27 #[numV topN] w fun e w' => e = .returned (.int .i64 256) ∧ Below w.heap.size w w' := by
  have h := bits_any topN w
  have e7 := dig_eq topN 7 2147483648 (by decide +kernel)
  rw [topI_here (i := 7) (by rw [e7]; decide), e7, show 32 * ((7 : Nat) : Int) + (Lib.bitLen (((2147483648 : Nat) : Int)).toNat : Int) = 256 by decide +kernel] at h
  exact h
theorem kn_bits0 (w : World) : Calls Try.prog 27 #[(.agg #[Value.int .u32 0, .int .u32 0, .int .u32 0, .int .u32 0, .int .u32 0, .int .u32 0, .int .u32 0, .int .u32 0])] w fun e w' => e = .returned (.int .i64 0) ∧ Below w.heap.size w w' := by
  have h := bits_any 0 w
  rw [topI_none 8] at h
  rw [zeroV8]; exact h
attribute [irreducible] allN topN predN
theorem eqn_zero (w : World) : (Op.equalIn 10000 26 (.agg (numA 0)) (.agg #[Value.int .u32 0, .int .u32 0, .int .u32 0, .int .u32 0, .int .u32 0, .int .u32 0, .int .u32 0, .int .u32 0])).run Try.prog w = .ok true w := by
  rw [zeroA]; exact eqn_same 0 w
set_option maxRecDepth 100000 in
set_option maxHeartbeats 8000000 in
theorem LimbKnown_walk (a0 : Int) (hk0 : -9223372036854775808 ≤ a0) (hl0 : a0 < 9223372036854775808) (w : World)  :
    Calls Try.prog 13 #[.int .i64 a0] w fun e w' => e = .returned (.bool true) ∧ Below w.heap.size w w' := by
  have ng := noGuard
  go_enter Try.func13, Try.ntmps13
  go_wp2_with (fail)
  refine (known_any _).mono ?_
  rintro e w1 ⟨rfl, bw1⟩
  have c_1 := bw1
  have z_1 := bw1.size
  go_wp2_with (fail)
  have fA : Num ((w1.alloc (.cells #[Value.int .u32 4294967295, .int .u32 4294967295, .int .u32 4294967295, .int .u32 4294967295, .int .u32 4294967295, .int .u32 4294967295, .int .u32 4294967295, .int .u32 4294967295] 26)).alloc (.cells #[Value.int .u32 0, .int .u32 0, .int .u32 0, .int .u32 0, .int .u32 0, .int .u32 0, .int .u32 0, .int .u32 2147483648] 26)) w1.heap.size 26 allN := by rw [allA, topA]; exact (Num.new w1 _ allN).alloc _
  have fT : Num ((w1.alloc (.cells #[Value.int .u32 4294967295, .int .u32 4294967295, .int .u32 4294967295, .int .u32 4294967295, .int .u32 4294967295, .int .u32 4294967295, .int .u32 4294967295, .int .u32 4294967295] 26)).alloc (.cells #[Value.int .u32 0, .int .u32 0, .int .u32 0, .int .u32 0, .int .u32 0, .int .u32 0, .int .u32 0, .int .u32 2147483648] 26)) (w1.heap.size + 1) 26 topN := by
    rw [allA, topA]
    have := Num.new (w1.alloc (.cells (numA allN) 26)) 26 topN
    rw [World.size_alloc] at this; exact this
  have bV : Below w1.heap.size w1 ((w1.alloc (.cells #[Value.int .u32 4294967295, .int .u32 4294967295, .int .u32 4294967295, .int .u32 4294967295, .int .u32 4294967295, .int .u32 4294967295, .int .u32 4294967295, .int .u32 4294967295] 26)).alloc (.cells #[Value.int .u32 0, .int .u32 0, .int .u32 0, .int .u32 0, .int .u32 0, .int .u32 0, .int .u32 0, .int .u32 2147483648] 26)) := ((Below.refl _ _).alloc (Nat.le_refl _) _).alloc (by simp) _
  have e0 := fun w => eqn_zero w
  generalize hV : World.alloc (World.alloc _ _) _ = V at *
  clear hV
  have c_2 := step_trans c_1 bV
  have zV := bV.size
  have lA := fA.lt
  have lT := fT.lt
  refine (kn_one _).mono ?_
  rintro e w2 ⟨rfl, bw2⟩
  have A_1 := fA.step bw2
  have T_1 := fT.step bw2
  have c_3 := step_trans c_2 bw2
  have z_2 := bw2.size
  go_wp2_with (first | (refine wpList_store_num rfl _ (.tmp 5) _ rfl _ rfl _ rfl _ rfl (heap_alloc_new _ _) size26 ?_; intro w3 gw3 mw3; have b_1 := step_new gw3; have A_2 := A_1.step b_1; have T_2 := T_1.step b_1; have c_4 := step_trans c_3 b_1; have z_3 := b_1.size; have lw3 := mw3.lt))
  refine (within_any a0 6 (by omega) (by omega) hk0 hl0 _).mono ?_
  rintro e w4 ⟨rfl, rfl⟩
  obtain ⟨v, hv⟩ : ∃ v, v = a0 % 6 := ⟨_, rfl⟩
  rw [← hv]
  have h6 : v = 0 ∨ v = 1 ∨ v = 2 ∨ v = 3 ∨ v = 4 ∨ v = 5 := by omega
  clear hv
  rcases h6 with rfl | rfl | rfl | rfl | rfl | rfl
  · go_wp2_with (first | (refine wpList_load_num rfl _ (.tmp 3) rfl _ rfl _ _ _ A_2 Try.underlying26 rfl size26 ?_) | (refine wpList_load_num rfl _ (.tmp 5) rfl _ rfl _ _ _ mw3 Try.underlying26 rfl size26 ?_))
    refine (kn_add _).mono ?_
    rintro e w5 ⟨rfl, bw5⟩
    have A_3 := A_2.step bw5
    have T_3 := T_2.step bw5
    have O_1 := mw3.step bw5
    have c_5 := step_trans c_4 bw5
    have z_4 := bw5.size
    go_wp2_with (first | (refine wpList_store_num rfl _ (.tmp 6) _ rfl _ rfl _ rfl _ rfl (heap_alloc_new _ _) size26 ?_; intro w6 gw6 mw6; have b_2 := step_new gw6; have A_4 := A_3.step b_2; have T_4 := T_3.step b_2; have O_2 := O_1.step b_2; have c_6 := step_trans c_5 b_2; have z_5 := b_2.size; have lw6 := mw6.lt) | (refine wpList_load_num rfl _ (.tmp 5) rfl _ rfl _ _ _ O_2 Try.underlying26 rfl size26 ?_) | (refine wpList_load_num rfl _ (.tmp 6) rfl _ rfl _ _ _ mw6 Try.underlying26 rfl size26 ?_))
    go_ret
    exact ⟨rfl, c_6⟩
  · go_wp2_with (first | (refine wpList_load_num rfl _ (.tmp 5) rfl _ rfl _ _ _ mw3 Try.underlying26 rfl size26 ?_))
    refine (kn_sub _).mono ?_
    rintro e w5 ⟨rfl, bw5⟩
    have A_3 := A_2.step bw5
    have T_3 := T_2.step bw5
    have O_1 := mw3.step bw5
    have c_5 := step_trans c_4 bw5
    have z_4 := bw5.size
    go_wp2_with (first | (refine wpList_store_num rfl _ (.tmp 8) _ rfl _ rfl _ rfl _ rfl (heap_alloc_new _ _) size26 ?_; intro w6 gw6 mw6; have b_2 := step_new gw6; have A_4 := A_3.step b_2; have T_4 := T_3.step b_2; have O_2 := O_1.step b_2; have c_6 := step_trans c_5 b_2; have z_5 := b_2.size; have lw6 := mw6.lt) | (refine wpList_load_num rfl _ (.tmp 3) rfl _ rfl _ _ _ A_4 Try.underlying26 rfl size26 ?_) | (refine wpList_load_num rfl _ (.tmp 8) rfl _ rfl _ _ _ mw6 Try.underlying26 rfl size26 ?_))
    go_ret
    exact ⟨rfl, c_6⟩
  · go_wp2_with (first | (refine wpList_load_num rfl _ (.tmp 3) rfl _ rfl _ _ _ A_2 Try.underlying26 rfl size26 ?_))
    refine (kn_mul _).mono ?_
    rintro e w5 ⟨rfl, bw5⟩
    have A_3 := A_2.step bw5
    have T_3 := T_2.step bw5
    have O_1 := mw3.step bw5
    have c_5 := step_trans c_4 bw5
    have z_4 := bw5.size
    go_wp2_with (first | (refine wpList_store_num rfl _ (.tmp 10) _ rfl _ rfl _ rfl _ rfl (news2 w5 _).1 size26 ?_; intro w6 gw6 mw6) | (refine wpList_store_num rfl _ (.tmp 11) _ rfl _ rfl _ rfl _ rfl ((gw6.block _ (by simp) (by simp)).trans (news2 w5 _).2) size26 ?_; intro w7 gw7 mw7; have b_2 := step_new2 gw6 gw7; have qw6 := (mw6.grown gw7 (by simp <;> omega)); have A_4 := A_3.step b_2; have T_4 := T_3.step b_2; have O_2 := O_1.step b_2; have c_6 := step_trans c_5 b_2; have z_5 := b_2.size; have lw6 := qw6.lt; have lw7 := mw7.lt) | (refine wpList_load_num rfl _ (.tmp 3) rfl _ rfl _ _ _ A_4 Try.underlying26 rfl size26 ?_) | (refine wpList_load_num rfl _ (.tmp 5) rfl _ rfl _ _ _ O_2 Try.underlying26 rfl size26 ?_))
    refine (kn_pred _).mono ?_
    rintro e w8 ⟨rfl, bw8⟩
    have A_5 := A_4.step bw8
    have T_5 := T_4.step bw8
    have O_3 := O_2.step bw8
    have L_1 := qw6.step bw8
    have H_1 := mw7.step bw8
    have c_7 := step_trans c_6 bw8
    have z_6 := bw8.size
    go_wp2_with (first | (refine wpList_store_num rfl _ (.tmp 12) _ rfl _ rfl _ rfl _ rfl (heap_alloc_new _ _) size26 ?_; intro w9 gw9 mw9; have b_3 := step_new gw9; have A_6 := A_5.step b_3; have T_6 := T_5.step b_3; have O_4 := O_3.step b_3; have L_2 := L_1.step b_3; have H_2 := H_1.step b_3; have c_8 := step_trans c_7 b_3; have z_7 := b_3.size; have lw9 := mw9.lt) | (refine wpList_load_num rfl _ (.tmp 4) rfl _ rfl _ _ _ T_6 Try.underlying26 rfl size26 ?_) | (refine wpList_load_num rfl _ (.tmp 5) rfl _ rfl _ _ _ O_4 Try.underlying26 rfl size26 ?_) | (refine wpList_load_num rfl _ (.tmp 10) rfl _ rfl _ _ _ L_2 Try.underlying26 rfl size26 ?_) | (refine wpList_load_num rfl _ (.tmp 11) rfl _ rfl _ _ _ H_2 Try.underlying26 rfl size26 ?_) | (refine wpList_load_num rfl _ (.tmp 12) rfl _ rfl _ _ _ mw9 Try.underlying26 rfl size26 ?_))
    go_ret
    exact ⟨rfl, c_8⟩
  · go_wp2_with (first | (refine wpList_load_num rfl _ (.tmp 4) rfl _ rfl _ _ _ T_2 Try.underlying26 rfl size26 ?_))
    refine wp_region_news 8 26 (.cells #[Value.int .u32 0, .int .u32 0, .int .u32 0, .int .u32 0, .int .u32 0, .int .u32 0, .int .u32 0, .int .u32 0] 26) (fun _ _ _ _ _ h => h) (by kernel_rfl) (by kernel_rfl) (by kernel_rfl) (by kernel_rfl) (by kernel_rfl) (by kernel_rfl) (by kernel_rfl) (by kernel_rfl) num_new ?_
    intro V_1
    simp only [calmN, isNew, hush, hushT, List.drop_succ_cons, List.drop_zero]
    have A_3 := A_2.step V_1.h
    have T_3 := T_2.step V_1.h
    have O_1 := mw3.step V_1.h
    have c_5 := step_trans c_4 V_1.h
    (refine wpQuiet_load_num rfl _ (.tmp 4) rfl _ rfl _ _ _ T_3 Try.underlying26 rfl size26 ?_; simp only [Act.put, List.setIfInBounds_toArray, List.set_cons_zero, List.set_cons_succ])
    go_big_quiet_step (exact later_of (kn_two _))
    go_big_quiet_step (exact later_of (kn_top _))
    go_big_quiet_step (fail)
    go_big_quiet_step (fail)
    go_big_quiet_step (fail)
    go_big_quiet_step (fail)
    go_big_quiet_step (fail)
    go_big_quiet_step (fail)
    go_big_quiet_step (fail)
    refine wpQuiet_nil ?_
    intro X_1 p_1 hp_1
    obtain ⟨hp_11, hp_12⟩ := hp_1
    have A_4 := A_3.step X_1.h
    have T_4 := T_3.step X_1.h
    have O_2 := O_1.step X_1.h
    have c_6 := step_trans c_5 X_1.h
    obtain ⟨lp_16, ep_16⟩ := hp_11 6 _ rfl rfl
    obtain ⟨lp_17, ep_17⟩ := hp_11 7 _ rfl rfl
    have np_16_7 : p_1 6 ≠ p_1 7 := fun h => absurd (hp_12 6 7 _ _ rfl rfl rfl rfl h) (by decide)
    simp only [layN, isNew, Act.put, List.setIfInBounds_toArray, List.set_cons_zero, List.set_cons_succ, Nat.zero_add, Nat.reduceAdd]
    clear hp_11 hp_12
    generalize p_1 6 = bp_16 at *
    generalize p_1 7 = bp_17 at *
    have z_4 := X_1.h.size
    have z_5 := V_1.h.size
    go_wp2_with (first | (refine wpList_store_num rfl _ (.tmp 14) _ rfl _ rfl _ rfl _ rfl ep_16 size26 ?_; intro w5 gw5 mw5; have lA_5 := A_4.lt; have A_5 := A_4.grown gw5 (by simp; omega); have lT_5 := T_4.lt; have T_5 := T_4.grown gw5 (by simp; omega); have lO_3 := O_2.lt; have O_3 := O_2.grown gw5 (by simp; omega); have ep_17 := (gw5.block _ (heap_lt ep_17) (by simp; omega)).trans ep_17; have c_7 := below_of_grown c_6 gw5 (by omega) (by omega); have z_6 := gw5.size) | (refine wpList_store_num rfl _ (.tmp 15) _ rfl _ rfl _ rfl _ rfl ep_17 size26 ?_; intro w6 gw6 mw6; have lA_6 := A_5.lt; have A_6 := A_5.grown gw6 (by simp; omega); have lT_6 := T_5.lt; have T_6 := T_5.grown gw6 (by simp; omega); have lO_4 := O_3.lt; have O_4 := O_3.grown gw6 (by simp; omega); have lL_1 := mw5.lt; have L_1 := mw5.grown gw6 (by simp; omega); have c_8 := below_of_grown c_7 gw6 (by omega) (by omega); have z_7 := gw6.size) | (refine wpList_load_num rfl _ (.tmp 3) rfl _ rfl _ _ _ A_6 Try.underlying26 rfl size26 ?_) | (refine wpList_load_num rfl _ (.tmp 5) rfl _ rfl _ _ _ O_4 Try.underlying26 rfl size26 ?_) | (refine wpList_load_num rfl _ (.tmp 14) rfl _ rfl _ _ _ L_1 Try.underlying26 rfl size26 ?_) | (refine wpList_load_num rfl _ (.tmp 15) rfl _ rfl _ _ _ mw6 Try.underlying26 rfl size26 ?_))
    go_ret
    exact ⟨rfl, c_8⟩
  · go_wp2_with (first | (refine wpList_load_num rfl _ (.tmp 3) rfl _ rfl _ _ _ A_2 Try.underlying26 rfl size26 ?_))
    refine (kn_rest _).mono ?_
    rintro e w5 ⟨rfl, bw5⟩
    have A_3 := A_2.step bw5
    have T_3 := T_2.step bw5
    have O_1 := mw3.step bw5
    have c_5 := step_trans c_4 bw5
    have z_4 := bw5.size
    go_wp2_with (first | (refine wpList_store_num rfl _ (.tmp 16) _ rfl _ rfl _ rfl _ rfl (heap_alloc_new _ _) size26 ?_; intro w6 gw6 mw6; have b_2 := step_new gw6; have A_4 := A_3.step b_2; have T_4 := T_3.step b_2; have O_2 := O_1.step b_2; have c_6 := step_trans c_5 b_2; have z_5 := b_2.size; have lw6 := mw6.lt) | (refine wpList_load_num rfl _ (.tmp 3) rfl _ rfl _ _ _ A_4 Try.underlying26 rfl size26 ?_) | (refine wpList_load_num rfl _ (.tmp 5) rfl _ rfl _ _ _ O_2 Try.underlying26 rfl size26 ?_) | (refine wpList_load_num rfl _ (.tmp 16) rfl _ rfl _ _ _ mw6 Try.underlying26 rfl size26 ?_))
    go_ret
    exact ⟨rfl, c_6⟩
  · go_wp2_with (first | (refine wpList_load_num rfl _ (.tmp 3) rfl _ rfl _ _ _ A_2 Try.underlying26 rfl size26 ?_) | (refine wpList_load_num rfl _ (.tmp 5) rfl _ rfl _ _ _ mw3 Try.underlying26 rfl size26 ?_))
    refine (kn_rest1 _).mono ?_
    rintro e w5 ⟨rfl, bw5⟩
    have A_3 := A_2.step bw5
    have T_3 := T_2.step bw5
    have O_1 := mw3.step bw5
    have c_5 := step_trans c_4 bw5
    have z_4 := bw5.size
    go_wp2_with (first | (refine wpList_store_num rfl _ (.tmp 18) _ rfl _ rfl _ rfl _ rfl (heap_alloc_new _ _) size26 ?_; intro w6 gw6 mw6; have b_2 := step_new gw6; have A_4 := A_3.step b_2; have T_4 := T_3.step b_2; have O_2 := O_1.step b_2; have c_6 := step_trans c_5 b_2; have z_5 := b_2.size; have lw6 := mw6.lt) | (refine wpList_load_num rfl _ (.tmp 4) rfl _ rfl _ _ _ T_4 Try.underlying26 rfl size26 ?_) | (refine wpList_load_num rfl _ (.tmp 5) rfl _ rfl _ _ _ O_2 Try.underlying26 rfl size26 ?_) | (refine wpList_load_num rfl _ (.tmp 18) rfl _ rfl _ _ _ mw6 Try.underlying26 rfl size26 ?_))
    refine (kn_bits _).mono ?_
    rintro e w7 ⟨rfl, bw7⟩
    have A_5 := A_4.step bw7
    have T_5 := T_4.step bw7
    have O_3 := O_2.step bw7
    have R_1 := mw6.step bw7
    have c_7 := step_trans c_6 bw7
    have z_6 := bw7.size
    go_wp2_with (fail)
    refine (kn_bits0 _).mono ?_
    rintro e w8 ⟨rfl, bw8⟩
    have A_6 := A_5.step bw8
    have T_6 := T_5.step bw8
    have O_4 := O_3.step bw8
    have R_2 := R_1.step bw8
    have c_8 := step_trans c_7 bw8
    have z_7 := bw8.size
    go_wp2_with (fail)
    go_ret
    exact ⟨rfl, c_8⟩
end Go.Proofs.Yteihojjciklfoaa
