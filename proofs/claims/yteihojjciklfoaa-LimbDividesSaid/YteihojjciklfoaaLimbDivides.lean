/- sentinellaw1.LimbDivides: the walk. -/
import Derived.Test.YteihojjciklfoaaKnown
import Derived.Test.YteihojjciklfoaaRest
import Derived.Test.YteihojjciklfoaaRefR
import Derived.Test.YteihojjciklfoaaNews
import Derived.Test.YteihojjciklfoaaEqn
namespace Go.Proofs.Yteihojjciklfoaa
set_option linter.unusedVariables false
set_option linter.unusedSimpArgs false
open Go.ChangeShapes Go.WideShapes Go.ChangeAt Go.RowKit
attribute [local go_sem] eqn_same
theorem div_arith {P m q r : Nat} (hP : 0 < P) (hm : m < P) (hq : q < P) (hr : r < m) (S C : Nat) (hs : S + C * P = m * q % P + r) :
    m * q / P + C < P ∧ S + (m * q / P + C) * P = m * q + r := by
  have h2 : S + (m * q / P + C) * P = m * q + r := by
    have h3 := Nat.mod_add_div (m * q) P
    rw [Nat.add_mul, Nat.mul_comm (m * q / P) P]
    omega
  refine ⟨?_, h2⟩
  refine Nat.lt_of_not_le fun hge => ?_
  have h4 := Nat.mul_le_mul_right P hge
  have h5 : m * (q + 1) ≤ m * P := Nat.mul_le_mul_left _ hq
  have h6 : m * P < P * P := Nat.mul_lt_mul_of_pos_right hm hP
  rw [Nat.mul_add, Nat.mul_one] at h5
  omega
theorem add_over (a b : Nat) : addN a b + (overI a b).toNat * 4294967296 ^ 8 = a + b := by
  unfold addN overI
  split
  · simp
  · rename_i hge
    simp only [Int.toNat_one, Nat.one_mul]
    exact Nat.sub_add_cancel (Nat.le_of_not_lt hge)
theorem add_low0 {a b : Nat} (h : a + b < 4294967296 ^ 8) : addN a b = a + b ∧ overI a b = 0 := by
  unfold addN overI
  rw [if_pos h, if_pos h]
  exact ⟨rfl, rfl⟩
theorem div_pack {m q x : Nat} (hm : m < 4294967296 ^ 8) (hq : q < 4294967296 ^ 8) (hx : x < 4294967296 ^ 8) (h0 : 0 < m) : ∃ R L H S G : Nat, ∃ C : Int, 0 ≤ C ∧ C ≤ 1 ∧
    RunsTo 24 #[numV x, (.agg #[Value.int .u32 0, .int .u32 0, .int .u32 0, .int .u32 0, .int .u32 0, .int .u32 0, .int .u32 0, .int .u32 0]), numV m] (.tuple #[numV R, .bool true]) ∧
    RunsTo 21 #[numV m, numV q] (.tuple #[numV L, numV H]) ∧
    RunsTo 17 #[numV L, numV R] (.tuple #[numV S, .int .u32 C]) ∧
    RunsTo 17 #[numV H, numV C.toNat] (.tuple #[numV G, .int .u32 0]) ∧
    RunsTo 23 #[numV S, numV G, numV m] (.tuple #[numV R, .bool true]) := by
  have hP : (0 : Nat) < 4294967296 ^ 8 := by decide +kernel
  have hr : x % m < m := Nat.mod_lt _ h0
  have hL : m * q % 4294967296 ^ 8 < 4294967296 ^ 8 := Nat.mod_lt _ hP
  have hH : m * q / 4294967296 ^ 8 < 4294967296 ^ 8 := Nat.div_lt_of_lt_mul (Nat.mul_lt_mul'' hm hq)
  have hR : x % m < 4294967296 ^ 8 := Nat.lt_trans hr hm
  have c0 := overI_ge (m * q % 4294967296 ^ 8) (x % m)
  have c1 := overI_le (m * q % 4294967296 ^ 8) (x % m)
  obtain ⟨hG, hsum⟩ := div_arith hP hm hq hr _ _ (add_over (m * q % 4294967296 ^ 8) (x % m))
  refine ⟨x % m, m * q % 4294967296 ^ 8, m * q / 4294967296 ^ 8, addN (m * q % 4294967296 ^ 8) (x % m), m * q / 4294967296 ^ 8 + (overI (m * q % 4294967296 ^ 8) (x % m)).toNat, overI (m * q % 4294967296 ^ 8) (x % m), c0, c1, fun w => ?_, mul_any m q hm hq, add_num _ _ hL hR, fun w => ?_, fun w => ?_⟩
  · have h := rrest_pos x 0 m hx hP hm h0 w
    rw [Nat.zero_mul, Nat.add_zero] at h
    rw [zeroV8]; exact h
  · have h := add_num (m * q / 4294967296 ^ 8) (overI (m * q % 4294967296 ^ 8) (x % m)).toNat hH (by omega) w
    rw [(add_low0 hG).1, (add_low0 hG).2] at h
    exact h
  · have h := rest_pos _ _ m (addN_lt hL hR) hG hm h0 w
    rw [hsum, Nat.mul_add_mod, Nat.mod_mod] at h
    exact h
set_option maxRecDepth 100000 in
set_option maxHeartbeats 20000000 in
theorem LimbDivides_walk (a0 : Int) (hk0 : -9223372036854775808 ≤ a0) (hl0 : a0 < 9223372036854775808)
    (A1 : Option Addr) (n1 cap1 : Nat) (x1 : Nat → Int)
    (a2 : Int) (hk2 : -9223372036854775808 ≤ a2) (hl2 : a2 < 9223372036854775808)
    (A3 : Option Addr) (n3 cap3 : Nat) (x3 : Nat → Int)
    (a4 : Int) (hk4 : -9223372036854775808 ≤ a4) (hl4 : a4 < 9223372036854775808)
    (A5 : Option Addr) (n5 cap5 : Nat) (x5 : Nat → Int) (w : World) (hr1 : RdI w A1 n1 x1) (hr3 : RdI w A3 n3 x3) (hr5 : RdI w A5 n5 x5) :
    Calls Try.prog 14 #[.int .i64 a0, .slice A1 n1 cap1, .int .i64 a2, .slice A3 n3 cap3, .int .i64 a4, .slice A5 n5 cap5] w fun e w' => e = .returned (.bool true) ∧ Below w.heap.size w w' := by
  have ng := noGuard
  go_enter Try.func14, Try.ntmps14
  go_wp2_with (fail)
  refine (known_any _).mono ?_
  rintro e w1 ⟨rfl, bw1⟩
  have r1_1 := hr1.step bw1
  have r3_1 := hr3.step bw1
  have r5_1 := hr5.step bw1
  have c_1 := bw1
  clear hr1 hr3 hr5 bw1
  go_wp2_with (fail)
  refine (make_any _ (by omega) (by omega) _ _ _ _ _ r1_1).mono ?_
  rintro e w2 ⟨m, rfl, hm, bw2⟩
  have r1_2 := r1_1.step bw2
  have r3_2 := r3_1.step bw2
  have r5_2 := r5_1.step bw2
  have c_2 := step_trans c_1 bw2
  clear r1_1 r3_1 r5_1 c_1 bw2
  go_wp2_with (fail)
  refine (make_any _ (by omega) (by omega) _ _ _ _ _ r3_2).mono ?_
  rintro e w3 ⟨q, rfl, hq, bw3⟩
  have r3_3 := r3_2.step bw3
  have r5_3 := r5_2.step bw3
  have c_3 := step_trans c_2 bw3
  clear r3_2 r5_2 c_2 bw3
  go_wp2_with (fail)
  refine (make_any _ (by omega) (by omega) _ _ _ _ _ r5_3).mono ?_
  rintro e w4 ⟨x, rfl, hx, bw4⟩
  have r5_4 := r5_3.step bw4
  have c_4 := step_trans c_3 bw4
  clear r5_3 c_3 bw4
  have e0 := fun w => eqn_zero w
  rcases Nat.eq_zero_or_pos m with h0 | h0
  · subst h0
    go_wp2_with (first | (refine wpList_store_num rfl _ (.tmp 13) _ rfl _ rfl _ rfl _ rfl (news3 w4 _).1 size26 ?_; intro w5 gw5 mw5) | (refine wpList_store_num rfl _ (.tmp 14) _ rfl _ rfl _ rfl _ rfl ((gw5.block _ (by simp) (by simp)).trans (news3 w4 _).2.1) size26 ?_; intro w6 gw6 mw6) | (refine wpList_store_num rfl _ (.tmp 15) _ rfl _ rfl _ rfl _ rfl ((gw6.block _ (by have := gw5.size; simp at this; omega) (by simp <;> omega)).trans ((gw5.block _ (by simp <;> omega) (by simp <;> omega)).trans (news3 w4 _).2.2)) size26 ?_; intro w7 gw7 mw7; have b_1 := step_new3 gw5 gw6 gw7; have qw5 := ((mw5.grown gw6 (by simp <;> omega)).grown gw7 (by simp <;> omega)); have qw6 := (mw6.grown gw7 (by simp <;> omega)); have c_5 := step_trans c_4 b_1; clear c_4 b_1 gw5 gw6 gw7 mw5 mw6) | (refine wpList_load_num rfl _ (.tmp 13) rfl _ rfl _ _ _ qw5 Try.underlying26 rfl size26 ?_) | (refine wpList_load_num rfl _ (.tmp 15) rfl _ rfl _ _ _ mw7 Try.underlying26 rfl size26 ?_))
    go_ret
    exact ⟨rfl, c_5⟩
  · obtain ⟨R, L, H, S, G, C, c1, c2, k0, k1, k2, k3, k4⟩ := div_pack hm hq hx h0
    have e1 : ∀ w, (Op.equalIn 10000 26 (.agg (numA m)) (.agg #[Value.int .u32 0, .int .u32 0, .int .u32 0, .int .u32 0, .int .u32 0, .int .u32 0, .int .u32 0, .int .u32 0])).run Try.prog w = .ok false w := fun w => eqn_not0 hm h0 w
    go_wp2_with (first | (refine wpList_store_num rfl _ (.tmp 13) _ rfl _ rfl _ rfl _ rfl (news3 w4 _).1 size26 ?_; intro w5 gw5 mw5) | (refine wpList_store_num rfl _ (.tmp 14) _ rfl _ rfl _ rfl _ rfl ((gw5.block _ (by simp) (by simp)).trans (news3 w4 _).2.1) size26 ?_; intro w6 gw6 mw6) | (refine wpList_store_num rfl _ (.tmp 15) _ rfl _ rfl _ rfl _ rfl ((gw6.block _ (by have := gw5.size; simp at this; omega) (by simp <;> omega)).trans ((gw5.block _ (by simp <;> omega) (by simp <;> omega)).trans (news3 w4 _).2.2)) size26 ?_; intro w7 gw7 mw7; have b_1 := step_new3 gw5 gw6 gw7; have qw5 := ((mw5.grown gw6 (by simp <;> omega)).grown gw7 (by simp <;> omega)); have qw6 := (mw6.grown gw7 (by simp <;> omega)); have c_5 := step_trans c_4 b_1; clear c_4 b_1 gw5 gw6 gw7 mw5 mw6) | (refine wpList_load_num rfl _ (.tmp 13) rfl _ rfl _ _ _ qw5 Try.underlying26 rfl size26 ?_) | (refine wpList_load_num rfl _ (.tmp 15) rfl _ rfl _ _ _ mw7 Try.underlying26 rfl size26 ?_))
    refine (k0 _).mono ?_
    rintro e w8 ⟨rfl, bw8⟩
    have m_1 := qw5.step bw8
    have q_1 := qw6.step bw8
    have x_1 := mw7.step bw8
    have c_6 := step_trans c_5 bw8
    clear qw5 qw6 mw7 c_5 bw8
    clear e1
    go_wp2_with (first | (refine wpList_store_num rfl _ (.tmp 16) _ rfl _ rfl _ rfl _ rfl (heap_alloc_new _ _) size26 ?_; intro w9 gw9 mw9; have b_2 := step_new gw9; have m_2 := m_1.step b_2; have q_2 := q_1.step b_2; have x_2 := x_1.step b_2; have c_7 := step_trans c_6 b_2; clear m_1 q_1 x_1 c_6 b_2 gw9) | (refine wpList_load_num rfl _ (.tmp 13) rfl _ rfl _ _ _ m_2 Try.underlying26 rfl size26 ?_) | (refine wpList_load_num rfl _ (.tmp 14) rfl _ rfl _ _ _ q_2 Try.underlying26 rfl size26 ?_))
    refine (k1 _).mono ?_
    rintro e w10 ⟨rfl, bw10⟩
    have m_3 := m_2.step bw10
    have q_3 := q_2.step bw10
    have x_3 := x_2.step bw10
    have r_1 := mw9.step bw10
    have c_8 := step_trans c_7 bw10
    clear m_2 q_2 x_2 mw9 c_7 bw10
    go_wp2_with (first | (refine wpList_store_num rfl _ (.tmp 18) _ rfl _ rfl _ rfl _ rfl (news2 w10 _).1 size26 ?_; intro w11 gw11 mw11) | (refine wpList_store_num rfl _ (.tmp 19) _ rfl _ rfl _ rfl _ rfl ((gw11.block _ (by simp) (by simp)).trans (news2 w10 _).2) size26 ?_; intro w12 gw12 mw12; have b_3 := step_new2 gw11 gw12; have qw11 := (mw11.grown gw12 (by simp <;> omega)); have m_4 := m_3.step b_3; have q_4 := q_3.step b_3; have x_4 := x_3.step b_3; have r_2 := r_1.step b_3; have c_9 := step_trans c_8 b_3; clear m_3 q_3 x_3 r_1 c_8 b_3 gw11 gw12 mw11) | (refine wpList_load_num rfl _ (.tmp 16) rfl _ rfl _ _ _ r_2 Try.underlying26 rfl size26 ?_) | (refine wpList_load_num rfl _ (.tmp 18) rfl _ rfl _ _ _ qw11 Try.underlying26 rfl size26 ?_))
    refine (k2 _).mono ?_
    rintro e w13 ⟨rfl, bw13⟩
    have m_5 := m_4.step bw13
    have q_5 := q_4.step bw13
    have x_5 := x_4.step bw13
    have r_3 := r_2.step bw13
    have L_1 := qw11.step bw13
    have H_1 := mw12.step bw13
    have c_10 := step_trans c_9 bw13
    clear m_4 q_4 x_4 r_2 qw11 mw12 c_9 bw13
    go_wp2_with (first | (refine wpList_store_num rfl _ (.tmp 20) _ rfl _ rfl _ rfl _ rfl (heap_alloc_new _ _) size26 ?_; intro w14 gw14 mw14; have b_4 := step_new gw14; have m_6 := m_5.step b_4; have q_6 := q_5.step b_4; have x_6 := x_5.step b_4; have r_4 := r_3.step b_4; have L_2 := L_1.step b_4; have H_2 := H_1.step b_4; have c_11 := step_trans c_10 b_4; clear m_5 q_5 x_5 r_3 L_1 H_1 c_10 b_4 gw14) | (refine wpList_load_num rfl _ (.tmp 19) rfl _ rfl _ _ _ H_2 Try.underlying26 rfl size26 ?_))
    refine wp_region_news 9 26 (.cells #[Value.int .u32 0, .int .u32 0, .int .u32 0, .int .u32 0, .int .u32 0, .int .u32 0, .int .u32 0, .int .u32 0] 26) (fun _ _ _ _ _ h => h) (by kernel_rfl) (by kernel_rfl) (by kernel_rfl) (by kernel_rfl) (by kernel_rfl) (by kernel_rfl) (by kernel_rfl) (by kernel_rfl) num_new ?_
    intro V_1
    simp only [calmN, isNew, hush, hushT, List.drop_succ_cons, List.drop_zero]
    have m_7 := m_6.step V_1.h
    have q_7 := q_6.step V_1.h
    have x_7 := x_6.step V_1.h
    have r_5 := r_4.step V_1.h
    have L_3 := L_2.step V_1.h
    have H_3 := H_2.step V_1.h
    have s_1 := mw14.step V_1.h
    have c_12 := step_trans c_11 V_1.h
    (refine wpQuiet_load_num rfl _ (.tmp 19) rfl _ rfl _ _ _ H_3 Try.underlying26 rfl size26 ?_; simp only [Act.put, List.setIfInBounds_toArray, List.set_cons_zero, List.set_cons_succ])
    go_big_quiet_step (fail)
    go_big_quiet_step (fail)
    go_big_quiet_step (exact later_of (from_any _ (by omega) (by omega) _))
    go_big_quiet_step (exact later_of (k3 _))
    go_big_quiet_step (fail)
    go_big_quiet_step (fail)
    go_big_quiet_step (fail)
    go_big_quiet_step (fail)
    go_big_quiet_step (fail)
    go_big_quiet_step (fail)
    refine wpQuiet_nil ?_
    intro X_1 p_1 hp_1
    obtain ⟨hp_11, hp_12⟩ := hp_1
    have m_8 := m_7.step X_1.h
    have q_8 := q_7.step X_1.h
    have x_8 := x_7.step X_1.h
    have r_6 := r_5.step X_1.h
    have L_4 := L_3.step X_1.h
    have H_4 := H_3.step X_1.h
    have s_2 := s_1.step X_1.h
    have c_13 := step_trans c_12 X_1.h
    obtain ⟨lp_18, ep_18⟩ := hp_11 8 _ rfl rfl
    simp only [layN, isNew, Act.put, List.setIfInBounds_toArray, List.set_cons_zero, List.set_cons_succ, Nat.zero_add, Nat.reduceAdd]
    clear hp_11 hp_12
    generalize p_1 8 = bp_18 at *
    go_wp2_with (first | (refine wpList_store_num rfl _ (.tmp 22) _ rfl _ rfl _ rfl _ rfl ep_18 size26 ?_; intro w15 gw15 mw15; have m_9 := m_8.grown gw15 (ne_new m_6.lt lp_18); have q_9 := q_8.grown gw15 (ne_new q_6.lt lp_18); have x_9 := x_8.grown gw15 (ne_new x_6.lt lp_18); have r_7 := r_6.grown gw15 (ne_new r_4.lt lp_18); have L_5 := L_4.grown gw15 (ne_new L_2.lt lp_18); have H_5 := H_4.grown gw15 (ne_new H_2.lt lp_18); have s_3 := s_2.grown gw15 (ne_new mw14.lt lp_18); have c_14 := below_of_grown c_13 gw15 c_13.size (Nat.le_trans c_11.size lp_18); clear m_8 q_8 x_8 r_6 L_4 H_4 s_2 ep_18 c_13 gw15 m_6 q_6 x_6 r_4 L_2 H_2 mw14 c_11 m_7 q_7 x_7 r_5 L_3 H_3 s_1 c_12 lp_18) | (refine wpList_load_num rfl _ (.tmp 13) rfl _ rfl _ _ _ m_9 Try.underlying26 rfl size26 ?_) | (refine wpList_load_num rfl _ (.tmp 20) rfl _ rfl _ _ _ s_3 Try.underlying26 rfl size26 ?_) | (refine wpList_load_num rfl _ (.tmp 22) rfl _ rfl _ _ _ mw15 Try.underlying26 rfl size26 ?_))
    refine (k4 _).mono ?_
    rintro e w16 ⟨rfl, bw16⟩
    have m_10 := m_9.step bw16
    have q_10 := q_9.step bw16
    have x_10 := x_9.step bw16
    have r_8 := r_7.step bw16
    have L_6 := L_5.step bw16
    have H_6 := H_5.step bw16
    have s_4 := s_3.step bw16
    have h_1 := mw15.step bw16
    have c_15 := step_trans c_14 bw16
    clear m_9 q_9 x_9 r_7 L_5 H_5 s_3 mw15 c_14 bw16
    go_upto_region 11 with (first | (refine wpList_store_num rfl _ (.tmp 24) _ rfl _ rfl _ rfl _ rfl (heap_alloc_new _ _) size26 ?_; intro w17 gw17 mw17; have b_5 := step_new gw17; have m_11 := m_10.step b_5; have q_11 := q_10.step b_5; have x_11 := x_10.step b_5; have r_9 := r_8.step b_5; have L_7 := L_6.step b_5; have H_7 := H_6.step b_5; have s_5 := s_4.step b_5; have h_2 := h_1.step b_5; have c_16 := step_trans c_15 b_5; clear m_10 q_10 x_10 r_8 L_6 H_6 s_4 h_1 c_15 b_5 gw17) | (refine wpList_load_num rfl _ (.tmp 16) rfl _ rfl _ _ _ r_9 Try.underlying26 rfl size26 ?_) | (refine wpList_load_num rfl _ (.tmp 24) rfl _ rfl _ _ _ mw17 Try.underlying26 rfl size26 ?_))
    refine wp_region_plain ?_
    go_big_quiet_step (fail)
    go_big_quiet_step (fail)
    go_big_quiet_step (fail)
    go_big_quiet_step (fail)
    go_big_quiet_step (fail)
    go_big_quiet_step (fail)
    first | (refine wpQuiet_load_num rfl _ (.tmp 24) rfl _ rfl _ _ _ mw17 Try.underlying26 rfl size26 ?_; simp only [Act.put, List.setIfInBounds_toArray, List.set_cons_zero, List.set_cons_succ]) | go_big_quiet_step (fail)
    first | (refine wpQuiet_load_num rfl _ (.tmp 16) rfl _ rfl _ _ _ r_9 Try.underlying26 rfl size26 ?_; simp only [Act.put, List.setIfInBounds_toArray, List.set_cons_zero, List.set_cons_succ]) | go_big_quiet_step (fail)
    go_big_quiet_step (fail)
    go_big_quiet_step (fail)
    go_big_quiet_step (fail)
    refine wpQuiet_nil ?_
    intro X_2
    have m_12 := m_11.step X_2.h
    have q_12 := q_11.step X_2.h
    have x_12 := x_11.step X_2.h
    have r_10 := r_9.step X_2.h
    have L_8 := L_7.step X_2.h
    have H_8 := H_7.step X_2.h
    have s_6 := s_5.step X_2.h
    have h_3 := h_2.step X_2.h
    have w_1 := mw17.step X_2.h
    have c_17 := step_trans c_16 X_2.h
    clear m_11 q_11 x_11 r_9 L_7 H_7 s_5 h_2 mw17 c_16
    go_wp2
    go_ret
    exact ⟨rfl, c_17⟩
end Go.Proofs.Yteihojjciklfoaa
