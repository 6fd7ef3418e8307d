/- sentinellaw1.LimbCarry: the walk. -/
import Derived.Test.YtiffgmkeengdkaaKnown
namespace Go.Proofs.Ytiffgmkeengdkaa
set_option linter.unusedVariables false
set_option linter.unusedSimpArgs false
open Go.ChangeShapes Go.WideShapes Go.ChangeAt Go.RowKit
attribute [local go_sem] eqn_same
theorem add_assoc_num {x y z : Nat} (hx : x < 4294967296 ^ 8) (hy : y < 4294967296 ^ 8) (hz : z < 4294967296 ^ 8) : addN (addN x y) z = addN x (addN y z) ∧ (overI x y + overI (addN x y) z == overI y z + overI x (addN y z)) = true := by
  rw [beq_iff_eq]
  unfold overI addN
  constructor <;> (repeat' split) <;> omega
theorem sub_swap_num {x y z : Nat} (hx : x < 4294967296 ^ 8) (hy : y < 4294967296 ^ 8) (hz : z < 4294967296 ^ 8) : subN (subN x y) z = subN (subN x z) y ∧ (lentI x y + lentI (subN x y) z == lentI x z + lentI (subN x z) y) = true := by
  rw [beq_iff_eq]
  unfold lentI subN
  constructor <;> (repeat' split) <;> omega
set_option maxHeartbeats 8000000 in
theorem carry_walk (a0 : Int) (hk0 : -9223372036854775808 ≤ a0) (hk0' : a0 < 9223372036854775808) (A0 : Option Addr) (n0 cap0 : Nat) (x0 : Nat → Int)
    (a1 : Int) (hk1 : -9223372036854775808 ≤ a1) (hk1' : a1 < 9223372036854775808) (A1 : Option Addr) (n1 cap1 : Nat) (x1 : Nat → Int)
    (a2 : Int) (hk2 : -9223372036854775808 ≤ a2) (hk2' : a2 < 9223372036854775808) (A2 : Option Addr) (n2 cap2 : Nat) (x2 : Nat → Int) (w : World) (hr0 : RdI w A0 n0 x0) (hr1 : RdI w A1 n1 x1) (hr2 : RdI w A2 n2 x2) :
    Calls Try.prog 9 #[.int .i64 a0, .slice A0 n0 cap0, .int .i64 a1, .slice A1 n1 cap1, .int .i64 a2, .slice A2 n2 cap2] w fun e w' => e = .returned (.bool true) ∧ Below w.heap.size w w' := by
  have ng := noGuard
  go_enter Try.func9, Try.ntmps9
  go_wp2_with (fail)
  refine (known_any _).mono ?_
  rintro e w1 ⟨rfl, bw1⟩
  have ra_1 := hr0.step bw1
  have rb_1 := hr1.step bw1
  have rc_1 := hr2.step bw1
  have c_1 := bw1
  have z_1 := bw1.size
  go_wp2_with (fail)
  refine (make_any _ (by omega) (by omega) _ _ _ _ _ ra_1).mono ?_
  rintro e w2 ⟨x, rfl, hx, bw2⟩
  have ra_2 := ra_1.step bw2
  have rb_2 := rb_1.step bw2
  have rc_2 := rc_1.step bw2
  have c_2 := step_trans c_1 bw2
  have z_2 := bw2.size
  go_wp2_with (fail)
  refine (make_any _ (by omega) (by omega) _ _ _ _ _ rb_2).mono ?_
  rintro e w3 ⟨y, rfl, hy, bw3⟩
  have ra_3 := ra_2.step bw3
  have rb_3 := rb_2.step bw3
  have rc_3 := rc_2.step bw3
  have c_3 := step_trans c_2 bw3
  have z_3 := bw3.size
  go_wp2_with (fail)
  refine (make_any _ (by omega) (by omega) _ _ _ _ _ rc_3).mono ?_
  rintro e w4 ⟨z, rfl, hz, bw4⟩
  have ra_4 := ra_3.step bw4
  have rb_4 := rb_3.step bw4
  have rc_4 := rc_3.step bw4
  have c_4 := step_trans c_3 bw4
  have z_4 := bw4.size
  go_wp2_with (first | (refine wpList_store_num rfl _ (.tmp 13) _ rfl _ rfl _ rfl _ rfl (news3 w4 _).1 size26 ?_; intro w5 gw5 mw5) | (refine wpList_store_num rfl _ (.tmp 14) _ rfl _ rfl _ rfl _ rfl ((gw5.block _ (by simp) (by simp)).trans (news3 w4 _).2.1) size26 ?_; intro w6 gw6 mw6) | (refine wpList_store_num rfl _ (.tmp 15) _ rfl _ rfl _ rfl _ rfl ((gw6.block _ (by have := gw5.size; simp at this; omega) (by simp <;> omega)).trans ((gw5.block _ (by simp <;> omega) (by simp <;> omega)).trans (news3 w4 _).2.2)) size26 ?_; intro w7 gw7 mw7; have b_1 := step_new3 gw5 gw6 gw7; have qw5 := ((mw5.grown gw6 (by simp <;> omega)).grown gw7 (by simp <;> omega)); have qw6 := (mw6.grown gw7 (by simp <;> omega)); have c_5 := step_trans c_4 b_1; have z_5 := b_1.size; have lw5 := qw5.lt; have lw6 := qw6.lt; have lw7 := mw7.lt) | (refine wpList_load_num rfl _ (.tmp 13) rfl _ rfl _ _ _ qw5 Try.underlying26 rfl size26 ?_) | (refine wpList_load_num rfl _ (.tmp 14) rfl _ rfl _ _ _ qw6 Try.underlying26 rfl size26 ?_) | (refine wpList_load_num rfl _ (.tmp 15) rfl _ rfl _ _ _ mw7 Try.underlying26 rfl size26 ?_))
  refine (add_num (x) (y) (by first | assumption | exact addN_lt (by assumption) (by assumption) | exact subN_lt (by assumption) (by assumption)) (by first | assumption | exact addN_lt (by assumption) (by assumption) | exact subN_lt (by assumption) (by assumption)) _).mono ?_
  rintro e w8 ⟨rfl, bw8⟩
  have x_1 := qw5.step bw8
  have y_1 := qw6.step bw8
  have z_6 := mw7.step bw8
  have c_6 := step_trans c_5 bw8
  have z_7 := bw8.size
  go_wp2_with (first | (refine wpList_store_num rfl _ (.tmp 16) _ rfl _ rfl _ rfl _ rfl (heap_alloc_new _ _) size26 ?_; intro w9 gw9 mw9; have b_2 := step_new gw9; have x_2 := x_1.step b_2; have y_2 := y_1.step b_2; have z_8 := z_6.step b_2; have c_7 := step_trans c_6 b_2; have z_9 := b_2.size; have lw9 := mw9.lt) | (refine wpList_load_num rfl _ (.tmp 13) rfl _ rfl _ _ _ x_2 Try.underlying26 rfl size26 ?_) | (refine wpList_load_num rfl _ (.tmp 14) rfl _ rfl _ _ _ y_2 Try.underlying26 rfl size26 ?_) | (refine wpList_load_num rfl _ (.tmp 15) rfl _ rfl _ _ _ z_8 Try.underlying26 rfl size26 ?_) | (refine wpList_load_num rfl _ (.tmp 16) rfl _ rfl _ _ _ mw9 Try.underlying26 rfl size26 ?_))
  refine (add_num (addN x y) (z) (by first | assumption | exact addN_lt (by assumption) (by assumption) | exact subN_lt (by assumption) (by assumption)) (by first | assumption | exact addN_lt (by assumption) (by assumption) | exact subN_lt (by assumption) (by assumption)) _).mono ?_
  rintro e w10 ⟨rfl, bw10⟩
  have x_3 := x_2.step bw10
  have y_3 := y_2.step bw10
  have z_10 := z_8.step bw10
  have s_1 := mw9.step bw10
  have c_8 := step_trans c_7 bw10
  have z_11 := bw10.size
  go_wp2_with (first | (refine wpList_store_num rfl _ (.tmp 16) _ rfl _ rfl _ rfl _ rfl s_1 size26 ?_; intro w11 gw11 mw11; have x_4 := x_3.grown gw11 (by simp; omega); have y_4 := y_3.grown gw11 (by simp; omega); have z_12 := z_10.grown gw11 (by simp; omega); have c_9 := below_of_grown c_8 gw11 (by omega) (by omega); have z_13 := gw11.size) | (refine wpList_load_num rfl _ (.tmp 13) rfl _ rfl _ _ _ x_4 Try.underlying26 rfl size26 ?_) | (refine wpList_load_num rfl _ (.tmp 14) rfl _ rfl _ _ _ y_4 Try.underlying26 rfl size26 ?_) | (refine wpList_load_num rfl _ (.tmp 15) rfl _ rfl _ _ _ z_12 Try.underlying26 rfl size26 ?_) | (refine wpList_load_num rfl _ (.tmp 16) rfl _ rfl _ _ _ mw11 Try.underlying26 rfl size26 ?_))
  refine (add_num (y) (z) (by first | assumption | exact addN_lt (by assumption) (by assumption) | exact subN_lt (by assumption) (by assumption)) (by first | assumption | exact addN_lt (by assumption) (by assumption) | exact subN_lt (by assumption) (by assumption)) _).mono ?_
  rintro e w12 ⟨rfl, bw12⟩
  have x_5 := x_4.step bw12
  have y_5 := y_4.step bw12
  have z_14 := z_12.step bw12
  have s_2 := mw11.step bw12
  have c_10 := step_trans c_9 bw12
  have z_15 := bw12.size
  go_wp2_with (first | (refine wpList_store_num rfl _ (.tmp 19) _ rfl _ rfl _ rfl _ rfl (heap_alloc_new _ _) size26 ?_; intro w13 gw13 mw13; have b_3 := step_new gw13; have x_6 := x_5.step b_3; have y_6 := y_5.step b_3; have z_16 := z_14.step b_3; have s_3 := s_2.step b_3; have c_11 := step_trans c_10 b_3; have z_17 := b_3.size; have lw13 := mw13.lt) | (refine wpList_load_num rfl _ (.tmp 13) rfl _ rfl _ _ _ x_6 Try.underlying26 rfl size26 ?_) | (refine wpList_load_num rfl _ (.tmp 14) rfl _ rfl _ _ _ y_6 Try.underlying26 rfl size26 ?_) | (refine wpList_load_num rfl _ (.tmp 15) rfl _ rfl _ _ _ z_16 Try.underlying26 rfl size26 ?_) | (refine wpList_load_num rfl _ (.tmp 16) rfl _ rfl _ _ _ s_3 Try.underlying26 rfl size26 ?_) | (refine wpList_load_num rfl _ (.tmp 19) rfl _ rfl _ _ _ mw13 Try.underlying26 rfl size26 ?_))
  refine (add_num (x) (addN y z) (by first | assumption | exact addN_lt (by assumption) (by assumption) | exact subN_lt (by assumption) (by assumption)) (by first | assumption | exact addN_lt (by assumption) (by assumption) | exact subN_lt (by assumption) (by assumption)) _).mono ?_
  rintro e w14 ⟨rfl, bw14⟩
  have x_7 := x_6.step bw14
  have y_7 := y_6.step bw14
  have z_18 := z_16.step bw14
  have s_4 := s_3.step bw14
  have t_1 := mw13.step bw14
  have c_12 := step_trans c_11 bw14
  have z_19 := bw14.size
  go_wp2_with (first | (refine wpList_store_num rfl _ (.tmp 19) _ rfl _ rfl _ rfl _ rfl t_1 size26 ?_; intro w15 gw15 mw15; have x_8 := x_7.grown gw15 (by simp; omega); have y_8 := y_7.grown gw15 (by simp; omega); have z_20 := z_18.grown gw15 (by simp; omega); have s_5 := s_4.grown gw15 (by simp; omega); have c_13 := below_of_grown c_12 gw15 (by omega) (by omega); have z_21 := gw15.size) | (refine wpList_load_num rfl _ (.tmp 13) rfl _ rfl _ _ _ x_8 Try.underlying26 rfl size26 ?_) | (refine wpList_load_num rfl _ (.tmp 14) rfl _ rfl _ _ _ y_8 Try.underlying26 rfl size26 ?_) | (refine wpList_load_num rfl _ (.tmp 15) rfl _ rfl _ _ _ z_20 Try.underlying26 rfl size26 ?_) | (refine wpList_load_num rfl _ (.tmp 16) rfl _ rfl _ _ _ s_5 Try.underlying26 rfl size26 ?_) | (refine wpList_load_num rfl _ (.tmp 19) rfl _ rfl _ _ _ mw15 Try.underlying26 rfl size26 ?_))
  refine (sub_any (x) (y) (by first | assumption | exact addN_lt (by assumption) (by assumption) | exact subN_lt (by assumption) (by assumption)) (by first | assumption | exact addN_lt (by assumption) (by assumption) | exact subN_lt (by assumption) (by assumption)) _).mono ?_
  rintro e w16 ⟨rfl, bw16⟩
  have x_9 := x_8.step bw16
  have y_9 := y_8.step bw16
  have z_22 := z_20.step bw16
  have s_6 := s_5.step bw16
  have t_2 := mw15.step bw16
  have c_14 := step_trans c_13 bw16
  have z_23 := bw16.size
  go_wp2_with (first | (refine wpList_store_num rfl _ (.tmp 22) _ rfl _ rfl _ rfl _ rfl (heap_alloc_new _ _) size26 ?_; intro w17 gw17 mw17; have b_4 := step_new gw17; have x_10 := x_9.step b_4; have y_10 := y_9.step b_4; have z_24 := z_22.step b_4; have s_7 := s_6.step b_4; have t_3 := t_2.step b_4; have c_15 := step_trans c_14 b_4; have z_25 := b_4.size; have lw17 := mw17.lt) | (refine wpList_load_num rfl _ (.tmp 13) rfl _ rfl _ _ _ x_10 Try.underlying26 rfl size26 ?_) | (refine wpList_load_num rfl _ (.tmp 14) rfl _ rfl _ _ _ y_10 Try.underlying26 rfl size26 ?_) | (refine wpList_load_num rfl _ (.tmp 15) rfl _ rfl _ _ _ z_24 Try.underlying26 rfl size26 ?_) | (refine wpList_load_num rfl _ (.tmp 16) rfl _ rfl _ _ _ s_7 Try.underlying26 rfl size26 ?_) | (refine wpList_load_num rfl _ (.tmp 19) rfl _ rfl _ _ _ t_3 Try.underlying26 rfl size26 ?_) | (refine wpList_load_num rfl _ (.tmp 22) rfl _ rfl _ _ _ mw17 Try.underlying26 rfl size26 ?_))
  refine (sub_any (subN x y) (z) (by first | assumption | exact addN_lt (by assumption) (by assumption) | exact subN_lt (by assumption) (by assumption)) (by first | assumption | exact addN_lt (by assumption) (by assumption) | exact subN_lt (by assumption) (by assumption)) _).mono ?_
  rintro e w18 ⟨rfl, bw18⟩
  have x_11 := x_10.step bw18
  have y_11 := y_10.step bw18
  have z_26 := z_24.step bw18
  have s_8 := s_7.step bw18
  have t_4 := t_3.step bw18
  have d_1 := mw17.step bw18
  have c_16 := step_trans c_15 bw18
  have z_27 := bw18.size
  go_wp2_with (first | (refine wpList_store_num rfl _ (.tmp 22) _ rfl _ rfl _ rfl _ rfl d_1 size26 ?_; intro w19 gw19 mw19; have x_12 := x_11.grown gw19 (by simp; omega); have y_12 := y_11.grown gw19 (by simp; omega); have z_28 := z_26.grown gw19 (by simp; omega); have s_9 := s_8.grown gw19 (by simp; omega); have t_5 := t_4.grown gw19 (by simp; omega); have c_17 := below_of_grown c_16 gw19 (by omega) (by omega); have z_29 := gw19.size) | (refine wpList_load_num rfl _ (.tmp 13) rfl _ rfl _ _ _ x_12 Try.underlying26 rfl size26 ?_) | (refine wpList_load_num rfl _ (.tmp 14) rfl _ rfl _ _ _ y_12 Try.underlying26 rfl size26 ?_) | (refine wpList_load_num rfl _ (.tmp 15) rfl _ rfl _ _ _ z_28 Try.underlying26 rfl size26 ?_) | (refine wpList_load_num rfl _ (.tmp 16) rfl _ rfl _ _ _ s_9 Try.underlying26 rfl size26 ?_) | (refine wpList_load_num rfl _ (.tmp 19) rfl _ rfl _ _ _ t_5 Try.underlying26 rfl size26 ?_) | (refine wpList_load_num rfl _ (.tmp 22) rfl _ rfl _ _ _ mw19 Try.underlying26 rfl size26 ?_))
  refine (sub_any (x) (z) (by first | assumption | exact addN_lt (by assumption) (by assumption) | exact subN_lt (by assumption) (by assumption)) (by first | assumption | exact addN_lt (by assumption) (by assumption) | exact subN_lt (by assumption) (by assumption)) _).mono ?_
  rintro e w20 ⟨rfl, bw20⟩
  have x_13 := x_12.step bw20
  have y_13 := y_12.step bw20
  have z_30 := z_28.step bw20
  have s_10 := s_9.step bw20
  have t_6 := t_5.step bw20
  have d_2 := mw19.step bw20
  have c_18 := step_trans c_17 bw20
  have z_31 := bw20.size
  go_wp2_with (first | (refine wpList_store_num rfl _ (.tmp 25) _ rfl _ rfl _ rfl _ rfl (heap_alloc_new _ _) size26 ?_; intro w21 gw21 mw21; have b_5 := step_new gw21; have x_14 := x_13.step b_5; have y_14 := y_13.step b_5; have z_32 := z_30.step b_5; have s_11 := s_10.step b_5; have t_7 := t_6.step b_5; have d_3 := d_2.step b_5; have c_19 := step_trans c_18 b_5; have z_33 := b_5.size; have lw21 := mw21.lt) | (refine wpList_load_num rfl _ (.tmp 13) rfl _ rfl _ _ _ x_14 Try.underlying26 rfl size26 ?_) | (refine wpList_load_num rfl _ (.tmp 14) rfl _ rfl _ _ _ y_14 Try.underlying26 rfl size26 ?_) | (refine wpList_load_num rfl _ (.tmp 15) rfl _ rfl _ _ _ z_32 Try.underlying26 rfl size26 ?_) | (refine wpList_load_num rfl _ (.tmp 16) rfl _ rfl _ _ _ s_11 Try.underlying26 rfl size26 ?_) | (refine wpList_load_num rfl _ (.tmp 19) rfl _ rfl _ _ _ t_7 Try.underlying26 rfl size26 ?_) | (refine wpList_load_num rfl _ (.tmp 22) rfl _ rfl _ _ _ d_3 Try.underlying26 rfl size26 ?_) | (refine wpList_load_num rfl _ (.tmp 25) rfl _ rfl _ _ _ mw21 Try.underlying26 rfl size26 ?_))
  refine (sub_any (subN x z) (y) (by first | assumption | exact addN_lt (by assumption) (by assumption) | exact subN_lt (by assumption) (by assumption)) (by first | assumption | exact addN_lt (by assumption) (by assumption) | exact subN_lt (by assumption) (by assumption)) _).mono ?_
  rintro e w22 ⟨rfl, bw22⟩
  have x_15 := x_14.step bw22
  have y_15 := y_14.step bw22
  have z_34 := z_32.step bw22
  have s_12 := s_11.step bw22
  have t_8 := t_7.step bw22
  have d_4 := d_3.step bw22
  have g_1 := mw21.step bw22
  have c_20 := step_trans c_19 bw22
  have z_35 := bw22.size
  obtain ⟨e1, q1⟩ := add_assoc_num hx hy hz
  obtain ⟨e2, q2⟩ := sub_swap_num hx hy hz
  have s_13 := s_12
  rw [e1] at s_13
  have d_5 := d_4
  rw [e2] at d_5
  have := overI_ge x y
  have := overI_le x y
  have := overI_ge (addN x y) z
  have := overI_le (addN x y) z
  have := overI_ge y z
  have := overI_le y z
  have := overI_ge x (addN y z)
  have := overI_le x (addN y z)
  have := lentI_ge x y
  have := lentI_le x y
  have := lentI_ge (subN x y) z
  have := lentI_le (subN x y) z
  have := lentI_ge x z
  have := lentI_le x z
  have := lentI_ge (subN x z) y
  have := lentI_le (subN x z) y
  clear e1 e2
  go_wp2_with (first | (refine wpList_store_num rfl _ (.tmp 25) _ rfl _ rfl _ rfl _ rfl g_1 size26 ?_; intro w23 gw23 mw23; have x_16 := x_15.grown gw23 (by simp; omega); have y_16 := y_15.grown gw23 (by simp; omega); have z_36 := z_34.grown gw23 (by simp; omega); have s_14 := s_13.grown gw23 (by simp; omega); have t_9 := t_8.grown gw23 (by simp; omega); have d_6 := d_5.grown gw23 (by simp; omega); have c_21 := below_of_grown c_20 gw23 (by omega) (by omega); have z_37 := gw23.size) | (refine wpList_load_num rfl _ (.tmp 13) rfl _ rfl _ _ _ x_16 Try.underlying26 rfl size26 ?_) | (refine wpList_load_num rfl _ (.tmp 14) rfl _ rfl _ _ _ y_16 Try.underlying26 rfl size26 ?_) | (refine wpList_load_num rfl _ (.tmp 15) rfl _ rfl _ _ _ z_36 Try.underlying26 rfl size26 ?_) | (refine wpList_load_num rfl _ (.tmp 16) rfl _ rfl _ _ _ s_14 Try.underlying26 rfl size26 ?_) | (refine wpList_load_num rfl _ (.tmp 19) rfl _ rfl _ _ _ t_9 Try.underlying26 rfl size26 ?_) | (refine wpList_load_num rfl _ (.tmp 22) rfl _ rfl _ _ _ d_6 Try.underlying26 rfl size26 ?_) | (refine wpList_load_num rfl _ (.tmp 25) rfl _ rfl _ _ _ mw23 Try.underlying26 rfl size26 ?_))
  go_ret
  exact ⟨rfl, c_21⟩
end Go.Proofs.Ytiffgmkeengdkaa
