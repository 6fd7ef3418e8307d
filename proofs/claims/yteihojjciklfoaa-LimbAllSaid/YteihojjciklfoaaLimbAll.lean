/- sentinellaw1.LimbAll: the walk. -/
import Derived.Test.YteihojjciklfoaaKnown
import Derived.Test.YteihojjciklfoaaRest
import Derived.Test.YteihojjciklfoaaRefZ
import Derived.Test.YteihojjciklfoaaRefM
import Derived.Test.YteihojjciklfoaaPick
import Derived.Test.YteihojjciklfoaaNews
import Derived.Test.YteihojjciklfoaaEqn
namespace Go.Proofs.Yteihojjciklfoaa
set_option linter.unusedVariables false
set_option linter.unusedSimpArgs false
open Go.ChangeShapes Go.WideShapes Go.ChangeAt Go.RowKit
attribute [local go_sem] eqn_same
theorem all_pack {x y z : Nat} (hx : x < 4294967296 ^ 8) (hy : y < 4294967296 ^ 8) (hz : z < 4294967296 ^ 8) {n : Int} (hn : -9223372036854775808 ≤ n) (hn' : n < 9223372036854775808) : ∃ S E L H G F K : Nat, ∃ P V D B : Int, ∃ k : Bool,
    RunsTo 17 #[numV x, numV y] (.tuple #[numV S, .int .u32 P]) ∧
    RunsTo 18 #[numV x, numV y] (.tuple #[numV S, .int .u32 P]) ∧
    RunsTo 19 #[numV x, numV y] (.tuple #[numV E, .int .u32 V]) ∧
    RunsTo 20 #[numV x, numV y] (.tuple #[numV E, .int .u32 V]) ∧
    RunsTo 21 #[numV x, numV y] (.tuple #[numV L, numV H]) ∧
    RunsTo 22 #[numV x, numV y] (.tuple #[numV L, numV H]) ∧
    RunsTo 23 #[numV x, numV y, numV z] (.tuple #[numV G, .bool k]) ∧
    RunsTo 24 #[numV x, numV y, numV z] (.tuple #[numV G, .bool k]) ∧
    RunsTo 25 #[numV x, numV y] (.int .i64 D) ∧
    RunsTo 26 #[numV x, numV y] (.int .i64 D) ∧
    RunsTo 27 #[numV x] (.int .i64 B) ∧
    RunsTo 28 #[numV x] (.int .i64 B) ∧
    RunsTo 29 #[.int .i64 n] (numV F) ∧
    RunsTo 30 #[.int .i64 n] (numV F) ∧
    RunsTo 31 #[.int .u32 (n % 4294967296), numV x, numV y] (numV K) ∧
    RunsTo 32 #[.int .u32 (n % 4294967296), numV x, numV y] (numV K) :=
  ⟨addN x y, subN x y, x * y % 4294967296 ^ 8, x * y / 4294967296 ^ 8, if z = 0 then 0 else (x + y * 4294967296 ^ 8) % z, n.toNat, pickN (n % 4294967296) x y, overI x y, lentI x y, cmpI x y, topI x 8, decide (z ≠ 0),
    add_num x y hx hy, radd_any x y hx hy, sub_any x y hx hy, rsub_any x y hx hy, mul_any x y hx hy, rmul_any x y hx hy, rest_any x y z hx hy hz, rrest_any x y z hx hy hz, cmp_any x y hx hy, rcmp_any x y hx hy, bits_any x, rbits_any x hx,
    from_any n hn hn', from_ref n hn hn', pick_any _ (by omega) (by omega) x y, pick_ref _ (by omega) (by omega) x y⟩
set_option maxRecDepth 100000 in
set_option maxHeartbeats 20000000 in
theorem LimbAll_walk (a0 : Int) (hk0 : -9223372036854775808 ≤ a0) (hl0 : a0 < 9223372036854775808)
    (A1 : Option Addr) (n1 cap1 : Nat) (x1 : Nat → Int)
    (a2 : Int) (hk2 : -9223372036854775808 ≤ a2) (hl2 : a2 < 9223372036854775808)
    (A3 : Option Addr) (n3 cap3 : Nat) (x3 : Nat → Int)
    (a4 : Int) (hk4 : -9223372036854775808 ≤ a4) (hl4 : a4 < 9223372036854775808)
    (A5 : Option Addr) (n5 cap5 : Nat) (x5 : Nat → Int)
    (a6 : Int) (hk6 : -9223372036854775808 ≤ a6) (hl6 : a6 < 9223372036854775808) (w : World) (hr1 : RdI w A1 n1 x1) (hr3 : RdI w A3 n3 x3) (hr5 : RdI w A5 n5 x5) :
    Calls Try.prog 3 #[.int .i64 a0, .slice A1 n1 cap1, .int .i64 a2, .slice A3 n3 cap3, .int .i64 a4, .slice A5 n5 cap5, .int .i64 a6] w fun e w' => e = .returned (.bool true) ∧ Below w.heap.size w w' := by
  have ng := noGuard
  go_enter Try.func3, Try.ntmps3
  go_wp2_with (fail)
  refine (known_any _).mono ?_
  rintro e w1 ⟨rfl, bw1⟩
  have r1_1 := hr1.step bw1
  have r3_1 := hr3.step bw1
  have r5_1 := hr5.step bw1
  have c_1 := bw1
  clear hr1 hr3 hr5 bw1
  go_wp2_with (fail)
  refine (make_any _ (by omega) (by omega) _ _ _ _ _ r1_1).mono ?_
  rintro e w2 ⟨x, rfl, hx, bw2⟩
  have r1_2 := r1_1.step bw2
  have r3_2 := r3_1.step bw2
  have r5_2 := r5_1.step bw2
  have c_2 := step_trans c_1 bw2
  clear r1_1 r3_1 r5_1 c_1 bw2
  go_wp2_with (fail)
  refine (make_any _ (by omega) (by omega) _ _ _ _ _ r3_2).mono ?_
  rintro e w3 ⟨y, rfl, hy, bw3⟩
  have r3_3 := r3_2.step bw3
  have r5_3 := r5_2.step bw3
  have c_3 := step_trans c_2 bw3
  clear r3_2 r5_2 c_2 bw3
  go_wp2_with (fail)
  refine (make_any _ (by omega) (by omega) _ _ _ _ _ r5_3).mono ?_
  rintro e w4 ⟨z, rfl, hz, bw4⟩
  have r5_4 := r5_3.step bw4
  have c_4 := step_trans c_3 bw4
  clear r5_3 c_3 bw4
  obtain ⟨S, E, L, H, G, F, K, P, V, D, B, kb, k0, k1, k2, k3, k4, k5, k6, k7, k8, k9, k10, k11, k12, k13, k14, k15⟩ := all_pack hx hy hz hk6 hl6
  clear hx hy hz
  go_wp2_with (first | (refine wpList_store_num rfl _ (.tmp 15) _ rfl _ rfl _ rfl _ rfl (news3 w4 _).1 size26 ?_; intro w5 gw5 mw5) | (refine wpList_store_num rfl _ (.tmp 16) _ rfl _ rfl _ rfl _ rfl ((gw5.block _ (by simp) (by simp)).trans (news3 w4 _).2.1) size26 ?_; intro w6 gw6 mw6) | (refine wpList_store_num rfl _ (.tmp 17) _ rfl _ rfl _ rfl _ rfl ((gw6.block _ (by have := gw5.size; simp at this; omega) (by simp <;> omega)).trans ((gw5.block _ (by simp <;> omega) (by simp <;> omega)).trans (news3 w4 _).2.2)) size26 ?_; intro w7 gw7 mw7; have b_1 := step_new3 gw5 gw6 gw7; have qw5 := ((mw5.grown gw6 (by simp <;> omega)).grown gw7 (by simp <;> omega)); have qw6 := (mw6.grown gw7 (by simp <;> omega)); have c_5 := step_trans c_4 b_1; clear c_4 b_1 gw5 gw6 gw7 mw5 mw6) | (refine wpList_load_num rfl _ (.tmp 15) rfl _ rfl _ _ _ qw5 Try.underlying26 rfl size26 ?_) | (refine wpList_load_num rfl _ (.tmp 16) rfl _ rfl _ _ _ qw6 Try.underlying26 rfl size26 ?_))
  refine (k0 _).mono ?_
  rintro e w8 ⟨rfl, bw8⟩
  have x_1 := qw5.step bw8
  have y_1 := qw6.step bw8
  have z_1 := mw7.step bw8
  have c_6 := step_trans c_5 bw8
  clear qw5 qw6 mw7 c_5 bw8
  go_wp2_with (first | (refine wpList_store_num rfl _ (.tmp 18) _ rfl _ rfl _ rfl _ rfl (heap_alloc_new _ _) size26 ?_; intro w9 gw9 mw9; have b_2 := step_new gw9; have x_2 := x_1.step b_2; have y_2 := y_1.step b_2; have z_2 := z_1.step b_2; have c_7 := step_trans c_6 b_2; clear x_1 y_1 z_1 c_6 b_2 gw9) | (refine wpList_load_num rfl _ (.tmp 15) rfl _ rfl _ _ _ x_2 Try.underlying26 rfl size26 ?_) | (refine wpList_load_num rfl _ (.tmp 16) rfl _ rfl _ _ _ y_2 Try.underlying26 rfl size26 ?_))
  refine (k1 _).mono ?_
  rintro e w10 ⟨rfl, bw10⟩
  have x_3 := x_2.step bw10
  have y_3 := y_2.step bw10
  have z_3 := z_2.step bw10
  have s_1 := mw9.step bw10
  have c_8 := step_trans c_7 bw10
  clear x_2 y_2 z_2 mw9 c_7 bw10
  go_wp2_with (first | (refine wpList_store_num rfl _ (.tmp 20) _ rfl _ rfl _ rfl _ rfl (heap_alloc_new _ _) size26 ?_; intro w11 gw11 mw11; have b_3 := step_new gw11; have x_4 := x_3.step b_3; have y_4 := y_3.step b_3; have z_4 := z_3.step b_3; have s_2 := s_1.step b_3; have c_9 := step_trans c_8 b_3; clear x_3 y_3 z_3 s_1 c_8 b_3 gw11) | (refine wpList_load_num rfl _ (.tmp 15) rfl _ rfl _ _ _ x_4 Try.underlying26 rfl size26 ?_) | (refine wpList_load_num rfl _ (.tmp 16) rfl _ rfl _ _ _ y_4 Try.underlying26 rfl size26 ?_))
  refine (k2 _).mono ?_
  rintro e w12 ⟨rfl, bw12⟩
  have x_5 := x_4.step bw12
  have y_5 := y_4.step bw12
  have z_5 := z_4.step bw12
  have s_3 := s_2.step bw12
  have t_1 := mw11.step bw12
  have c_10 := step_trans c_9 bw12
  clear x_4 y_4 z_4 s_2 mw11 c_9 bw12
  go_wp2_with (first | (refine wpList_store_num rfl _ (.tmp 22) _ rfl _ rfl _ rfl _ rfl (heap_alloc_new _ _) size26 ?_; intro w13 gw13 mw13; have b_4 := step_new gw13; have x_6 := x_5.step b_4; have y_6 := y_5.step b_4; have z_6 := z_5.step b_4; have s_4 := s_3.step b_4; have t_2 := t_1.step b_4; have c_11 := step_trans c_10 b_4; clear x_5 y_5 z_5 s_3 t_1 c_10 b_4 gw13) | (refine wpList_load_num rfl _ (.tmp 15) rfl _ rfl _ _ _ x_6 Try.underlying26 rfl size26 ?_) | (refine wpList_load_num rfl _ (.tmp 16) rfl _ rfl _ _ _ y_6 Try.underlying26 rfl size26 ?_))
  refine (k3 _).mono ?_
  rintro e w14 ⟨rfl, bw14⟩
  have x_7 := x_6.step bw14
  have y_7 := y_6.step bw14
  have z_7 := z_6.step bw14
  have s_5 := s_4.step bw14
  have t_3 := t_2.step bw14
  have d_1 := mw13.step bw14
  have c_12 := step_trans c_11 bw14
  clear x_6 y_6 z_6 s_4 t_2 mw13 c_11 bw14
  go_wp2_with (first | (refine wpList_store_num rfl _ (.tmp 24) _ rfl _ rfl _ rfl _ rfl (heap_alloc_new _ _) size26 ?_; intro w15 gw15 mw15; have b_5 := step_new gw15; have x_8 := x_7.step b_5; have y_8 := y_7.step b_5; have z_8 := z_7.step b_5; have s_6 := s_5.step b_5; have t_4 := t_3.step b_5; have d_2 := d_1.step b_5; have c_13 := step_trans c_12 b_5; clear x_7 y_7 z_7 s_5 t_3 d_1 c_12 b_5 gw15) | (refine wpList_load_num rfl _ (.tmp 15) rfl _ rfl _ _ _ x_8 Try.underlying26 rfl size26 ?_) | (refine wpList_load_num rfl _ (.tmp 16) rfl _ rfl _ _ _ y_8 Try.underlying26 rfl size26 ?_))
  refine (k4 _).mono ?_
  rintro e w16 ⟨rfl, bw16⟩
  have x_9 := x_8.step bw16
  have y_9 := y_8.step bw16
  have z_9 := z_8.step bw16
  have s_7 := s_6.step bw16
  have t_5 := t_4.step bw16
  have d_3 := d_2.step bw16
  have e_1 := mw15.step bw16
  have c_14 := step_trans c_13 bw16
  clear x_8 y_8 z_8 s_6 t_4 d_2 mw15 c_13 bw16
  go_wp2_with (first | (refine wpList_store_num rfl _ (.tmp 26) _ rfl _ rfl _ rfl _ rfl (news2 w16 _).1 size26 ?_; intro w17 gw17 mw17) | (refine wpList_store_num rfl _ (.tmp 27) _ rfl _ rfl _ rfl _ rfl ((gw17.block _ (by simp) (by simp)).trans (news2 w16 _).2) size26 ?_; intro w18 gw18 mw18; have b_6 := step_new2 gw17 gw18; have qw17 := (mw17.grown gw18 (by simp <;> omega)); have x_10 := x_9.step b_6; have y_10 := y_9.step b_6; have z_10 := z_9.step b_6; have s_8 := s_7.step b_6; have t_6 := t_5.step b_6; have d_4 := d_3.step b_6; have e_2 := e_1.step b_6; have c_15 := step_trans c_14 b_6; clear x_9 y_9 z_9 s_7 t_5 d_3 e_1 c_14 b_6 gw17 gw18 mw17) | (refine wpList_load_num rfl _ (.tmp 15) rfl _ rfl _ _ _ x_10 Try.underlying26 rfl size26 ?_) | (refine wpList_load_num rfl _ (.tmp 16) rfl _ rfl _ _ _ y_10 Try.underlying26 rfl size26 ?_))
  refine (k5 _).mono ?_
  rintro e w19 ⟨rfl, bw19⟩
  have x_11 := x_10.step bw19
  have y_11 := y_10.step bw19
  have z_11 := z_10.step bw19
  have s_9 := s_8.step bw19
  have t_7 := t_6.step bw19
  have d_5 := d_4.step bw19
  have e_3 := e_2.step bw19
  have l_1 := qw17.step bw19
  have h_1 := mw18.step bw19
  have c_16 := step_trans c_15 bw19
  clear x_10 y_10 z_10 s_8 t_6 d_4 e_2 qw17 mw18 c_15 bw19
  go_wp2_with (first | (refine wpList_store_num rfl _ (.tmp 28) _ rfl _ rfl _ rfl _ rfl (news2 w19 _).1 size26 ?_; intro w20 gw20 mw20) | (refine wpList_store_num rfl _ (.tmp 29) _ rfl _ rfl _ rfl _ rfl ((gw20.block _ (by simp) (by simp)).trans (news2 w19 _).2) size26 ?_; intro w21 gw21 mw21; have b_7 := step_new2 gw20 gw21; have qw20 := (mw20.grown gw21 (by simp <;> omega)); have x_12 := x_11.step b_7; have y_12 := y_11.step b_7; have z_12 := z_11.step b_7; have s_10 := s_9.step b_7; have t_8 := t_7.step b_7; have d_6 := d_5.step b_7; have e_4 := e_3.step b_7; have l_2 := l_1.step b_7; have h_2 := h_1.step b_7; have c_17 := step_trans c_16 b_7; clear x_11 y_11 z_11 s_9 t_7 d_5 e_3 l_1 h_1 c_16 b_7 gw20 gw21 mw20) | (refine wpList_load_num rfl _ (.tmp 15) rfl _ rfl _ _ _ x_12 Try.underlying26 rfl size26 ?_) | (refine wpList_load_num rfl _ (.tmp 16) rfl _ rfl _ _ _ y_12 Try.underlying26 rfl size26 ?_) | (refine wpList_load_num rfl _ (.tmp 17) rfl _ rfl _ _ _ z_12 Try.underlying26 rfl size26 ?_))
  refine (k6 _).mono ?_
  rintro e w22 ⟨rfl, bw22⟩
  have x_13 := x_12.step bw22
  have y_13 := y_12.step bw22
  have z_13 := z_12.step bw22
  have s_11 := s_10.step bw22
  have t_9 := t_8.step bw22
  have d_7 := d_6.step bw22
  have e_5 := e_4.step bw22
  have l_3 := l_2.step bw22
  have h_3 := h_2.step bw22
  have l2_1 := qw20.step bw22
  have h2_1 := mw21.step bw22
  have c_18 := step_trans c_17 bw22
  clear x_12 y_12 z_12 s_10 t_8 d_6 e_4 l_2 h_2 qw20 mw21 c_17 bw22
  go_wp2_with (first | (refine wpList_store_num rfl _ (.tmp 30) _ rfl _ rfl _ rfl _ rfl (heap_alloc_new _ _) size26 ?_; intro w23 gw23 mw23; have b_8 := step_new gw23; have x_14 := x_13.step b_8; have y_14 := y_13.step b_8; have z_14 := z_13.step b_8; have s_12 := s_11.step b_8; have t_10 := t_9.step b_8; have d_8 := d_7.step b_8; have e_6 := e_5.step b_8; have l_4 := l_3.step b_8; have h_4 := h_3.step b_8; have l2_2 := l2_1.step b_8; have h2_2 := h2_1.step b_8; have c_19 := step_trans c_18 b_8; clear x_13 y_13 z_13 s_11 t_9 d_7 e_5 l_3 h_3 l2_1 h2_1 c_18 b_8 gw23) | (refine wpList_load_num rfl _ (.tmp 15) rfl _ rfl _ _ _ x_14 Try.underlying26 rfl size26 ?_) | (refine wpList_load_num rfl _ (.tmp 16) rfl _ rfl _ _ _ y_14 Try.underlying26 rfl size26 ?_) | (refine wpList_load_num rfl _ (.tmp 17) rfl _ rfl _ _ _ z_14 Try.underlying26 rfl size26 ?_))
  refine (k7 _).mono ?_
  rintro e w24 ⟨rfl, bw24⟩
  have x_15 := x_14.step bw24
  have y_15 := y_14.step bw24
  have z_15 := z_14.step bw24
  have s_13 := s_12.step bw24
  have t_11 := t_10.step bw24
  have d_9 := d_8.step bw24
  have e_7 := e_6.step bw24
  have l_5 := l_4.step bw24
  have h_5 := h_4.step bw24
  have l2_3 := l2_2.step bw24
  have h2_3 := h2_2.step bw24
  have r_1 := mw23.step bw24
  have c_20 := step_trans c_19 bw24
  clear x_14 y_14 z_14 s_12 t_10 d_8 e_6 l_4 h_4 l2_2 h2_2 mw23 c_19 bw24
  go_upto_region 12 with (first | (refine wpList_store_num rfl _ (.tmp 32) _ rfl _ rfl _ rfl _ rfl (heap_alloc_new _ _) size26 ?_; intro w25 gw25 mw25; have b_9 := step_new gw25; have x_16 := x_15.step b_9; have y_16 := y_15.step b_9; have z_16 := z_15.step b_9; have s_14 := s_13.step b_9; have t_12 := t_11.step b_9; have d_10 := d_9.step b_9; have e_8 := e_7.step b_9; have l_6 := l_5.step b_9; have h_6 := h_5.step b_9; have l2_4 := l2_3.step b_9; have h2_4 := h2_3.step b_9; have r_2 := r_1.step b_9; have c_21 := step_trans c_20 b_9; clear x_15 y_15 z_15 s_13 t_11 d_9 e_7 l_5 h_5 l2_3 h2_3 r_1 c_20 b_9 gw25) | (refine wpList_load_num rfl _ (.tmp 15) rfl _ rfl _ _ _ x_16 Try.underlying26 rfl size26 ?_) | (refine wpList_load_num rfl _ (.tmp 16) rfl _ rfl _ _ _ y_16 Try.underlying26 rfl size26 ?_) | (refine wpList_load_num rfl _ (.tmp 18) rfl _ rfl _ _ _ s_14 Try.underlying26 rfl size26 ?_) | (refine wpList_load_num rfl _ (.tmp 20) rfl _ rfl _ _ _ t_12 Try.underlying26 rfl size26 ?_) | (refine wpList_load_num rfl _ (.tmp 22) rfl _ rfl _ _ _ d_10 Try.underlying26 rfl size26 ?_) | (refine wpList_load_num rfl _ (.tmp 24) rfl _ rfl _ _ _ e_8 Try.underlying26 rfl size26 ?_) | (refine wpList_load_num rfl _ (.tmp 26) rfl _ rfl _ _ _ l_6 Try.underlying26 rfl size26 ?_) | (refine wpList_load_num rfl _ (.tmp 27) rfl _ rfl _ _ _ h_6 Try.underlying26 rfl size26 ?_) | (refine wpList_load_num rfl _ (.tmp 28) rfl _ rfl _ _ _ l2_4 Try.underlying26 rfl size26 ?_) | (refine wpList_load_num rfl _ (.tmp 29) rfl _ rfl _ _ _ h2_4 Try.underlying26 rfl size26 ?_) | (refine wpList_load_num rfl _ (.tmp 30) rfl _ rfl _ _ _ r_2 Try.underlying26 rfl size26 ?_) | (refine wpList_load_num rfl _ (.tmp 32) rfl _ rfl _ _ _ mw25 Try.underlying26 rfl size26 ?_))
  as_aux_lemma =>
    simp only [List.append_eq, List.cons_append, List.nil_append]
    refine wp_region_later (by kernel_rfl) (by kernel_rfl) ?_
    (refine wpQuiet_load_num rfl _ (.tmp 18) rfl _ rfl _ _ _ s_14 Try.underlying26 rfl size26 ?_; simp only [Act.put, List.setIfInBounds_toArray, List.set_cons_zero, List.set_cons_succ])
    (refine wpQuiet_load_num rfl _ (.tmp 20) rfl _ rfl _ _ _ t_12 Try.underlying26 rfl size26 ?_; simp only [Act.put, List.setIfInBounds_toArray, List.set_cons_zero, List.set_cons_succ])
    go_big_quiet_step (fail)
    go_big_quiet_step (fail)
    go_big_quiet_step (fail)
    go_big_quiet_step (fail)
    go_big_quiet_step (fail)
    go_big_quiet_step (fail)
    go_big_quiet_step (fail)
    first | (refine wpQuiet_load_num rfl _ (.tmp 22) rfl _ rfl _ _ _ d_10 Try.underlying26 rfl size26 ?_; simp only [Act.put, List.setIfInBounds_toArray, List.set_cons_zero, List.set_cons_succ]) | go_big_quiet_step (fail)
    first | (refine wpQuiet_load_num rfl _ (.tmp 24) rfl _ rfl _ _ _ e_8 Try.underlying26 rfl size26 ?_; simp only [Act.put, List.setIfInBounds_toArray, List.set_cons_zero, List.set_cons_succ]) | go_big_quiet_step (fail)
    go_big_quiet_step (fail)
    go_big_quiet_step (fail)
    go_big_quiet_step (fail)
    go_big_quiet_step (fail)
    go_big_quiet_step (fail)
    go_big_quiet_step (fail)
    go_big_quiet_step (fail)
    go_big_quiet_step (fail)
    first | (refine wpQuiet_load_num rfl _ (.tmp 26) rfl _ rfl _ _ _ l_6 Try.underlying26 rfl size26 ?_; simp only [Act.put, List.setIfInBounds_toArray, List.set_cons_zero, List.set_cons_succ]) | go_big_quiet_step (fail)
    first | (refine wpQuiet_load_num rfl _ (.tmp 28) rfl _ rfl _ _ _ l2_4 Try.underlying26 rfl size26 ?_; simp only [Act.put, List.setIfInBounds_toArray, List.set_cons_zero, List.set_cons_succ]) | go_big_quiet_step (fail)
    go_big_quiet_step (fail)
    go_big_quiet_step (fail)
    go_big_quiet_step (fail)
    first | (refine wpQuiet_load_num rfl _ (.tmp 27) rfl _ rfl _ _ _ h_6 Try.underlying26 rfl size26 ?_; simp only [Act.put, List.setIfInBounds_toArray, List.set_cons_zero, List.set_cons_succ]) | go_big_quiet_step (fail)
    first | (refine wpQuiet_load_num rfl _ (.tmp 29) rfl _ rfl _ _ _ h2_4 Try.underlying26 rfl size26 ?_; simp only [Act.put, List.setIfInBounds_toArray, List.set_cons_zero, List.set_cons_succ]) | go_big_quiet_step (fail)
    go_big_quiet_step (fail)
    go_big_quiet_step (fail)
    go_big_quiet_step (fail)
    first | (refine wpQuiet_load_num rfl _ (.tmp 30) rfl _ rfl _ _ _ r_2 Try.underlying26 rfl size26 ?_; simp only [Act.put, List.setIfInBounds_toArray, List.set_cons_zero, List.set_cons_succ]) | go_big_quiet_step (fail)
    first | (refine wpQuiet_load_num rfl _ (.tmp 32) rfl _ rfl _ _ _ mw25 Try.underlying26 rfl size26 ?_; simp only [Act.put, List.setIfInBounds_toArray, List.set_cons_zero, List.set_cons_succ]) | go_big_quiet_step (fail)
    go_big_quiet_step (fail)
    go_big_quiet_step (fail)
    go_big_quiet_step (fail)
    go_big_quiet_step (fail)
    go_big_quiet_step (fail)
    go_big_quiet_step (fail)
    go_big_quiet_step (fail)
    go_big_quiet_step (fail)
    first | (refine wpQuiet_load_num rfl _ (.tmp 15) rfl _ rfl _ _ _ x_16 Try.underlying26 rfl size26 ?_; simp only [Act.put, List.setIfInBounds_toArray, List.set_cons_zero, List.set_cons_succ]) | go_big_quiet_step (fail)
    first | (refine wpQuiet_load_num rfl _ (.tmp 16) rfl _ rfl _ _ _ y_16 Try.underlying26 rfl size26 ?_; simp only [Act.put, List.setIfInBounds_toArray, List.set_cons_zero, List.set_cons_succ]) | go_big_quiet_step (fail)
    go_big_quiet_step (exact later_of (k8 _))
    first | (refine wpQuiet_load_num rfl _ (.tmp 15) rfl _ rfl _ _ _ x_16 Try.underlying26 rfl size26 ?_; simp only [Act.put, List.setIfInBounds_toArray, List.set_cons_zero, List.set_cons_succ]) | go_big_quiet_step (fail)
    first | (refine wpQuiet_load_num rfl _ (.tmp 16) rfl _ rfl _ _ _ y_16 Try.underlying26 rfl size26 ?_; simp only [Act.put, List.setIfInBounds_toArray, List.set_cons_zero, List.set_cons_succ]) | go_big_quiet_step (fail)
    go_big_quiet_step (exact later_of (k9 _))
    go_big_quiet_step (fail)
    go_big_quiet_step (fail)
    go_big_quiet_step (fail)
    first | (refine wpQuiet_load_num rfl _ (.tmp 15) rfl _ rfl _ _ _ x_16 Try.underlying26 rfl size26 ?_; simp only [Act.put, List.setIfInBounds_toArray, List.set_cons_zero, List.set_cons_succ]) | go_big_quiet_step (fail)
    go_big_quiet_step (exact later_of (k10 _))
    first | (refine wpQuiet_load_num rfl _ (.tmp 15) rfl _ rfl _ _ _ x_16 Try.underlying26 rfl size26 ?_; simp only [Act.put, List.setIfInBounds_toArray, List.set_cons_zero, List.set_cons_succ]) | go_big_quiet_step (fail)
    go_big_quiet_step (exact later_of (k11 _))
    go_big_quiet_step (fail)
    go_big_quiet_step (fail)
    go_big_quiet_step (fail)
    go_big_quiet_step (fail)
    go_big_quiet_step (exact later_of (k12 _))
    go_big_quiet_step (fail)
    go_big_quiet_step (exact later_of (k13 _))
    go_big_quiet_step (fail)
    go_big_quiet_step (fail)
    go_big_quiet_step (fail)
    go_big_quiet_step (fail)
    go_big_quiet_step (fail)
    first | (refine wpQuiet_load_num rfl _ (.tmp 15) rfl _ rfl _ _ _ x_16 Try.underlying26 rfl size26 ?_; simp only [Act.put, List.setIfInBounds_toArray, List.set_cons_zero, List.set_cons_succ]) | go_big_quiet_step (fail)
    first | (refine wpQuiet_load_num rfl _ (.tmp 16) rfl _ rfl _ _ _ y_16 Try.underlying26 rfl size26 ?_; simp only [Act.put, List.setIfInBounds_toArray, List.set_cons_zero, List.set_cons_succ]) | go_big_quiet_step (fail)
    go_big_quiet_step (exact later_of (k14 _))
    go_big_quiet_step (fail)
    go_big_quiet_step (fail)
    first | (refine wpQuiet_load_num rfl _ (.tmp 15) rfl _ rfl _ _ _ x_16 Try.underlying26 rfl size26 ?_; simp only [Act.put, List.setIfInBounds_toArray, List.set_cons_zero, List.set_cons_succ]) | go_big_quiet_step (fail)
    first | (refine wpQuiet_load_num rfl _ (.tmp 16) rfl _ rfl _ _ _ y_16 Try.underlying26 rfl size26 ?_; simp only [Act.put, List.setIfInBounds_toArray, List.set_cons_zero, List.set_cons_succ]) | go_big_quiet_step (fail)
    go_big_quiet_step (exact later_of (k15 _))
    go_big_quiet_step (fail)
    go_big_quiet_step (fail)
    go_big_quiet_step (fail)
    refine wpQuiet_nil ?_
    intro X_1
    have x_17 := x_16.step X_1.h
    have y_17 := y_16.step X_1.h
    have z_17 := z_16.step X_1.h
    have s_15 := s_14.step X_1.h
    have t_13 := t_12.step X_1.h
    have d_11 := d_10.step X_1.h
    have e_9 := e_8.step X_1.h
    have l_7 := l_6.step X_1.h
    have h_7 := h_6.step X_1.h
    have l2_5 := l2_4.step X_1.h
    have h2_5 := h2_4.step X_1.h
    have r_3 := r_2.step X_1.h
    have w_1 := mw25.step X_1.h
    have c_22 := step_trans c_21 X_1.h
    clear x_16 y_16 z_16 s_14 t_12 d_10 e_8 l_6 h_6 l2_4 h2_4 r_2 mw25 c_21
    go_wp2
    go_ret
    exact ⟨rfl, c_22⟩
end Go.Proofs.Yteihojjciklfoaa
