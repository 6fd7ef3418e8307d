/- sentinellaw1.LimbLaws: the walk. -/
import Derived.Test.YteihojjciklfoaaKnown
import Derived.Test.YteihojjciklfoaaNorm
import Derived.Test.YteihojjciklfoaaNews
import Derived.Test.YteihojjciklfoaaEqn
namespace Go.Proofs.Yteihojjciklfoaa
set_option linter.unusedVariables false
set_option linter.unusedSimpArgs false
open Go.ChangeShapes Go.WideShapes Go.ChangeAt Go.RowKit
attribute [local go_sem] eqn_same
section
variable {x y z : Nat} (hx : x < 4294967296 ^ 8) (hy : y < 4294967296 ^ 8) (hz : z < 4294967296 ^ 8) (w : World)
include hx hy hz
theorem add_high : Calls Try.prog 17 #[numV (x * z / 4294967296 ^ 8), numV (y * z / 4294967296 ^ 8)] w fun e w' => e = .returned (.tuple #[numV (addN (x * z / 4294967296 ^ 8) (y * z / 4294967296 ^ 8)), .int .u32 (overI (x * z / 4294967296 ^ 8) (y * z / 4294967296 ^ 8))]) ∧ Below w.heap.size w w' :=
  add_num _ _ (Nat.div_lt_of_lt_mul (Nat.mul_lt_mul'' hx hz)) (Nat.div_lt_of_lt_mul (Nat.mul_lt_mul'' hy hz)) w
theorem add_high2 : Calls Try.prog 17 #[numV (addN (x * z / 4294967296 ^ 8) (y * z / 4294967296 ^ 8)), numV (overI (x * z % 4294967296 ^ 8) (y * z % 4294967296 ^ 8)).toNat] w fun e w' => e = .returned (.tuple #[numV (highN x y z), .int .u32 (overI (addN (x * z / 4294967296 ^ 8) (y * z / 4294967296 ^ 8)) (overI (x * z % 4294967296 ^ 8) (y * z % 4294967296 ^ 8)).toNat)]) ∧ Below w.heap.size w w' := by
  have h1 : x * z / 4294967296 ^ 8 < 4294967296 ^ 8 := Nat.div_lt_of_lt_mul (Nat.mul_lt_mul'' hx hz)
  have h2 : y * z / 4294967296 ^ 8 < 4294967296 ^ 8 := Nat.div_lt_of_lt_mul (Nat.mul_lt_mul'' hy hz)
  have h3 := overI_le (x * z % 4294967296 ^ 8) (y * z % 4294967296 ^ 8)
  have h := add_num (addN (x * z / 4294967296 ^ 8) (y * z / 4294967296 ^ 8)) (overI (x * z % 4294967296 ^ 8) (y * z % 4294967296 ^ 8)).toNat (addN_lt h1 h2) (by omega) w
  rw [high_num hx hy hz] at h
  exact h
theorem add_one (hp : overI x y = 1) : Calls Try.prog 17 #[numV (addN x y * z / 4294967296 ^ 8), numV z] w fun e w' => e = .returned (.tuple #[numV (highN x y z), .int .u32 (overI (addN x y * z / 4294967296 ^ 8) z)]) ∧ Below w.heap.size w w' := by
  have h := add_num (addN x y * z / 4294967296 ^ 8) z (Nat.div_lt_of_lt_mul (Nat.mul_lt_mul'' (addN_lt hx hy) hz)) hz w
  rw [high_one hx hy hz hp] at h
  exact h
end
theorem laws_pack {x y z : Nat} (hx : x < 4294967296 ^ 8) (hy : y < 4294967296 ^ 8) (hz : z < 4294967296 ^ 8) : ∃ S L H E F XZ XH YZ YH SZ SH H1 H2 : Nat, ∃ P V W C D O1 O2 O3 O4 : Int,
    0 ≤ P ∧ P ≤ 1 ∧
    0 ≤ C ∧ C ≤ 1 ∧
    RunsTo 17 #[numV x, numV y] (.tuple #[numV S, .int .u32 P]) ∧
    RunsTo 19 #[numV S, numV y] (.tuple #[numV x, .int .u32 P]) ∧
    RunsTo 17 #[numV y, numV x] (.tuple #[numV S, .int .u32 P]) ∧
    RunsTo 21 #[numV x, numV y] (.tuple #[numV L, numV H]) ∧
    RunsTo 21 #[numV y, numV x] (.tuple #[numV L, numV H]) ∧
    RunsTo 19 #[numV x, numV y] (.tuple #[numV E, .int .u32 V]) ∧
    RunsTo 19 #[numV y, numV x] (.tuple #[numV F, .int .u32 W]) ∧
    RunsTo 17 #[numV E, numV F] (.tuple #[numV 0, .int .u32 O1]) ∧
    RunsTo 25 #[numV x, numV y] (.int .i64 D) ∧
    RunsTo 21 #[numV x, numV z] (.tuple #[numV XZ, numV XH]) ∧
    RunsTo 21 #[numV y, numV z] (.tuple #[numV YZ, numV YH]) ∧
    RunsTo 21 #[numV S, numV z] (.tuple #[numV SZ, numV SH]) ∧
    RunsTo 17 #[numV XZ, numV YZ] (.tuple #[numV SZ, .int .u32 C]) ∧
    RunsTo 17 #[numV XH, numV YH] (.tuple #[numV H1, .int .u32 O2]) ∧
    RunsTo 17 #[numV H1, numV C.toNat] (.tuple #[numV H2, .int .u32 O3]) ∧
    ((P = 0 ∧ SH = H2) ∨ (P = 1 ∧ RunsTo 17 #[numV SH, numV z] (.tuple #[numV H2, .int .u32 O4]))) ∧
    ((V = 1 ∧ W = 0 ∧ D = -1 ∧ ∀ w, (Op.equalIn 10000 26 (.agg (numA x)) (.agg (numA y))).run Try.prog w = .ok false w) ∨ (V = 0 ∧ W = 0 ∧ D = 0 ∧ ∀ w, (Op.equalIn 10000 26 (.agg (numA x)) (.agg (numA y))).run Try.prog w = .ok true w) ∨ (V = 0 ∧ W = 1 ∧ D = 1 ∧ ∀ w, (Op.equalIn 10000 26 (.agg (numA x)) (.agg (numA y))).run Try.prog w = .ok false w)) := by
  refine ⟨addN x y, x * y % 4294967296 ^ 8, x * y / 4294967296 ^ 8, subN x y, subN y x, x * z % 4294967296 ^ 8, x * z / 4294967296 ^ 8, y * z % 4294967296 ^ 8, y * z / 4294967296 ^ 8, addN x y * z % 4294967296 ^ 8, addN x y * z / 4294967296 ^ 8,
    addN (x * z / 4294967296 ^ 8) (y * z / 4294967296 ^ 8), highN x y z, overI x y, lentI x y, lentI y x, overI (x * z % 4294967296 ^ 8) (y * z % 4294967296 ^ 8), cmpI x y, overI (subN x y) (subN y x), _, _, overI (addN x y * z / 4294967296 ^ 8) z,
    overI_ge _ _, overI_le _ _, overI_ge _ _, overI_le _ _, add_num x y hx hy, sub_add_num hx hy, add_swap hx hy, mul_any x y hx hy, mul_swap hx hy, sub_any x y hx hy, sub_any y x hy hx, add_opp hx hy, cmp_any x y hx hy,
    mul_any x z hx hz, mul_any y z hy hz, mul_any (addN x y) z (addN_lt hx hy) hz, add_low hx hy hz, add_high hx hy hz, add_high2 hx hy hz, ?_, ?_⟩
  · have h1 := overI_ge x y
    have h2 := overI_le x y
    have hp : overI x y = 0 ∨ overI x y = 1 := by omega
    rcases hp with hp | hp
    · exact .inl ⟨hp, high_zero hx hy hz hp⟩
    · exact .inr ⟨hp, fun w => add_one hx hy hz w hp⟩
  · rcases three_ways hx hy with ⟨_, h1, h2, h3, h4⟩ | ⟨h0, h1, h2, _⟩ | ⟨_, h1, h2, h3, h4⟩
    · exact .inl ⟨h1, h2, h3, h4⟩
    · subst h0
      exact .inr (.inl ⟨h1, h1, h2, fun w => eqn_same x w⟩)
    · exact .inr (.inr ⟨h1, h2, h3, h4⟩)
set_option maxRecDepth 100000 in
set_option maxHeartbeats 40000000 in
theorem LimbLaws_walk (a0 : Int) (hk0 : -9223372036854775808 ≤ a0) (hl0 : a0 < 9223372036854775808)
    (A1 : Option Addr) (n1 cap1 : Nat) (x1 : Nat → Int)
    (a2 : Int) (hk2 : -9223372036854775808 ≤ a2) (hl2 : a2 < 9223372036854775808)
    (A3 : Option Addr) (n3 cap3 : Nat) (x3 : Nat → Int)
    (a4 : Int) (hk4 : -9223372036854775808 ≤ a4) (hl4 : a4 < 9223372036854775808)
    (A5 : Option Addr) (n5 cap5 : Nat) (x5 : Nat → Int) (w : World) (hr1 : RdI w A1 n1 x1) (hr3 : RdI w A3 n3 x3) (hr5 : RdI w A5 n5 x5) :
    Calls Try.prog 5 #[.int .i64 a0, .slice A1 n1 cap1, .int .i64 a2, .slice A3 n3 cap3, .int .i64 a4, .slice A5 n5 cap5] w fun e w' => e = .returned (.bool true) ∧ Below w.heap.size w w' := by
  have ng := noGuard
  go_enter Try.func5, Try.ntmps5
  go_wp2_with (fail)
  refine (known_any _).mono ?_
  rintro e w1 ⟨rfl, bw1⟩
  have r1_1 := hr1.step bw1
  have r3_1 := hr3.step bw1
  have r5_1 := hr5.step bw1
  have c_1 := bw1
  clear hr1 hr3 hr5 bw1
  go_wp2_with (fail)
  refine (make_any _ (by omega) (by omega) _ _ _ _ _ r1_1).mono ?_
  rintro e w2 ⟨x, rfl, hx, bw2⟩
  have r1_2 := r1_1.step bw2
  have r3_2 := r3_1.step bw2
  have r5_2 := r5_1.step bw2
  have c_2 := step_trans c_1 bw2
  clear r1_1 r3_1 r5_1 c_1 bw2
  go_wp2_with (fail)
  refine (make_any _ (by omega) (by omega) _ _ _ _ _ r3_2).mono ?_
  rintro e w3 ⟨y, rfl, hy, bw3⟩
  have r3_3 := r3_2.step bw3
  have r5_3 := r5_2.step bw3
  have c_3 := step_trans c_2 bw3
  clear r3_2 r5_2 c_2 bw3
  go_wp2_with (fail)
  refine (make_any _ (by omega) (by omega) _ _ _ _ _ r5_3).mono ?_
  rintro e w4 ⟨z, rfl, hz, bw4⟩
  have r5_4 := r5_3.step bw4
  have c_4 := step_trans c_3 bw4
  clear r5_3 c_3 bw4
  obtain ⟨S, L, H, E, F, XZ, XH, YZ, YH, SZ, SH, H1, H2, P, V, W, C, D, O1, O2, O3, O4, p1, p2, c1, c2, k0, k1, k2, k3, k4, k5, k6, k7, k8, k9, k10, k11, k12, k13, k14, hp, hv⟩ := laws_pack hx hy hz
  have HP := hid hp
  have HV := hid hv
  clear hp hv hx hy hz
  go_wp2_with (first | (refine wpList_store_num rfl _ (.tmp 13) _ rfl _ rfl _ rfl _ rfl (news3 w4 _).1 size26 ?_; intro w5 gw5 mw5) | (refine wpList_store_num rfl _ (.tmp 14) _ rfl _ rfl _ rfl _ rfl ((gw5.block _ (by simp) (by simp)).trans (news3 w4 _).2.1) size26 ?_; intro w6 gw6 mw6) | (refine wpList_store_num rfl _ (.tmp 15) _ rfl _ rfl _ rfl _ rfl ((gw6.block _ (by have := gw5.size; simp at this; omega) (by simp <;> omega)).trans ((gw5.block _ (by simp <;> omega) (by simp <;> omega)).trans (news3 w4 _).2.2)) size26 ?_; intro w7 gw7 mw7; have b_1 := step_new3 gw5 gw6 gw7; have qw5 := ((mw5.grown gw6 (by simp <;> omega)).grown gw7 (by simp <;> omega)); have qw6 := (mw6.grown gw7 (by simp <;> omega)); have c_5 := step_trans c_4 b_1; clear c_4 b_1 gw5 gw6 gw7 mw5 mw6) | (refine wpList_load_num rfl _ (.tmp 13) rfl _ rfl _ _ _ qw5 Try.underlying26 rfl size26 ?_) | (refine wpList_load_num rfl _ (.tmp 14) rfl _ rfl _ _ _ qw6 Try.underlying26 rfl size26 ?_))
  refine (k0 _).mono ?_
  rintro e w8 ⟨rfl, bw8⟩
  have x_1 := qw5.step bw8
  have y_1 := qw6.step bw8
  have z_1 := mw7.step bw8
  have c_6 := step_trans c_5 bw8
  clear qw5 qw6 mw7 c_5 bw8
  go_wp2_with (first | (refine wpList_store_num rfl _ (.tmp 16) _ rfl _ rfl _ rfl _ rfl (heap_alloc_new _ _) size26 ?_; intro w9 gw9 mw9; have b_2 := step_new gw9; have x_2 := x_1.step b_2; have y_2 := y_1.step b_2; have z_2 := z_1.step b_2; have c_7 := step_trans c_6 b_2; clear x_1 y_1 z_1 c_6 b_2 gw9) | (refine wpList_load_num rfl _ (.tmp 14) rfl _ rfl _ _ _ y_2 Try.underlying26 rfl size26 ?_) | (refine wpList_load_num rfl _ (.tmp 16) rfl _ rfl _ _ _ mw9 Try.underlying26 rfl size26 ?_))
  refine (k1 _).mono ?_
  rintro e w10 ⟨rfl, bw10⟩
  have x_3 := x_2.step bw10
  have y_3 := y_2.step bw10
  have z_3 := z_2.step bw10
  have s_1 := mw9.step bw10
  have c_8 := step_trans c_7 bw10
  clear x_2 y_2 z_2 mw9 c_7 bw10
  go_wp2_with (first | (refine wpList_store_num rfl _ (.tmp 18) _ rfl _ rfl _ rfl _ rfl (heap_alloc_new _ _) size26 ?_; intro w11 gw11 mw11; have b_3 := step_new gw11; have x_4 := x_3.step b_3; have y_4 := y_3.step b_3; have z_4 := z_3.step b_3; have s_2 := s_1.step b_3; have c_9 := step_trans c_8 b_3; clear x_3 y_3 z_3 s_1 c_8 b_3 gw11) | (refine wpList_load_num rfl _ (.tmp 13) rfl _ rfl _ _ _ x_4 Try.underlying26 rfl size26 ?_) | (refine wpList_load_num rfl _ (.tmp 14) rfl _ rfl _ _ _ y_4 Try.underlying26 rfl size26 ?_))
  refine (k2 _).mono ?_
  rintro e w12 ⟨rfl, bw12⟩
  have x_5 := x_4.step bw12
  have y_5 := y_4.step bw12
  have z_5 := z_4.step bw12
  have s_3 := s_2.step bw12
  have d_1 := mw11.step bw12
  have c_10 := step_trans c_9 bw12
  clear x_4 y_4 z_4 s_2 mw11 c_9 bw12
  go_wp2_with (first | (refine wpList_store_num rfl _ (.tmp 20) _ rfl _ rfl _ rfl _ rfl (heap_alloc_new _ _) size26 ?_; intro w13 gw13 mw13; have b_4 := step_new gw13; have x_6 := x_5.step b_4; have y_6 := y_5.step b_4; have z_6 := z_5.step b_4; have s_4 := s_3.step b_4; have d_2 := d_1.step b_4; have c_11 := step_trans c_10 b_4; clear x_5 y_5 z_5 s_3 d_1 c_10 b_4 gw13) | (refine wpList_load_num rfl _ (.tmp 13) rfl _ rfl _ _ _ x_6 Try.underlying26 rfl size26 ?_) | (refine wpList_load_num rfl _ (.tmp 14) rfl _ rfl _ _ _ y_6 Try.underlying26 rfl size26 ?_))
  refine (k3 _).mono ?_
  rintro e w14 ⟨rfl, bw14⟩
  have x_7 := x_6.step bw14
  have y_7 := y_6.step bw14
  have z_7 := z_6.step bw14
  have s_5 := s_4.step bw14
  have d_3 := d_2.step bw14
  have t_1 := mw13.step bw14
  have c_12 := step_trans c_11 bw14
  clear x_6 y_6 z_6 s_4 d_2 mw13 c_11 bw14
  go_wp2_with (first | (refine wpList_store_num rfl _ (.tmp 22) _ rfl _ rfl _ rfl _ rfl (news2 w14 _).1 size26 ?_; intro w15 gw15 mw15) | (refine wpList_store_num rfl _ (.tmp 23) _ rfl _ rfl _ rfl _ rfl ((gw15.block _ (by simp) (by simp)).trans (news2 w14 _).2) size26 ?_; intro w16 gw16 mw16; have b_5 := step_new2 gw15 gw16; have qw15 := (mw15.grown gw16 (by simp <;> omega)); have x_8 := x_7.step b_5; have y_8 := y_7.step b_5; have z_8 := z_7.step b_5; have s_6 := s_5.step b_5; have d_4 := d_3.step b_5; have t_2 := t_1.step b_5; have c_13 := step_trans c_12 b_5; clear x_7 y_7 z_7 s_5 d_3 t_1 c_12 b_5 gw15 gw16 mw15) | (refine wpList_load_num rfl _ (.tmp 13) rfl _ rfl _ _ _ x_8 Try.underlying26 rfl size26 ?_) | (refine wpList_load_num rfl _ (.tmp 14) rfl _ rfl _ _ _ y_8 Try.underlying26 rfl size26 ?_))
  refine (k4 _).mono ?_
  rintro e w17 ⟨rfl, bw17⟩
  have x_9 := x_8.step bw17
  have y_9 := y_8.step bw17
  have z_9 := z_8.step bw17
  have s_7 := s_6.step bw17
  have d_5 := d_4.step bw17
  have t_3 := t_2.step bw17
  have l1_1 := qw15.step bw17
  have h1_1 := mw16.step bw17
  have c_14 := step_trans c_13 bw17
  clear x_8 y_8 z_8 s_6 d_4 t_2 qw15 mw16 c_13 bw17
  have e0 := fun w => eqn_zero w
  go_wp2_with (first | (refine wpList_store_num rfl _ (.tmp 24) _ rfl _ rfl _ rfl _ rfl (news2 w17 _).1 size26 ?_; intro w18 gw18 mw18) | (refine wpList_store_num rfl _ (.tmp 25) _ rfl _ rfl _ rfl _ rfl ((gw18.block _ (by simp) (by simp)).trans (news2 w17 _).2) size26 ?_; intro w19 gw19 mw19; have b_6 := step_new2 gw18 gw19; have qw18 := (mw18.grown gw19 (by simp <;> omega)); have x_10 := x_9.step b_6; have y_10 := y_9.step b_6; have z_10 := z_9.step b_6; have s_8 := s_7.step b_6; have d_6 := d_5.step b_6; have t_4 := t_3.step b_6; have l1_2 := l1_1.step b_6; have h1_2 := h1_1.step b_6; have c_15 := step_trans c_14 b_6; clear x_9 y_9 z_9 s_7 d_5 t_3 l1_1 h1_1 c_14 b_6 gw18 gw19 mw18) | (refine wpList_load_num rfl _ (.tmp 13) rfl _ rfl _ _ _ x_10 Try.underlying26 rfl size26 ?_) | (refine wpList_load_num rfl _ (.tmp 14) rfl _ rfl _ _ _ y_10 Try.underlying26 rfl size26 ?_) | (refine wpList_load_num rfl _ (.tmp 16) rfl _ rfl _ _ _ s_8 Try.underlying26 rfl size26 ?_) | (refine wpList_load_num rfl _ (.tmp 18) rfl _ rfl _ _ _ d_6 Try.underlying26 rfl size26 ?_) | (refine wpList_load_num rfl _ (.tmp 20) rfl _ rfl _ _ _ t_4 Try.underlying26 rfl size26 ?_) | (refine wpList_load_num rfl _ (.tmp 22) rfl _ rfl _ _ _ l1_2 Try.underlying26 rfl size26 ?_) | (refine wpList_load_num rfl _ (.tmp 23) rfl _ rfl _ _ _ h1_2 Try.underlying26 rfl size26 ?_) | (refine wpList_load_num rfl _ (.tmp 24) rfl _ rfl _ _ _ qw18 Try.underlying26 rfl size26 ?_) | (refine wpList_load_num rfl _ (.tmp 25) rfl _ rfl _ _ _ mw19 Try.underlying26 rfl size26 ?_))
  refine (k5 _).mono ?_
  rintro e w20 ⟨rfl, bw20⟩
  have x_11 := x_10.step bw20
  have y_11 := y_10.step bw20
  have z_11 := z_10.step bw20
  have s_9 := s_8.step bw20
  have d_7 := d_6.step bw20
  have t_5 := t_4.step bw20
  have l1_3 := l1_2.step bw20
  have h1_3 := h1_2.step bw20
  have l2_1 := qw18.step bw20
  have h2_1 := mw19.step bw20
  have c_16 := step_trans c_15 bw20
  clear x_10 y_10 z_10 s_8 d_6 t_4 l1_2 h1_2 qw18 mw19 c_15 bw20
  go_wp2_with (first | (refine wpList_store_num rfl _ (.tmp 26) _ rfl _ rfl _ rfl _ rfl (heap_alloc_new _ _) size26 ?_; intro w21 gw21 mw21; have b_7 := step_new gw21; have x_12 := x_11.step b_7; have y_12 := y_11.step b_7; have z_12 := z_11.step b_7; have s_10 := s_9.step b_7; have d_8 := d_7.step b_7; have t_6 := t_5.step b_7; have l1_4 := l1_3.step b_7; have h1_4 := h1_3.step b_7; have l2_2 := l2_1.step b_7; have h2_2 := h2_1.step b_7; have c_17 := step_trans c_16 b_7; clear x_11 y_11 z_11 s_9 d_7 t_5 l1_3 h1_3 l2_1 h2_1 c_16 b_7 gw21) | (refine wpList_load_num rfl _ (.tmp 13) rfl _ rfl _ _ _ x_12 Try.underlying26 rfl size26 ?_) | (refine wpList_load_num rfl _ (.tmp 14) rfl _ rfl _ _ _ y_12 Try.underlying26 rfl size26 ?_))
  refine (k6 _).mono ?_
  rintro e w22 ⟨rfl, bw22⟩
  have x_13 := x_12.step bw22
  have y_13 := y_12.step bw22
  have z_13 := z_12.step bw22
  have s_11 := s_10.step bw22
  have d_9 := d_8.step bw22
  have t_7 := t_6.step bw22
  have l1_5 := l1_4.step bw22
  have h1_5 := h1_4.step bw22
  have l2_3 := l2_2.step bw22
  have h2_3 := h2_2.step bw22
  have e_1 := mw21.step bw22
  have c_18 := step_trans c_17 bw22
  clear x_12 y_12 z_12 s_10 d_8 t_6 l1_4 h1_4 l2_2 h2_2 mw21 c_17 bw22
  go_wp2_with (first | (refine wpList_store_num rfl _ (.tmp 28) _ rfl _ rfl _ rfl _ rfl (heap_alloc_new _ _) size26 ?_; intro w23 gw23 mw23; have b_8 := step_new gw23; have x_14 := x_13.step b_8; have y_14 := y_13.step b_8; have z_14 := z_13.step b_8; have s_12 := s_11.step b_8; have d_10 := d_9.step b_8; have t_8 := t_7.step b_8; have l1_6 := l1_5.step b_8; have h1_6 := h1_5.step b_8; have l2_4 := l2_3.step b_8; have h2_4 := h2_3.step b_8; have e_2 := e_1.step b_8; have c_19 := step_trans c_18 b_8; clear x_13 y_13 z_13 s_11 d_9 t_7 l1_5 h1_5 l2_3 h2_3 e_1 c_18 b_8 gw23) | (refine wpList_load_num rfl _ (.tmp 26) rfl _ rfl _ _ _ e_2 Try.underlying26 rfl size26 ?_) | (refine wpList_load_num rfl _ (.tmp 28) rfl _ rfl _ _ _ mw23 Try.underlying26 rfl size26 ?_))
  refine (k7 _).mono ?_
  rintro e w24 ⟨rfl, bw24⟩
  have x_15 := x_14.step bw24
  have y_15 := y_14.step bw24
  have z_15 := z_14.step bw24
  have s_13 := s_12.step bw24
  have d_11 := d_10.step bw24
  have t_9 := t_8.step bw24
  have l1_7 := l1_6.step bw24
  have h1_7 := h1_6.step bw24
  have l2_5 := l2_4.step bw24
  have h2_5 := h2_4.step bw24
  have e_3 := e_2.step bw24
  have f_1 := mw23.step bw24
  have c_20 := step_trans c_19 bw24
  clear x_14 y_14 z_14 s_12 d_10 t_8 l1_6 h1_6 l2_4 h2_4 e_2 mw23 c_19 bw24
  go_upto_region 14 with (first | (refine wpList_store_num rfl _ (.tmp 30) _ rfl _ rfl _ rfl _ rfl (heap_alloc_new _ _) size26 ?_; intro w25 gw25 mw25; have b_9 := step_new gw25; have x_16 := x_15.step b_9; have y_16 := y_15.step b_9; have z_16 := z_15.step b_9; have s_14 := s_13.step b_9; have e_4 := e_3.step b_9; have f_2 := f_1.step b_9; have c_21 := step_trans c_20 b_9; clear x_15 y_15 z_15 s_13 e_3 f_1 c_20 b_9 gw25) | (refine wpList_load_num rfl _ (.tmp 13) rfl _ rfl _ _ _ x_16 Try.underlying26 rfl size26 ?_) | (refine wpList_load_num rfl _ (.tmp 14) rfl _ rfl _ _ _ y_16 Try.underlying26 rfl size26 ?_) | (refine wpList_load_num rfl _ (.tmp 30) rfl _ rfl _ _ _ mw25 Try.underlying26 rfl size26 ?_))
  rcases HV.out with ⟨q1, q2, q3, q4⟩ | ⟨q1, q2, q3, q4⟩ | ⟨q1, q2, q3, q4⟩
  · subst q1 q2 q3
    as_aux_lemma =>
      refine wp_region_plain ?_
      (refine wpQuiet_load_num rfl _ (.tmp 30) rfl _ rfl _ _ _ mw25 Try.underlying26 rfl size26 ?_; simp only [Act.put, List.setIfInBounds_toArray, List.set_cons_zero, List.set_cons_succ])
      go_big_quiet_step (fail)
      go_big_quiet_step (fail)
      go_big_quiet_step (fail)
      go_big_quiet_step (fail)
      go_big_quiet_step (fail)
      go_big_quiet_step (fail)
      go_big_quiet_step (fail)
      go_big_quiet_step (fail)
      first | (refine wpQuiet_load_num rfl _ (.tmp 13) rfl _ rfl _ _ _ x_16 Try.underlying26 rfl size26 ?_; simp only [Act.put, List.setIfInBounds_toArray, List.set_cons_zero, List.set_cons_succ]) | go_big_quiet_step (fail)
      first | (refine wpQuiet_load_num rfl _ (.tmp 14) rfl _ rfl _ _ _ y_16 Try.underlying26 rfl size26 ?_; simp only [Act.put, List.setIfInBounds_toArray, List.set_cons_zero, List.set_cons_succ]) | go_big_quiet_step (fail)
      go_big_quiet_step (fail)
      go_big_quiet_step (fail)
      go_big_quiet_step (fail)
      go_big_quiet_step (fail)
      first | (refine wpQuiet_load_num rfl _ (.tmp 13) rfl _ rfl _ _ _ x_16 Try.underlying26 rfl size26 ?_; simp only [Act.put, List.setIfInBounds_toArray, List.set_cons_zero, List.set_cons_succ]) | go_big_quiet_step (fail)
      first | (refine wpQuiet_load_num rfl _ (.tmp 14) rfl _ rfl _ _ _ y_16 Try.underlying26 rfl size26 ?_; simp only [Act.put, List.setIfInBounds_toArray, List.set_cons_zero, List.set_cons_succ]) | go_big_quiet_step (fail)
      go_big_quiet_step (fail)
      go_big_quiet_step (fail)
      go_big_quiet_step (fail)
      go_big_quiet_step (fail)
      go_big_quiet_step (fail)
      go_big_quiet_step (fail)
      go_big_quiet_step (fail)
      go_big_quiet_step (fail)
      go_big_quiet_step (fail)
      first | (refine wpQuiet_load_num rfl _ (.tmp 13) rfl _ rfl _ _ _ x_16 Try.underlying26 rfl size26 ?_; simp only [Act.put, List.setIfInBounds_toArray, List.set_cons_zero, List.set_cons_succ]) | go_big_quiet_step (fail)
      first | (refine wpQuiet_load_num rfl _ (.tmp 14) rfl _ rfl _ _ _ y_16 Try.underlying26 rfl size26 ?_; simp only [Act.put, List.setIfInBounds_toArray, List.set_cons_zero, List.set_cons_succ]) | go_big_quiet_step (fail)
      go_big_quiet_step (exact later_of (k8 _))
      go_big_quiet_step (fail)
      go_big_quiet_step (fail)
      go_big_quiet_step (fail)
      go_big_quiet_step (fail)
      go_big_quiet_step (fail)
      refine wpQuiet_nil ?_
      intro X_1
      have x_17 := x_16.step X_1.h
      have y_17 := y_16.step X_1.h
      have z_17 := z_16.step X_1.h
      have s_15 := s_14.step X_1.h
      have g_1 := mw25.step X_1.h
      have c_22 := step_trans c_21 X_1.h
      clear x_16 y_16 z_16 s_14 mw25 c_21
      clear q4 e0
      go_wp2_with (first | (refine wpList_load_num rfl _ (.tmp 13) rfl _ rfl _ _ _ x_17 Try.underlying26 rfl size26 ?_) | (refine wpList_load_num rfl _ (.tmp 15) rfl _ rfl _ _ _ z_17 Try.underlying26 rfl size26 ?_))
      refine (k9 _).mono ?_
      rintro e w26 ⟨rfl, bw26⟩
      have x_18 := x_17.step bw26
      have y_18 := y_17.step bw26
      have z_18 := z_17.step bw26
      have s_16 := s_15.step bw26
      have c_23 := step_trans c_22 bw26
      clear x_17 y_17 z_17 s_15 c_22 bw26
      go_wp2_with (first | (refine wpList_store_num rfl _ (.tmp 32) _ rfl _ rfl _ rfl _ rfl (news2 w26 _).1 size26 ?_; intro w27 gw27 mw27) | (refine wpList_store_num rfl _ (.tmp 33) _ rfl _ rfl _ rfl _ rfl ((gw27.block _ (by simp) (by simp)).trans (news2 w26 _).2) size26 ?_; intro w28 gw28 mw28; have b_10 := step_new2 gw27 gw28; have qw27 := (mw27.grown gw28 (by simp <;> omega)); have x_19 := x_18.step b_10; have y_19 := y_18.step b_10; have z_19 := z_18.step b_10; have s_17 := s_16.step b_10; have c_24 := step_trans c_23 b_10; clear x_18 y_18 z_18 s_16 c_23 b_10 gw27 gw28 mw27) | (refine wpList_load_num rfl _ (.tmp 14) rfl _ rfl _ _ _ y_19 Try.underlying26 rfl size26 ?_) | (refine wpList_load_num rfl _ (.tmp 15) rfl _ rfl _ _ _ z_19 Try.underlying26 rfl size26 ?_))
      refine (k10 _).mono ?_
      rintro e w29 ⟨rfl, bw29⟩
      have x_20 := x_19.step bw29
      have y_20 := y_19.step bw29
      have z_20 := z_19.step bw29
      have s_18 := s_17.step bw29
      have xz_1 := qw27.step bw29
      have xh_1 := mw28.step bw29
      have c_25 := step_trans c_24 bw29
      clear x_19 y_19 z_19 s_17 qw27 mw28 c_24 bw29
      go_wp2_with (first | (refine wpList_store_num rfl _ (.tmp 34) _ rfl _ rfl _ rfl _ rfl (news2 w29 _).1 size26 ?_; intro w30 gw30 mw30) | (refine wpList_store_num rfl _ (.tmp 35) _ rfl _ rfl _ rfl _ rfl ((gw30.block _ (by simp) (by simp)).trans (news2 w29 _).2) size26 ?_; intro w31 gw31 mw31; have b_11 := step_new2 gw30 gw31; have qw30 := (mw30.grown gw31 (by simp <;> omega)); have x_21 := x_20.step b_11; have y_21 := y_20.step b_11; have z_21 := z_20.step b_11; have s_19 := s_18.step b_11; have xz_2 := xz_1.step b_11; have xh_2 := xh_1.step b_11; have c_26 := step_trans c_25 b_11; clear x_20 y_20 z_20 s_18 xz_1 xh_1 c_25 b_11 gw30 gw31 mw30) | (refine wpList_load_num rfl _ (.tmp 15) rfl _ rfl _ _ _ z_21 Try.underlying26 rfl size26 ?_) | (refine wpList_load_num rfl _ (.tmp 16) rfl _ rfl _ _ _ s_19 Try.underlying26 rfl size26 ?_))
      refine (k11 _).mono ?_
      rintro e w32 ⟨rfl, bw32⟩
      have x_22 := x_21.step bw32
      have y_22 := y_21.step bw32
      have z_22 := z_21.step bw32
      have s_20 := s_19.step bw32
      have xz_3 := xz_2.step bw32
      have xh_3 := xh_2.step bw32
      have yz_1 := qw30.step bw32
      have yh_1 := mw31.step bw32
      have c_27 := step_trans c_26 bw32
      clear x_21 y_21 z_21 s_19 xz_2 xh_2 qw30 mw31 c_26 bw32
      go_wp2_with (first | (refine wpList_store_num rfl _ (.tmp 36) _ rfl _ rfl _ rfl _ rfl (news2 w32 _).1 size26 ?_; intro w33 gw33 mw33) | (refine wpList_store_num rfl _ (.tmp 37) _ rfl _ rfl _ rfl _ rfl ((gw33.block _ (by simp) (by simp)).trans (news2 w32 _).2) size26 ?_; intro w34 gw34 mw34; have b_12 := step_new2 gw33 gw34; have qw33 := (mw33.grown gw34 (by simp <;> omega)); have losh := hid (show _ ≤ w32.heap.size + 1 from Nat.le_trans c_27.size (by omega)); have nx_sh := hid (show _ ≠ w32.heap.size + 1 from Nat.ne_of_lt (Nat.lt_of_lt_of_le x_22.lt (by omega))); have ny_sh := hid (show _ ≠ w32.heap.size + 1 from Nat.ne_of_lt (Nat.lt_of_lt_of_le y_22.lt (by omega))); have nz_sh := hid (show _ ≠ w32.heap.size + 1 from Nat.ne_of_lt (Nat.lt_of_lt_of_le z_22.lt (by omega))); have ns_sh := hid (show _ ≠ w32.heap.size + 1 from Nat.ne_of_lt (Nat.lt_of_lt_of_le s_20.lt (by omega))); have nxz_sh := hid (show _ ≠ w32.heap.size + 1 from Nat.ne_of_lt (Nat.lt_of_lt_of_le xz_3.lt (by omega))); have nxh_sh := hid (show _ ≠ w32.heap.size + 1 from Nat.ne_of_lt (Nat.lt_of_lt_of_le xh_3.lt (by omega))); have nyz_sh := hid (show _ ≠ w32.heap.size + 1 from Nat.ne_of_lt (Nat.lt_of_lt_of_le yz_1.lt (by omega))); have nyh_sh := hid (show _ ≠ w32.heap.size + 1 from Nat.ne_of_lt (Nat.lt_of_lt_of_le yh_1.lt (by omega))); have nsz_sh := hid (show w32.heap.size ≠ w32.heap.size + 1 by omega); have x_23 := x_22.step b_12; have y_23 := y_22.step b_12; have z_23 := z_22.step b_12; have s_21 := s_20.step b_12; have xz_4 := xz_3.step b_12; have xh_4 := xh_3.step b_12; have yz_2 := yz_1.step b_12; have yh_2 := yh_1.step b_12; have c_28 := step_trans c_27 b_12; clear x_22 y_22 z_22 s_20 xz_3 xh_3 yz_1 yh_1 c_27 b_12 gw33 gw34 mw33) | (refine wpList_load_num rfl _ (.tmp 32) rfl _ rfl _ _ _ xz_4 Try.underlying26 rfl size26 ?_) | (refine wpList_load_num rfl _ (.tmp 34) rfl _ rfl _ _ _ yz_2 Try.underlying26 rfl size26 ?_))
      refine (k12 _).mono ?_
      rintro e w35 ⟨rfl, bw35⟩
      have x_24 := x_23.step bw35
      have y_24 := y_23.step bw35
      have z_24 := z_23.step bw35
      have s_22 := s_21.step bw35
      have xz_5 := xz_4.step bw35
      have xh_5 := xh_4.step bw35
      have yz_3 := yz_2.step bw35
      have yh_3 := yh_2.step bw35
      have sz_1 := qw33.step bw35
      have sh_1 := mw34.step bw35
      have c_29 := step_trans c_28 bw35
      clear x_23 y_23 z_23 s_21 xz_4 xh_4 yz_2 yh_2 qw33 mw34 c_28 bw35
      go_wp2_with (first | (refine wpList_store_num rfl _ (.tmp 38) _ rfl _ rfl _ rfl _ rfl (heap_alloc_new _ _) size26 ?_; intro w36 gw36 mw36; have b_13 := step_new gw36; have nsh_low := hid (show _ ≠ w35.heap.size from Nat.ne_of_lt (Nat.lt_of_lt_of_le sh_1.lt (by omega))); have x_25 := x_24.step b_13; have y_25 := y_24.step b_13; have z_25 := z_24.step b_13; have s_23 := s_22.step b_13; have xz_6 := xz_5.step b_13; have xh_6 := xh_5.step b_13; have yz_4 := yz_3.step b_13; have yh_4 := yh_3.step b_13; have sz_2 := sz_1.step b_13; have sh_2 := sh_1.step b_13; have c_30 := step_trans c_29 b_13; clear x_24 y_24 z_24 s_22 xz_5 xh_5 yz_3 yh_3 sz_1 sh_1 c_29 b_13 gw36) | (refine wpList_load_num rfl _ (.tmp 33) rfl _ rfl _ _ _ xh_6 Try.underlying26 rfl size26 ?_) | (refine wpList_load_num rfl _ (.tmp 35) rfl _ rfl _ _ _ yh_4 Try.underlying26 rfl size26 ?_))
      refine (k13 _).mono ?_
      rintro e w37 ⟨rfl, bw37⟩
      have x_26 := x_25.step bw37
      have y_26 := y_25.step bw37
      have z_26 := z_25.step bw37
      have s_24 := s_23.step bw37
      have xz_7 := xz_6.step bw37
      have xh_7 := xh_6.step bw37
      have yz_5 := yz_4.step bw37
      have yh_5 := yh_4.step bw37
      have sz_3 := sz_2.step bw37
      have sh_3 := sh_2.step bw37
      have low_1 := mw36.step bw37
      have c_31 := step_trans c_30 bw37
      clear x_25 y_25 z_25 s_23 xz_6 xh_6 yz_4 yh_4 sz_2 sh_2 mw36 c_30 bw37
      go_upto_region 21 with (first | (refine wpList_store_num rfl _ (.tmp 40) _ rfl _ rfl _ rfl _ rfl (heap_alloc_new _ _) size26 ?_; intro w38 gw38 mw38; have b_14 := step_new gw38; have lohigh := hid (show _ ≤ w37.heap.size from Nat.le_trans c_31.size (by omega)); have nx_high := hid (show _ ≠ w37.heap.size from Nat.ne_of_lt (Nat.lt_of_lt_of_le x_26.lt (by omega))); have ny_high := hid (show _ ≠ w37.heap.size from Nat.ne_of_lt (Nat.lt_of_lt_of_le y_26.lt (by omega))); have nz_high := hid (show _ ≠ w37.heap.size from Nat.ne_of_lt (Nat.lt_of_lt_of_le z_26.lt (by omega))); have ns_high := hid (show _ ≠ w37.heap.size from Nat.ne_of_lt (Nat.lt_of_lt_of_le s_24.lt (by omega))); have nxz_high := hid (show _ ≠ w37.heap.size from Nat.ne_of_lt (Nat.lt_of_lt_of_le xz_7.lt (by omega))); have nxh_high := hid (show _ ≠ w37.heap.size from Nat.ne_of_lt (Nat.lt_of_lt_of_le xh_7.lt (by omega))); have nyz_high := hid (show _ ≠ w37.heap.size from Nat.ne_of_lt (Nat.lt_of_lt_of_le yz_5.lt (by omega))); have nyh_high := hid (show _ ≠ w37.heap.size from Nat.ne_of_lt (Nat.lt_of_lt_of_le yh_5.lt (by omega))); have nsz_high := hid (show _ ≠ w37.heap.size from Nat.ne_of_lt (Nat.lt_of_lt_of_le sz_3.lt (by omega))); have nsh_high := hid (show _ ≠ w37.heap.size from Nat.ne_of_lt (Nat.lt_of_lt_of_le sh_3.lt (by omega))); have nlow_high := hid (show _ ≠ w37.heap.size from Nat.ne_of_lt (Nat.lt_of_lt_of_le low_1.lt (by omega))); have x_27 := x_26.step b_14; have y_27 := y_26.step b_14; have z_27 := z_26.step b_14; have s_25 := s_24.step b_14; have xz_8 := xz_7.step b_14; have xh_8 := xh_7.step b_14; have yz_6 := yz_5.step b_14; have yh_6 := yh_5.step b_14; have sz_4 := sz_3.step b_14; have sh_4 := sh_3.step b_14; have low_2 := low_1.step b_14; have c_32 := step_trans c_31 b_14; clear x_26 y_26 z_26 s_24 xz_7 xh_7 yz_5 yh_5 sz_3 sh_3 low_1 c_31 b_14 gw38) | (refine wpList_load_num rfl _ (.tmp 40) rfl _ rfl _ _ _ mw38 Try.underlying26 rfl size26 ?_))
      as_aux_lemma =>
        refine wp_region_news 8 26 (.cells #[Value.int .u32 0, .int .u32 0, .int .u32 0, .int .u32 0, .int .u32 0, .int .u32 0, .int .u32 0, .int .u32 0] 26) (fun _ _ _ _ _ h => h) (by kernel_rfl) (by kernel_rfl) (by kernel_rfl) (by kernel_rfl) (by kernel_rfl) (by kernel_rfl) (by kernel_rfl) (by kernel_rfl) num_new ?_
        intro V_1
        simp only [calmN, isNew, hush, hushT, List.drop_succ_cons, List.drop_zero]
        have x_28 := x_27.step V_1.h
        have y_28 := y_27.step V_1.h
        have z_28 := z_27.step V_1.h
        have s_26 := s_25.step V_1.h
        have xz_9 := xz_8.step V_1.h
        have xh_9 := xh_8.step V_1.h
        have yz_7 := yz_6.step V_1.h
        have yh_7 := yh_6.step V_1.h
        have sz_5 := sz_4.step V_1.h
        have sh_5 := sh_4.step V_1.h
        have low_3 := low_2.step V_1.h
        have high_1 := mw38.step V_1.h
        have c_33 := step_trans c_32 V_1.h
        (refine wpQuiet_load_num rfl _ (.tmp 40) rfl _ rfl _ _ _ high_1 Try.underlying26 rfl size26 ?_; simp only [Act.put, List.setIfInBounds_toArray, List.set_cons_zero, List.set_cons_succ])
        go_big_quiet_step (fail)
        go_big_quiet_step (fail)
        go_big_quiet_step (exact later_of (from_any _ (by omega) (by omega) _))
        go_big_quiet_step (exact later_of (k14 _))
        go_big_quiet_step (fail)
        go_big_quiet_step (fail)
        go_big_quiet_step (fail)
        go_big_quiet_step (fail)
        refine wpQuiet_nil ?_
        intro X_2 p_1 hp_1
        obtain ⟨hp_11, hp_12⟩ := hp_1
        have x_29 := x_28.step X_2.h
        have y_29 := y_28.step X_2.h
        have z_29 := z_28.step X_2.h
        have s_27 := s_26.step X_2.h
        have xz_10 := xz_9.step X_2.h
        have xh_10 := xh_9.step X_2.h
        have yz_8 := yz_7.step X_2.h
        have yh_8 := yh_7.step X_2.h
        have sz_6 := sz_5.step X_2.h
        have sh_6 := sh_5.step X_2.h
        have low_4 := low_3.step X_2.h
        have high_2 := high_1.step X_2.h
        have c_34 := step_trans c_33 X_2.h
        simp only [layN, isNew, Act.put, List.setIfInBounds_toArray, List.set_cons_zero, List.set_cons_succ, Nat.zero_add, Nat.reduceAdd]
        clear hp_11 hp_12
        clear x_27 y_27 z_27 s_25 xz_8 xh_8 yz_6 yh_6 sz_4 sh_4 low_2 mw38 c_32 x_28 y_28 z_28 s_26 xz_9 xh_9 yz_7 yh_7 sz_5 sh_5 low_3 high_1 c_33
        rcases HP.out with ⟨hp, hsh⟩ | ⟨hp, k15⟩
        · subst hp hsh
          go_upto_region 24 with (first | (refine wpList_store_num rfl _ (.tmp 40) _ rfl _ rfl _ rfl _ rfl high_2 size26 ?_; intro w39 gw39 mw39; have x_30 := x_29.grown gw39 (ne_some nx_high.out); have y_30 := y_29.grown gw39 (ne_some ny_high.out); have z_30 := z_29.grown gw39 (ne_some nz_high.out); have s_28 := s_27.grown gw39 (ne_some ns_high.out); have xz_11 := xz_10.grown gw39 (ne_some nxz_high.out); have xh_11 := xh_10.grown gw39 (ne_some nxh_high.out); have yz_9 := yz_8.grown gw39 (ne_some nyz_high.out); have yh_9 := yh_8.grown gw39 (ne_some nyh_high.out); have sz_7 := sz_6.grown gw39 (ne_some nsz_high.out); have sh_7 := sh_6.grown gw39 (ne_some nsh_high.out); have low_5 := low_4.grown gw39 (ne_some nlow_high.out); have c_35 := below_of_grown c_34 gw39 c_34.size lohigh.out; clear high_2 x_29 y_29 z_29 s_27 xz_10 xh_10 yz_8 yh_8 sz_6 sh_6 low_4 c_34 gw39) | (refine wpList_load_num rfl _ (.tmp 15) rfl _ rfl _ _ _ z_30 Try.underlying26 rfl size26 ?_) | (refine wpList_load_num rfl _ (.tmp 37) rfl _ rfl _ _ _ sh_7 Try.underlying26 rfl size26 ?_))
          as_aux_lemma =>
            refine wp_region_plain ?_
            (refine wpQuiet_load_num rfl _ (.tmp 36) rfl _ rfl _ _ _ sz_7 Try.underlying26 rfl size26 ?_; simp only [Act.put, List.setIfInBounds_toArray, List.set_cons_zero, List.set_cons_succ])
            (refine wpQuiet_load_num rfl _ (.tmp 38) rfl _ rfl _ _ _ low_5 Try.underlying26 rfl size26 ?_; simp only [Act.put, List.setIfInBounds_toArray, List.set_cons_zero, List.set_cons_succ])
            go_big_quiet_step (fail)
            go_big_quiet_step (fail)
            first | (refine wpQuiet_load_num rfl _ (.tmp 37) rfl _ rfl _ _ _ sh_7 Try.underlying26 rfl size26 ?_; simp only [Act.put, List.setIfInBounds_toArray, List.set_cons_zero, List.set_cons_succ]) | go_big_quiet_step (fail)
            first | (refine wpQuiet_load_num rfl _ (.tmp 40) rfl _ rfl _ _ _ mw39 Try.underlying26 rfl size26 ?_; simp only [Act.put, List.setIfInBounds_toArray, List.set_cons_zero, List.set_cons_succ]) | go_big_quiet_step (fail)
            go_big_quiet_step (fail)
            go_big_quiet_step (fail)
            go_big_quiet_step (fail)
            refine wpQuiet_nil ?_
            intro X_3
            have x_31 := x_30.step X_3.h
            have y_31 := y_30.step X_3.h
            have z_31 := z_30.step X_3.h
            have s_29 := s_28.step X_3.h
            have xz_12 := xz_11.step X_3.h
            have xh_12 := xh_11.step X_3.h
            have yz_10 := yz_9.step X_3.h
            have yh_10 := yh_9.step X_3.h
            have sz_8 := sz_7.step X_3.h
            have sh_8 := sh_7.step X_3.h
            have low_6 := low_5.step X_3.h
            have high_3 := mw39.step X_3.h
            have c_36 := step_trans c_35 X_3.h
            clear x_30 y_30 z_30 s_28 xz_11 xh_11 yz_9 yh_9 sz_7 sh_7 low_5 mw39 c_35
            go_wp2
            go_ret
            exact ⟨rfl, c_36⟩
        · subst hp
          go_wp2_with (first | (refine wpList_store_num rfl _ (.tmp 40) _ rfl _ rfl _ rfl _ rfl high_2 size26 ?_; intro w39 gw39 mw39; have x_30 := x_29.grown gw39 (ne_some nx_high.out); have y_30 := y_29.grown gw39 (ne_some ny_high.out); have z_30 := z_29.grown gw39 (ne_some nz_high.out); have s_28 := s_27.grown gw39 (ne_some ns_high.out); have xz_11 := xz_10.grown gw39 (ne_some nxz_high.out); have xh_11 := xh_10.grown gw39 (ne_some nxh_high.out); have yz_9 := yz_8.grown gw39 (ne_some nyz_high.out); have yh_9 := yh_8.grown gw39 (ne_some nyh_high.out); have sz_7 := sz_6.grown gw39 (ne_some nsz_high.out); have sh_7 := sh_6.grown gw39 (ne_some nsh_high.out); have low_5 := low_4.grown gw39 (ne_some nlow_high.out); have c_35 := below_of_grown c_34 gw39 c_34.size lohigh.out; clear high_2 x_29 y_29 z_29 s_27 xz_10 xh_10 yz_8 yh_8 sz_6 sh_6 low_4 c_34 gw39) | (refine wpList_load_num rfl _ (.tmp 15) rfl _ rfl _ _ _ z_30 Try.underlying26 rfl size26 ?_) | (refine wpList_load_num rfl _ (.tmp 37) rfl _ rfl _ _ _ sh_7 Try.underlying26 rfl size26 ?_))
          refine (k15 _).mono ?_
          rintro e w40 ⟨rfl, bw40⟩
          have x_31 := x_30.step bw40
          have y_31 := y_30.step bw40
          have z_31 := z_30.step bw40
          have s_29 := s_28.step bw40
          have xz_12 := xz_11.step bw40
          have xh_12 := xh_11.step bw40
          have yz_10 := yz_9.step bw40
          have yh_10 := yh_9.step bw40
          have sz_8 := sz_7.step bw40
          have sh_8 := sh_7.step bw40
          have low_6 := low_5.step bw40
          have high_3 := mw39.step bw40
          have c_36 := step_trans c_35 bw40
          clear x_30 y_30 z_30 s_28 xz_11 xh_11 yz_9 yh_9 sz_7 sh_7 low_5 mw39 c_35 bw40
          go_upto_region 24 with (first | (refine wpList_store_num rfl _ (.tmp 37) _ rfl _ rfl _ rfl _ rfl sh_8 size26 ?_; intro w41 gw41 mw41; have x_32 := x_31.grown gw41 (ne_some nx_sh.out); have y_32 := y_31.grown gw41 (ne_some ny_sh.out); have z_32 := z_31.grown gw41 (ne_some nz_sh.out); have s_30 := s_29.grown gw41 (ne_some ns_sh.out); have xz_13 := xz_12.grown gw41 (ne_some nxz_sh.out); have xh_13 := xh_12.grown gw41 (ne_some nxh_sh.out); have yz_11 := yz_10.grown gw41 (ne_some nyz_sh.out); have yh_11 := yh_10.grown gw41 (ne_some nyh_sh.out); have sz_9 := sz_8.grown gw41 (ne_some nsz_sh.out); have low_7 := low_6.grown gw41 (ne_some nsh_low.out.symm); have high_4 := high_3.grown gw41 (ne_some nsh_high.out.symm); have c_37 := below_of_grown c_36 gw41 c_36.size losh.out; clear sh_8 x_31 y_31 z_31 s_29 xz_12 xh_12 yz_10 yh_10 sz_8 low_6 high_3 c_36 gw41) | (refine wpList_load_num rfl _ (.tmp 36) rfl _ rfl _ _ _ sz_9 Try.underlying26 rfl size26 ?_) | (refine wpList_load_num rfl _ (.tmp 37) rfl _ rfl _ _ _ mw41 Try.underlying26 rfl size26 ?_) | (refine wpList_load_num rfl _ (.tmp 38) rfl _ rfl _ _ _ low_7 Try.underlying26 rfl size26 ?_) | (refine wpList_load_num rfl _ (.tmp 40) rfl _ rfl _ _ _ high_4 Try.underlying26 rfl size26 ?_))
          as_aux_lemma =>
            refine wp_region_plain ?_
            (refine wpQuiet_load_num rfl _ (.tmp 36) rfl _ rfl _ _ _ sz_9 Try.underlying26 rfl size26 ?_; simp only [Act.put, List.setIfInBounds_toArray, List.set_cons_zero, List.set_cons_succ])
            (refine wpQuiet_load_num rfl _ (.tmp 38) rfl _ rfl _ _ _ low_7 Try.underlying26 rfl size26 ?_; simp only [Act.put, List.setIfInBounds_toArray, List.set_cons_zero, List.set_cons_succ])
            go_big_quiet_step (fail)
            go_big_quiet_step (fail)
            first | (refine wpQuiet_load_num rfl _ (.tmp 37) rfl _ rfl _ _ _ mw41 Try.underlying26 rfl size26 ?_; simp only [Act.put, List.setIfInBounds_toArray, List.set_cons_zero, List.set_cons_succ]) | go_big_quiet_step (fail)
            first | (refine wpQuiet_load_num rfl _ (.tmp 40) rfl _ rfl _ _ _ high_4 Try.underlying26 rfl size26 ?_; simp only [Act.put, List.setIfInBounds_toArray, List.set_cons_zero, List.set_cons_succ]) | go_big_quiet_step (fail)
            go_big_quiet_step (fail)
            go_big_quiet_step (fail)
            go_big_quiet_step (fail)
            refine wpQuiet_nil ?_
            intro X_3
            have x_33 := x_32.step X_3.h
            have y_33 := y_32.step X_3.h
            have z_33 := z_32.step X_3.h
            have s_31 := s_30.step X_3.h
            have xz_14 := xz_13.step X_3.h
            have xh_14 := xh_13.step X_3.h
            have yz_12 := yz_11.step X_3.h
            have yh_12 := yh_11.step X_3.h
            have sz_10 := sz_9.step X_3.h
            have sh_9 := mw41.step X_3.h
            have low_8 := low_7.step X_3.h
            have high_5 := high_4.step X_3.h
            have c_38 := step_trans c_37 X_3.h
            clear x_32 y_32 z_32 s_30 xz_13 xh_13 yz_11 yh_11 sz_9 mw41 low_7 high_4 c_37
            go_wp2
            go_ret
            exact ⟨rfl, c_38⟩
  · subst q1 q2 q3
    as_aux_lemma =>
      refine wp_region_plain ?_
      (refine wpQuiet_load_num rfl _ (.tmp 30) rfl _ rfl _ _ _ mw25 Try.underlying26 rfl size26 ?_; simp only [Act.put, List.setIfInBounds_toArray, List.set_cons_zero, List.set_cons_succ])
      go_big_quiet_step (fail)
      go_big_quiet_step (fail)
      go_big_quiet_step (fail)
      go_big_quiet_step (fail)
      go_big_quiet_step (fail)
      go_big_quiet_step (fail)
      go_big_quiet_step (fail)
      go_big_quiet_step (fail)
      first | (refine wpQuiet_load_num rfl _ (.tmp 13) rfl _ rfl _ _ _ x_16 Try.underlying26 rfl size26 ?_; simp only [Act.put, List.setIfInBounds_toArray, List.set_cons_zero, List.set_cons_succ]) | go_big_quiet_step (fail)
      first | (refine wpQuiet_load_num rfl _ (.tmp 14) rfl _ rfl _ _ _ y_16 Try.underlying26 rfl size26 ?_; simp only [Act.put, List.setIfInBounds_toArray, List.set_cons_zero, List.set_cons_succ]) | go_big_quiet_step (fail)
      go_big_quiet_step (fail)
      go_big_quiet_step (fail)
      go_big_quiet_step (fail)
      go_big_quiet_step (fail)
      first | (refine wpQuiet_load_num rfl _ (.tmp 13) rfl _ rfl _ _ _ x_16 Try.underlying26 rfl size26 ?_; simp only [Act.put, List.setIfInBounds_toArray, List.set_cons_zero, List.set_cons_succ]) | go_big_quiet_step (fail)
      first | (refine wpQuiet_load_num rfl _ (.tmp 14) rfl _ rfl _ _ _ y_16 Try.underlying26 rfl size26 ?_; simp only [Act.put, List.setIfInBounds_toArray, List.set_cons_zero, List.set_cons_succ]) | go_big_quiet_step (fail)
      go_big_quiet_step (fail)
      go_big_quiet_step (fail)
      go_big_quiet_step (fail)
      go_big_quiet_step (fail)
      go_big_quiet_step (fail)
      go_big_quiet_step (fail)
      go_big_quiet_step (fail)
      go_big_quiet_step (fail)
      go_big_quiet_step (fail)
      first | (refine wpQuiet_load_num rfl _ (.tmp 13) rfl _ rfl _ _ _ x_16 Try.underlying26 rfl size26 ?_; simp only [Act.put, List.setIfInBounds_toArray, List.set_cons_zero, List.set_cons_succ]) | go_big_quiet_step (fail)
      first | (refine wpQuiet_load_num rfl _ (.tmp 14) rfl _ rfl _ _ _ y_16 Try.underlying26 rfl size26 ?_; simp only [Act.put, List.setIfInBounds_toArray, List.set_cons_zero, List.set_cons_succ]) | go_big_quiet_step (fail)
      go_big_quiet_step (exact later_of (k8 _))
      go_big_quiet_step (fail)
      go_big_quiet_step (fail)
      go_big_quiet_step (fail)
      go_big_quiet_step (fail)
      go_big_quiet_step (fail)
      refine wpQuiet_nil ?_
      intro X_1
      have x_17 := x_16.step X_1.h
      have y_17 := y_16.step X_1.h
      have z_17 := z_16.step X_1.h
      have s_15 := s_14.step X_1.h
      have g_1 := mw25.step X_1.h
      have c_22 := step_trans c_21 X_1.h
      clear x_16 y_16 z_16 s_14 mw25 c_21
      clear q4 e0
      go_wp2_with (first | (refine wpList_load_num rfl _ (.tmp 13) rfl _ rfl _ _ _ x_17 Try.underlying26 rfl size26 ?_) | (refine wpList_load_num rfl _ (.tmp 15) rfl _ rfl _ _ _ z_17 Try.underlying26 rfl size26 ?_))
      refine (k9 _).mono ?_
      rintro e w26 ⟨rfl, bw26⟩
      have x_18 := x_17.step bw26
      have y_18 := y_17.step bw26
      have z_18 := z_17.step bw26
      have s_16 := s_15.step bw26
      have c_23 := step_trans c_22 bw26
      clear x_17 y_17 z_17 s_15 c_22 bw26
      go_wp2_with (first | (refine wpList_store_num rfl _ (.tmp 32) _ rfl _ rfl _ rfl _ rfl (news2 w26 _).1 size26 ?_; intro w27 gw27 mw27) | (refine wpList_store_num rfl _ (.tmp 33) _ rfl _ rfl _ rfl _ rfl ((gw27.block _ (by simp) (by simp)).trans (news2 w26 _).2) size26 ?_; intro w28 gw28 mw28; have b_10 := step_new2 gw27 gw28; have qw27 := (mw27.grown gw28 (by simp <;> omega)); have x_19 := x_18.step b_10; have y_19 := y_18.step b_10; have z_19 := z_18.step b_10; have s_17 := s_16.step b_10; have c_24 := step_trans c_23 b_10; clear x_18 y_18 z_18 s_16 c_23 b_10 gw27 gw28 mw27) | (refine wpList_load_num rfl _ (.tmp 14) rfl _ rfl _ _ _ y_19 Try.underlying26 rfl size26 ?_) | (refine wpList_load_num rfl _ (.tmp 15) rfl _ rfl _ _ _ z_19 Try.underlying26 rfl size26 ?_))
      refine (k10 _).mono ?_
      rintro e w29 ⟨rfl, bw29⟩
      have x_20 := x_19.step bw29
      have y_20 := y_19.step bw29
      have z_20 := z_19.step bw29
      have s_18 := s_17.step bw29
      have xz_1 := qw27.step bw29
      have xh_1 := mw28.step bw29
      have c_25 := step_trans c_24 bw29
      clear x_19 y_19 z_19 s_17 qw27 mw28 c_24 bw29
      go_wp2_with (first | (refine wpList_store_num rfl _ (.tmp 34) _ rfl _ rfl _ rfl _ rfl (news2 w29 _).1 size26 ?_; intro w30 gw30 mw30) | (refine wpList_store_num rfl _ (.tmp 35) _ rfl _ rfl _ rfl _ rfl ((gw30.block _ (by simp) (by simp)).trans (news2 w29 _).2) size26 ?_; intro w31 gw31 mw31; have b_11 := step_new2 gw30 gw31; have qw30 := (mw30.grown gw31 (by simp <;> omega)); have x_21 := x_20.step b_11; have y_21 := y_20.step b_11; have z_21 := z_20.step b_11; have s_19 := s_18.step b_11; have xz_2 := xz_1.step b_11; have xh_2 := xh_1.step b_11; have c_26 := step_trans c_25 b_11; clear x_20 y_20 z_20 s_18 xz_1 xh_1 c_25 b_11 gw30 gw31 mw30) | (refine wpList_load_num rfl _ (.tmp 15) rfl _ rfl _ _ _ z_21 Try.underlying26 rfl size26 ?_) | (refine wpList_load_num rfl _ (.tmp 16) rfl _ rfl _ _ _ s_19 Try.underlying26 rfl size26 ?_))
      refine (k11 _).mono ?_
      rintro e w32 ⟨rfl, bw32⟩
      have x_22 := x_21.step bw32
      have y_22 := y_21.step bw32
      have z_22 := z_21.step bw32
      have s_20 := s_19.step bw32
      have xz_3 := xz_2.step bw32
      have xh_3 := xh_2.step bw32
      have yz_1 := qw30.step bw32
      have yh_1 := mw31.step bw32
      have c_27 := step_trans c_26 bw32
      clear x_21 y_21 z_21 s_19 xz_2 xh_2 qw30 mw31 c_26 bw32
      go_wp2_with (first | (refine wpList_store_num rfl _ (.tmp 36) _ rfl _ rfl _ rfl _ rfl (news2 w32 _).1 size26 ?_; intro w33 gw33 mw33) | (refine wpList_store_num rfl _ (.tmp 37) _ rfl _ rfl _ rfl _ rfl ((gw33.block _ (by simp) (by simp)).trans (news2 w32 _).2) size26 ?_; intro w34 gw34 mw34; have b_12 := step_new2 gw33 gw34; have qw33 := (mw33.grown gw34 (by simp <;> omega)); have losh := hid (show _ ≤ w32.heap.size + 1 from Nat.le_trans c_27.size (by omega)); have nx_sh := hid (show _ ≠ w32.heap.size + 1 from Nat.ne_of_lt (Nat.lt_of_lt_of_le x_22.lt (by omega))); have ny_sh := hid (show _ ≠ w32.heap.size + 1 from Nat.ne_of_lt (Nat.lt_of_lt_of_le y_22.lt (by omega))); have nz_sh := hid (show _ ≠ w32.heap.size + 1 from Nat.ne_of_lt (Nat.lt_of_lt_of_le z_22.lt (by omega))); have ns_sh := hid (show _ ≠ w32.heap.size + 1 from Nat.ne_of_lt (Nat.lt_of_lt_of_le s_20.lt (by omega))); have nxz_sh := hid (show _ ≠ w32.heap.size + 1 from Nat.ne_of_lt (Nat.lt_of_lt_of_le xz_3.lt (by omega))); have nxh_sh := hid (show _ ≠ w32.heap.size + 1 from Nat.ne_of_lt (Nat.lt_of_lt_of_le xh_3.lt (by omega))); have nyz_sh := hid (show _ ≠ w32.heap.size + 1 from Nat.ne_of_lt (Nat.lt_of_lt_of_le yz_1.lt (by omega))); have nyh_sh := hid (show _ ≠ w32.heap.size + 1 from Nat.ne_of_lt (Nat.lt_of_lt_of_le yh_1.lt (by omega))); have nsz_sh := hid (show w32.heap.size ≠ w32.heap.size + 1 by omega); have x_23 := x_22.step b_12; have y_23 := y_22.step b_12; have z_23 := z_22.step b_12; have s_21 := s_20.step b_12; have xz_4 := xz_3.step b_12; have xh_4 := xh_3.step b_12; have yz_2 := yz_1.step b_12; have yh_2 := yh_1.step b_12; have c_28 := step_trans c_27 b_12; clear x_22 y_22 z_22 s_20 xz_3 xh_3 yz_1 yh_1 c_27 b_12 gw33 gw34 mw33) | (refine wpList_load_num rfl _ (.tmp 32) rfl _ rfl _ _ _ xz_4 Try.underlying26 rfl size26 ?_) | (refine wpList_load_num rfl _ (.tmp 34) rfl _ rfl _ _ _ yz_2 Try.underlying26 rfl size26 ?_))
      refine (k12 _).mono ?_
      rintro e w35 ⟨rfl, bw35⟩
      have x_24 := x_23.step bw35
      have y_24 := y_23.step bw35
      have z_24 := z_23.step bw35
      have s_22 := s_21.step bw35
      have xz_5 := xz_4.step bw35
      have xh_5 := xh_4.step bw35
      have yz_3 := yz_2.step bw35
      have yh_3 := yh_2.step bw35
      have sz_1 := qw33.step bw35
      have sh_1 := mw34.step bw35
      have c_29 := step_trans c_28 bw35
      clear x_23 y_23 z_23 s_21 xz_4 xh_4 yz_2 yh_2 qw33 mw34 c_28 bw35
      go_wp2_with (first | (refine wpList_store_num rfl _ (.tmp 38) _ rfl _ rfl _ rfl _ rfl (heap_alloc_new _ _) size26 ?_; intro w36 gw36 mw36; have b_13 := step_new gw36; have nsh_low := hid (show _ ≠ w35.heap.size from Nat.ne_of_lt (Nat.lt_of_lt_of_le sh_1.lt (by omega))); have x_25 := x_24.step b_13; have y_25 := y_24.step b_13; have z_25 := z_24.step b_13; have s_23 := s_22.step b_13; have xz_6 := xz_5.step b_13; have xh_6 := xh_5.step b_13; have yz_4 := yz_3.step b_13; have yh_4 := yh_3.step b_13; have sz_2 := sz_1.step b_13; have sh_2 := sh_1.step b_13; have c_30 := step_trans c_29 b_13; clear x_24 y_24 z_24 s_22 xz_5 xh_5 yz_3 yh_3 sz_1 sh_1 c_29 b_13 gw36) | (refine wpList_load_num rfl _ (.tmp 33) rfl _ rfl _ _ _ xh_6 Try.underlying26 rfl size26 ?_) | (refine wpList_load_num rfl _ (.tmp 35) rfl _ rfl _ _ _ yh_4 Try.underlying26 rfl size26 ?_))
      refine (k13 _).mono ?_
      rintro e w37 ⟨rfl, bw37⟩
      have x_26 := x_25.step bw37
      have y_26 := y_25.step bw37
      have z_26 := z_25.step bw37
      have s_24 := s_23.step bw37
      have xz_7 := xz_6.step bw37
      have xh_7 := xh_6.step bw37
      have yz_5 := yz_4.step bw37
      have yh_5 := yh_4.step bw37
      have sz_3 := sz_2.step bw37
      have sh_3 := sh_2.step bw37
      have low_1 := mw36.step bw37
      have c_31 := step_trans c_30 bw37
      clear x_25 y_25 z_25 s_23 xz_6 xh_6 yz_4 yh_4 sz_2 sh_2 mw36 c_30 bw37
      go_upto_region 21 with (first | (refine wpList_store_num rfl _ (.tmp 40) _ rfl _ rfl _ rfl _ rfl (heap_alloc_new _ _) size26 ?_; intro w38 gw38 mw38; have b_14 := step_new gw38; have lohigh := hid (show _ ≤ w37.heap.size from Nat.le_trans c_31.size (by omega)); have nx_high := hid (show _ ≠ w37.heap.size from Nat.ne_of_lt (Nat.lt_of_lt_of_le x_26.lt (by omega))); have ny_high := hid (show _ ≠ w37.heap.size from Nat.ne_of_lt (Nat.lt_of_lt_of_le y_26.lt (by omega))); have nz_high := hid (show _ ≠ w37.heap.size from Nat.ne_of_lt (Nat.lt_of_lt_of_le z_26.lt (by omega))); have ns_high := hid (show _ ≠ w37.heap.size from Nat.ne_of_lt (Nat.lt_of_lt_of_le s_24.lt (by omega))); have nxz_high := hid (show _ ≠ w37.heap.size from Nat.ne_of_lt (Nat.lt_of_lt_of_le xz_7.lt (by omega))); have nxh_high := hid (show _ ≠ w37.heap.size from Nat.ne_of_lt (Nat.lt_of_lt_of_le xh_7.lt (by omega))); have nyz_high := hid (show _ ≠ w37.heap.size from Nat.ne_of_lt (Nat.lt_of_lt_of_le yz_5.lt (by omega))); have nyh_high := hid (show _ ≠ w37.heap.size from Nat.ne_of_lt (Nat.lt_of_lt_of_le yh_5.lt (by omega))); have nsz_high := hid (show _ ≠ w37.heap.size from Nat.ne_of_lt (Nat.lt_of_lt_of_le sz_3.lt (by omega))); have nsh_high := hid (show _ ≠ w37.heap.size from Nat.ne_of_lt (Nat.lt_of_lt_of_le sh_3.lt (by omega))); have nlow_high := hid (show _ ≠ w37.heap.size from Nat.ne_of_lt (Nat.lt_of_lt_of_le low_1.lt (by omega))); have x_27 := x_26.step b_14; have y_27 := y_26.step b_14; have z_27 := z_26.step b_14; have s_25 := s_24.step b_14; have xz_8 := xz_7.step b_14; have xh_8 := xh_7.step b_14; have yz_6 := yz_5.step b_14; have yh_6 := yh_5.step b_14; have sz_4 := sz_3.step b_14; have sh_4 := sh_3.step b_14; have low_2 := low_1.step b_14; have c_32 := step_trans c_31 b_14; clear x_26 y_26 z_26 s_24 xz_7 xh_7 yz_5 yh_5 sz_3 sh_3 low_1 c_31 b_14 gw38) | (refine wpList_load_num rfl _ (.tmp 40) rfl _ rfl _ _ _ mw38 Try.underlying26 rfl size26 ?_))
      as_aux_lemma =>
        refine wp_region_news 8 26 (.cells #[Value.int .u32 0, .int .u32 0, .int .u32 0, .int .u32 0, .int .u32 0, .int .u32 0, .int .u32 0, .int .u32 0] 26) (fun _ _ _ _ _ h => h) (by kernel_rfl) (by kernel_rfl) (by kernel_rfl) (by kernel_rfl) (by kernel_rfl) (by kernel_rfl) (by kernel_rfl) (by kernel_rfl) num_new ?_
        intro V_1
        simp only [calmN, isNew, hush, hushT, List.drop_succ_cons, List.drop_zero]
        have x_28 := x_27.step V_1.h
        have y_28 := y_27.step V_1.h
        have z_28 := z_27.step V_1.h
        have s_26 := s_25.step V_1.h
        have xz_9 := xz_8.step V_1.h
        have xh_9 := xh_8.step V_1.h
        have yz_7 := yz_6.step V_1.h
        have yh_7 := yh_6.step V_1.h
        have sz_5 := sz_4.step V_1.h
        have sh_5 := sh_4.step V_1.h
        have low_3 := low_2.step V_1.h
        have high_1 := mw38.step V_1.h
        have c_33 := step_trans c_32 V_1.h
        (refine wpQuiet_load_num rfl _ (.tmp 40) rfl _ rfl _ _ _ high_1 Try.underlying26 rfl size26 ?_; simp only [Act.put, List.setIfInBounds_toArray, List.set_cons_zero, List.set_cons_succ])
        go_big_quiet_step (fail)
        go_big_quiet_step (fail)
        go_big_quiet_step (exact later_of (from_any _ (by omega) (by omega) _))
        go_big_quiet_step (exact later_of (k14 _))
        go_big_quiet_step (fail)
        go_big_quiet_step (fail)
        go_big_quiet_step (fail)
        go_big_quiet_step (fail)
        refine wpQuiet_nil ?_
        intro X_2 p_1 hp_1
        obtain ⟨hp_11, hp_12⟩ := hp_1
        have x_29 := x_28.step X_2.h
        have y_29 := y_28.step X_2.h
        have z_29 := z_28.step X_2.h
        have s_27 := s_26.step X_2.h
        have xz_10 := xz_9.step X_2.h
        have xh_10 := xh_9.step X_2.h
        have yz_8 := yz_7.step X_2.h
        have yh_8 := yh_7.step X_2.h
        have sz_6 := sz_5.step X_2.h
        have sh_6 := sh_5.step X_2.h
        have low_4 := low_3.step X_2.h
        have high_2 := high_1.step X_2.h
        have c_34 := step_trans c_33 X_2.h
        simp only [layN, isNew, Act.put, List.setIfInBounds_toArray, List.set_cons_zero, List.set_cons_succ, Nat.zero_add, Nat.reduceAdd]
        clear hp_11 hp_12
        clear x_27 y_27 z_27 s_25 xz_8 xh_8 yz_6 yh_6 sz_4 sh_4 low_2 mw38 c_32 x_28 y_28 z_28 s_26 xz_9 xh_9 yz_7 yh_7 sz_5 sh_5 low_3 high_1 c_33
        rcases HP.out with ⟨hp, hsh⟩ | ⟨hp, k15⟩
        · subst hp hsh
          go_upto_region 24 with (first | (refine wpList_store_num rfl _ (.tmp 40) _ rfl _ rfl _ rfl _ rfl high_2 size26 ?_; intro w39 gw39 mw39; have x_30 := x_29.grown gw39 (ne_some nx_high.out); have y_30 := y_29.grown gw39 (ne_some ny_high.out); have z_30 := z_29.grown gw39 (ne_some nz_high.out); have s_28 := s_27.grown gw39 (ne_some ns_high.out); have xz_11 := xz_10.grown gw39 (ne_some nxz_high.out); have xh_11 := xh_10.grown gw39 (ne_some nxh_high.out); have yz_9 := yz_8.grown gw39 (ne_some nyz_high.out); have yh_9 := yh_8.grown gw39 (ne_some nyh_high.out); have sz_7 := sz_6.grown gw39 (ne_some nsz_high.out); have sh_7 := sh_6.grown gw39 (ne_some nsh_high.out); have low_5 := low_4.grown gw39 (ne_some nlow_high.out); have c_35 := below_of_grown c_34 gw39 c_34.size lohigh.out; clear high_2 x_29 y_29 z_29 s_27 xz_10 xh_10 yz_8 yh_8 sz_6 sh_6 low_4 c_34 gw39) | (refine wpList_load_num rfl _ (.tmp 15) rfl _ rfl _ _ _ z_30 Try.underlying26 rfl size26 ?_) | (refine wpList_load_num rfl _ (.tmp 37) rfl _ rfl _ _ _ sh_7 Try.underlying26 rfl size26 ?_))
          as_aux_lemma =>
            refine wp_region_plain ?_
            (refine wpQuiet_load_num rfl _ (.tmp 36) rfl _ rfl _ _ _ sz_7 Try.underlying26 rfl size26 ?_; simp only [Act.put, List.setIfInBounds_toArray, List.set_cons_zero, List.set_cons_succ])
            (refine wpQuiet_load_num rfl _ (.tmp 38) rfl _ rfl _ _ _ low_5 Try.underlying26 rfl size26 ?_; simp only [Act.put, List.setIfInBounds_toArray, List.set_cons_zero, List.set_cons_succ])
            go_big_quiet_step (fail)
            go_big_quiet_step (fail)
            first | (refine wpQuiet_load_num rfl _ (.tmp 37) rfl _ rfl _ _ _ sh_7 Try.underlying26 rfl size26 ?_; simp only [Act.put, List.setIfInBounds_toArray, List.set_cons_zero, List.set_cons_succ]) | go_big_quiet_step (fail)
            first | (refine wpQuiet_load_num rfl _ (.tmp 40) rfl _ rfl _ _ _ mw39 Try.underlying26 rfl size26 ?_; simp only [Act.put, List.setIfInBounds_toArray, List.set_cons_zero, List.set_cons_succ]) | go_big_quiet_step (fail)
            go_big_quiet_step (fail)
            go_big_quiet_step (fail)
            go_big_quiet_step (fail)
            refine wpQuiet_nil ?_
            intro X_3
            have x_31 := x_30.step X_3.h
            have y_31 := y_30.step X_3.h
            have z_31 := z_30.step X_3.h
            have s_29 := s_28.step X_3.h
            have xz_12 := xz_11.step X_3.h
            have xh_12 := xh_11.step X_3.h
            have yz_10 := yz_9.step X_3.h
            have yh_10 := yh_9.step X_3.h
            have sz_8 := sz_7.step X_3.h
            have sh_8 := sh_7.step X_3.h
            have low_6 := low_5.step X_3.h
            have high_3 := mw39.step X_3.h
            have c_36 := step_trans c_35 X_3.h
            clear x_30 y_30 z_30 s_28 xz_11 xh_11 yz_9 yh_9 sz_7 sh_7 low_5 mw39 c_35
            go_wp2
            go_ret
            exact ⟨rfl, c_36⟩
        · subst hp
          go_wp2_with (first | (refine wpList_store_num rfl _ (.tmp 40) _ rfl _ rfl _ rfl _ rfl high_2 size26 ?_; intro w39 gw39 mw39; have x_30 := x_29.grown gw39 (ne_some nx_high.out); have y_30 := y_29.grown gw39 (ne_some ny_high.out); have z_30 := z_29.grown gw39 (ne_some nz_high.out); have s_28 := s_27.grown gw39 (ne_some ns_high.out); have xz_11 := xz_10.grown gw39 (ne_some nxz_high.out); have xh_11 := xh_10.grown gw39 (ne_some nxh_high.out); have yz_9 := yz_8.grown gw39 (ne_some nyz_high.out); have yh_9 := yh_8.grown gw39 (ne_some nyh_high.out); have sz_7 := sz_6.grown gw39 (ne_some nsz_high.out); have sh_7 := sh_6.grown gw39 (ne_some nsh_high.out); have low_5 := low_4.grown gw39 (ne_some nlow_high.out); have c_35 := below_of_grown c_34 gw39 c_34.size lohigh.out; clear high_2 x_29 y_29 z_29 s_27 xz_10 xh_10 yz_8 yh_8 sz_6 sh_6 low_4 c_34 gw39) | (refine wpList_load_num rfl _ (.tmp 15) rfl _ rfl _ _ _ z_30 Try.underlying26 rfl size26 ?_) | (refine wpList_load_num rfl _ (.tmp 37) rfl _ rfl _ _ _ sh_7 Try.underlying26 rfl size26 ?_))
          refine (k15 _).mono ?_
          rintro e w40 ⟨rfl, bw40⟩
          have x_31 := x_30.step bw40
          have y_31 := y_30.step bw40
          have z_31 := z_30.step bw40
          have s_29 := s_28.step bw40
          have xz_12 := xz_11.step bw40
          have xh_12 := xh_11.step bw40
          have yz_10 := yz_9.step bw40
          have yh_10 := yh_9.step bw40
          have sz_8 := sz_7.step bw40
          have sh_8 := sh_7.step bw40
          have low_6 := low_5.step bw40
          have high_3 := mw39.step bw40
          have c_36 := step_trans c_35 bw40
          clear x_30 y_30 z_30 s_28 xz_11 xh_11 yz_9 yh_9 sz_7 sh_7 low_5 mw39 c_35 bw40
          go_upto_region 24 with (first | (refine wpList_store_num rfl _ (.tmp 37) _ rfl _ rfl _ rfl _ rfl sh_8 size26 ?_; intro w41 gw41 mw41; have x_32 := x_31.grown gw41 (ne_some nx_sh.out); have y_32 := y_31.grown gw41 (ne_some ny_sh.out); have z_32 := z_31.grown gw41 (ne_some nz_sh.out); have s_30 := s_29.grown gw41 (ne_some ns_sh.out); have xz_13 := xz_12.grown gw41 (ne_some nxz_sh.out); have xh_13 := xh_12.grown gw41 (ne_some nxh_sh.out); have yz_11 := yz_10.grown gw41 (ne_some nyz_sh.out); have yh_11 := yh_10.grown gw41 (ne_some nyh_sh.out); have sz_9 := sz_8.grown gw41 (ne_some nsz_sh.out); have low_7 := low_6.grown gw41 (ne_some nsh_low.out.symm); have high_4 := high_3.grown gw41 (ne_some nsh_high.out.symm); have c_37 := below_of_grown c_36 gw41 c_36.size losh.out; clear sh_8 x_31 y_31 z_31 s_29 xz_12 xh_12 yz_10 yh_10 sz_8 low_6 high_3 c_36 gw41) | (refine wpList_load_num rfl _ (.tmp 36) rfl _ rfl _ _ _ sz_9 Try.underlying26 rfl size26 ?_) | (refine wpList_load_num rfl _ (.tmp 37) rfl _ rfl _ _ _ mw41 Try.underlying26 rfl size26 ?_) | (refine wpList_load_num rfl _ (.tmp 38) rfl _ rfl _ _ _ low_7 Try.underlying26 rfl size26 ?_) | (refine wpList_load_num rfl _ (.tmp 40) rfl _ rfl _ _ _ high_4 Try.underlying26 rfl size26 ?_))
          as_aux_lemma =>
            refine wp_region_plain ?_
            (refine wpQuiet_load_num rfl _ (.tmp 36) rfl _ rfl _ _ _ sz_9 Try.underlying26 rfl size26 ?_; simp only [Act.put, List.setIfInBounds_toArray, List.set_cons_zero, List.set_cons_succ])
            (refine wpQuiet_load_num rfl _ (.tmp 38) rfl _ rfl _ _ _ low_7 Try.underlying26 rfl size26 ?_; simp only [Act.put, List.setIfInBounds_toArray, List.set_cons_zero, List.set_cons_succ])
            go_big_quiet_step (fail)
            go_big_quiet_step (fail)
            first | (refine wpQuiet_load_num rfl _ (.tmp 37) rfl _ rfl _ _ _ mw41 Try.underlying26 rfl size26 ?_; simp only [Act.put, List.setIfInBounds_toArray, List.set_cons_zero, List.set_cons_succ]) | go_big_quiet_step (fail)
            first | (refine wpQuiet_load_num rfl _ (.tmp 40) rfl _ rfl _ _ _ high_4 Try.underlying26 rfl size26 ?_; simp only [Act.put, List.setIfInBounds_toArray, List.set_cons_zero, List.set_cons_succ]) | go_big_quiet_step (fail)
            go_big_quiet_step (fail)
            go_big_quiet_step (fail)
            go_big_quiet_step (fail)
            refine wpQuiet_nil ?_
            intro X_3
            have x_33 := x_32.step X_3.h
            have y_33 := y_32.step X_3.h
            have z_33 := z_32.step X_3.h
            have s_31 := s_30.step X_3.h
            have xz_14 := xz_13.step X_3.h
            have xh_14 := xh_13.step X_3.h
            have yz_12 := yz_11.step X_3.h
            have yh_12 := yh_11.step X_3.h
            have sz_10 := sz_9.step X_3.h
            have sh_9 := mw41.step X_3.h
            have low_8 := low_7.step X_3.h
            have high_5 := high_4.step X_3.h
            have c_38 := step_trans c_37 X_3.h
            clear x_32 y_32 z_32 s_30 xz_13 xh_13 yz_11 yh_11 sz_9 mw41 low_7 high_4 c_37
            go_wp2
            go_ret
            exact ⟨rfl, c_38⟩
  · subst q1 q2 q3
    as_aux_lemma =>
      refine wp_region_plain ?_
      (refine wpQuiet_load_num rfl _ (.tmp 30) rfl _ rfl _ _ _ mw25 Try.underlying26 rfl size26 ?_; simp only [Act.put, List.setIfInBounds_toArray, List.set_cons_zero, List.set_cons_succ])
      go_big_quiet_step (fail)
      go_big_quiet_step (fail)
      go_big_quiet_step (fail)
      go_big_quiet_step (fail)
      go_big_quiet_step (fail)
      go_big_quiet_step (fail)
      go_big_quiet_step (fail)
      go_big_quiet_step (fail)
      first | (refine wpQuiet_load_num rfl _ (.tmp 13) rfl _ rfl _ _ _ x_16 Try.underlying26 rfl size26 ?_; simp only [Act.put, List.setIfInBounds_toArray, List.set_cons_zero, List.set_cons_succ]) | go_big_quiet_step (fail)
      first | (refine wpQuiet_load_num rfl _ (.tmp 14) rfl _ rfl _ _ _ y_16 Try.underlying26 rfl size26 ?_; simp only [Act.put, List.setIfInBounds_toArray, List.set_cons_zero, List.set_cons_succ]) | go_big_quiet_step (fail)
      go_big_quiet_step (fail)
      go_big_quiet_step (fail)
      go_big_quiet_step (fail)
      go_big_quiet_step (fail)
      first | (refine wpQuiet_load_num rfl _ (.tmp 13) rfl _ rfl _ _ _ x_16 Try.underlying26 rfl size26 ?_; simp only [Act.put, List.setIfInBounds_toArray, List.set_cons_zero, List.set_cons_succ]) | go_big_quiet_step (fail)
      first | (refine wpQuiet_load_num rfl _ (.tmp 14) rfl _ rfl _ _ _ y_16 Try.underlying26 rfl size26 ?_; simp only [Act.put, List.setIfInBounds_toArray, List.set_cons_zero, List.set_cons_succ]) | go_big_quiet_step (fail)
      go_big_quiet_step (fail)
      go_big_quiet_step (fail)
      go_big_quiet_step (fail)
      go_big_quiet_step (fail)
      go_big_quiet_step (fail)
      go_big_quiet_step (fail)
      go_big_quiet_step (fail)
      go_big_quiet_step (fail)
      go_big_quiet_step (fail)
      first | (refine wpQuiet_load_num rfl _ (.tmp 13) rfl _ rfl _ _ _ x_16 Try.underlying26 rfl size26 ?_; simp only [Act.put, List.setIfInBounds_toArray, List.set_cons_zero, List.set_cons_succ]) | go_big_quiet_step (fail)
      first | (refine wpQuiet_load_num rfl _ (.tmp 14) rfl _ rfl _ _ _ y_16 Try.underlying26 rfl size26 ?_; simp only [Act.put, List.setIfInBounds_toArray, List.set_cons_zero, List.set_cons_succ]) | go_big_quiet_step (fail)
      go_big_quiet_step (exact later_of (k8 _))
      go_big_quiet_step (fail)
      go_big_quiet_step (fail)
      go_big_quiet_step (fail)
      go_big_quiet_step (fail)
      go_big_quiet_step (fail)
      refine wpQuiet_nil ?_
      intro X_1
      have x_17 := x_16.step X_1.h
      have y_17 := y_16.step X_1.h
      have z_17 := z_16.step X_1.h
      have s_15 := s_14.step X_1.h
      have g_1 := mw25.step X_1.h
      have c_22 := step_trans c_21 X_1.h
      clear x_16 y_16 z_16 s_14 mw25 c_21
      clear q4 e0
      go_wp2_with (first | (refine wpList_load_num rfl _ (.tmp 13) rfl _ rfl _ _ _ x_17 Try.underlying26 rfl size26 ?_) | (refine wpList_load_num rfl _ (.tmp 15) rfl _ rfl _ _ _ z_17 Try.underlying26 rfl size26 ?_))
      refine (k9 _).mono ?_
      rintro e w26 ⟨rfl, bw26⟩
      have x_18 := x_17.step bw26
      have y_18 := y_17.step bw26
      have z_18 := z_17.step bw26
      have s_16 := s_15.step bw26
      have c_23 := step_trans c_22 bw26
      clear x_17 y_17 z_17 s_15 c_22 bw26
      go_wp2_with (first | (refine wpList_store_num rfl _ (.tmp 32) _ rfl _ rfl _ rfl _ rfl (news2 w26 _).1 size26 ?_; intro w27 gw27 mw27) | (refine wpList_store_num rfl _ (.tmp 33) _ rfl _ rfl _ rfl _ rfl ((gw27.block _ (by simp) (by simp)).trans (news2 w26 _).2) size26 ?_; intro w28 gw28 mw28; have b_10 := step_new2 gw27 gw28; have qw27 := (mw27.grown gw28 (by simp <;> omega)); have x_19 := x_18.step b_10; have y_19 := y_18.step b_10; have z_19 := z_18.step b_10; have s_17 := s_16.step b_10; have c_24 := step_trans c_23 b_10; clear x_18 y_18 z_18 s_16 c_23 b_10 gw27 gw28 mw27) | (refine wpList_load_num rfl _ (.tmp 14) rfl _ rfl _ _ _ y_19 Try.underlying26 rfl size26 ?_) | (refine wpList_load_num rfl _ (.tmp 15) rfl _ rfl _ _ _ z_19 Try.underlying26 rfl size26 ?_))
      refine (k10 _).mono ?_
      rintro e w29 ⟨rfl, bw29⟩
      have x_20 := x_19.step bw29
      have y_20 := y_19.step bw29
      have z_20 := z_19.step bw29
      have s_18 := s_17.step bw29
      have xz_1 := qw27.step bw29
      have xh_1 := mw28.step bw29
      have c_25 := step_trans c_24 bw29
      clear x_19 y_19 z_19 s_17 qw27 mw28 c_24 bw29
      go_wp2_with (first | (refine wpList_store_num rfl _ (.tmp 34) _ rfl _ rfl _ rfl _ rfl (news2 w29 _).1 size26 ?_; intro w30 gw30 mw30) | (refine wpList_store_num rfl _ (.tmp 35) _ rfl _ rfl _ rfl _ rfl ((gw30.block _ (by simp) (by simp)).trans (news2 w29 _).2) size26 ?_; intro w31 gw31 mw31; have b_11 := step_new2 gw30 gw31; have qw30 := (mw30.grown gw31 (by simp <;> omega)); have x_21 := x_20.step b_11; have y_21 := y_20.step b_11; have z_21 := z_20.step b_11; have s_19 := s_18.step b_11; have xz_2 := xz_1.step b_11; have xh_2 := xh_1.step b_11; have c_26 := step_trans c_25 b_11; clear x_20 y_20 z_20 s_18 xz_1 xh_1 c_25 b_11 gw30 gw31 mw30) | (refine wpList_load_num rfl _ (.tmp 15) rfl _ rfl _ _ _ z_21 Try.underlying26 rfl size26 ?_) | (refine wpList_load_num rfl _ (.tmp 16) rfl _ rfl _ _ _ s_19 Try.underlying26 rfl size26 ?_))
      refine (k11 _).mono ?_
      rintro e w32 ⟨rfl, bw32⟩
      have x_22 := x_21.step bw32
      have y_22 := y_21.step bw32
      have z_22 := z_21.step bw32
      have s_20 := s_19.step bw32
      have xz_3 := xz_2.step bw32
      have xh_3 := xh_2.step bw32
      have yz_1 := qw30.step bw32
      have yh_1 := mw31.step bw32
      have c_27 := step_trans c_26 bw32
      clear x_21 y_21 z_21 s_19 xz_2 xh_2 qw30 mw31 c_26 bw32
      go_wp2_with (first | (refine wpList_store_num rfl _ (.tmp 36) _ rfl _ rfl _ rfl _ rfl (news2 w32 _).1 size26 ?_; intro w33 gw33 mw33) | (refine wpList_store_num rfl _ (.tmp 37) _ rfl _ rfl _ rfl _ rfl ((gw33.block _ (by simp) (by simp)).trans (news2 w32 _).2) size26 ?_; intro w34 gw34 mw34; have b_12 := step_new2 gw33 gw34; have qw33 := (mw33.grown gw34 (by simp <;> omega)); have losh := hid (show _ ≤ w32.heap.size + 1 from Nat.le_trans c_27.size (by omega)); have nx_sh := hid (show _ ≠ w32.heap.size + 1 from Nat.ne_of_lt (Nat.lt_of_lt_of_le x_22.lt (by omega))); have ny_sh := hid (show _ ≠ w32.heap.size + 1 from Nat.ne_of_lt (Nat.lt_of_lt_of_le y_22.lt (by omega))); have nz_sh := hid (show _ ≠ w32.heap.size + 1 from Nat.ne_of_lt (Nat.lt_of_lt_of_le z_22.lt (by omega))); have ns_sh := hid (show _ ≠ w32.heap.size + 1 from Nat.ne_of_lt (Nat.lt_of_lt_of_le s_20.lt (by omega))); have nxz_sh := hid (show _ ≠ w32.heap.size + 1 from Nat.ne_of_lt (Nat.lt_of_lt_of_le xz_3.lt (by omega))); have nxh_sh := hid (show _ ≠ w32.heap.size + 1 from Nat.ne_of_lt (Nat.lt_of_lt_of_le xh_3.lt (by omega))); have nyz_sh := hid (show _ ≠ w32.heap.size + 1 from Nat.ne_of_lt (Nat.lt_of_lt_of_le yz_1.lt (by omega))); have nyh_sh := hid (show _ ≠ w32.heap.size + 1 from Nat.ne_of_lt (Nat.lt_of_lt_of_le yh_1.lt (by omega))); have nsz_sh := hid (show w32.heap.size ≠ w32.heap.size + 1 by omega); have x_23 := x_22.step b_12; have y_23 := y_22.step b_12; have z_23 := z_22.step b_12; have s_21 := s_20.step b_12; have xz_4 := xz_3.step b_12; have xh_4 := xh_3.step b_12; have yz_2 := yz_1.step b_12; have yh_2 := yh_1.step b_12; have c_28 := step_trans c_27 b_12; clear x_22 y_22 z_22 s_20 xz_3 xh_3 yz_1 yh_1 c_27 b_12 gw33 gw34 mw33) | (refine wpList_load_num rfl _ (.tmp 32) rfl _ rfl _ _ _ xz_4 Try.underlying26 rfl size26 ?_) | (refine wpList_load_num rfl _ (.tmp 34) rfl _ rfl _ _ _ yz_2 Try.underlying26 rfl size26 ?_))
      refine (k12 _).mono ?_
      rintro e w35 ⟨rfl, bw35⟩
      have x_24 := x_23.step bw35
      have y_24 := y_23.step bw35
      have z_24 := z_23.step bw35
      have s_22 := s_21.step bw35
      have xz_5 := xz_4.step bw35
      have xh_5 := xh_4.step bw35
      have yz_3 := yz_2.step bw35
      have yh_3 := yh_2.step bw35
      have sz_1 := qw33.step bw35
      have sh_1 := mw34.step bw35
      have c_29 := step_trans c_28 bw35
      clear x_23 y_23 z_23 s_21 xz_4 xh_4 yz_2 yh_2 qw33 mw34 c_28 bw35
      go_wp2_with (first | (refine wpList_store_num rfl _ (.tmp 38) _ rfl _ rfl _ rfl _ rfl (heap_alloc_new _ _) size26 ?_; intro w36 gw36 mw36; have b_13 := step_new gw36; have nsh_low := hid (show _ ≠ w35.heap.size from Nat.ne_of_lt (Nat.lt_of_lt_of_le sh_1.lt (by omega))); have x_25 := x_24.step b_13; have y_25 := y_24.step b_13; have z_25 := z_24.step b_13; have s_23 := s_22.step b_13; have xz_6 := xz_5.step b_13; have xh_6 := xh_5.step b_13; have yz_4 := yz_3.step b_13; have yh_4 := yh_3.step b_13; have sz_2 := sz_1.step b_13; have sh_2 := sh_1.step b_13; have c_30 := step_trans c_29 b_13; clear x_24 y_24 z_24 s_22 xz_5 xh_5 yz_3 yh_3 sz_1 sh_1 c_29 b_13 gw36) | (refine wpList_load_num rfl _ (.tmp 33) rfl _ rfl _ _ _ xh_6 Try.underlying26 rfl size26 ?_) | (refine wpList_load_num rfl _ (.tmp 35) rfl _ rfl _ _ _ yh_4 Try.underlying26 rfl size26 ?_))
      refine (k13 _).mono ?_
      rintro e w37 ⟨rfl, bw37⟩
      have x_26 := x_25.step bw37
      have y_26 := y_25.step bw37
      have z_26 := z_25.step bw37
      have s_24 := s_23.step bw37
      have xz_7 := xz_6.step bw37
      have xh_7 := xh_6.step bw37
      have yz_5 := yz_4.step bw37
      have yh_5 := yh_4.step bw37
      have sz_3 := sz_2.step bw37
      have sh_3 := sh_2.step bw37
      have low_1 := mw36.step bw37
      have c_31 := step_trans c_30 bw37
      clear x_25 y_25 z_25 s_23 xz_6 xh_6 yz_4 yh_4 sz_2 sh_2 mw36 c_30 bw37
      go_upto_region 21 with (first | (refine wpList_store_num rfl _ (.tmp 40) _ rfl _ rfl _ rfl _ rfl (heap_alloc_new _ _) size26 ?_; intro w38 gw38 mw38; have b_14 := step_new gw38; have lohigh := hid (show _ ≤ w37.heap.size from Nat.le_trans c_31.size (by omega)); have nx_high := hid (show _ ≠ w37.heap.size from Nat.ne_of_lt (Nat.lt_of_lt_of_le x_26.lt (by omega))); have ny_high := hid (show _ ≠ w37.heap.size from Nat.ne_of_lt (Nat.lt_of_lt_of_le y_26.lt (by omega))); have nz_high := hid (show _ ≠ w37.heap.size from Nat.ne_of_lt (Nat.lt_of_lt_of_le z_26.lt (by omega))); have ns_high := hid (show _ ≠ w37.heap.size from Nat.ne_of_lt (Nat.lt_of_lt_of_le s_24.lt (by omega))); have nxz_high := hid (show _ ≠ w37.heap.size from Nat.ne_of_lt (Nat.lt_of_lt_of_le xz_7.lt (by omega))); have nxh_high := hid (show _ ≠ w37.heap.size from Nat.ne_of_lt (Nat.lt_of_lt_of_le xh_7.lt (by omega))); have nyz_high := hid (show _ ≠ w37.heap.size from Nat.ne_of_lt (Nat.lt_of_lt_of_le yz_5.lt (by omega))); have nyh_high := hid (show _ ≠ w37.heap.size from Nat.ne_of_lt (Nat.lt_of_lt_of_le yh_5.lt (by omega))); have nsz_high := hid (show _ ≠ w37.heap.size from Nat.ne_of_lt (Nat.lt_of_lt_of_le sz_3.lt (by omega))); have nsh_high := hid (show _ ≠ w37.heap.size from Nat.ne_of_lt (Nat.lt_of_lt_of_le sh_3.lt (by omega))); have nlow_high := hid (show _ ≠ w37.heap.size from Nat.ne_of_lt (Nat.lt_of_lt_of_le low_1.lt (by omega))); have x_27 := x_26.step b_14; have y_27 := y_26.step b_14; have z_27 := z_26.step b_14; have s_25 := s_24.step b_14; have xz_8 := xz_7.step b_14; have xh_8 := xh_7.step b_14; have yz_6 := yz_5.step b_14; have yh_6 := yh_5.step b_14; have sz_4 := sz_3.step b_14; have sh_4 := sh_3.step b_14; have low_2 := low_1.step b_14; have c_32 := step_trans c_31 b_14; clear x_26 y_26 z_26 s_24 xz_7 xh_7 yz_5 yh_5 sz_3 sh_3 low_1 c_31 b_14 gw38) | (refine wpList_load_num rfl _ (.tmp 40) rfl _ rfl _ _ _ mw38 Try.underlying26 rfl size26 ?_))
      as_aux_lemma =>
        refine wp_region_news 8 26 (.cells #[Value.int .u32 0, .int .u32 0, .int .u32 0, .int .u32 0, .int .u32 0, .int .u32 0, .int .u32 0, .int .u32 0] 26) (fun _ _ _ _ _ h => h) (by kernel_rfl) (by kernel_rfl) (by kernel_rfl) (by kernel_rfl) (by kernel_rfl) (by kernel_rfl) (by kernel_rfl) (by kernel_rfl) num_new ?_
        intro V_1
        simp only [calmN, isNew, hush, hushT, List.drop_succ_cons, List.drop_zero]
        have x_28 := x_27.step V_1.h
        have y_28 := y_27.step V_1.h
        have z_28 := z_27.step V_1.h
        have s_26 := s_25.step V_1.h
        have xz_9 := xz_8.step V_1.h
        have xh_9 := xh_8.step V_1.h
        have yz_7 := yz_6.step V_1.h
        have yh_7 := yh_6.step V_1.h
        have sz_5 := sz_4.step V_1.h
        have sh_5 := sh_4.step V_1.h
        have low_3 := low_2.step V_1.h
        have high_1 := mw38.step V_1.h
        have c_33 := step_trans c_32 V_1.h
        (refine wpQuiet_load_num rfl _ (.tmp 40) rfl _ rfl _ _ _ high_1 Try.underlying26 rfl size26 ?_; simp only [Act.put, List.setIfInBounds_toArray, List.set_cons_zero, List.set_cons_succ])
        go_big_quiet_step (fail)
        go_big_quiet_step (fail)
        go_big_quiet_step (exact later_of (from_any _ (by omega) (by omega) _))
        go_big_quiet_step (exact later_of (k14 _))
        go_big_quiet_step (fail)
        go_big_quiet_step (fail)
        go_big_quiet_step (fail)
        go_big_quiet_step (fail)
        refine wpQuiet_nil ?_
        intro X_2 p_1 hp_1
        obtain ⟨hp_11, hp_12⟩ := hp_1
        have x_29 := x_28.step X_2.h
        have y_29 := y_28.step X_2.h
        have z_29 := z_28.step X_2.h
        have s_27 := s_26.step X_2.h
        have xz_10 := xz_9.step X_2.h
        have xh_10 := xh_9.step X_2.h
        have yz_8 := yz_7.step X_2.h
        have yh_8 := yh_7.step X_2.h
        have sz_6 := sz_5.step X_2.h
        have sh_6 := sh_5.step X_2.h
        have low_4 := low_3.step X_2.h
        have high_2 := high_1.step X_2.h
        have c_34 := step_trans c_33 X_2.h
        simp only [layN, isNew, Act.put, List.setIfInBounds_toArray, List.set_cons_zero, List.set_cons_succ, Nat.zero_add, Nat.reduceAdd]
        clear hp_11 hp_12
        clear x_27 y_27 z_27 s_25 xz_8 xh_8 yz_6 yh_6 sz_4 sh_4 low_2 mw38 c_32 x_28 y_28 z_28 s_26 xz_9 xh_9 yz_7 yh_7 sz_5 sh_5 low_3 high_1 c_33
        rcases HP.out with ⟨hp, hsh⟩ | ⟨hp, k15⟩
        · subst hp hsh
          go_upto_region 24 with (first | (refine wpList_store_num rfl _ (.tmp 40) _ rfl _ rfl _ rfl _ rfl high_2 size26 ?_; intro w39 gw39 mw39; have x_30 := x_29.grown gw39 (ne_some nx_high.out); have y_30 := y_29.grown gw39 (ne_some ny_high.out); have z_30 := z_29.grown gw39 (ne_some nz_high.out); have s_28 := s_27.grown gw39 (ne_some ns_high.out); have xz_11 := xz_10.grown gw39 (ne_some nxz_high.out); have xh_11 := xh_10.grown gw39 (ne_some nxh_high.out); have yz_9 := yz_8.grown gw39 (ne_some nyz_high.out); have yh_9 := yh_8.grown gw39 (ne_some nyh_high.out); have sz_7 := sz_6.grown gw39 (ne_some nsz_high.out); have sh_7 := sh_6.grown gw39 (ne_some nsh_high.out); have low_5 := low_4.grown gw39 (ne_some nlow_high.out); have c_35 := below_of_grown c_34 gw39 c_34.size lohigh.out; clear high_2 x_29 y_29 z_29 s_27 xz_10 xh_10 yz_8 yh_8 sz_6 sh_6 low_4 c_34 gw39) | (refine wpList_load_num rfl _ (.tmp 15) rfl _ rfl _ _ _ z_30 Try.underlying26 rfl size26 ?_) | (refine wpList_load_num rfl _ (.tmp 37) rfl _ rfl _ _ _ sh_7 Try.underlying26 rfl size26 ?_))
          as_aux_lemma =>
            refine wp_region_plain ?_
            (refine wpQuiet_load_num rfl _ (.tmp 36) rfl _ rfl _ _ _ sz_7 Try.underlying26 rfl size26 ?_; simp only [Act.put, List.setIfInBounds_toArray, List.set_cons_zero, List.set_cons_succ])
            (refine wpQuiet_load_num rfl _ (.tmp 38) rfl _ rfl _ _ _ low_5 Try.underlying26 rfl size26 ?_; simp only [Act.put, List.setIfInBounds_toArray, List.set_cons_zero, List.set_cons_succ])
            go_big_quiet_step (fail)
            go_big_quiet_step (fail)
            first | (refine wpQuiet_load_num rfl _ (.tmp 37) rfl _ rfl _ _ _ sh_7 Try.underlying26 rfl size26 ?_; simp only [Act.put, List.setIfInBounds_toArray, List.set_cons_zero, List.set_cons_succ]) | go_big_quiet_step (fail)
            first | (refine wpQuiet_load_num rfl _ (.tmp 40) rfl _ rfl _ _ _ mw39 Try.underlying26 rfl size26 ?_; simp only [Act.put, List.setIfInBounds_toArray, List.set_cons_zero, List.set_cons_succ]) | go_big_quiet_step (fail)
            go_big_quiet_step (fail)
            go_big_quiet_step (fail)
            go_big_quiet_step (fail)
            refine wpQuiet_nil ?_
            intro X_3
            have x_31 := x_30.step X_3.h
            have y_31 := y_30.step X_3.h
            have z_31 := z_30.step X_3.h
            have s_29 := s_28.step X_3.h
            have xz_12 := xz_11.step X_3.h
            have xh_12 := xh_11.step X_3.h
            have yz_10 := yz_9.step X_3.h
            have yh_10 := yh_9.step X_3.h
            have sz_8 := sz_7.step X_3.h
            have sh_8 := sh_7.step X_3.h
            have low_6 := low_5.step X_3.h
            have high_3 := mw39.step X_3.h
            have c_36 := step_trans c_35 X_3.h
            clear x_30 y_30 z_30 s_28 xz_11 xh_11 yz_9 yh_9 sz_7 sh_7 low_5 mw39 c_35
            go_wp2
            go_ret
            exact ⟨rfl, c_36⟩
        · subst hp
          go_wp2_with (first | (refine wpList_store_num rfl _ (.tmp 40) _ rfl _ rfl _ rfl _ rfl high_2 size26 ?_; intro w39 gw39 mw39; have x_30 := x_29.grown gw39 (ne_some nx_high.out); have y_30 := y_29.grown gw39 (ne_some ny_high.out); have z_30 := z_29.grown gw39 (ne_some nz_high.out); have s_28 := s_27.grown gw39 (ne_some ns_high.out); have xz_11 := xz_10.grown gw39 (ne_some nxz_high.out); have xh_11 := xh_10.grown gw39 (ne_some nxh_high.out); have yz_9 := yz_8.grown gw39 (ne_some nyz_high.out); have yh_9 := yh_8.grown gw39 (ne_some nyh_high.out); have sz_7 := sz_6.grown gw39 (ne_some nsz_high.out); have sh_7 := sh_6.grown gw39 (ne_some nsh_high.out); have low_5 := low_4.grown gw39 (ne_some nlow_high.out); have c_35 := below_of_grown c_34 gw39 c_34.size lohigh.out; clear high_2 x_29 y_29 z_29 s_27 xz_10 xh_10 yz_8 yh_8 sz_6 sh_6 low_4 c_34 gw39) | (refine wpList_load_num rfl _ (.tmp 15) rfl _ rfl _ _ _ z_30 Try.underlying26 rfl size26 ?_) | (refine wpList_load_num rfl _ (.tmp 37) rfl _ rfl _ _ _ sh_7 Try.underlying26 rfl size26 ?_))
          refine (k15 _).mono ?_
          rintro e w40 ⟨rfl, bw40⟩
          have x_31 := x_30.step bw40
          have y_31 := y_30.step bw40
          have z_31 := z_30.step bw40
          have s_29 := s_28.step bw40
          have xz_12 := xz_11.step bw40
          have xh_12 := xh_11.step bw40
          have yz_10 := yz_9.step bw40
          have yh_10 := yh_9.step bw40
          have sz_8 := sz_7.step bw40
          have sh_8 := sh_7.step bw40
          have low_6 := low_5.step bw40
          have high_3 := mw39.step bw40
          have c_36 := step_trans c_35 bw40
          clear x_30 y_30 z_30 s_28 xz_11 xh_11 yz_9 yh_9 sz_7 sh_7 low_5 mw39 c_35 bw40
          go_upto_region 24 with (first | (refine wpList_store_num rfl _ (.tmp 37) _ rfl _ rfl _ rfl _ rfl sh_8 size26 ?_; intro w41 gw41 mw41; have x_32 := x_31.grown gw41 (ne_some nx_sh.out); have y_32 := y_31.grown gw41 (ne_some ny_sh.out); have z_32 := z_31.grown gw41 (ne_some nz_sh.out); have s_30 := s_29.grown gw41 (ne_some ns_sh.out); have xz_13 := xz_12.grown gw41 (ne_some nxz_sh.out); have xh_13 := xh_12.grown gw41 (ne_some nxh_sh.out); have yz_11 := yz_10.grown gw41 (ne_some nyz_sh.out); have yh_11 := yh_10.grown gw41 (ne_some nyh_sh.out); have sz_9 := sz_8.grown gw41 (ne_some nsz_sh.out); have low_7 := low_6.grown gw41 (ne_some nsh_low.out.symm); have high_4 := high_3.grown gw41 (ne_some nsh_high.out.symm); have c_37 := below_of_grown c_36 gw41 c_36.size losh.out; clear sh_8 x_31 y_31 z_31 s_29 xz_12 xh_12 yz_10 yh_10 sz_8 low_6 high_3 c_36 gw41) | (refine wpList_load_num rfl _ (.tmp 36) rfl _ rfl _ _ _ sz_9 Try.underlying26 rfl size26 ?_) | (refine wpList_load_num rfl _ (.tmp 37) rfl _ rfl _ _ _ mw41 Try.underlying26 rfl size26 ?_) | (refine wpList_load_num rfl _ (.tmp 38) rfl _ rfl _ _ _ low_7 Try.underlying26 rfl size26 ?_) | (refine wpList_load_num rfl _ (.tmp 40) rfl _ rfl _ _ _ high_4 Try.underlying26 rfl size26 ?_))
          as_aux_lemma =>
            refine wp_region_plain ?_
            (refine wpQuiet_load_num rfl _ (.tmp 36) rfl _ rfl _ _ _ sz_9 Try.underlying26 rfl size26 ?_; simp only [Act.put, List.setIfInBounds_toArray, List.set_cons_zero, List.set_cons_succ])
            (refine wpQuiet_load_num rfl _ (.tmp 38) rfl _ rfl _ _ _ low_7 Try.underlying26 rfl size26 ?_; simp only [Act.put, List.setIfInBounds_toArray, List.set_cons_zero, List.set_cons_succ])
            go_big_quiet_step (fail)
            go_big_quiet_step (fail)
            first | (refine wpQuiet_load_num rfl _ (.tmp 37) rfl _ rfl _ _ _ mw41 Try.underlying26 rfl size26 ?_; simp only [Act.put, List.setIfInBounds_toArray, List.set_cons_zero, List.set_cons_succ]) | go_big_quiet_step (fail)
            first | (refine wpQuiet_load_num rfl _ (.tmp 40) rfl _ rfl _ _ _ high_4 Try.underlying26 rfl size26 ?_; simp only [Act.put, List.setIfInBounds_toArray, List.set_cons_zero, List.set_cons_succ]) | go_big_quiet_step (fail)
            go_big_quiet_step (fail)
            go_big_quiet_step (fail)
            go_big_quiet_step (fail)
            refine wpQuiet_nil ?_
            intro X_3
            have x_33 := x_32.step X_3.h
            have y_33 := y_32.step X_3.h
            have z_33 := z_32.step X_3.h
            have s_31 := s_30.step X_3.h
            have xz_14 := xz_13.step X_3.h
            have xh_14 := xh_13.step X_3.h
            have yz_12 := yz_11.step X_3.h
            have yh_12 := yh_11.step X_3.h
            have sz_10 := sz_9.step X_3.h
            have sh_9 := mw41.step X_3.h
            have low_8 := low_7.step X_3.h
            have high_5 := high_4.step X_3.h
            have c_38 := step_trans c_37 X_3.h
            clear x_32 y_32 z_32 s_30 xz_13 xh_13 yz_11 yh_11 sz_9 mw41 low_7 high_4 c_37
            go_wp2
            go_ret
            exact ⟨rfl, c_38⟩
end Go.Proofs.Yteihojjciklfoaa
