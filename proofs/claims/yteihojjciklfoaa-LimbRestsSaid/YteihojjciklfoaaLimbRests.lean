/- sentinellaw1.LimbRests: the walk. -/
import Derived.Test.YteihojjciklfoaaKnown
import Derived.Test.YteihojjciklfoaaRest
import Derived.Test.YteihojjciklfoaaNews
import Derived.Test.YteihojjciklfoaaEqn
namespace Go.Proofs.Yteihojjciklfoaa
set_option linter.unusedVariables false
set_option linter.unusedSimpArgs false
open Go.ChangeShapes Go.WideShapes Go.ChangeAt Go.RowKit
attribute [local go_sem] eqn_same
def restN (x y m : Nat) : Nat := (x + y * 4294967296 ^ 8) % m
def loK (a : Int) (m : Nat) : Nat := m * (a % 1073741824).toNat % 4294967296 ^ 8
def hiK (a : Int) (m : Nat) : Nat := m * (a % 1073741824).toNat / 4294967296 ^ 8
section
variable {x y m : Nat} (hx : x < 4294967296 ^ 8) (hy : y < 4294967296 ^ 8) (hm : m < 4294967296 ^ 8) (h0 : 0 < m)
theorem restN_lt {x y m : Nat} (h0 : 0 < m) : restN x y m < m := Nat.mod_lt _ h0
theorem restN_lt' {x y m : Nat} (hm : m < 4294967296 ^ 8) (h0 : 0 < m) : restN x y m < 4294967296 ^ 8 := Nat.lt_trans (restN_lt h0) hm
include hm h0
theorem rs_0 (hx : x < 4294967296 ^ 8) (hy : y < 4294967296 ^ 8) (w : World) : Calls Try.prog 23 #[numV x, numV y, numV m] w fun e w' => e = .returned (.tuple #[numV (restN x y m), .bool true]) ∧ Below w.heap.size w w' :=
  rest_pos x y m hx hy hm h0 w
theorem rs_1 (hy : y < 4294967296 ^ 8) (w : World) : Calls Try.prog 23 #[numV y, (.agg #[Value.int .u32 0, .int .u32 0, .int .u32 0, .int .u32 0, .int .u32 0, .int .u32 0, .int .u32 0, .int .u32 0]), numV m] w fun e w' => e = .returned (.tuple #[numV (restN y 0 m), .bool true]) ∧ Below w.heap.size w w' := by
  rw [zeroV8]
  exact rest_pos y 0 m hy (by decide +kernel) hm h0 w
theorem rs_2 (hx : x < 4294967296 ^ 8) (w : World) : Calls Try.prog 23 #[numV x, numV (restN y 0 m), numV m] w fun e w' => e = .returned (.tuple #[numV (restN x y m), .bool true]) ∧ Below w.heap.size w w' := by
  have h := rest_pos x (restN y 0 m) m hx (restN_lt' hm h0) hm h0 w
  have e : (x + restN y 0 m * 4294967296 ^ 8) % m = restN x y m := by
    unfold restN
    rw [Nat.zero_mul, Nat.add_zero, Nat.add_mod, Nat.mod_mul_mod, ← Nat.add_mod]
  rw [e] at h
  exact h
omit h0 in
theorem rs_3 (a : Int) (w : World) : Calls Try.prog 21 #[numV m, numV (a % 1073741824).toNat] w fun e w' => e = .returned (.tuple #[numV (loK a m), numV (hiK a m)]) ∧ Below w.heap.size w w' :=
  mul_any m _ hm (by omega) w
theorem rs_4 (a : Int) (w : World) : Calls Try.prog 23 #[numV (loK a m), numV (hiK a m), numV m] w fun e w' => e = .returned (.tuple #[numV 0, .bool true]) ∧ Below w.heap.size w w' := by
  have hk : (a % 1073741824).toNat < 4294967296 ^ 8 := by omega
  have h := rest_pos (loK a m) (hiK a m) m (Nat.mod_lt _ (by decide +kernel)) (Nat.div_lt_of_lt_mul (Nat.mul_lt_mul'' hm hk)) hm h0 w
  have e : (loK a m + hiK a m * 4294967296 ^ 8) % m = 0 := by
    unfold loK hiK
    rw [Nat.mul_comm (_ / _), Nat.mod_add_div]
    exact Nat.mul_mod_right m _
  rw [e] at h
  exact h
theorem rs_5 (w : World) : Calls Try.prog 23 #[numV (restN x y m), (.agg #[Value.int .u32 0, .int .u32 0, .int .u32 0, .int .u32 0, .int .u32 0, .int .u32 0, .int .u32 0, .int .u32 0]), numV m] w fun e w' => e = .returned (.tuple #[numV (restN x y m), .bool true]) ∧ Below w.heap.size w w' := by
  rw [zeroV8]
  have h := rest_pos (restN x y m) 0 m (restN_lt' hm h0) (by decide +kernel) hm h0 w
  rw [Nat.zero_mul, Nat.add_zero, Nat.mod_eq_of_lt (restN_lt h0)] at h
  exact h
theorem rs_6 (w : World) : Calls Try.prog 23 #[numV (addN (restN x y m) m), numV (overI (restN x y m) m).toNat, numV m] w fun e w' => e = .returned (.tuple #[numV (restN x y m), .bool true]) ∧ Below w.heap.size w w' := by
  have hR := restN_lt' (x := x) (y := y) hm h0
  have h1 := overI_le (restN x y m) m
  have h := rest_pos (addN (restN x y m) m) (overI (restN x y m) m).toNat m (addN_lt hR hm) (by omega) hm h0 w
  have e : (addN (restN x y m) m + (overI (restN x y m) m).toNat * 4294967296 ^ 8) % m = restN x y m := by
    have e1 : addN (restN x y m) m + (overI (restN x y m) m).toNat * 4294967296 ^ 8 = restN x y m + m := by
      unfold addN overI
      split
      · simp
      · rename_i hge
        simp only [Int.toNat_one, Nat.one_mul]
        exact Nat.sub_add_cancel (Nat.le_of_not_lt hge)
    rw [e1, Nat.add_mod_right, Nat.mod_eq_of_lt (restN_lt h0)]
  rw [e] at h
  exact h
theorem rs_7 (w : World) : Calls Try.prog 25 #[numV (restN x y m), numV m] w fun e w' => e = .returned (.int .i64 (-1)) ∧ Below w.heap.size w w' := by
  have h := cmp_any (restN x y m) m (restN_lt' hm h0) hm w
  rw [show cmpI (restN x y m) m = -1 by unfold cmpI; rw [if_pos (restN_lt h0)]] at h
  exact h
end
theorem rs_pack (a : Int) {x y m : Nat} (hx : x < 4294967296 ^ 8) (hy : y < 4294967296 ^ 8) (hm : m < 4294967296 ^ 8) (h0 : 0 < m) : ∃ R Y L H V : Nat, ∃ O : Int, 0 ≤ O ∧ O ≤ 1 ∧
    Hid (∀ w : World, Calls Try.prog 23 #[numV x, numV y, numV m] w fun e w' => e = .returned (.tuple #[numV R, .bool true]) ∧ Below w.heap.size w w') ∧
    Hid (∀ w : World, Calls Try.prog 23 #[numV y, (.agg #[Value.int .u32 0, .int .u32 0, .int .u32 0, .int .u32 0, .int .u32 0, .int .u32 0, .int .u32 0, .int .u32 0]), numV m] w fun e w' => e = .returned (.tuple #[numV Y, .bool true]) ∧ Below w.heap.size w w') ∧
    Hid (∀ w : World, Calls Try.prog 23 #[numV x, numV Y, numV m] w fun e w' => e = .returned (.tuple #[numV R, .bool true]) ∧ Below w.heap.size w w') ∧
    Hid (∀ w : World, Calls Try.prog 21 #[numV m, numV (a % 1073741824).toNat] w fun e w' => e = .returned (.tuple #[numV L, numV H]) ∧ Below w.heap.size w w') ∧
    Hid (∀ w : World, Calls Try.prog 23 #[numV L, numV H, numV m] w fun e w' => e = .returned (.tuple #[numV 0, .bool true]) ∧ Below w.heap.size w w') ∧
    Hid (∀ w : World, Calls Try.prog 23 #[numV R, (.agg #[Value.int .u32 0, .int .u32 0, .int .u32 0, .int .u32 0, .int .u32 0, .int .u32 0, .int .u32 0, .int .u32 0]), numV m] w fun e w' => e = .returned (.tuple #[numV R, .bool true]) ∧ Below w.heap.size w w') ∧
    Hid (∀ w : World, Calls Try.prog 17 #[numV R, numV m] w fun e w' => e = .returned (.tuple #[numV V, .int .u32 O]) ∧ Below w.heap.size w w') ∧
    Hid (∀ w : World, Calls Try.prog 23 #[numV V, numV O.toNat, numV m] w fun e w' => e = .returned (.tuple #[numV R, .bool true]) ∧ Below w.heap.size w w') ∧
    Hid (∀ w : World, Calls Try.prog 25 #[numV R, numV m] w fun e w' => e = .returned (.int .i64 (-1)) ∧ Below w.heap.size w w') :=
  ⟨restN x y m, restN y 0 m, loK a m, hiK a m, addN (restN x y m) m, overI (restN x y m) m, overI_ge _ _, overI_le _ _, hid (rs_0 hm h0 hx hy), hid (rs_1 hm h0 hy), hid (rs_2 hm h0 hx), hid (rs_3 hm a), hid (rs_4 hm h0 a), hid (rs_5 hm h0),
    hid (add_num _ _ (restN_lt' hm h0) hm), hid (rs_6 hm h0), hid (rs_7 hm h0)⟩
attribute [irreducible] restN loK hiK
set_option maxRecDepth 100000 in
set_option maxHeartbeats 20000000 in
theorem LimbRests_walk (a0 : Int) (hk0 : -9223372036854775808 ≤ a0) (hl0 : a0 < 9223372036854775808)
    (A1 : Option Addr) (n1 cap1 : Nat) (x1 : Nat → Int)
    (a2 : Int) (hk2 : -9223372036854775808 ≤ a2) (hl2 : a2 < 9223372036854775808)
    (A3 : Option Addr) (n3 cap3 : Nat) (x3 : Nat → Int)
    (a4 : Int) (hk4 : -9223372036854775808 ≤ a4) (hl4 : a4 < 9223372036854775808)
    (A5 : Option Addr) (n5 cap5 : Nat) (x5 : Nat → Int)
    (a6 : Int) (hk6 : -9223372036854775808 ≤ a6) (hl6 : a6 < 9223372036854775808) (w : World) (hr1 : RdI w A1 n1 x1) (hr3 : RdI w A3 n3 x3) (hr5 : RdI w A5 n5 x5) :
    Calls Try.prog 6 #[.int .i64 a0, .slice A1 n1 cap1, .int .i64 a2, .slice A3 n3 cap3, .int .i64 a4, .slice A5 n5 cap5, .int .i64 a6] w fun e w' => e = .returned (.bool true) ∧ Below w.heap.size w w' := by
  have ng := noGuard
  go_enter Try.func6, Try.ntmps6
  go_wp2_with (fail)
  refine (known_any _).mono ?_
  rintro e w1 ⟨rfl, bw1⟩
  have r1_1 := hr1.step bw1
  have r3_1 := hr3.step bw1
  have r5_1 := hr5.step bw1
  have c_1 := bw1
  clear hr1 hr3 hr5 bw1
  go_wp2_with (fail)
  refine (make_any _ (by omega) (by omega) _ _ _ _ _ r1_1).mono ?_
  rintro e w2 ⟨x, rfl, hx, bw2⟩
  have r1_2 := r1_1.step bw2
  have r3_2 := r3_1.step bw2
  have r5_2 := r5_1.step bw2
  have c_2 := step_trans c_1 bw2
  clear r1_1 r3_1 r5_1 c_1 bw2
  go_wp2_with (fail)
  refine (make_any _ (by omega) (by omega) _ _ _ _ _ r3_2).mono ?_
  rintro e w3 ⟨y, rfl, hy, bw3⟩
  have r3_3 := r3_2.step bw3
  have r5_3 := r5_2.step bw3
  have c_3 := step_trans c_2 bw3
  clear r3_2 r5_2 c_2 bw3
  go_wp2_with (fail)
  refine (make_any _ (by omega) (by omega) _ _ _ _ _ r5_3).mono ?_
  rintro e w4 ⟨m, rfl, hm, bw4⟩
  have r5_4 := r5_3.step bw4
  have c_4 := step_trans c_3 bw4
  clear r5_3 c_3 bw4
  have e0 := fun w => eqn_zero w
  rcases Nat.eq_zero_or_pos m with h0 | h0
  · subst h0
    go_wp2_with (first | (refine wpList_store_num rfl _ (.tmp 15) _ rfl _ rfl _ rfl _ rfl (news3 w4 _).1 size26 ?_; intro w5 gw5 mw5) | (refine wpList_store_num rfl _ (.tmp 16) _ rfl _ rfl _ rfl _ rfl ((gw5.block _ (by simp) (by simp)).trans (news3 w4 _).2.1) size26 ?_; intro w6 gw6 mw6) | (refine wpList_store_num rfl _ (.tmp 17) _ rfl _ rfl _ rfl _ rfl ((gw6.block _ (by have := gw5.size; simp at this; omega) (by simp <;> omega)).trans ((gw5.block _ (by simp <;> omega) (by simp <;> omega)).trans (news3 w4 _).2.2)) size26 ?_; intro w7 gw7 mw7; have b_1 := step_new3 gw5 gw6 gw7; have qw5 := ((mw5.grown gw6 (by simp <;> omega)).grown gw7 (by simp <;> omega)); have qw6 := (mw6.grown gw7 (by simp <;> omega)); have c_5 := step_trans c_4 b_1; clear c_4 b_1 gw5 gw6 gw7 mw5 mw6) | (refine wpList_load_num rfl _ (.tmp 15) rfl _ rfl _ _ _ qw5 Try.underlying26 rfl size26 ?_) | (refine wpList_load_num rfl _ (.tmp 16) rfl _ rfl _ _ _ qw6 Try.underlying26 rfl size26 ?_) | (refine wpList_load_num rfl _ (.tmp 17) rfl _ rfl _ _ _ mw7 Try.underlying26 rfl size26 ?_))
    refine (rest_zero x y _).mono ?_
    rintro e w8 ⟨rfl, bw8⟩
    have x_1 := qw5.step bw8
    have y_1 := qw6.step bw8
    have m_1 := mw7.step bw8
    have c_6 := step_trans c_5 bw8
    clear qw5 qw6 mw7 c_5 bw8
    go_wp2_with (first | (refine wpList_store_num rfl _ (.tmp 18) _ rfl _ rfl _ rfl _ rfl (heap_alloc_new _ _) size26 ?_; intro w9 gw9 mw9; have b_2 := step_new gw9; have x_2 := x_1.step b_2; have y_2 := y_1.step b_2; have m_2 := m_1.step b_2; have c_7 := step_trans c_6 b_2; clear x_1 y_1 m_1 c_6 b_2 gw9) | (refine wpList_load_num rfl _ (.tmp 16) rfl _ rfl _ _ _ y_2 Try.underlying26 rfl size26 ?_) | (refine wpList_load_num rfl _ (.tmp 17) rfl _ rfl _ _ _ m_2 Try.underlying26 rfl size26 ?_) | (refine wpList_load_num rfl _ (.tmp 18) rfl _ rfl _ _ _ mw9 Try.underlying26 rfl size26 ?_))
    go_ret
    exact ⟨rfl, c_7⟩
  · obtain ⟨R, Y, L, H, V, O, hO1, hO2, k0, k1, k2, k3, k4, k5, k6, k7, k8⟩ := rs_pack a6 hx hy hm h0
    go_wp2_with (first | (refine wpList_store_num rfl _ (.tmp 15) _ rfl _ rfl _ rfl _ rfl (news3 w4 _).1 size26 ?_; intro w5 gw5 mw5) | (refine wpList_store_num rfl _ (.tmp 16) _ rfl _ rfl _ rfl _ rfl ((gw5.block _ (by simp) (by simp)).trans (news3 w4 _).2.1) size26 ?_; intro w6 gw6 mw6) | (refine wpList_store_num rfl _ (.tmp 17) _ rfl _ rfl _ rfl _ rfl ((gw6.block _ (by have := gw5.size; simp at this; omega) (by simp <;> omega)).trans ((gw5.block _ (by simp <;> omega) (by simp <;> omega)).trans (news3 w4 _).2.2)) size26 ?_; intro w7 gw7 mw7; have b_1 := step_new3 gw5 gw6 gw7; have qw5 := ((mw5.grown gw6 (by simp <;> omega)).grown gw7 (by simp <;> omega)); have qw6 := (mw6.grown gw7 (by simp <;> omega)); have c_5 := step_trans c_4 b_1; clear c_4 b_1 gw5 gw6 gw7 mw5 mw6) | (refine wpList_load_num rfl _ (.tmp 15) rfl _ rfl _ _ _ qw5 Try.underlying26 rfl size26 ?_) | (refine wpList_load_num rfl _ (.tmp 16) rfl _ rfl _ _ _ qw6 Try.underlying26 rfl size26 ?_) | (refine wpList_load_num rfl _ (.tmp 17) rfl _ rfl _ _ _ mw7 Try.underlying26 rfl size26 ?_))
    refine (k0.out _).mono ?_
    rintro e w8 ⟨rfl, bw8⟩
    have x_1 := qw5.step bw8
    have y_1 := qw6.step bw8
    have m_1 := mw7.step bw8
    have c_6 := step_trans c_5 bw8
    clear qw5 qw6 mw7 c_5 bw8
    have e1 : ∀ w, (Op.equalIn 10000 26 (.agg (numA m)) (.agg #[Value.int .u32 0, .int .u32 0, .int .u32 0, .int .u32 0, .int .u32 0, .int .u32 0, .int .u32 0, .int .u32 0])).run Try.prog w = .ok false w := fun w => eqn_not0 hm h0 w
    go_wp2_with (first | (refine wpList_store_num rfl _ (.tmp 18) _ rfl _ rfl _ rfl _ rfl (heap_alloc_new _ _) size26 ?_; intro w9 gw9 mw9; have b_2 := step_new gw9; have x_2 := x_1.step b_2; have y_2 := y_1.step b_2; have m_2 := m_1.step b_2; have c_7 := step_trans c_6 b_2; clear x_1 y_1 m_1 c_6 b_2 gw9) | (refine wpList_load_num rfl _ (.tmp 16) rfl _ rfl _ _ _ y_2 Try.underlying26 rfl size26 ?_) | (refine wpList_load_num rfl _ (.tmp 17) rfl _ rfl _ _ _ m_2 Try.underlying26 rfl size26 ?_) | (refine wpList_load_num rfl _ (.tmp 18) rfl _ rfl _ _ _ mw9 Try.underlying26 rfl size26 ?_))
    refine (k1.out _).mono ?_
    rintro e w10 ⟨rfl, bw10⟩
    have x_3 := x_2.step bw10
    have y_3 := y_2.step bw10
    have m_3 := m_2.step bw10
    have r_1 := mw9.step bw10
    have c_8 := step_trans c_7 bw10
    clear x_2 y_2 m_2 mw9 c_7 bw10
    go_wp2_with (first | (refine wpList_store_num rfl _ (.tmp 20) _ rfl _ rfl _ rfl _ rfl (heap_alloc_new _ _) size26 ?_; intro w11 gw11 mw11; have b_3 := step_new gw11; have x_4 := x_3.step b_3; have y_4 := y_3.step b_3; have m_4 := m_3.step b_3; have r_2 := r_1.step b_3; have c_9 := step_trans c_8 b_3; clear x_3 y_3 m_3 r_1 c_8 b_3 gw11) | (refine wpList_load_num rfl _ (.tmp 15) rfl _ rfl _ _ _ x_4 Try.underlying26 rfl size26 ?_) | (refine wpList_load_num rfl _ (.tmp 17) rfl _ rfl _ _ _ m_4 Try.underlying26 rfl size26 ?_) | (refine wpList_load_num rfl _ (.tmp 20) rfl _ rfl _ _ _ mw11 Try.underlying26 rfl size26 ?_))
    refine (k2.out _).mono ?_
    rintro e w12 ⟨rfl, bw12⟩
    have x_5 := x_4.step bw12
    have y_5 := y_4.step bw12
    have m_5 := m_4.step bw12
    have r_3 := r_2.step bw12
    have h_1 := mw11.step bw12
    have c_10 := step_trans c_9 bw12
    clear x_4 y_4 m_4 r_2 mw11 c_9 bw12
    go_wp2_with (first | (refine wpList_store_num rfl _ (.tmp 22) _ rfl _ rfl _ rfl _ rfl (heap_alloc_new _ _) size26 ?_; intro w13 gw13 mw13; have b_4 := step_new gw13; have x_6 := x_5.step b_4; have y_6 := y_5.step b_4; have m_6 := m_5.step b_4; have r_4 := r_3.step b_4; have h_2 := h_1.step b_4; have c_11 := step_trans c_10 b_4; clear x_5 y_5 m_5 r_3 h_1 c_10 b_4 gw13) | (refine wpList_load_num rfl _ (.tmp 17) rfl _ rfl _ _ _ m_6 Try.underlying26 rfl size26 ?_))
    refine wp_region_news 10 26 (.cells #[Value.int .u32 0, .int .u32 0, .int .u32 0, .int .u32 0, .int .u32 0, .int .u32 0, .int .u32 0, .int .u32 0] 26) (fun _ _ _ _ _ h => h) (by kernel_rfl) (by kernel_rfl) (by kernel_rfl) (by kernel_rfl) (by kernel_rfl) (by kernel_rfl) (by kernel_rfl) (by kernel_rfl) num_new ?_
    intro V_1
    simp only [calmN, isNew, hush, hushT, List.drop_succ_cons, List.drop_zero]
    have x_7 := x_6.step V_1.h
    have y_7 := y_6.step V_1.h
    have m_7 := m_6.step V_1.h
    have r_5 := r_4.step V_1.h
    have h_3 := h_2.step V_1.h
    have s_1 := mw13.step V_1.h
    have c_12 := step_trans c_11 V_1.h
    (refine wpQuiet_load_num rfl _ (.tmp 17) rfl _ rfl _ _ _ m_7 Try.underlying26 rfl size26 ?_; simp only [Act.put, List.setIfInBounds_toArray, List.set_cons_zero, List.set_cons_succ])
    go_big_quiet_step (fail)
    go_big_quiet_step (exact later_same (within_any a6 1073741824 (by omega) (by omega) hk6 hl6 _))
    go_big_quiet_step (exact later_of (from_any (a6 % 1073741824) (by omega) (by omega) _))
    go_big_quiet_step (exact later_of (k3.out _))
    go_big_quiet_step (fail)
    go_big_quiet_step (fail)
    go_big_quiet_step (fail)
    go_big_quiet_step (fail)
    go_big_quiet_step (fail)
    go_big_quiet_step (fail)
    go_big_quiet_step (fail)
    refine wpQuiet_nil ?_
    intro X_1 p_1 hp_1
    obtain ⟨hp_11, hp_12⟩ := hp_1
    have x_8 := x_7.step X_1.h
    have y_8 := y_7.step X_1.h
    have m_8 := m_7.step X_1.h
    have r_6 := r_5.step X_1.h
    have h_4 := h_3.step X_1.h
    have s_2 := s_1.step X_1.h
    have c_13 := step_trans c_12 X_1.h
    obtain ⟨lp_18, ep_18⟩ := hp_11 8 _ rfl rfl
    obtain ⟨lp_19, ep_19⟩ := hp_11 9 _ rfl rfl
    have nL_H := hid (show p_1 8 ≠ p_1 9 from fun h => absurd (hp_12 8 9 _ _ rfl rfl rfl rfl h) (by decide))
    simp only [layN, isNew, Act.put, List.setIfInBounds_toArray, List.set_cons_zero, List.set_cons_succ, Nat.zero_add, Nat.reduceAdd]
    clear hp_11 hp_12
    generalize p_1 8 = bp_18 at *
    generalize p_1 9 = bp_19 at *
    go_wp2_with (first | (refine wpList_store_num rfl _ (.tmp 24) _ rfl _ rfl _ rfl _ rfl ep_18 size26 ?_; intro w14 gw14 mw14; have x_9 := x_8.grown gw14 (ne_new x_6.lt lp_18); have y_9 := y_8.grown gw14 (ne_new y_6.lt lp_18); have m_9 := m_8.grown gw14 (ne_new m_6.lt lp_18); have r_7 := r_6.grown gw14 (ne_new r_4.lt lp_18); have h_5 := h_4.grown gw14 (ne_new h_2.lt lp_18); have s_3 := s_2.grown gw14 (ne_new mw13.lt lp_18); replace ep_19 := (gw14.block _ (heap_lt ep_19) (ne_some nL_H.out.symm)).trans ep_19; have c_14 := below_of_grown c_13 gw14 c_13.size (Nat.le_trans c_11.size lp_18); clear x_8 y_8 m_8 r_6 h_4 s_2 ep_18 c_13 gw14) | (refine wpList_store_num rfl _ (.tmp 25) _ rfl _ rfl _ rfl _ rfl ep_19 size26 ?_; intro w15 gw15 mw15; have x_10 := x_9.grown gw15 (ne_new x_6.lt lp_19); have y_10 := y_9.grown gw15 (ne_new y_6.lt lp_19); have m_10 := m_9.grown gw15 (ne_new m_6.lt lp_19); have r_8 := r_7.grown gw15 (ne_new r_4.lt lp_19); have h_6 := h_5.grown gw15 (ne_new h_2.lt lp_19); have s_4 := s_3.grown gw15 (ne_new mw13.lt lp_19); have L_1 := mw14.grown gw15 (ne_some nL_H.out); have c_15 := below_of_grown c_14 gw15 c_14.size (Nat.le_trans c_11.size lp_19); clear x_9 y_9 m_9 r_7 h_5 s_3 mw14 ep_19 c_14 gw15 x_6 y_6 m_6 r_4 h_2 mw13 c_11 x_7 y_7 m_7 r_5 h_3 s_1 c_12 lp_18 lp_19) | (refine wpList_load_num rfl _ (.tmp 17) rfl _ rfl _ _ _ m_10 Try.underlying26 rfl size26 ?_) | (refine wpList_load_num rfl _ (.tmp 24) rfl _ rfl _ _ _ L_1 Try.underlying26 rfl size26 ?_) | (refine wpList_load_num rfl _ (.tmp 25) rfl _ rfl _ _ _ mw15 Try.underlying26 rfl size26 ?_))
    refine (k4.out _).mono ?_
    rintro e w16 ⟨rfl, bw16⟩
    have x_11 := x_10.step bw16
    have y_11 := y_10.step bw16
    have m_11 := m_10.step bw16
    have r_9 := r_8.step bw16
    have h_7 := h_6.step bw16
    have s_5 := s_4.step bw16
    have L_2 := L_1.step bw16
    have H_1 := mw15.step bw16
    have c_16 := step_trans c_15 bw16
    clear x_10 y_10 m_10 r_8 h_6 s_4 L_1 mw15 c_15 bw16
    go_wp2_with (first | (refine wpList_store_num rfl _ (.tmp 26) _ rfl _ rfl _ rfl _ rfl (heap_alloc_new _ _) size26 ?_; intro w17 gw17 mw17; have b_5 := step_new gw17; have x_12 := x_11.step b_5; have y_12 := y_11.step b_5; have m_12 := m_11.step b_5; have r_10 := r_9.step b_5; have h_8 := h_7.step b_5; have s_6 := s_5.step b_5; have L_3 := L_2.step b_5; have H_2 := H_1.step b_5; have c_17 := step_trans c_16 b_5; clear x_11 y_11 m_11 r_9 h_7 s_5 L_2 H_1 c_16 b_5 gw17) | (refine wpList_load_num rfl _ (.tmp 17) rfl _ rfl _ _ _ m_12 Try.underlying26 rfl size26 ?_) | (refine wpList_load_num rfl _ (.tmp 18) rfl _ rfl _ _ _ r_10 Try.underlying26 rfl size26 ?_))
    refine (k5.out _).mono ?_
    rintro e w18 ⟨rfl, bw18⟩
    have x_13 := x_12.step bw18
    have y_13 := y_12.step bw18
    have m_13 := m_12.step bw18
    have r_11 := r_10.step bw18
    have h_9 := h_8.step bw18
    have s_7 := s_6.step bw18
    have L_4 := L_3.step bw18
    have H_3 := H_2.step bw18
    have t_1 := mw17.step bw18
    have c_18 := step_trans c_17 bw18
    clear x_12 y_12 m_12 r_10 h_8 s_6 L_3 H_2 mw17 c_17 bw18
    go_wp2_with (first | (refine wpList_store_num rfl _ (.tmp 28) _ rfl _ rfl _ rfl _ rfl (heap_alloc_new _ _) size26 ?_; intro w19 gw19 mw19; have b_6 := step_new gw19; have x_14 := x_13.step b_6; have y_14 := y_13.step b_6; have m_14 := m_13.step b_6; have r_12 := r_11.step b_6; have h_10 := h_9.step b_6; have s_8 := s_7.step b_6; have L_5 := L_4.step b_6; have H_4 := H_3.step b_6; have t_2 := t_1.step b_6; have c_19 := step_trans c_18 b_6; clear x_13 y_13 m_13 r_11 h_9 s_7 L_4 H_3 t_1 c_18 b_6 gw19) | (refine wpList_load_num rfl _ (.tmp 17) rfl _ rfl _ _ _ m_14 Try.underlying26 rfl size26 ?_) | (refine wpList_load_num rfl _ (.tmp 18) rfl _ rfl _ _ _ r_12 Try.underlying26 rfl size26 ?_))
    refine (k6.out _).mono ?_
    rintro e w20 ⟨rfl, bw20⟩
    have x_15 := x_14.step bw20
    have y_15 := y_14.step bw20
    have m_15 := m_14.step bw20
    have r_13 := r_12.step bw20
    have h_11 := h_10.step bw20
    have s_9 := s_8.step bw20
    have L_6 := L_5.step bw20
    have H_5 := H_4.step bw20
    have t_3 := t_2.step bw20
    have u_1 := mw19.step bw20
    have c_20 := step_trans c_19 bw20
    clear x_14 y_14 m_14 r_12 h_10 s_8 L_5 H_4 t_2 mw19 c_19 bw20
    go_wp2_with (first | (refine wpList_store_num rfl _ (.tmp 30) _ rfl _ rfl _ rfl _ rfl (heap_alloc_new _ _) size26 ?_; intro w21 gw21 mw21; have b_7 := step_new gw21; have x_16 := x_15.step b_7; have y_16 := y_15.step b_7; have m_16 := m_15.step b_7; have r_14 := r_13.step b_7; have h_12 := h_11.step b_7; have s_10 := s_9.step b_7; have L_7 := L_6.step b_7; have H_6 := H_5.step b_7; have t_4 := t_3.step b_7; have u_2 := u_1.step b_7; have c_21 := step_trans c_20 b_7; clear x_15 y_15 m_15 r_13 h_11 s_9 L_6 H_5 t_3 u_1 c_20 b_7 gw21) | (refine wpList_load_num rfl _ (.tmp 30) rfl _ rfl _ _ _ mw21 Try.underlying26 rfl size26 ?_))
    refine wp_region_news 10 26 (.cells #[Value.int .u32 0, .int .u32 0, .int .u32 0, .int .u32 0, .int .u32 0, .int .u32 0, .int .u32 0, .int .u32 0] 26) (fun _ _ _ _ _ h => h) (by kernel_rfl) (by kernel_rfl) (by kernel_rfl) (by kernel_rfl) (by kernel_rfl) (by kernel_rfl) (by kernel_rfl) (by kernel_rfl) num_new ?_
    intro V_2
    simp only [calmN, isNew, hush, hushT, List.drop_succ_cons, List.drop_zero]
    have x_17 := x_16.step V_2.h
    have y_17 := y_16.step V_2.h
    have m_17 := m_16.step V_2.h
    have r_15 := r_14.step V_2.h
    have h_13 := h_12.step V_2.h
    have s_11 := s_10.step V_2.h
    have L_8 := L_7.step V_2.h
    have H_7 := H_6.step V_2.h
    have t_5 := t_4.step V_2.h
    have u_3 := u_2.step V_2.h
    have v_1 := mw21.step V_2.h
    have c_22 := step_trans c_21 V_2.h
    (refine wpQuiet_load_num rfl _ (.tmp 30) rfl _ rfl _ _ _ v_1 Try.underlying26 rfl size26 ?_; simp only [Act.put, List.setIfInBounds_toArray, List.set_cons_zero, List.set_cons_succ])
    go_big_quiet_step (fail)
    go_big_quiet_step (fail)
    go_big_quiet_step (exact later_of (from_any _ (by omega) (by omega) _))
    (refine wpQuiet_load_num rfl _ (.tmp 17) rfl _ rfl _ _ _ m_17 Try.underlying26 rfl size26 ?_; simp only [Act.put, List.setIfInBounds_toArray, List.set_cons_zero, List.set_cons_succ])
    go_big_quiet_step (exact later_of (k7.out _))
    go_big_quiet_step (fail)
    go_big_quiet_step (fail)
    go_big_quiet_step (fail)
    go_big_quiet_step (fail)
    go_big_quiet_step (fail)
    go_big_quiet_step (fail)
    refine wpQuiet_nil ?_
    intro X_2 p_2 hp_2
    obtain ⟨hp_21, hp_22⟩ := hp_2
    have x_18 := x_17.step X_2.h
    have y_18 := y_17.step X_2.h
    have m_18 := m_17.step X_2.h
    have r_16 := r_15.step X_2.h
    have h_14 := h_13.step X_2.h
    have s_12 := s_11.step X_2.h
    have L_9 := L_8.step X_2.h
    have H_8 := H_7.step X_2.h
    have t_6 := t_5.step X_2.h
    have u_4 := u_3.step X_2.h
    have v_2 := v_1.step X_2.h
    have c_23 := step_trans c_22 X_2.h
    obtain ⟨lp_29, ep_29⟩ := hp_21 9 _ rfl rfl
    simp only [layN, isNew, Act.put, List.setIfInBounds_toArray, List.set_cons_zero, List.set_cons_succ, Nat.zero_add, Nat.reduceAdd]
    clear hp_21 hp_22
    generalize p_2 9 = bp_29 at *
    go_upto_region 14 with (first | (refine wpList_store_num rfl _ (.tmp 32) _ rfl _ rfl _ rfl _ rfl ep_29 size26 ?_; intro w22 gw22 mw22; have x_19 := x_18.grown gw22 (ne_new x_16.lt lp_29); have y_19 := y_18.grown gw22 (ne_new y_16.lt lp_29); have m_19 := m_18.grown gw22 (ne_new m_16.lt lp_29); have r_17 := r_16.grown gw22 (ne_new r_14.lt lp_29); have h_15 := h_14.grown gw22 (ne_new h_12.lt lp_29); have s_13 := s_12.grown gw22 (ne_new s_10.lt lp_29); have L_10 := L_9.grown gw22 (ne_new L_7.lt lp_29); have H_9 := H_8.grown gw22 (ne_new H_6.lt lp_29); have t_7 := t_6.grown gw22 (ne_new t_4.lt lp_29); have u_5 := u_4.grown gw22 (ne_new u_2.lt lp_29); have v_3 := v_2.grown gw22 (ne_new mw21.lt lp_29); have c_24 := below_of_grown c_23 gw22 c_23.size (Nat.le_trans c_21.size lp_29); clear x_18 y_18 m_18 r_16 h_14 s_12 L_9 H_8 t_6 u_4 v_2 ep_29 c_23 gw22 x_16 y_16 m_16 r_14 h_12 s_10 L_7 H_6 t_4 u_2 mw21 c_21 x_17 y_17 m_17 r_15 h_13 s_11 L_8 H_7 t_5 u_3 v_1 c_22 lp_29) | (refine wpList_load_num rfl _ (.tmp 17) rfl _ rfl _ _ _ m_19 Try.underlying26 rfl size26 ?_) | (refine wpList_load_num rfl _ (.tmp 18) rfl _ rfl _ _ _ r_17 Try.underlying26 rfl size26 ?_))
    as_aux_lemma =>
      refine wp_region_plain ?_
      go_big_quiet_step (fail)
      go_big_quiet_step (fail)
      first | (refine wpQuiet_load_num rfl _ (.tmp 18) rfl _ rfl _ _ _ r_17 Try.underlying26 rfl size26 ?_; simp only [Act.put, List.setIfInBounds_toArray, List.set_cons_zero, List.set_cons_succ]) | go_big_quiet_step (fail)
      first | (refine wpQuiet_load_num rfl _ (.tmp 17) rfl _ rfl _ _ _ m_19 Try.underlying26 rfl size26 ?_; simp only [Act.put, List.setIfInBounds_toArray, List.set_cons_zero, List.set_cons_succ]) | go_big_quiet_step (fail)
      go_big_quiet_step (exact later_of (k8.out _))
      go_big_quiet_step (fail)
      go_big_quiet_step (fail)
      go_big_quiet_step (fail)
      first | (refine wpQuiet_load_num rfl _ (.tmp 22) rfl _ rfl _ _ _ s_13 Try.underlying26 rfl size26 ?_; simp only [Act.put, List.setIfInBounds_toArray, List.set_cons_zero, List.set_cons_succ]) | go_big_quiet_step (fail)
      first | (refine wpQuiet_load_num rfl _ (.tmp 18) rfl _ rfl _ _ _ r_17 Try.underlying26 rfl size26 ?_; simp only [Act.put, List.setIfInBounds_toArray, List.set_cons_zero, List.set_cons_succ]) | go_big_quiet_step (fail)
      go_big_quiet_step (fail)
      go_big_quiet_step (fail)
      go_big_quiet_step (fail)
      first | (refine wpQuiet_load_num rfl _ (.tmp 26) rfl _ rfl _ _ _ t_7 Try.underlying26 rfl size26 ?_; simp only [Act.put, List.setIfInBounds_toArray, List.set_cons_zero, List.set_cons_succ]) | go_big_quiet_step (fail)
      go_big_quiet_step (fail)
      go_big_quiet_step (fail)
      go_big_quiet_step (fail)
      go_big_quiet_step (fail)
      first | (refine wpQuiet_load_num rfl _ (.tmp 28) rfl _ rfl _ _ _ u_5 Try.underlying26 rfl size26 ?_; simp only [Act.put, List.setIfInBounds_toArray, List.set_cons_zero, List.set_cons_succ]) | go_big_quiet_step (fail)
      first | (refine wpQuiet_load_num rfl _ (.tmp 18) rfl _ rfl _ _ _ r_17 Try.underlying26 rfl size26 ?_; simp only [Act.put, List.setIfInBounds_toArray, List.set_cons_zero, List.set_cons_succ]) | go_big_quiet_step (fail)
      go_big_quiet_step (fail)
      go_big_quiet_step (fail)
      go_big_quiet_step (fail)
      first | (refine wpQuiet_load_num rfl _ (.tmp 32) rfl _ rfl _ _ _ mw22 Try.underlying26 rfl size26 ?_; simp only [Act.put, List.setIfInBounds_toArray, List.set_cons_zero, List.set_cons_succ]) | go_big_quiet_step (fail)
      first | (refine wpQuiet_load_num rfl _ (.tmp 18) rfl _ rfl _ _ _ r_17 Try.underlying26 rfl size26 ?_; simp only [Act.put, List.setIfInBounds_toArray, List.set_cons_zero, List.set_cons_succ]) | go_big_quiet_step (fail)
      go_big_quiet_step (fail)
      go_big_quiet_step (fail)
      go_big_quiet_step (fail)
      refine wpQuiet_nil ?_
      intro X_3
      have x_20 := x_19.step X_3.h
      have y_20 := y_19.step X_3.h
      have m_20 := m_19.step X_3.h
      have r_18 := r_17.step X_3.h
      have h_16 := h_15.step X_3.h
      have s_14 := s_13.step X_3.h
      have L_11 := L_10.step X_3.h
      have H_10 := H_9.step X_3.h
      have t_8 := t_7.step X_3.h
      have u_6 := u_5.step X_3.h
      have v_4 := v_3.step X_3.h
      have z_1 := mw22.step X_3.h
      have c_25 := step_trans c_24 X_3.h
      clear x_19 y_19 m_19 r_17 h_15 s_13 L_10 H_9 t_7 u_5 v_3 mw22 c_24
      go_wp2
      go_ret
      exact ⟨rfl, c_25⟩
end Go.Proofs.Yteihojjciklfoaa
