/- sentinellaw1.LimbPicks: the walk. -/
import Derived.Test.YtiffgmkeengdkaaKnown
import Derived.Test.YtiffgmkeengdkaaPick
namespace Go.Proofs.Ytiffgmkeengdkaa
set_option linter.unusedVariables false
set_option linter.unusedSimpArgs false
open Go.ChangeShapes Go.WideShapes Go.ChangeAt Go.RowKit
attribute [local go_sem] eqn_same
theorem pick_lo (a b : Nat) (w : World) : Calls Try.prog 31 #[.int .u32 0, numV a, numV b] w fun e w' => e = .returned (numV b) ∧ Below w.heap.size w w' := by
  have := pick_any 0 (by omega) (by omega) a b w
  rw [show pickN 0 a b = b from if_pos rfl] at this
  exact this
theorem pick_hi (y : Int) (h0 : 0 < y) (h1 : y < 4294967296) (a b : Nat) (w : World) : Calls Try.prog 31 #[.int .u32 y, numV a, numV b] w fun e w' => e = .returned (numV a) ∧ Below w.heap.size w w' := by
  have := pick_any y (by omega) h1 a b w
  rw [show pickN y a b = a from if_neg (by omega)] at this
  exact this
set_option maxHeartbeats 8000000 in
theorem LimbPicks_walk (a0 : Int) (hk0 : -9223372036854775808 ≤ a0) (hl0 : a0 < 9223372036854775808)
    (a1 : Int) (hk1 : -9223372036854775808 ≤ a1) (hl1 : a1 < 9223372036854775808)
    (A2 : Option Addr) (n2 cap2 : Nat) (x2 : Nat → Int)
    (a3 : Int) (hk3 : -9223372036854775808 ≤ a3) (hl3 : a3 < 9223372036854775808)
    (A4 : Option Addr) (n4 cap4 : Nat) (x4 : Nat → Int) (w : World) (hr2 : RdI w A2 n2 x2) (hr4 : RdI w A4 n4 x4) :
    Calls Try.prog 11 #[.int .i64 a0, .int .i64 a1, .slice A2 n2 cap2, .int .i64 a3, .slice A4 n4 cap4] w fun e w' => e = .returned (.bool true) ∧ Below w.heap.size w w' := by
  have ng := noGuard
  go_enter Try.func11, Try.ntmps11
  go_wp2_with (fail)
  refine (known_any _).mono ?_
  rintro e w1 ⟨rfl, bw1⟩
  have r2_1 := hr2.step bw1
  have r4_1 := hr4.step bw1
  have c_1 := bw1
  have z_1 := bw1.size
  go_wp2_with (fail)
  refine (make_any _ (by omega) (by omega) _ _ _ _ _ r2_1).mono ?_
  rintro e w2 ⟨x, rfl, hx, bw2⟩
  have r2_2 := r2_1.step bw2
  have r4_2 := r4_1.step bw2
  have c_2 := step_trans c_1 bw2
  have z_2 := bw2.size
  go_wp2_with (fail)
  refine (make_any _ (by omega) (by omega) _ _ _ _ _ r4_2).mono ?_
  rintro e w3 ⟨y, rfl, hy, bw3⟩
  have r4_3 := r4_2.step bw3
  have c_3 := step_trans c_2 bw3
  have z_3 := bw3.size
  go_wp2_with (first | (refine wpList_store_num rfl _ (.tmp 11) _ rfl _ rfl _ rfl _ rfl (news2 w3 _).1 size26 ?_; intro w4 gw4 mw4) | (refine wpList_store_num rfl _ (.tmp 12) _ rfl _ rfl _ rfl _ rfl ((gw4.block _ (by simp) (by simp)).trans (news2 w3 _).2) size26 ?_; intro w5 gw5 mw5; have b_1 := step_new2 gw4 gw5; have qw4 := (mw4.grown gw5 (by simp <;> omega)); have c_4 := step_trans c_3 b_1; have z_4 := b_1.size; have lw4 := qw4.lt; have lw5 := mw5.lt) | (refine wpList_load_num rfl _ (.tmp 11) rfl _ rfl _ _ _ qw4 Try.underlying26 rfl size26 ?_) | (refine wpList_load_num rfl _ (.tmp 12) rfl _ rfl _ _ _ mw5 Try.underlying26 rfl size26 ?_))
  refine wp_region_later (by kernel_rfl) (by kernel_rfl) ?_
  refine wpQuiet_load_num rfl _ (.tmp 11) rfl _ rfl _ _ _ qw4 Try.underlying26 rfl size26 ?_
  simp only [Act.put, List.setIfInBounds_toArray, List.set_cons_zero, List.set_cons_succ]
  refine wpQuiet_load_num rfl _ (.tmp 12) rfl _ rfl _ _ _ mw5 Try.underlying26 rfl size26 ?_
  simp only [Act.put, List.setIfInBounds_toArray, List.set_cons_zero, List.set_cons_succ]
  go_big_quiet_step (exact later_of (pick_lo x y _))
  refine wpQuiet_load_num rfl _ (.tmp 12) rfl _ rfl _ _ _ mw5 Try.underlying26 rfl size26 ?_
  simp only [Act.put, List.setIfInBounds_toArray, List.set_cons_zero, List.set_cons_succ]
  go_big_quiet_step (fail)
  go_big_quiet_step (fail)
  refine wpQuiet_load_num rfl _ (.tmp 11) rfl _ rfl _ _ _ qw4 Try.underlying26 rfl size26 ?_
  simp only [Act.put, List.setIfInBounds_toArray, List.set_cons_zero, List.set_cons_succ]
  refine wpQuiet_load_num rfl _ (.tmp 12) rfl _ rfl _ _ _ mw5 Try.underlying26 rfl size26 ?_
  simp only [Act.put, List.setIfInBounds_toArray, List.set_cons_zero, List.set_cons_succ]
  go_big_quiet_step (exact later_of (pick_hi 1 (by omega) (by omega) x y _))
  refine wpQuiet_load_num rfl _ (.tmp 11) rfl _ rfl _ _ _ qw4 Try.underlying26 rfl size26 ?_
  simp only [Act.put, List.setIfInBounds_toArray, List.set_cons_zero, List.set_cons_succ]
  go_big_quiet_step (fail)
  go_big_quiet_step (fail)
  go_big_quiet_step (fail)
  refine wpQuiet_load_num rfl _ (.tmp 11) rfl _ rfl _ _ _ qw4 Try.underlying26 rfl size26 ?_
  simp only [Act.put, List.setIfInBounds_toArray, List.set_cons_zero, List.set_cons_succ]
  refine wpQuiet_load_num rfl _ (.tmp 12) rfl _ rfl _ _ _ mw5 Try.underlying26 rfl size26 ?_
  simp only [Act.put, List.setIfInBounds_toArray, List.set_cons_zero, List.set_cons_succ]
  go_big_quiet_step (exact later_of (pick_hi 4294967295 (by omega) (by omega) x y _))
  refine wpQuiet_load_num rfl _ (.tmp 11) rfl _ rfl _ _ _ qw4 Try.underlying26 rfl size26 ?_
  simp only [Act.put, List.setIfInBounds_toArray, List.set_cons_zero, List.set_cons_succ]
  go_big_quiet_step (fail)
  go_big_quiet_step (fail)
  go_big_quiet_step (fail)
  go_big_quiet_step (fail)
  go_big_quiet_step (fail)
  refine wpQuiet_load_num rfl _ (.tmp 11) rfl _ rfl _ _ _ qw4 Try.underlying26 rfl size26 ?_
  simp only [Act.put, List.setIfInBounds_toArray, List.set_cons_zero, List.set_cons_succ]
  refine wpQuiet_load_num rfl _ (.tmp 12) rfl _ rfl _ _ _ mw5 Try.underlying26 rfl size26 ?_
  simp only [Act.put, List.setIfInBounds_toArray, List.set_cons_zero, List.set_cons_succ]
  go_big_quiet_step (exact later_of (pick_any (a0 % 4294967296) (by omega) (by omega) x y _))
  go_big_quiet_step (fail)
  go_big_quiet_step (fail)
  refine wpQuiet_load_num rfl _ (.tmp 11) rfl _ rfl _ _ _ qw4 Try.underlying26 rfl size26 ?_
  simp only [Act.put, List.setIfInBounds_toArray, List.set_cons_zero, List.set_cons_succ]
  refine wpQuiet_load_num rfl _ (.tmp 12) rfl _ rfl _ _ _ mw5 Try.underlying26 rfl size26 ?_
  simp only [Act.put, List.setIfInBounds_toArray, List.set_cons_zero, List.set_cons_succ]
  go_big_quiet_step (exact later_of (pick_ref (a0 % 4294967296) (by omega) (by omega) x y _))
  go_big_quiet_step (fail)
  go_big_quiet_step (fail)
  go_big_quiet_step (fail)
  refine wpQuiet_nil ?_
  intro X
  go_wp2
  go_ret
  exact ⟨rfl, step_trans c_4 X.h⟩
end Go.Proofs.Ytiffgmkeengdkaa
