/- sentinellaw4.GroupPrimes: the walk. -/
import Derived.Test.YtgccbfkofkohpaaGpKnown
import Derived.Test.YtgccbfkofkohpaaGpWithin
namespace Go.Proofs.Ytgccbfkofkohpaa
set_option linter.unusedVariables false
set_option maxRecDepth 20000
set_option linter.unusedSimpArgs false
open Go.ChangeShapes Go.WideShapes Go.ChangeAt Go.RowKit
attribute [local go_sem] eqn_same
theorem big_prime : okN 2147483647 46340 46339 = true := by decide +kernel
theorem primes_pack {k u v r : Int} (k0 : 0 ≤ k) (k1 : k < 200000) (u0 : 2 ≤ u) (u1 : u < 1002) (v0 : 2 ≤ v) (v1 : v < 1002) (r0 : -9223372036854775808 ≤ r) (r1 : r < 9223372036854775808) : ∃ b : Bool, (∀ w, Calls Try.prog 18 #[.int .i64 k] w fun e w' => e = .returned (.bool b) ∧ w = w') ∧
    (∀ w, Calls Try.prog 19 #[.int .i64 k] w fun e w' => e = .returned (.bool b) ∧ w = w') ∧
    (∀ w, Calls Try.prog 18 #[.int .i64 (u * v)] w fun e w' => e = .returned (.bool false) ∧ w = w') ∧
    (0 ≤ u * v ∧ u * v < 2000000) ∧
    (∀ w, Calls Try.prog 18 #[.int .i64 2147483647] w fun e w' => e = .returned (.bool true) ∧ w = w') ∧
    (∀ w, Calls Try.prog 18 #[.int .i64 2147483648] w fun e w' => e = .returned (.bool false) ∧ w = w') ∧
    ((2147483648 ≤ r ∨ r < 0) → (∀ w, Calls Try.prog 18 #[.int .i64 r] w fun e w' => e = .returned (.bool false) ∧ w = w')) := by
  have m0 := Int.mul_nonneg (show (0 : Int) ≤ u by omega) (show (0 : Int) ≤ v by omega)
  have m1 := Int.mul_le_mul (show u ≤ 1001 by omega) (show v ≤ 1001 by omega) (show (0 : Int) ≤ v by omega) (by decide)
  refine ⟨primeB k, fun w => prime_any k (by omega) (by omega) w, fun w => rprime_any k (by omega) (by omega) w, fun w => ?_, ⟨m0, by omega⟩, fun w => ?_, fun w => ?_, fun h w => ?_⟩
  · have := prime_any (u * v) (by omega) (by omega) w
    rw [show primeB (u * v) = false from primeB_no (fun h => by
      rcases Int.le_total u v with hl | hl
      · exact h.2.2 u u0 (Int.mul_le_mul_of_nonneg_left hl (by omega)) (Int.mul_emod_right _ _)
      · exact h.2.2 v v0 (Int.mul_le_mul_of_nonneg_right hl (by omega)) (Int.mul_emod_left _ _))] at this
    exact this
  · have := prime_any 2147483647 (by decide) (by decide) w
    rw [show primeB 2147483647 = true from primeF_yes (n := 2147483647) (D := 46340) (by decide) (by decide) (by decide) big_prime] at this
    exact this
  · have := prime_any 2147483648 (by decide) (by decide) w
    rw [show primeB 2147483648 = false from primeB_no (by omega)] at this
    exact this
  · have := prime_any r r0 r1 w
    rw [show primeB r = false from primeB_no (by omega)] at this
    exact this
set_option maxRecDepth 100000 in
set_option maxHeartbeats 16000000 in
theorem GroupPrimes_walk (a0 : Int) (hk0 : -9223372036854775808 ≤ a0) (hl0 : a0 < 9223372036854775808)
    (a1 : Int) (hk1 : -9223372036854775808 ≤ a1) (hl1 : a1 < 9223372036854775808)
    (a2 : Int) (hk2 : -9223372036854775808 ≤ a2) (hl2 : a2 < 9223372036854775808)
    (a3 : Int) (hk3 : -9223372036854775808 ≤ a3) (hl3 : a3 < 9223372036854775808) (w : World)  :
    Calls Try.prog 4 #[.int .i64 a0, .int .i64 a1, .int .i64 a2, .int .i64 a3] w fun e w' => e = .returned (.bool true) ∧ Below w.heap.size w w' := by
  have ng := noGuard
  obtain ⟨k, ek⟩ : ∃ k, Hid (a0 % 200000 = k) := ⟨_, hid rfl⟩
  have kwk := fun (w : World) => gwithin_any a0 200000 (by omega) (by omega) hk0 hl0 w
  rw [ek.out] at kwk
  obtain ⟨pk, qk⟩ : 0 ≤ k ∧ k < 200000 := by have := ek.out; omega
  clear ek
  obtain ⟨x, ex⟩ : ∃ x, Hid (a1 % 1000 = x) := ⟨_, hid rfl⟩
  have kwx := fun (w : World) => gwithin_any a1 1000 (by omega) (by omega) hk1 hl1 w
  rw [ex.out] at kwx
  obtain ⟨px, qx⟩ : 0 ≤ x ∧ x < 1000 := by have := ex.out; omega
  clear ex
  obtain ⟨y, ey⟩ : ∃ y, Hid (a2 % 1000 = y) := ⟨_, hid rfl⟩
  have kwy := fun (w : World) => gwithin_any a2 1000 (by omega) (by omega) hk2 hl2 w
  rw [ey.out] at kwy
  obtain ⟨py, qy⟩ : 0 ≤ y ∧ y < 1000 := by have := ey.out; omega
  clear ey
  go_enter Try.func4, Try.ntmps4
  go_wp2_with (fail)
  refine (gknown_any _).mono ?_
  rintro e w1 ⟨rfl, bw1⟩
  have c_1 := bw1
  clear bw1
  go_wp2_with (fail)
  refine (kwk _).mono ?_
  rintro e w2 ⟨rfl, rfl⟩
  go_wp2_with (fail)
  refine (kwx _).mono ?_
  rintro e w3 ⟨rfl, rfl⟩
  go_wp2_with (fail)
  refine (kwy _).mono ?_
  rintro e w4 ⟨rfl, rfl⟩
  go_upto_region 5 with (fail)
  obtain ⟨u, hu⟩ : ∃ u : Int, u = 2 + x := ⟨_, rfl⟩
  obtain ⟨v, hv⟩ : ∃ v : Int, v = 2 + y := ⟨_, rfl⟩
  rw [← hu, ← hv]
  obtain ⟨b, k1, k2, k3, ⟨m0, m1⟩, k4, k5, k6⟩ := primes_pack pk qk (show 2 ≤ u by omega) (show u < 1002 by omega) (show 2 ≤ v by omega) (show v < 1002 by omega) hk3 hl3
  clear hu hv
  obtain ⟨p, hp⟩ : ∃ p, u * v = p := ⟨_, rfl⟩
  rw [hp] at k3 m0 m1
  by_cases c1 : 2147483648 ≤ a3
  · have kr := k6 (.inl c1)
    clear k6
    go_wp2_with (fail)
    refine (kr _).mono ?_
    rintro e w5 ⟨rfl, rfl⟩
    go_upto_region 8 with (fail)
    try simp only [Act.put, List.setIfInBounds_toArray, List.set_cons_zero, List.set_cons_succ]
    cases b
    · refine wp_region_plain ?_
      go_big_quiet_step (fail)
      go_big_quiet_step (exact later_same (k1 _))
      go_big_quiet_step (fail)
      go_big_quiet_step (exact later_same (k2 _))
      go_big_quiet_step (fail)
      go_big_quiet_step (fail)
      go_big_quiet_step (fail)
      go_big_quiet_step (fail)
      go_big_quiet_step (fail)
      go_big_quiet_step (exact later_same (k3 _))
      go_big_quiet_step (fail)
      go_big_quiet_step (fail)
      go_big_quiet_step (fail)
      go_big_quiet_step (exact later_same (k4 _))
      go_big_quiet_step (fail)
      go_big_quiet_step (fail)
      go_big_quiet_step (exact later_same (k5 _))
      go_big_quiet_step (fail)
      go_big_quiet_step (fail)
      go_big_quiet_step (fail)
      refine wpQuiet_nil ?_
      intro X_1
      have c_2 := step_trans c_1 X_1.h
      clear c_1
      go_wp2
      go_ret
      exact ⟨rfl, c_2⟩
    · refine wp_region_plain ?_
      go_big_quiet_step (fail)
      go_big_quiet_step (exact later_same (k1 _))
      go_big_quiet_step (fail)
      go_big_quiet_step (exact later_same (k2 _))
      go_big_quiet_step (fail)
      go_big_quiet_step (fail)
      go_big_quiet_step (fail)
      go_big_quiet_step (fail)
      go_big_quiet_step (fail)
      go_big_quiet_step (exact later_same (k3 _))
      go_big_quiet_step (fail)
      go_big_quiet_step (fail)
      go_big_quiet_step (fail)
      go_big_quiet_step (exact later_same (k4 _))
      go_big_quiet_step (fail)
      go_big_quiet_step (fail)
      go_big_quiet_step (exact later_same (k5 _))
      go_big_quiet_step (fail)
      go_big_quiet_step (fail)
      go_big_quiet_step (fail)
      refine wpQuiet_nil ?_
      intro X_1
      have c_2 := step_trans c_1 X_1.h
      clear c_1
      go_wp2
      go_ret
      exact ⟨rfl, c_2⟩
  by_cases c2 : a3 < 0
  · have kr := k6 (.inr c2)
    have c1' : decide (2147483648 ≤ a3) = false := decide_eq_false c1
    clear k6
    go_wp2_with (fail)
    refine (kr _).mono ?_
    rintro e w5 ⟨rfl, rfl⟩
    go_upto_region 8 with (fail)
    try simp only [Act.put, List.setIfInBounds_toArray, List.set_cons_zero, List.set_cons_succ]
    cases b
    · refine wp_region_plain ?_
      go_big_quiet_step (fail)
      go_big_quiet_step (exact later_same (k1 _))
      go_big_quiet_step (fail)
      go_big_quiet_step (exact later_same (k2 _))
      go_big_quiet_step (fail)
      go_big_quiet_step (fail)
      go_big_quiet_step (fail)
      go_big_quiet_step (fail)
      go_big_quiet_step (fail)
      go_big_quiet_step (exact later_same (k3 _))
      go_big_quiet_step (fail)
      go_big_quiet_step (fail)
      go_big_quiet_step (fail)
      go_big_quiet_step (exact later_same (k4 _))
      go_big_quiet_step (fail)
      go_big_quiet_step (fail)
      go_big_quiet_step (exact later_same (k5 _))
      go_big_quiet_step (fail)
      go_big_quiet_step (fail)
      go_big_quiet_step (fail)
      refine wpQuiet_nil ?_
      intro X_1
      have c_2 := step_trans c_1 X_1.h
      clear c_1
      go_wp2
      go_ret
      exact ⟨rfl, c_2⟩
    · refine wp_region_plain ?_
      go_big_quiet_step (fail)
      go_big_quiet_step (exact later_same (k1 _))
      go_big_quiet_step (fail)
      go_big_quiet_step (exact later_same (k2 _))
      go_big_quiet_step (fail)
      go_big_quiet_step (fail)
      go_big_quiet_step (fail)
      go_big_quiet_step (fail)
      go_big_quiet_step (fail)
      go_big_quiet_step (exact later_same (k3 _))
      go_big_quiet_step (fail)
      go_big_quiet_step (fail)
      go_big_quiet_step (fail)
      go_big_quiet_step (exact later_same (k4 _))
      go_big_quiet_step (fail)
      go_big_quiet_step (fail)
      go_big_quiet_step (exact later_same (k5 _))
      go_big_quiet_step (fail)
      go_big_quiet_step (fail)
      go_big_quiet_step (fail)
      refine wpQuiet_nil ?_
      intro X_1
      have c_2 := step_trans c_1 X_1.h
      clear c_1
      go_wp2
      go_ret
      exact ⟨rfl, c_2⟩
  have c1' : decide (2147483648 ≤ a3) = false := decide_eq_false c1
  have c2' : decide (a3 < 0) = false := decide_eq_false c2
  clear k6
  go_upto_region 8 with (fail)
  try simp only [Act.put, List.setIfInBounds_toArray, List.set_cons_zero, List.set_cons_succ]
  cases b
  · refine wp_region_plain ?_
    go_big_quiet_step (fail)
    go_big_quiet_step (exact later_same (k1 _))
    go_big_quiet_step (fail)
    go_big_quiet_step (exact later_same (k2 _))
    go_big_quiet_step (fail)
    go_big_quiet_step (fail)
    go_big_quiet_step (fail)
    go_big_quiet_step (fail)
    go_big_quiet_step (fail)
    go_big_quiet_step (exact later_same (k3 _))
    go_big_quiet_step (fail)
    go_big_quiet_step (fail)
    go_big_quiet_step (fail)
    go_big_quiet_step (exact later_same (k4 _))
    go_big_quiet_step (fail)
    go_big_quiet_step (fail)
    go_big_quiet_step (exact later_same (k5 _))
    go_big_quiet_step (fail)
    go_big_quiet_step (fail)
    go_big_quiet_step (fail)
    refine wpQuiet_nil ?_
    intro X_1
    have c_2 := step_trans c_1 X_1.h
    clear c_1
    go_wp2
    go_ret
    exact ⟨rfl, c_2⟩
  · refine wp_region_plain ?_
    go_big_quiet_step (fail)
    go_big_quiet_step (exact later_same (k1 _))
    go_big_quiet_step (fail)
    go_big_quiet_step (exact later_same (k2 _))
    go_big_quiet_step (fail)
    go_big_quiet_step (fail)
    go_big_quiet_step (fail)
    go_big_quiet_step (fail)
    go_big_quiet_step (fail)
    go_big_quiet_step (exact later_same (k3 _))
    go_big_quiet_step (fail)
    go_big_quiet_step (fail)
    go_big_quiet_step (fail)
    go_big_quiet_step (exact later_same (k4 _))
    go_big_quiet_step (fail)
    go_big_quiet_step (fail)
    go_big_quiet_step (exact later_same (k5 _))
    go_big_quiet_step (fail)
    go_big_quiet_step (fail)
    go_big_quiet_step (fail)
    refine wpQuiet_nil ?_
    intro X_1
    have c_2 := step_trans c_1 X_1.h
    clear c_1
    go_wp2
    go_ret
    exact ⟨rfl, c_2⟩
end Go.Proofs.Ytgccbfkofkohpaa
