/- Primes below 2^31: numbers. -/
import Derived.Test.YtgccbfkofkohpaaGaNum
import Derived.Test.YtgccbfkofkohpaaGaByte
namespace Go.Proofs.Ytgccbfkofkohpaa
set_option linter.unusedVariables false
set_option maxRecDepth 20000
set_option linter.unusedSimpArgs false
/-- No number from 2 on whose square is not above n divides n. -/
def NoDiv (n : Int) : Prop := ∀ d : Int, 2 ≤ d → d * d ≤ n → n % d ≠ 0
open Classical in
/-- What Prime answers. -/
noncomputable def primeB (n : Int) : Bool := decide (2 ≤ n ∧ n < 2147483648 ∧ NoDiv n)
open Classical in
theorem primeB_yes {n : Int} (h0 : 2 ≤ n) (h1 : n < 2147483648) (h : NoDiv n) : primeB n = true := by unfold primeB; exact decide_eq_true ⟨h0, h1, h⟩
open Classical in
theorem primeB_no {n : Int} (h : ¬ (2 ≤ n ∧ n < 2147483648 ∧ NoDiv n)) : primeB n = false := by unfold primeB; exact decide_eq_false h
/-- None of D, D - 1, .., D - f + 1 divides n: reckoned. -/
def okN (n D : Nat) : Nat → Bool
  | 0 => true
  | f + 1 => (n % (D - f) != 0) && okN n D f
theorem okN_spec {n D : Nat} : ∀ f, okN n D f = true → ∀ d, D - f < d → d ≤ D → n % d ≠ 0
  | 0, _, d, h1, h2 => by omega
  | f + 1, h, d, h1, h2 => by
    unfold okN at h
    simp only [Bool.and_eq_true, bne_iff_ne, ne_eq] at h
    by_cases e : d = D - f
    · rw [e]; exact h.1
    · exact okN_spec f h.2 d (by omega) h2
theorem okN_bad {n D : Nat} : ∀ f, okN n D f = false → ∃ d, D - f < d ∧ d ≤ D ∧ n % d = 0 ∨ ∃ g, g < f ∧ n % (D - g) = 0
  | 0, h => by cases h
  | f + 1, h => by
    unfold okN at h
    by_cases e : n % (D - f) = 0
    · exact ⟨0, .inr ⟨f, by omega, e⟩⟩
    · have h2 : okN n D f = false := by simpa [e] using h
      obtain ⟨d, h3 | ⟨g, h4, h5⟩⟩ := okN_bad f h2
      · exact ⟨d, .inl ⟨by omega, h3.2.1, h3.2.2⟩⟩
      · exact ⟨0, .inr ⟨g, by omega, h5⟩⟩
/-- Whether n, not above D's square plus 2 D, is a prime: reckoned. -/
def primeF (n D : Nat) : Bool := okN n D (D - 1)
theorem primeF_yes {n D : Nat} (h2 : 2 ≤ n) (hn : n < 2147483648) (hD : n < (D + 1) * (D + 1)) (h : primeF n D = true) : primeB (n : Int) = true := by
  refine primeB_yes (by omega) (by omega) fun d h1 h3 => ?_
  obtain ⟨e, rfl⟩ := Int.eq_ofNat_of_zero_le (show 0 ≤ d by omega)
  have h3' : e * e ≤ n := by exact_mod_cast h3
  have he : e ≤ D := by
    refine Nat.le_of_lt_succ (Nat.lt_of_not_le fun hle => ?_)
    have : (D + 1) * (D + 1) ≤ e * e := Nat.mul_le_mul hle hle
    omega
  have := okN_spec _ h e (by omega) he
  intro h4
  exact this (by exact_mod_cast h4)
theorem primeF_no {n d : Nat} (h2 : 2 ≤ d) (hd : d * d ≤ n) (h : n % d = 0) : primeB (n : Int) = false := by
  refine primeB_no fun ⟨_, _, hp⟩ => hp (d : Int) (by omega) (by exact_mod_cast hd) (by exact_mod_cast h)
/-- A divisor from 2 to D of n, where D's square is not above n. -/
def compF (n D : Nat) : Bool := !(okN n D (D - 1))
theorem compF_no {n D : Nat} (hD : D * D ≤ n) (h : compF n D = true) : primeB (n : Int) = false := by
  unfold compF at h
  have h1 : okN n D (D - 1) = false := by simpa using h
  obtain ⟨d, h3 | ⟨g, h4, h5⟩⟩ := okN_bad _ h1
  · have : d * d ≤ D * D := Nat.mul_le_mul h3.2.1 h3.2.1
    exact primeF_no (by omega) (by omega) h3.2.2
  · have : (D - g) * (D - g) ≤ D * D := Nat.mul_le_mul (by omega) (by omega)
    exact primeF_no (d := D - g) (by omega) (by omega) h5
end Go.Proofs.Ytgccbfkofkohpaa
namespace Go.Proofs.Ytgccbfkofkohpaa
set_option linter.unusedVariables false
set_option maxRecDepth 20000
set_option linter.unusedSimpArgs false
open Go.ChangeShapes Go.WideShapes Go.ChangeAt Go.RowKit
theorem sq_le {D : Int} (h : 2 ≤ D) : D ≤ D * D := by
  have := Int.mul_le_mul_of_nonneg_left (show (1 : Int) ≤ D by omega) (show (0 : Int) ≤ D by omega)
  omega
theorem sq_bd {D n : Int} (h : 2 ≤ D) (hs : (D - 1) * (D - 1) ≤ n) (hn : n < 2147483648) : 0 ≤ D * D ∧ D * D < 1099511627776 ∧ D ≤ 46342 := by
  have h3 : D ≤ 46342 := by
    refine Int.le_of_not_gt fun hgt => ?_
    have := Int.mul_le_mul (show (46342 : Int) ≤ D - 1 by omega) (show (46342 : Int) ≤ D - 1 by omega) (by omega) (show (0 : Int) ≤ D - 1 by omega)
    omega
  have h4 := Int.mul_le_mul h3 h3 (show (0 : Int) ≤ D by omega) (by omega)
  have h5 := Int.mul_nonneg (show (0 : Int) ≤ D by omega) (show (0 : Int) ≤ D by omega)
  exact ⟨h5, by omega, h3⟩
set_option maxRecDepth 100000 in
set_option maxHeartbeats 2000000 in
theorem prime_any (n : Int) (h0 : -9223372036854775808 ≤ n) (h1 : n < 9223372036854775808) (w : World) :
    Calls Try.prog 18 #[.int .i64 n] w fun e w' => e = .returned (.bool (primeB n)) ∧ w = w' := by
  obtain ⟨V, hV⟩ : ∃ V, Hid (primeB n = V) := ⟨_, hid rfl⟩
  rw [hV.out]
  by_cases ha : n < 2
  · obtain rfl : V = false := by rw [← hV.out]; exact primeB_no (by omega)
    go_enter Try.func18, Try.ntmps18
    go_wp2
    go_ret
    exact ⟨rfl, rfl⟩
  by_cases hb : n < 2147483648
  · have h2 : 2 ≤ n := by omega
    clear h0 h1 ha
    go_enter Try.func18, Try.ntmps18
    go_wp2_with fail
    go_loopw [3] (fun d wr => ∃ D : Int, 2 ≤ D ∧ Hid ((D - 1) * (D - 1) ≤ n) ∧ d = .int .i64 D ∧ Hid (∀ e : Int, 2 ≤ e → e < D → n % e ≠ 0) ∧ w = wr) (fun d _ => (n + 2 - intOf d).toNat)
    case atStart => exact ⟨2, by omega, hid (by omega), rfl, hid (fun e g1 g2 => absurd g2 (by omega)), rfl⟩
    case round =>
      obtain ⟨D, hD, hs, rfl, hn, rfl⟩ := hrel
      obtain ⟨q0, q1, q2⟩ := sq_bd hD hs.out hb
      obtain ⟨s, hsq⟩ : ∃ s, Hid (D * D = s) := ⟨_, hid rfl⟩
      rw [hsq.out] at q0 q1
      have hds : D * D = s := hsq.out
      have hz : (D == 0) = false := by rw [beq_eq_false_iff_ne]; omega
      by_cases hle : s ≤ n
      · have hlt : D < n + 2 := by have := sq_le hD; have := hsq.out; omega
        obtain ⟨R, hR⟩ : ∃ R, Hid (n % D = R) := ⟨_, hid rfl⟩
        have ht : n.tmod D = R := by rw [Int.tmod_eq_emod_of_nonneg (by omega)]; exact hR.out
        by_cases hr : R = 0
        · subst hr
          obtain rfl : V = false := by rw [← hV.out]; exact primeB_no (fun h => h.2.2 D hD (by rw [hsq.out]; exact hle) hR.out)
          go_wp2_with fail
          go_ret
          exact ⟨rfl, rfl⟩
        · have hr' : (R == 0) = false := beq_eq_false_iff_ne.2 hr
          go_wp2_with fail
          go_roundw
          case rel => exact ⟨D + 1, by omega, hid (by rw [Int.add_sub_cancel, hsq.out]; exact hle), by go_num, hid (fun e g1 g2 => by
            by_cases e1 : e = D
            · subst e1; rw [hR.out]; exact hr
            · exact hn.out e g1 (by omega)), (by first | rfl | trivial)⟩
          case measure => simp [intOf] <;> omega
      · obtain rfl : V = true := by
          rw [← hV.out]
          refine primeB_yes h2 hb fun d g1 g2 => hn.out d g1 (Int.lt_of_not_ge fun hge => ?_)
          have := Int.mul_le_mul hge hge (show (0 : Int) ≤ D by omega) (show (0 : Int) ≤ d by omega)
          have := hsq.out
          omega
        go_wp2_with fail
        go_ret
        exact ⟨rfl, rfl⟩
  · obtain rfl : V = false := by rw [← hV.out]; exact primeB_no (by omega)
    go_enter Try.func18, Try.ntmps18
    go_wp2
    go_ret
    exact ⟨rfl, rfl⟩
set_option maxRecDepth 100000 in
set_option maxHeartbeats 2000000 in
theorem rprime_any (n : Int) (h0 : -9223372036854775808 ≤ n) (h1 : n < 9223372036854775808) (w : World) :
    Calls Try.prog 19 #[.int .i64 n] w fun e w' => e = .returned (.bool (primeB n)) ∧ w = w' := by
  obtain ⟨V, hV⟩ : ∃ V, Hid (primeB n = V) := ⟨_, hid rfl⟩
  rw [hV.out]
  by_cases ha : n < 2
  · obtain rfl : V = false := by rw [← hV.out]; exact primeB_no (by omega)
    go_enter Try.func19, Try.ntmps19
    go_wp2
    go_ret
    exact ⟨rfl, rfl⟩
  by_cases hb : n < 2147483648
  · have h2 : 2 ≤ n := by omega
    clear h0 h1 ha
    go_enter Try.func19, Try.ntmps19
    go_wp2_with fail
    go_loopw [3] (fun d wr => ∃ D : Int, 2 ≤ D ∧ Hid ((D - 1) * (D - 1) ≤ n) ∧ d = .int .i64 D ∧ Hid (∀ e : Int, 2 ≤ e → e < D → n % e ≠ 0) ∧ w = wr) (fun d _ => (n + 2 - intOf d).toNat)
    case atStart => exact ⟨2, by omega, hid (by omega), rfl, hid (fun e g1 g2 => absurd g2 (by omega)), rfl⟩
    case round =>
      obtain ⟨D, hD, hs, rfl, hn, rfl⟩ := hrel
      obtain ⟨q0, q1, q2⟩ := sq_bd hD hs.out hb
      obtain ⟨s, hsq⟩ : ∃ s, Hid (D * D = s) := ⟨_, hid rfl⟩
      rw [hsq.out] at q0 q1
      have hds : D * D = s := hsq.out
      have hz : (D == 0) = false := by rw [beq_eq_false_iff_ne]; omega
      by_cases hle : s ≤ n
      · have hlt : D < n + 2 := by have := sq_le hD; have := hsq.out; omega
        obtain ⟨R, hR⟩ : ∃ R, Hid (n % D = R) := ⟨_, hid rfl⟩
        have ht : n.tmod D = R := by rw [Int.tmod_eq_emod_of_nonneg (by omega)]; exact hR.out
        by_cases hr : R = 0
        · subst hr
          obtain rfl : V = false := by rw [← hV.out]; exact primeB_no (fun h => h.2.2 D hD (by rw [hsq.out]; exact hle) hR.out)
          go_wp2_with fail
          go_ret
          exact ⟨rfl, rfl⟩
        · have hr' : (R == 0) = false := beq_eq_false_iff_ne.2 hr
          go_wp2_with fail
          go_roundw
          case rel => exact ⟨D + 1, by omega, hid (by rw [Int.add_sub_cancel, hsq.out]; exact hle), by go_num, hid (fun e g1 g2 => by
            by_cases e1 : e = D
            · subst e1; rw [hR.out]; exact hr
            · exact hn.out e g1 (by omega)), (by first | rfl | trivial)⟩
          case measure => simp [intOf] <;> omega
      · obtain rfl : V = true := by
          rw [← hV.out]
          refine primeB_yes h2 hb fun d g1 g2 => hn.out d g1 (Int.lt_of_not_ge fun hge => ?_)
          have := Int.mul_le_mul hge hge (show (0 : Int) ≤ D by omega) (show (0 : Int) ≤ d by omega)
          have := hsq.out
          omega
        go_wp2_with fail
        go_ret
        exact ⟨rfl, rfl⟩
  · obtain rfl : V = false := by rw [← hV.out]; exact primeB_no (by omega)
    go_enter Try.func19, Try.ntmps19
    go_wp2
    go_ret
    exact ⟨rfl, rfl⟩
end Go.Proofs.Ytgccbfkofkohpaa
