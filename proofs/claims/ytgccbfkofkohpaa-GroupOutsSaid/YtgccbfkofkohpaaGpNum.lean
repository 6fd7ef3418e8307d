/- Primes below 2^31: numbers. -/
import Derived.Test.YtgccbfkofkohpaaGaNum
namespace Go.Proofs.Ytgccbfkofkohpaa
set_option linter.unusedVariables false
set_option maxRecDepth 20000
set_option linter.unusedSimpArgs false
/-- No number from 2 on whose square is not above n divides n. -/
def NoDiv (n : Int) : Prop := ∀ d : Int, 2 ≤ d → d * d ≤ n → n % d ≠ 0
open Classical in
/-- What Prime answers. -/
noncomputable def primeB (n : Int) : Bool := decide (2 ≤ n ∧ n < 2147483648 ∧ NoDiv n)
open Classical in
theorem primeB_yes {n : Int} (h0 : 2 ≤ n) (h1 : n < 2147483648) (h : NoDiv n) : primeB n = true := by unfold primeB; exact decide_eq_true ⟨h0, h1, h⟩
open Classical in
theorem primeB_no {n : Int} (h : ¬ (2 ≤ n ∧ n < 2147483648 ∧ NoDiv n)) : primeB n = false := by unfold primeB; exact decide_eq_false h
/-- None of D, D - 1, .., D - f + 1 divides n: reckoned. -/
def okN (n D : Nat) : Nat → Bool
  | 0 => true
  | f + 1 => (n % (D - f) != 0) && okN n D f
theorem okN_spec {n D : Nat} : ∀ f, okN n D f = true → ∀ d, D - f < d → d ≤ D → n % d ≠ 0
  | 0, _, d, h1, h2 => by omega
  | f + 1, h, d, h1, h2 => by
    unfold okN at h
    simp only [Bool.and_eq_true, bne_iff_ne, ne_eq] at h
    by_cases e : d = D - f
    · rw [e]; exact h.1
    · exact okN_spec f h.2 d (by omega) h2
theorem okN_bad {n D : Nat} : ∀ f, okN n D f = false → ∃ d, D - f < d ∧ d ≤ D ∧ n % d = 0 ∨ ∃ g, g < f ∧ n % (D - g) = 0
  | 0, h => by cases h
  | f + 1, h => by
    unfold okN at h
    by_cases e : n % (D - f) = 0
    · exact ⟨0, .inr ⟨f, by omega, e⟩⟩
    · have h2 : okN n D f = false := by simpa [e] using h
      obtain ⟨d, h3 | ⟨g, h4, h5⟩⟩ := okN_bad f h2
      · exact ⟨d, .inl ⟨by omega, h3.2.1, h3.2.2⟩⟩
      · exact ⟨0, .inr ⟨g, by omega, h5⟩⟩
/-- Whether n, not above D's square plus 2 D, is a prime: reckoned. -/
def primeF (n D : Nat) : Bool := okN n D (D - 1)
theorem primeF_yes {n D : Nat} (h2 : 2 ≤ n) (hn : n < 2147483648) (hD : n < (D + 1) * (D + 1)) (h : primeF n D = true) : primeB (n : Int) = true := by
  refine primeB_yes (by omega) (by omega) fun d h1 h3 => ?_
  obtain ⟨e, rfl⟩ := Int.eq_ofNat_of_zero_le (show 0 ≤ d by omega)
  have h3' : e * e ≤ n := by exact_mod_cast h3
  have he : e ≤ D := by
    refine Nat.le_of_lt_succ (Nat.lt_of_not_le fun hle => ?_)
    have : (D + 1) * (D + 1) ≤ e * e := Nat.mul_le_mul hle hle
    omega
  have := okN_spec _ h e (by omega) he
  intro h4
  exact this (by exact_mod_cast h4)
theorem primeF_no {n d : Nat} (h2 : 2 ≤ d) (hd : d * d ≤ n) (h : n % d = 0) : primeB (n : Int) = false := by
  refine primeB_no fun ⟨_, _, hp⟩ => hp (d : Int) (by omega) (by exact_mod_cast hd) (by exact_mod_cast h)
/-- A divisor from 2 to D of n, where D's square is not above n. -/
def compF (n D : Nat) : Bool := !(okN n D (D - 1))
theorem compF_no {n D : Nat} (hD : D * D ≤ n) (h : compF n D = true) : primeB (n : Int) = false := by
  unfold compF at h
  have h1 : okN n D (D - 1) = false := by simpa using h
  obtain ⟨d, h3 | ⟨g, h4, h5⟩⟩ := okN_bad _ h1
  · have : d * d ≤ D * D := Nat.mul_le_mul h3.2.1 h3.2.1
    exact primeF_no (by omega) (by omega) h3.2.2
  · have : (D - g) * (D - g) ≤ D * D := Nat.mul_le_mul (by omega) (by omega)
    exact primeF_no (d := D - g) (by omega) (by omega) h5
end Go.Proofs.Ytgccbfkofkohpaa
