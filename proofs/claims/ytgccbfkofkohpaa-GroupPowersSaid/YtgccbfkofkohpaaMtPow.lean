/- Powers: numbers. -/
import Derived.Test.YtgccbfkofkohpaaMtRMake
import Derived.Test.YtgccbfkofkohpaaRefB
import Derived.Test.YtgccbfkofkohpaaGaNum
import Derived.Test.YtgccbfkofkohpaaGaRest
namespace Go.Proofs.Ytgccbfkofkohpaa
set_option linter.unusedVariables false
set_option maxRecDepth 20000
set_option linter.unusedSimpArgs false
open Go.ChangeShapes Go.WideShapes Go.ChangeAt Go.RowKit
theorem mm_mul {m : Nat} (ho : m % 2 = 1) (u v : Nat) : mm m (u * 4294967296 ^ 8 % m * (v * 4294967296 ^ 8 % m)) = u * v * 4294967296 ^ 8 % m := by
  have h0 : 0 < m := by omega
  have hu : ∀ r x : Nat, r < m → 4294967296 ^ 8 * r % m = x % m → r = mm m x := fun r x h k => mm_unique ho h k
  generalize 4294967296 ^ 8 = P at *
  refine (hu _ _ (Nat.mod_lt _ h0) ?_).symm
  rw [Nat.mul_mod_mod, ← Nat.mul_mod]
  congr 1
  grind
theorem pow_half (a e k : Nat) : a ^ (e / 2 ^ k) = a ^ (e / 2 ^ (k + 1)) * a ^ (e / 2 ^ (k + 1)) * (if e / 2 ^ k % 2 = 1 then a else 1) := by
  have h : e / 2 ^ (k + 1) = e / 2 ^ k / 2 := by rw [Nat.pow_succ, Nat.div_div_eq_div_mul]
  rw [h]
  generalize e / 2 ^ k = z
  obtain ⟨q, hq⟩ : ∃ q, q = z / 2 := ⟨_, rfl⟩
  rw [← hq, ← Nat.pow_add]
  rcases Nat.mod_two_eq_zero_or_one z with h0 | h0
  · rw [if_neg (by omega), Nat.mul_one]; congr 1; omega
  · rw [if_pos h0, ← Nat.pow_succ]; congr 1; omega
/-- What power holds when k bits are still to come. -/
def pmN (m a e k : Nat) : Nat := a ^ (e / 2 ^ k) * 4294967296 ^ 8 % m
def prN (m a e k : Nat) : Nat := a ^ (e / 2 ^ k) % m
theorem pm_step {m : Nat} (ho : m % 2 = 1) (a e k : Nat) : ∃ Y Z, mm m (pmN m a e (k + 1) * pmN m a e (k + 1)) = Y ∧ mm m (Y * (a * 4294967296 ^ 8 % m)) = Z ∧ Y < m ∧ Z < m ∧ pickN (bitI e k) Z Y = pmN m a e k := by
  have h0 : 0 < m := by omega
  have e1 : mm m (pmN m a e (k + 1) * pmN m a e (k + 1)) = a ^ (e / 2 ^ (k + 1)) * a ^ (e / 2 ^ (k + 1)) * 4294967296 ^ 8 % m := mm_mul ho _ _
  refine ⟨_, _, rfl, rfl, mm_lt h0 _, mm_lt h0 _, ?_⟩
  rw [e1, mm_mul ho]
  unfold pickN bitI pmN
  rw [pow_half a e k]
  rcases Nat.mod_two_eq_zero_or_one (e / 2 ^ k) with h | h
  · rw [h, if_pos (show ((0 : Nat) : Int) = 0 from rfl), if_neg (by omega), Nat.mul_one]
  · rw [h, if_neg (show ¬ ((1 : Nat) : Int) = 0 by decide), if_pos rfl]
theorem pr_step (m a e k : Nat) : ∃ Y, prN m a e (k + 1) * prN m a e (k + 1) % m = Y ∧ (bitI e k = 0 ∧ Y = prN m a e k ∨ bitI e k = 1 ∧ Y * (a % m) % m = prN m a e k) := by
  refine ⟨_, rfl, ?_⟩
  unfold prN bitI
  rw [pow_half a e k, ← Nat.mul_mod]
  rcases Nat.mod_two_eq_zero_or_one (e / 2 ^ k) with h | h
  · exact .inl ⟨by rw [h]; rfl, by rw [h, if_neg (by omega), Nat.mul_one]⟩
  · exact .inr ⟨by rw [h]; rfl, by rw [h, if_pos rfl, ← Nat.mul_mod]⟩
/-- How many bits there are to come at first. -/
theorem top_ends {e : Nat} (he : e < 4294967296 ^ 8) : ∃ K : Nat, topI e 8 = (K : Int) ∧ K ≤ 256 ∧ e / 2 ^ K = 0 := by
  rcases Nat.eq_zero_or_pos e with rfl | h0
  · exact ⟨0, topI_none 8, by omega, by simp⟩
  · obtain ⟨k, hk⟩ : ∃ k, e / 2 ^ k = 1 := by
      refine ⟨Nat.log2 e, ?_⟩
      have h1 := Nat.log2_self_le (n := e) (by omega)
      have h2 := Nat.lt_log2_self (n := e)
      rw [Nat.pow_succ] at h2
      exact Nat.div_eq_of_lt_le (by omega) (by omega)
    have h1 := top_one he hk
    refine ⟨k + 1, by rw [h1]; rfl, ?_, by rw [Nat.pow_succ, ← Nat.div_div_eq_div_mul, hk]⟩
    refine Nat.le_of_not_lt fun hge => ?_
    have : 2 ^ 256 ≤ 2 ^ k := Nat.pow_le_pow_right (by decide) (by omega)
    rw [Nat.div_eq_of_lt (by rw [big_eq] at he; omega)] at hk
    cases hk
theorem pm_first {m a e K : Nat} (h : e / 2 ^ K = 0) : pmN m a e K = 4294967296 ^ 8 % m := by unfold pmN; rw [h, Nat.pow_zero, Nat.one_mul]
theorem pm_last (m a e : Nat) : pmN m a e 0 = a ^ e * 4294967296 ^ 8 % m := by unfold pmN; rw [Nat.pow_zero, Nat.div_one]
theorem pr_first {m a e K : Nat} (h1 : 1 < m) (h : e / 2 ^ K = 0) : prN m a e K = 1 := by unfold prN; rw [h, Nat.pow_zero, Nat.mod_eq_of_lt h1]
theorem pr_last (m a e : Nat) : prN m a e 0 = a ^ e % m := by unfold prN; rw [Nat.pow_zero, Nat.div_one]
theorem pm_lt {m : Nat} (h0 : 0 < m) (a e k : Nat) : pmN m a e k < m := Nat.mod_lt _ h0
theorem pr_lt {m : Nat} (h0 : 0 < m) (a e k : Nat) : prN m a e k < m := Nat.mod_lt _ h0
attribute [irreducible] pmN prN
end Go.Proofs.Ytgccbfkofkohpaa
