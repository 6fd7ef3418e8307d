/- The reference's half. -/
import Derived.Test.YtgccbfkofkohpaaMtRef
import Derived.Test.YtgccbfkofkohpaaGaRef
import Derived.Test.YtgccbfkofkohpaaGaByte
import Derived.Test.YtgccbfkofkohpaaPick
namespace Go.Proofs.Ytgccbfkofkohpaa
set_option linter.unusedVariables false
set_option maxRecDepth 20000
set_option linter.unusedSimpArgs false
open Go.ChangeShapes Go.WideShapes Go.ChangeAt Go.RowKit
/-- A limb halved, and the bit that comes from the next one. -/
theorem half_or {x y : Nat} (hx : x < 4294967296) (hy : y < 4294967296) : bits .or .u32 ((x : Int) / 2) ((y : Int) * 2147483648 % 4294967296) = ((x / 2 + y % 2 * 2147483648 : Nat) : Int) := by
  have e1 : (x : Int) / 2 = ((x / 2 : Nat) : Int) := by omega
  have e2 : (y : Int) * 2147483648 % 4294967296 = ((y % 2 * 2147483648 : Nat) : Int) := by omega
  rw [e1, e2, u32_or_nat _ _ (by omega) (by omega), Nat.or_comm, nat_join 31 (y % 2 * 2147483648) (x / 2) (by omega) (by omega)]
  omega
theorem half_dig (X i : Nat) : dig (X / 2) i = dig X i / 2 + dig X (i + 1) % 2 * 2147483648 := by
  unfold dig
  have e1 : X / 2 / 4294967296 ^ i = X / 4294967296 ^ i / 2 := by rw [Nat.div_div_eq_div_mul, Nat.div_div_eq_div_mul, Nat.mul_comm]
  have e2 : X / 4294967296 ^ (i + 1) = X / 4294967296 ^ i / 4294967296 := by rw [Nat.pow_succ, Nat.div_div_eq_div_mul]
  rw [e1, e2]
  generalize X / 4294967296 ^ i = Z
  omega
/-- What is halved: a number, or a number and an odd one. -/
theorem half_pack {a m : Nat} (ho : m % 2 = 1) (ha : a < 4294967296 ^ 8) (hm : m < 4294967296 ^ 8) (X : Nat) (hX : X = if a % 2 = 1 then a + m else a) :
    X / 2 = hfM m a ∧ X / 2 < 4294967296 ^ 8 ∧ X / 4294967296 ^ 8 ≤ 1 ∧ (∀ i, i < 8 → dig (X / 2) i = dig (X % 4294967296 ^ 8) i / 2 + dig X (i + 1) % 2 * 2147483648) ∧ dig X 8 = X / 4294967296 ^ 8 := by
  have hXb : X < 2 * 4294967296 ^ 8 := by rw [hX]; split <;> omega
  have h1 : X / 4294967296 ^ 8 ≤ 1 := by
    have : X / 4294967296 ^ 8 < 2 := Nat.div_lt_of_lt_mul (by omega)
    omega
  refine ⟨?_, by omega, h1, fun i hi => ?_, ?_⟩
  · unfold hfM; rw [hX]; split <;> rfl
  · rw [half_dig, dig_mod X hi]
  · unfold dig; rw [Nat.mod_eq_of_lt (by omega)]
theorem half_row {w : World} {g : Nat} {t : TypeId} {A H k : Nat} (h : w.rowIs g t 8 (fun j => if j < k then numF H j else numF A j)) (hk : k < 8) {v : Value} (hv : v = numF H k) : (w.setCell ⟨g, k, none⟩ v).rowIs g t 8 (fun j => if j < k + 1 then numF H j else numF A j) :=
  (h.set k _).congr fun j hj => by
    by_cases e : j = k
    · subst e; rw [if_pos rfl, if_pos (by omega), hv]
    · rw [if_neg e]
      by_cases h1 : j < k
      · rw [if_pos h1, if_pos (by omega)]
      · rw [if_neg h1, if_neg (by omega)]
end Go.Proofs.Ytgccbfkofkohpaa
