/- What an inverse is. -/
import Derived.Test.YtcfobgimpflneaaMtRInv
import Derived.Test.YtcfobgimpflneaaMtRd
namespace Go.Proofs.Ytcfobgimpflneaa
set_option linter.unusedVariables false
set_option linter.unusedSimpArgs false
open Go.ChangeShapes Go.WideShapes Go.ChangeAt Go.RowKit
theorem ri_ends {a m : Nat} : ∀ low high s t, RI a m high low s t → ∃ h' s' t', RI a m h' 0 s' t' := by
  intro low
  induction low using Nat.strongRecOn with
  | _ low ih =>
    intro high s t h
    rcases Nat.eq_zero_or_pos low with h0 | h0
    · subst h0; exact ⟨_, _, _, h⟩
    · exact ih _ (Nat.mod_lt _ h0) _ _ _ (h.next h0)
theorem inv_spec {a m : Nat} (h : invB a m = true) : a * invN a m % m = 1 ∧ invN a m < m := by
  have h2 : 2 ≤ m := by unfold invB at h; exact (of_decide_eq_true h).1
  obtain ⟨h', s', t', hR⟩ := ri_ends _ _ _ _ (ri_first a h2)
  rcases hR.last h2 with ⟨e1, e2, e3⟩ | ⟨-, e2, -⟩
  · obtain ⟨z, hz⟩ := hR.e2
    rw [e1] at hz
    rw [← e2]
    exact ⟨one_mod h2 (by simpa using hz), hR.tm⟩
  · rw [e2] at h; cases h
theorem inv_lt {a m : Nat} (hm : m < 4294967296 ^ 8) : invN a m < 4294967296 ^ 8 := by
  cases h : invB a m with
  | true => exact Nat.lt_trans (inv_spec h).2 hm
  | false => rw [inv_no h]; decide
theorem inv_back {a m : Nat} (ha : a < m) (h : invB a m = true) : invN (invN a m) m = a ∧ invB (invN a m) m = true := by
  have h2 : 2 ≤ m := by unfold invB at h; exact (of_decide_eq_true h).1
  exact inv_yes h2 ha (by rw [Nat.mul_comm]; exact (inv_spec h).1)
theorem inv_one {m : Nat} (h2 : 2 ≤ m) : invN 1 m = 1 ∧ invB 1 m = true := inv_yes h2 (by omega) (by rw [Nat.mul_one]; exact Nat.mod_eq_of_lt (by omega))
theorem inv_last {m : Nat} (h2 : 2 ≤ m) : invN (m - 1) m = m - 1 ∧ invB (m - 1) m = true := by
  refine inv_yes h2 (by omega) ?_
  obtain ⟨k, rfl⟩ : ∃ k, m = k + 1 := ⟨m - 1, by omega⟩
  rw [Nat.add_sub_cancel]
  obtain ⟨j, rfl⟩ : ∃ j, k = j + 1 := ⟨k - 1, by omega⟩
  rw [show (j + 1) * (j + 1) = 1 + (j + 1 + 1) * j by grind, Nat.add_mul_mod_self_left]
  exact Nat.mod_eq_of_lt (by omega)
theorem inv_none {m : Nat} (h2 : 2 ≤ m) : invB 0 m = false := by
  unfold invB
  exact decide_eq_false (by rw [Nat.gcd_zero_right]; omega)
end Go.Proofs.Ytcfobgimpflneaa
