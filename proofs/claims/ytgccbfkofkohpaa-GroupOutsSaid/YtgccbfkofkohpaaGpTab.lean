/- The groups. -/
import Derived.Test.YtgccbfkofkohpaaGpHas
namespace Go.Proofs.Ytgccbfkofkohpaa
set_option linter.unusedVariables false
set_option maxRecDepth 20000
set_option linter.unusedSimpArgs false
open Go.ChangeShapes Go.WideShapes Go.ChangeAt Go.RowKit
/-- p is the first safe prime below 2^k: reckoned. -/
def chkT (k p D E : Nat) : Bool := primeF p D && (primeF (p / 2) D && (List.range (2 ^ k - 1 - p)).all fun j => compF (2 ^ k - 1 - j) E || compF ((2 ^ k - 1 - j) / 2) E)
theorem tab_of {k p D E : Nat} (hk : k ≤ 31) (h4 : 4 ≤ p) (hp : p < 2 ^ k) (hD : p < (D + 1) * (D + 1)) (hE : E * E ≤ p / 2) (h : chkT k p D E = true) : safeB (p : Int) = true ∧ ∀ x : Int, (p : Int) < x → x < 2 ^ k → safeB x = false := by
  unfold chkT at h
  simp only [Bool.and_eq_true, List.all_eq_true, Bool.or_eq_true] at h
  obtain ⟨h1, h2, h3⟩ := h
  have hl : 2 ^ k ≤ 2 ^ 31 := Nat.pow_le_pow_right (by decide) hk
  generalize hM : 2 ^ k = M at *
  have hM2 : M ≤ 2147483648 := hl
  have hE2 : E * E ≤ p := Nat.le_trans hE (Nat.div_le_self _ _)
  constructor
  · unfold safeB
    rw [primeF_yes (by omega) (by omega) hD h1, show ((p : Nat) : Int) / 2 = ((p / 2 : Nat) : Int) by omega, primeF_yes (by omega) (by omega) (by omega) h2]
    rfl
  · intro x x0 x1
    obtain ⟨y, rfl⟩ := Int.eq_ofNat_of_zero_le (show 0 ≤ x by omega)
    have e : ((2 : Int) ^ k) = ((M : Nat) : Int) := by rw [← hM]; simp
    rw [e] at x1
    have h4 := h3 (M - 1 - y) (List.mem_range.2 (by omega))
    rw [show M - 1 - (M - 1 - y) = y by omega] at h4
    unfold safeB
    rcases h4 with h4 | h4
    · rw [compF_no (by omega) h4]; simp
    · rw [show ((y : Nat) : Int) / 2 = ((y / 2 : Nat) : Int) by omega, compF_no (Nat.le_trans hE (Nat.div_le_div_right (by omega))) h4]; rfl
theorem gm_known {k p : Nat} (hk : 12 ≤ k ∧ k ≤ 31) (h4 : 0 ≤ p) (hp : p < 2 ^ k) (ht : safeB (p : Int) = true ∧ ∀ x : Int, (p : Int) < x → x < 2 ^ k → safeB x = false) {V : Value} (h : GmR (k : Int) V) : V = .tuple #[.agg (groupA (k : Int) p (p / 2) 4), .bool true] := by
  obtain ⟨r, b, hV, ⟨-, -, hH⟩ | ⟨hn, -⟩⟩ := h
  · rw [Int.toNat_natCast] at hH
    have e : ((2 : Int) ^ k) = ((2 ^ k : Nat) : Int) := by simp
    obtain ⟨t1, t2⟩ := ht
    rw [e] at hH t2
    generalize 2 ^ k = M at *
    rcases hH with ⟨rfl, i, i1, i2, i3, i4⟩ | ⟨rfl, -, hall⟩
    · have hr : r = (p : Int) := by
        rcases Int.lt_trichotomy r (p : Int) with hlt | heq | hgt
        · have := i4 (M - 1 - p) (by omega)
          rw [show (M : Int) - 1 - ((M - 1 - p : Nat) : Int) = (p : Int) by omega, t1] at this
          cases this
        · exact heq
        · have := t2 r hgt (by omega)
          rw [i3] at this; cases this
      rw [hV, hr]
      rw [if_pos rfl, Int.toNat_natCast, show ((p : Int) / 2).toNat = p / 2 by omega]
    · exfalso
      have := hall (M - 1 - p) (by omega)
      rw [show (M : Int) - 1 - ((M - 1 - p : Nat) : Int) = (p : Int) by omega, t1] at this
      cases this
  · omega
theorem gm_none {k : Int} (hk : ¬ (12 ≤ k ∧ k ≤ 31)) {V : Value} (h : GmR k V) : V = .tuple #[.agg (groupA 0 0 0 0), .bool false] := by
  obtain ⟨r, b, hV, ⟨h1, h2, -⟩ | ⟨-, rfl⟩⟩ := h
  · omega
  · rw [hV, if_neg (by decide)]
theorem tab12 : chkT 12 4079 63 45 = true := by decide +kernel
end Go.Proofs.Ytgccbfkofkohpaa
