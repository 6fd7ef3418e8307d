/- limb.guess and limb.reduce: contracts. -/
import Derived.Test.YteihojjciklfoaaDebt
namespace Go.Proofs.Yteihojjciklfoaa
set_option linter.unusedVariables false
set_option linter.unusedSimpArgs false
open Go.ChangeShapes Go.WideShapes Go.ChangeAt Go.RowKit

/-- How often the divisor goes into the window, by their highest limbs. -/
def guessI (x1 x0 y : Int) : Int := if (x1 * 4294967296 + x0) / y ≤ 4294967295 then (x1 * 4294967296 + x0) / y else 4294967295
theorem guess_eq (x1 x0 y : Int) (bx1 : 0 ≤ x1 ∧ x1 < 4294967296) (bx0 : 0 ≤ x0 ∧ x0 < 4294967296) (hy : 0 < y) : min (IntKind.u64.wrap ((x1 * 4294967296 + x0).tdiv y)) 4294967295 % 4294967296 = guessI x1 x0 y := by
  have hN : 0 ≤ x1 * 4294967296 + x0 := by omega
  have hN2 : x1 * 4294967296 + x0 < 18446744073709551616 := by omega
  rw [Int.tdiv_eq_ediv_of_nonneg hN]
  have h2 : 0 ≤ (x1 * 4294967296 + x0) / y := Int.ediv_nonneg hN (Int.le_of_lt hy)
  have h3 : (x1 * 4294967296 + x0) / y ≤ x1 * 4294967296 + x0 := Int.ediv_le_self _ hN
  unfold guessI
  generalize (x1 * 4294967296 + x0) / y = d at *
  have hw : IntKind.u64.wrap d = d := by
    have : IntKind.u64.wrap d = d % 18446744073709551616 := rfl
    rw [this]; omega
  rw [hw]
  split <;> omega
theorem guess_spec {Xl x0 x1 Dl y1 P q : Int} (hP : 0 < P) (hXl : 0 ≤ Xl ∧ Xl < P) (hDl : 0 ≤ Dl ∧ Dl < P) (hy : 0 < y1) (hx0 : 0 ≤ x0) (hx1 : 0 ≤ x1) (hq : q = guessI x1 x0 y1)
    (hX : Xl + P * (x0 + 4294967296 * x1) < (Dl + P * y1) * 4294967296) :
    -(P * 4294967296) < Xl + P * (x0 + 4294967296 * x1) - q * (Dl + P * y1) ∧ Xl + P * (x0 + 4294967296 * x1) - q * (Dl + P * y1) < Dl + P * y1 := by
  have hT : 0 ≤ x1 * 4294967296 + x0 := by omega
  have h1 := Int.ediv_mul_le (x1 * 4294967296 + x0) (Int.ne_of_gt hy)
  have h2 := Int.lt_ediv_add_one_mul_self (x1 * 4294967296 + x0) hy
  have h3 : 0 ≤ (x1 * 4294967296 + x0) / y1 := Int.ediv_nonneg hT (Int.le_of_lt hy)
  unfold guessI at hq
  generalize (x1 * 4294967296 + x0) / y1 = d at *
  have key : ∀ T, T = x1 * 4294967296 + x0 → Xl + P * (x0 + 4294967296 * x1) - q * (Dl + P * y1) = Xl + P * (T - q * y1) - q * Dl := by
    intro T e; rw [e]; grind
  have hq1 : 0 ≤ q ∧ q ≤ 4294967295 := by split at hq <;> omega
  have hq2 : q * y1 ≤ x1 * 4294967296 + x0 := by
    split at hq
    · rw [hq]; exact h1
    · exact Int.le_trans (Int.mul_le_mul_of_nonneg_right (by omega) (Int.le_of_lt hy)) h1
  have a1 : q * Dl ≤ 4294967295 * Dl := Int.mul_le_mul_of_nonneg_right hq1.2 hDl.1
  have a2 : 0 ≤ P * (x1 * 4294967296 + x0 - q * y1) := Int.mul_nonneg (Int.le_of_lt hP) (by omega)
  refine ⟨?_, ?_⟩
  · rw [key _ rfl]; omega
  · split at hq
    · have a3 : 0 ≤ P * ((q + 1) * y1 - (x1 * 4294967296 + x0) - 1) := Int.mul_nonneg (Int.le_of_lt hP) (by rw [hq]; omega)
      have a4 : 0 ≤ (q + 1) * Dl := Int.mul_nonneg (by omega) hDl.1
      have e : Xl + P * (x0 + 4294967296 * x1) - q * (Dl + P * y1) - (Dl + P * y1) = Xl - P - P * ((q + 1) * y1 - (x1 * 4294967296 + x0) - 1) - (q + 1) * Dl := by grind
      omega
    · rw [hq]; omega
theorem or_high (x y : Int) (hx : 0 ≤ x ∧ x < 4294967296) (hy : 0 ≤ y ∧ y < 4294967296) : bits .or .u64 (x * 4294967296) y = x * 4294967296 + y := by
  obtain ⟨x, rfl⟩ := Int.eq_ofNat_of_zero_le hx.1
  obtain ⟨y, rfl⟩ := Int.eq_ofNat_of_zero_le hy.1
  have e : (x : Int) * 4294967296 = ((x * 4294967296 : Nat) : Int) := by omega
  have h := Nat.two_pow_add_eq_or_of_lt (i := 32) (b := y) (by omega) x
  have e2 : 2 ^ 32 * x = x * 4294967296 := by omega
  rw [e2] at h
  rw [e, u64_or_nat _ _ (by omega) (by omega), ← h]
  omega
set_option maxHeartbeats 400000 in
theorem guess_any (b o n cap b2 o2 cap2 : Nat) (x1 x0 y : Int) (w : World) (hn : 1 ≤ n) (hn' : n ≤ 16)
   (hx1 : w.cell? ⟨b, o + n, none⟩ = some (.int .u32 x1)) (hx0 : w.cell? ⟨b, o + (n - 1), none⟩ = some (.int .u32 x0)) (hy : w.cell? ⟨b2, o2 + (n - 1), none⟩ = some (.int .u32 y))
   (bx1 : 0 ≤ x1 ∧ x1 < 4294967296) (bx0 : 0 ≤ x0 ∧ x0 < 4294967296) (by_ : 0 < y ∧ y < 4294967296) :
    Calls Try.prog 56 #[.slice (some ⟨b, o, none⟩) (n + 1) cap, .slice (some ⟨b2, o2, none⟩) n cap2] w fun e w' => e = .returned (.int .u32 (guessI x1 x0 y)) ∧ Below w.heap.size w w' := by
  obtain ⟨k, rfl⟩ : ∃ k, n = k + 1 := ⟨n - 1, by omega⟩
  rw [Nat.add_sub_cancel] at hx0 hy
  go_enter Try.func56, Try.ntmps56
  go_wp2_with fail
  go_quiet (fail)
  go_wp2
  go_ret
  refine ⟨?_, below_drewN (Below.refl _ _) _⟩
  rw [or_high _ _ bx1 bx0]
  exact congrArg (fun v => Ending.returned (.int .u32 v)) (guess_eq x1 x0 y bx1 bx0 by_.1)
/-- What a cell holds, as a number. -/
def cellI (w : World) (b i : Nat) : Int := match w.cell? ⟨b, i, none⟩ with | some (.int _ v) => v | _ => 0
theorem cellI_of {w : World} {b i : Nat} {k : IntKind} {v : Int} (h : w.cell? ⟨b, i, none⟩ = some (.int k v)) : cellI w b i = v := by unfold cellI; rw [h]
/-- What is left once the guess is taken off. -/
theorem reduce_start {n : Nat} {x y : Nat → Int} (hn : 1 ≤ n) (bx : ∀ k, 0 ≤ x k ∧ x k < 4294967296) (by_ : ∀ k, 0 ≤ y k ∧ y k < 4294967296) (hpos : 0 < y (n - 1))
    (hW : valI x (n + 1) < valI y n * 4294967296) (q : Int) (hq : q = guessI (x n) (x (n - 1)) (y (n - 1))) :
    (x n - cP q y n - bwI x (pP q y) n = 0 ∨ x n - cP q y n - bwI x (pP q y) n = -1) ∧
      valI (zS x (pP q y)) n + (x n - cP q y n - bwI x (pP q y) n) * 4294967296 ^ n = valI x (n + 1) - q * valI y n ∧ valI x (n + 1) - q * valI y n < valI y n ∧ valI y n < 4294967296 ^ n := by
  obtain ⟨k, rfl⟩ : ∃ k, n = k + 1 := ⟨n - 1, by omega⟩
  rw [Nat.add_sub_cancel] at hpos hq
  have e1 : valI x (k + 1 + 1) = valI x k + 4294967296 ^ k * (x k + 4294967296 * x (k + 1)) := by simp only [valI, Int.pow_succ]; grind
  have e2 : valI y (k + 1) = valI y k + 4294967296 ^ k * y k := by simp only [valI]; grind
  have hP : (0 : Int) < 4294967296 ^ k := Int.pow_pos (by decide)
  have b1 := valI_bd (z := x) (m := k) fun j _ => bx j
  have b2 := valI_bd (z := y) (m := k) fun j _ => by_ j
  have b3 := valI_bd (z := zS x (pP q y)) (m := k + 1) fun j _ => zS_bd _ _ j
  have b4 := valI_bd (z := y) (m := k + 1) fun j _ => by_ j
  have h1 := guess_spec (q := q) hP b1 b2 hpos (bx k).1 (bx (k + 1)).1 hq (by rw [← e1, ← e2]; exact hW)
  rw [← e1, ← e2] at h1
  have h2 := valS x (pP q y) (k + 1)
  have h3 := valP q y (k + 1)
  have e3 : valI x (k + 1 + 1) = valI x (k + 1) + x (k + 1) * 4294967296 ^ (k + 1) := by simp only [valI]
  have h4 : valI (zS x (pP q y)) (k + 1) + (x (k + 1) - cP q y (k + 1) - bwI x (pP q y) (k + 1)) * 4294967296 ^ (k + 1) = valI x (k + 1 + 1) - q * valI y (k + 1) := by
    rw [e3]; grind
  refine ⟨?_, h4, h1.2, b4.2⟩
  have e4 : (4294967296 : Int) ^ k * 4294967296 = 4294967296 ^ (k + 1) := by rw [Int.pow_succ]
  rw [e4] at h1
  generalize x (k + 1) - cP q y (k + 1) - bwI x (pP q y) (k + 1) = s at *
  have hPP : (0 : Int) < 4294967296 ^ (k + 1) := Int.pow_pos (by decide)
  generalize (4294967296 : Int) ^ (k + 1) = P at *
  have c1 : -2 < s := by
    refine Int.lt_of_not_ge fun h => ?_
    have := Int.mul_le_mul_of_nonneg_right h (Int.le_of_lt hPP)
    omega
  have c2 : s < 1 := by
    refine Int.lt_of_not_ge fun h => ?_
    have := Int.mul_le_mul_of_nonneg_right h (Int.le_of_lt hPP)
    omega
  omega
end Go.Proofs.Yteihojjciklfoaa
