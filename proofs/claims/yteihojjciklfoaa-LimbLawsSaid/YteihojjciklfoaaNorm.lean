/- Calls whose answers are said in a normal form. -/
import Derived.Test.YteihojjciklfoaaMul
namespace Go.Proofs.Yteihojjciklfoaa
set_option linter.unusedVariables false
set_option linter.unusedSimpArgs false
set_option linter.unusedSectionVars false
open Go.ChangeShapes Go.WideShapes Go.ChangeAt Go.RowKit

theorem addN_mod {a b : Nat} (ha : a < 4294967296 ^ 8) (hb : b < 4294967296 ^ 8) : addN a b = (a + b) % 4294967296 ^ 8 := by
  unfold addN; split <;> omega
theorem overI_div {a b : Nat} (ha : a < 4294967296 ^ 8) (hb : b < 4294967296 ^ 8) : overI a b = ((a + b) / 4294967296 ^ 8 : Nat) := by
  unfold overI; split <;> omega
theorem high_aux (u v M : Nat) (hM : 0 < M) : ((u / M + v / M) % M + (u % M + v % M) / M) % M = (u + v) / M % M := by
  have h1 : (u + v) / M = u / M + v / M + (u % M + v % M) / M := by
    conv => lhs; rw [← Nat.div_add_mod u M, ← Nat.div_add_mod v M]
    have e : M * (u / M) + u % M + (M * (v / M) + v % M) = M * (u / M + v / M) + (u % M + v % M) := by rw [Nat.mul_add]; omega
    rw [e, Nat.mul_add_div hM]
  rw [h1, Nat.mod_add_mod]
theorem carry_lt (u v : Nat) : (u % 4294967296 ^ 8 + v % 4294967296 ^ 8) / 4294967296 ^ 8 < 4294967296 ^ 8 := by
  have h1 := Nat.mod_lt u (by decide : 0 < 4294967296 ^ 8)
  have h2 := Nat.mod_lt v (by decide : 0 < 4294967296 ^ 8)
  generalize u % 4294967296 ^ 8 = p at *
  generalize v % 4294967296 ^ 8 = q at *
  refine Nat.div_lt_of_lt_mul ?_
  omega
theorem M_pos : 0 < 4294967296 ^ 8 := by decide
section
variable {x y z : Nat} (hx : x < 4294967296 ^ 8) (hy : y < 4294967296 ^ 8) (hz : z < 4294967296 ^ 8) (w : World)
include hx hy
theorem sub_add_num : Calls Try.prog 19 #[numV (addN x y), numV y] w fun e w' => e = .returned (.tuple #[numV x, .int .u32 (overI x y)]) ∧ Below w.heap.size w w' := by
  have h := sub_any (addN x y) y (addN_lt hx hy) hy w
  have e1 : subN (addN x y) y = x := by unfold subN addN; (repeat' split) <;> omega
  have e2 : lentI (addN x y) y = overI x y := by unfold lentI addN overI; (repeat' split) <;> omega
  rw [e1, e2] at h
  exact h
theorem add_swap : Calls Try.prog 17 #[numV y, numV x] w fun e w' => e = .returned (.tuple #[numV (addN x y), .int .u32 (overI x y)]) ∧ Below w.heap.size w w' := by
  have h := add_num y x hy hx w
  have e1 : addN y x = addN x y := by unfold addN; rw [Nat.add_comm]
  have e2 : overI y x = overI x y := by unfold overI; rw [Nat.add_comm]
  rw [e1, e2] at h
  exact h
theorem mul_swap : Calls Try.prog 21 #[numV y, numV x] w fun e w' => e = .returned (.tuple #[numV (x * y % 4294967296 ^ 8), numV (x * y / 4294967296 ^ 8)]) ∧ Below w.heap.size w w' := by
  have h := mul_any y x hy hx w
  rw [Nat.mul_comm y x] at h
  exact h
theorem add_opp : Calls Try.prog 17 #[numV (subN x y), numV (subN y x)] w fun e w' => e = .returned (.tuple #[numV 0, .int .u32 (overI (subN x y) (subN y x))]) ∧ Below w.heap.size w w' := by
  have h := add_num _ _ (subN_lt hx hy) (subN_lt hy hx) w
  have e1 : addN (subN x y) (subN y x) = 0 := by unfold subN addN; (repeat' split) <;> omega
  rw [e1] at h
  exact h
include hz
theorem low_num : addN (x * z % 4294967296 ^ 8) (y * z % 4294967296 ^ 8) = addN x y * z % 4294967296 ^ 8 := by
  rw [addN_mod (Nat.mod_lt _ (by decide)) (Nat.mod_lt _ (by decide)), addN_mod hx hy, ← Nat.add_mod, ← Nat.add_mul, Nat.mod_mul_mod]
theorem add_low : Calls Try.prog 17 #[numV (x * z % 4294967296 ^ 8), numV (y * z % 4294967296 ^ 8)] w fun e w' => e = .returned (.tuple #[numV (addN x y * z % 4294967296 ^ 8), .int .u32 (overI (x * z % 4294967296 ^ 8) (y * z % 4294967296 ^ 8))]) ∧ Below w.heap.size w w' := by
  have h := add_num _ _ (Nat.mod_lt (x * z) (by decide : 0 < 4294967296 ^ 8)) (Nat.mod_lt (y * z) (by decide : 0 < 4294967296 ^ 8)) w
  rw [low_num hx hy hz] at h
  exact h
/-- What the higher halves come to. -/
def highN (x y z : Nat) : Nat := ((x + y) * z / 4294967296 ^ 8) % 4294967296 ^ 8
theorem high_num : addN (addN (x * z / 4294967296 ^ 8) (y * z / 4294967296 ^ 8)) (overI (x * z % 4294967296 ^ 8) (y * z % 4294967296 ^ 8)).toNat = highN x y z := by
  have h1 : x * z / 4294967296 ^ 8 < 4294967296 ^ 8 := Nat.div_lt_of_lt_mul (Nat.mul_lt_mul'' hx hz)
  have h2 : y * z / 4294967296 ^ 8 < 4294967296 ^ 8 := Nat.div_lt_of_lt_mul (Nat.mul_lt_mul'' hy hz)
  have h3 := carry_lt (x * z) (y * z)
  unfold highN
  rw [Nat.add_mul, addN_mod h1 h2, overI_div (Nat.mod_lt _ M_pos) (Nat.mod_lt _ M_pos), Int.toNat_natCast, addN_mod (Nat.mod_lt _ M_pos) h3]
  exact high_aux (x * z) (y * z) (4294967296 ^ 8) (by decide)
theorem high_zero (h : overI x y = 0) : addN x y * z / 4294967296 ^ 8 = highN x y z := by
  have e : addN x y = x + y := by unfold overI at h; unfold addN; split at h <;> simp_all
  have hl : x + y < 4294967296 ^ 8 := by have := addN_lt hx hy; omega
  unfold highN
  rw [e, Nat.mod_eq_of_lt (Nat.div_lt_of_lt_mul (Nat.mul_lt_mul'' hl hz))]
theorem high_one (h : overI x y = 1) : addN (addN x y * z / 4294967296 ^ 8) z = highN x y z := by
  have hl : ¬ x + y < 4294967296 ^ 8 := by intro hh; unfold overI at h; rw [if_pos hh] at h; omega
  have e : addN x y = x + y - 4294967296 ^ 8 := by unfold addN; rw [if_neg hl]
  have h1 : addN x y * z / 4294967296 ^ 8 < 4294967296 ^ 8 := Nat.div_lt_of_lt_mul (Nat.mul_lt_mul'' (addN_lt hx hy) hz)
  rw [addN_mod h1 hz, e]
  unfold highN
  obtain ⟨q, hq⟩ : ∃ q, x + y = q + 4294967296 ^ 8 := ⟨x + y - 4294967296 ^ 8, by omega⟩
  have e2 : (x + y) * z = (x + y - 4294967296 ^ 8) * z + 4294967296 ^ 8 * z := by rw [hq, Nat.add_sub_cancel, Nat.add_mul]
  rw [e2]
  generalize (x + y - 4294967296 ^ 8) * z = u
  omega
end
end Go.Proofs.Yteihojjciklfoaa
