/- Equalities of whole numbers, as the walks meet them. -/
import Derived.Test.YteihojjciklfoaaKnown
namespace Go.Proofs.Yteihojjciklfoaa
set_option linter.unusedVariables false
set_option linter.unusedSimpArgs false
open Go.ChangeShapes Go.WideShapes Go.ChangeAt Go.RowKit
/-- Whatever the world: the call comes back with this value, and what was there is as it was. -/
def RunsTo (f : FuncId) (args : Array Value) (v : Value) : Prop := ∀ w : World, Calls Try.prog f args w fun e w' => e = .returned v ∧ Below w.heap.size w w'
theorem eqn_zero (w : World) : (Op.equalIn 10000 26 (.agg (numA 0)) (.agg #[Value.int .u32 0, .int .u32 0, .int .u32 0, .int .u32 0, .int .u32 0, .int .u32 0, .int .u32 0, .int .u32 0])).run Try.prog w = .ok true w := by
  rw [zeroA]; exact eqn_same 0 w
theorem eqn_diff {x y : Nat} (hx : x < 4294967296 ^ 8) (hy : y < 4294967296 ^ 8) (h : ¬ x = y) (w : World) : (Op.equalIn 10000 26 (.agg (numA x)) (.agg (numA y))).run Try.prog w = .ok false w := by
  rw [eq_num_run 9998 x y hx hy, decide_eq_false h]
theorem zeroV8 : (.agg #[Value.int .u32 0, .int .u32 0, .int .u32 0, .int .u32 0, .int .u32 0, .int .u32 0, .int .u32 0, .int .u32 0]) = numV 0 := by rw [zeroA]
theorem eqn_not0 {m : Nat} (hm : m < 4294967296 ^ 8) (h : 0 < m) (w : World) : (Op.equalIn 10000 26 (.agg (numA m)) (.agg #[Value.int .u32 0, .int .u32 0, .int .u32 0, .int .u32 0, .int .u32 0, .int .u32 0, .int .u32 0, .int .u32 0])).run Try.prog w = .ok false w := by
  rw [zeroA]; exact eqn_diff hm (by decide +kernel) (by omega) w
theorem three_ways {x y : Nat} (hx : x < 4294967296 ^ 8) (hy : y < 4294967296 ^ 8) :
    (x < y ∧ lentI x y = 1 ∧ lentI y x = 0 ∧ cmpI x y = -1 ∧ ∀ w, (Op.equalIn 10000 26 (.agg (numA x)) (.agg (numA y))).run Try.prog w = .ok false w) ∨
    (x = y ∧ lentI x x = 0 ∧ cmpI x x = 0 ∧ True) ∨
    (y < x ∧ lentI x y = 0 ∧ lentI y x = 1 ∧ cmpI x y = 1 ∧ ∀ w, (Op.equalIn 10000 26 (.agg (numA x)) (.agg (numA y))).run Try.prog w = .ok false w) := by
  unfold lentI cmpI
  rcases Nat.lt_trichotomy x y with h | h | h
  · exact .inl ⟨h, by rw [if_neg (by omega)], by rw [if_pos (by omega)], by rw [if_pos h], eqn_diff hx hy (by omega)⟩
  · exact .inr (.inl ⟨h, by rw [if_pos (by omega)], by rw [if_neg (by omega), if_neg (by omega)], trivial⟩)
  · exact .inr (.inr ⟨h, by rw [if_pos (by omega)], by rw [if_neg (by omega)], by rw [if_neg (by omega), if_pos h], eqn_diff hx hy (by omega)⟩)
end Go.Proofs.Yteihojjciklfoaa
