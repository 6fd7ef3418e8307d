/- Equality of moduli made ready. -/
import Derived.Test.YtgccbfkofkohpaaGaBk
import Derived.Test.YtgccbfkofkohpaaGaKn
namespace Go.Proofs.Ytgccbfkofkohpaa
set_option linter.unusedVariables false
set_option maxRecDepth 20000
set_option linter.unusedSimpArgs false
open Go.ChangeShapes Go.WideShapes Go.ChangeAt Go.RowKit
def eqF (d : Nat) (xs ys : Array Value) : List (String × TypeId × Nat) → Sem Bool
  | [] => pure true
  | f :: fs =>
    if f.1 ≠ "_" then do
      let a ← part f.2.1 xs f.2.2
      let b ← part f.2.1 ys f.2.2
      let r ← Op.equalIn d f.2.1 a b
      if (!r) = true then pure false else eqF d xs ys fs
    else eqF d xs ys fs
theorem eqF_of (d : Nat) (xs ys : Array Value) : ∀ fs : List Field, Op.eqFields d xs ys fs = eqF d xs ys (fs.map fun f => (f.name, f.type, f.offset))
  | [] => rfl
  | f :: fs => by simp only [Op.eqFields, eqF, List.map_cons, eqF_of d xs ys fs]
theorem fields_mont : ((Try.prog.fieldsOf 72).toList.map fun f => (f.name, f.type, f.offset)) = [("M", 26, 0), ("R", 26, 8), ("Two", 26, 16), ("Neg", 24, 24)] := by kernel_rfl
section
variable (m r t : Nat) (n : Int) (w : World)
theorem part_m : (part 26 (montA m r t n) 0).run Try.prog w = .ok (.agg (numA m)) w := by kernel_rfl
theorem part_r : (part 26 (montA m r t n) 8).run Try.prog w = .ok (.agg (numA r)) w := by kernel_rfl
theorem part_t : (part 26 (montA m r t n) 16).run Try.prog w = .ok (.agg (numA t)) w := by kernel_rfl
theorem part_n : (part 24 (montA m r t n) 24).run Try.prog w = .ok (.int .u32 n) w := by kernel_rfl
theorem eqd_same (a : Nat) (w : World) : (Op.equalIn 9999 26 (.agg (numA a)) (.agg (numA a))).run Try.prog w = .ok true w := by
  have := eq_num_run 9997 (a % 4294967296 ^ 8) (a % 4294967296 ^ 8) (Nat.mod_lt _ (by decide)) (Nat.mod_lt _ (by decide)) w
  rw [numA_mod] at this
  simpa using this
theorem eq_mont : (Op.equalIn 10000 72 (.agg (montA m r t n)) (.agg (montA m r t n))).run Try.prog w = .ok true w := by
  rw [run_equalIn_struct w 9999 _ _ _ (by kernel_rfl) (by kernel_rfl), eqF_of, fields_mont]
  have hn : (Op.equalIn 9999 24 (.int .u32 n) (.int .u32 n)).run Try.prog w = .ok true w := by
    have := eq_u32 9998 n n w
    simpa using this
  simp [eqF, Sem.run_bind, part_m, part_r, part_t, part_n, eqd_same, hn]
end
end Go.Proofs.Ytgccbfkofkohpaa
