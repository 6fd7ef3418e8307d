/- Numbers in frames and blocks. -/
import Derived.Test.YtgccbfkofkohpaaSym
import Derived.Test.YtgccbfkofkohpaaMtEq
namespace Go.Proofs.Ytgccbfkofkohpaa
set_option linter.unusedVariables false
set_option maxRecDepth 20000
set_option linter.unusedSimpArgs false
open Go.ChangeShapes Go.WideShapes Go.ChangeAt Go.RowKit
theorem y_new_num {o : Oper} {a : Act} {w : World} (h : o.op = .alloc 26) : (execOp a.eval o).run Try.prog w = .ok (.value (.pointer (some ⟨w.heap.size, 0, none⟩))) (w.alloc (.cells (numA 0) 26)) := by
  rw [← zeroA]
  unfold execOp
  simp only [h]
  kernel_rfl
theorem y_part8 {c : Array Value} {k n : Nat} (h0 : c[k + 0]? = some (numF n 0)) (h1 : c[k + 1]? = some (numF n 1)) (h2 : c[k + 2]? = some (numF n 2)) (h3 : c[k + 3]? = some (numF n 3)) (h4 : c[k + 4]? = some (numF n 4)) (h5 : c[k + 5]? = some (numF n 5)) (h6 : c[k + 6]? = some (numF n 6)) (h7 : c[k + 7]? = some (numF n 7)) :
    ∀ (j : Nat) (v : Value), (numA n)[j]? = some v → c[k + j]? = some v := fun j v h => by
  have hj := (Array.getElem?_eq_some_iff.1 h).1
  rw [numA_size] at hj
  have : j = 0 ∨ j = 1 ∨ j = 2 ∨ j = 3 ∨ j = 4 ∨ j = 5 ∨ j = 6 ∨ j = 7 := by omega
  rcases this with rfl | rfl | rfl | rfl | rfl | rfl | rfl | rfl <;> (rw [← h]; first | exact h0 | exact h1 | exact h2 | exact h3 | exact h4 | exact h5 | exact h6 | exact h7)
theorem y_zbuild {o : Oper} {a : Act} {w : World} (h : o.op = .build 26 #[]) : (execOp a.eval o).run Try.prog w = .ok (.value (numV 0)) w := by
  have e : (execOp a.eval o).run Try.prog w = .ok (.value (.agg #[Value.int .u32 0, .int .u32 0, .int .u32 0, .int .u32 0, .int .u32 0, .int .u32 0, .int .u32 0, .int .u32 0])) w := by
    unfold execOp
    simp only [h, List.map_toArray, List.map_nil]
    kernel_rfl
  rw [e, zeroA]
end Go.Proofs.Ytgccbfkofkohpaa
