/- The reference's Make. -/
import Derived.Test.YtgccbfkofkohpaaMtMake
import Derived.Test.YtgccbfkofkohpaaGaNum
namespace Go.Proofs.Ytgccbfkofkohpaa
set_option linter.unusedVariables false
set_option maxRecDepth 20000
set_option linter.unusedSimpArgs false
open Go.ChangeShapes Go.WideShapes Go.ChangeAt Go.RowKit
theorem rfrom_one (w : World) : Calls Try.prog 22 #[.int .i64 1] w fun e w' => e = .returned (numV 1) ∧ Below w.heap.size w w' := from_ref 1 (by omega) (by omega) w
theorem numA_cells (n : Nat) : (numA n).all (·.oneCell') = true := by simp [numA, numF, Value.oneCell']
theorem montA_m0 (m : Nat) : montA m 0 0 0 = #[numF m 0, numF m 1, numF m 2, numF m 3, numF m 4, numF m 5, numF m 6, numF m 7, .int .u32 0, .int .u32 0, .int .u32 0, .int .u32 0, .int .u32 0, .int .u32 0, .int .u32 0, .int .u32 0, .int .u32 0, .int .u32 0, .int .u32 0, .int .u32 0, .int .u32 0, .int .u32 0, .int .u32 0, .int .u32 0, .int .u32 0] := by unfold montA; simp only [numF_none]
theorem run_buildM1 {a : Act} {w : World} {o : Oper} (x0 : Operand) (ho : o.op = .build 72 #[(0, x0)]) {m : Nat} (h0 : a.eval x0 = numV m) : (execOp a.eval o).run Try.prog w = .ok (.value (.agg (montA m 0 0 0))) w := by
  rw [montA_m0]
  unfold execOp
  simp only [ho, List.map_toArray, List.map_cons, List.map_nil, h0]
  kernel_rfl
theorem wpList_store_part {P : Program} {ops : Array Oper} {rest : List Oper} {o : Oper} {a : Act} {w : World} {Q : Exit → Act → World → Prop} (hgd : o.guard = none) (ty : TypeId) (x y : Operand) (ho : o.op = .store ty x y)
    (g k : Nat) (hx : a.eval x = .pointer (some ⟨g, k, none⟩)) (s : Array Value) (hy : a.eval y = .agg s) (h1 : s.all (·.oneCell') = true) (t : TypeId) (c c' : Array Value) (hg : Blk w g t c) (hos : k + s.size ≤ c.size) (hc' : (c.toList.take k ++ s.toList ++ c.toList.drop (k + s.size)).toArray = c')
    (hi : (P.info? ty).map (·.size) = some s.size)
    (h : ∀ w', w.grownBy w' (some g) → Blk w' g t c' → wpList P ops Q rest (a.put o.dst undef) w') : wpList P ops Q (o :: rest) a w :=
  wpList_plain hgd fun K hK => by
    unfold Oper.wp execOp
    simp only [ho, hx, hy, Sem.run_bind, run_store_sub w ty g k t c s c' hg hos h1 hc' hi, Result.andThen_ok, Sem.run_pure]
    exact hK _ _ (h _ (grown_setRow _ _ _) (setRow_heap w g c c' t (0, 0) hg))
end Go.Proofs.Ytgccbfkofkohpaa
