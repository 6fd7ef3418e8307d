/- Loads out of blocks that are known whole: a cell, a part: the operations of a drawn region. -/
import Derived.Test.YtajombnckgehbaaSMix
import Derived.Test.YtajombnckgehbaaSSub
import Derived.Test.YtajombnckgehbaaGenT
namespace Go.Proofs.Ytajombnckgehbaa
set_option linter.unusedVariables false
set_option linter.unusedSimpArgs false
open Go.ChangeShapes Go.WideShapes Go.ChangeAt Go.RowKit Go.Shelf
section
variable {P : Program} {a : Act} {w : World} {o : Oper}
def TypeDesc.plain : TypeDesc → Bool
  | .struct _ => false
  | .array _ _ => false
  | _ => true
theorem run_ldCell (ty : TypeId) (x : Operand) (ho : o.op = .load ty x) {p : Addr} (hx : a.eval x = .pointer (some p)) {d : TypeDesc} (hu : P.underlying ty = some d) (hd : TypeDesc.plain d = true) {v : Value} (hc : w.cell? p = some v) : (execOp a.eval o).run P w = .ok (.value v) w := by
  have h1 : (isAgg ty).run P w = .ok false w := by
    unfold isAgg
    simp only [Sem.run_bind, run_underlying hu, Result.andThen_ok]
    cases d <;> first | rfl | cases hd
  unfold execOp
  simp only [ho, hx, Instr.loadAt, Instr.sureAddr, loadVar, Sem.run_bind, Sem.run_pure, Result.andThen_ok, h1, Bool.false_eq_true, if_false]
  simp [hc, Result.andThen]
theorem run_ldPart (ty : TypeId) (x : Operand) (ho : o.op = .load ty x) {g k : Nat} (hx : a.eval x = .pointer (some ⟨g, k, none⟩)) {t : TypeId} {c s : Array Value} (hg : Blk w g t c) (hs : ∀ (j : Nat) (v : Value), s[j]? = some v → c[k + j]? = some v) {d : TypeDesc} (hu : P.underlying ty = some d)
    (hd : (match d with | .struct _ | .array _ _ => true | _ => false) = true) (hi : (P.info? ty).map (·.size) = some s.size) : (execOp a.eval o).run P w = .ok (.value (.agg s)) w := by
  unfold execOp
  simp only [ho, hx, Sem.run_bind, run_load_sub w ty g k t c s d hg hs hu hd hi, Result.andThen_ok, Sem.run_pure]
theorem run_lnS (x : Operand) (t : TypeId) (ho : o.op = .call { callee := .builtin .len, args := #[x], argTypes := #[t] }) {s : ByteArray} (hx : a.eval x = .string s) (ht : P.underlying t = some .string) {z : Int} (hz : (s.size : Int) = z) : (execOp a.eval o).run P w = .ok (.value (.int .i64 z)) w := by
  subst hz
  simp only [execOp, ho, resolve, Sem.run_bind, Sem.run_pure, Result.andThen_ok, invoke, List.map_toArray, List.map_cons, List.map_nil, hx]
  simp [builtin, go_sem, Builtin.len_, run_underlying ht, Result.andThen, goInt]
theorem run_cvInt (s d : TypeId) (x : Operand) (ho : o.op = .convert s d x) {k k' : IntKind} {z z' : Int} (hx : a.eval x = .int k z) (hs : P.underlying s = some (.int k)) (hd : P.underlying d = some (.int k')) (hz : k'.wrap z = z') : (execOp a.eval o).run P w = .ok (.value (.int k' z')) w := by
  subst hz
  unfold execOp
  simp only [ho, hx]
  simp [convert, run_underlying hs, run_underlying hd, go_sem]
end
end Go.Proofs.Ytajombnckgehbaa
