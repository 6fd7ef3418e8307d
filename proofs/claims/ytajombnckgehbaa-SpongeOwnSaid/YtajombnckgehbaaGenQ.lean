/- Operations on ints, bools, texts: one at a time. -/
import Derived.Test.YtajombnckgehbaaSReg
import Derived.Test.YtajombnckgehbaaSMem
namespace Go.Proofs.Ytajombnckgehbaa
set_option linter.unusedVariables false
set_option linter.unusedSimpArgs false
open Go.ChangeShapes Go.WideShapes Go.ChangeAt Go.RowKit Go.Shelf
section
variable {P : Program} {a : Act} {w : World} {o : Oper}
theorem run_ldAll (ty : TypeId) (x : Operand) (ho : o.op = .load ty x) {g : Nat} (hx : a.eval x = .pointer (some ⟨g, 0, none⟩)) {t : TypeId} {c : Array Value} (hg : Blk w g t c) {d : TypeDesc} (hu : P.underlying ty = some d)
    (hd : (match d with | .struct _ | .array _ _ => true | _ => false) = true) (hi : (P.info? ty).map (·.size) = some c.size) : (execOp a.eval o).run P w = .ok (.value (.agg c)) w := by
  unfold execOp
  simp only [ho, hx, Sem.run_bind, run_load_blk w ty g t c d hg hu hd hi, Result.andThen_ok, Sem.run_pure]
theorem run_minI (x y : Operand) (ts : Array TypeId) (ho : o.op = .call { callee := .builtin .min, args := #[x, y], argTypes := ts }) {k : IntKind} {p q z : Int} (hx : a.eval x = .int k p) (hy : a.eval y = .int k q) (hz : (if q < p then q else p) = z) : (execOp a.eval o).run P w = .ok (.value (.int k z)) w := by
  subst hz
  simp only [execOp, ho, resolve, Sem.run_bind, Sem.run_pure, Result.andThen_ok, invoke, List.map_toArray, List.map_cons, List.map_nil, hx, hy]
  simp [builtin, go_sem]
theorem run_maxI (x y : Operand) (ts : Array TypeId) (ho : o.op = .call { callee := .builtin .max, args := #[x, y], argTypes := ts }) {k : IntKind} {p q z : Int} (hx : a.eval x = .int k p) (hy : a.eval y = .int k q) (hz : (if p < q then q else p) = z) : (execOp a.eval o).run P w = .ok (.value (.int k z)) w := by
  subst hz
  simp only [execOp, ho, resolve, Sem.run_bind, Sem.run_pure, Result.andThen_ok, invoke, List.map_toArray, List.map_cons, List.map_nil, hx, hy]
  simp [builtin, go_sem]
theorem run_ext (x : Operand) (i : Nat) (ho : o.op = .extract x i) {vs : Array Value} (hx : a.eval x = .tuple vs) {v : Value} (hv : vs[i]? = some v) : (execOp a.eval o).run P w = .ok (.value v) w := by
  unfold execOp
  simp only [ho, hx, Instr.extract, hv]
  rfl
end
section
variable {a : Act} {w : World} {o : Oper}
theorem run_addI (x y : Operand) (ho : o.op = .binOp .add 3 x y 3) {p q z : Int} (hx : a.eval x = .int .i64 p) (hy : a.eval y = .int .i64 q) (hz : p + q = z) (h0 : -9223372036854775808 ≤ z) (h1 : z < 9223372036854775808) : (execOp a.eval o).run Try.prog w = .ok (.value (.int .i64 z)) w := by
  subst hz
  unfold execOp
  simp only [ho, hx, hy]
  simp [go_sem, Go.IntWalk.i64_in (p + q) (by omega)]
theorem run_subI (x y : Operand) (ho : o.op = .binOp .sub 3 x y 3) {p q z : Int} (hx : a.eval x = .int .i64 p) (hy : a.eval y = .int .i64 q) (hz : p - q = z) (h0 : -9223372036854775808 ≤ z) (h1 : z < 9223372036854775808) : (execOp a.eval o).run Try.prog w = .ok (.value (.int .i64 z)) w := by
  subst hz
  unfold execOp
  simp only [ho, hx, hy]
  simp [go_sem, Go.IntWalk.i64_in (p - q) (by omega)]
theorem run_eqI (x y : Operand) (ho : o.op = .binOp .eql 3 x y 3) {p q : Int} {b : Bool} (hx : a.eval x = .int .i64 p) (hy : a.eval y = .int .i64 q) (hb : (p == q) = b) : (execOp a.eval o).run Try.prog w = .ok (.value (.bool b)) w := by
  subst hb
  unfold execOp
  simp only [ho, hx, hy]
  simp [go_sem]
theorem run_eqStr (x y : Operand) (ho : o.op = .binOp .eql 9 x y 9) {p q : ByteArray} {b : Bool} (hx : a.eval x = .string p) (hy : a.eval y = .string q) (hb : decide (p.toList = q.toList) = b) : (execOp a.eval o).run Try.prog w = .ok (.value (.bool b)) w := by
  subst hb
  unfold execOp
  simp only [ho, hx, hy]
  simp [go_sem]
  first | done | exact Bool.eq_iff_iff.2 (by simp)
theorem run_neStr (x y : Operand) (ho : o.op = .binOp .neq 9 x y 9) {p q : ByteArray} {b : Bool} (hx : a.eval x = .string p) (hy : a.eval y = .string q) (hb : (!decide (p.toList = q.toList)) = b) : (execOp a.eval o).run Try.prog w = .ok (.value (.bool b)) w := by
  subst hb
  unfold execOp
  simp only [ho, hx, hy]
  simp [go_sem]
  first | done | exact Bool.eq_iff_iff.2 (by simp)
theorem run_eqBool (x y : Operand) (ho : o.op = .binOp .eql 4 x y 4) {p q b : Bool} (hx : a.eval x = .bool p) (hy : a.eval y = .bool q) (hb : (p == q) = b) : (execOp a.eval o).run Try.prog w = .ok (.value (.bool b)) w := by
  subst hb
  unfold execOp
  simp only [ho, hx, hy]
  simp [go_sem]
theorem run_neBool (x y : Operand) (ho : o.op = .binOp .neq 4 x y 4) {p q b : Bool} (hx : a.eval x = .bool p) (hy : a.eval y = .bool q) (hb : (p != q) = b) : (execOp a.eval o).run Try.prog w = .ok (.value (.bool b)) w := by
  subst hb
  unfold execOp
  simp only [ho, hx, hy]
  simp [go_sem]
  cases p <;> cases q <;> rfl
theorem run_leI (x y : Operand) (ho : o.op = .binOp .leq 3 x y 3) {p q : Int} {b : Bool} (hx : a.eval x = .int .i64 p) (hy : a.eval y = .int .i64 q) (hb : decide (p ≤ q) = b) : (execOp a.eval o).run Try.prog w = .ok (.value (.bool b)) w := by
  subst hb
  unfold execOp
  simp only [ho, hx, hy]
  simp [go_sem]
theorem run_geI (x y : Operand) (ho : o.op = .binOp .geq 3 x y 3) {p q : Int} {b : Bool} (hx : a.eval x = .int .i64 p) (hy : a.eval y = .int .i64 q) (hb : decide (q ≤ p) = b) : (execOp a.eval o).run Try.prog w = .ok (.value (.bool b)) w := by
  subst hb
  unfold execOp
  simp only [ho, hx, hy]
  simp [go_sem]
theorem run_ltI (x y : Operand) (ho : o.op = .binOp .lss 3 x y 3) {p q : Int} {b : Bool} (hx : a.eval x = .int .i64 p) (hy : a.eval y = .int .i64 q) (hb : decide (p < q) = b) : (execOp a.eval o).run Try.prog w = .ok (.value (.bool b)) w := by
  subst hb
  unfold execOp
  simp only [ho, hx, hy]
  simp [go_sem]
theorem run_neI (x y : Operand) (ho : o.op = .binOp .neq 3 x y 3) {p q : Int} {b : Bool} (hx : a.eval x = .int .i64 p) (hy : a.eval y = .int .i64 q) (hb : (p != q) = b) : (execOp a.eval o).run Try.prog w = .ok (.value (.bool b)) w := by
  subst hb
  unfold execOp
  simp only [ho, hx, hy]
  simp [go_sem]
theorem run_gtI (x y : Operand) (ho : o.op = .binOp .gtr 3 x y 3) {p q : Int} {b : Bool} (hx : a.eval x = .int .i64 p) (hy : a.eval y = .int .i64 q) (hb : decide (q < p) = b) : (execOp a.eval o).run Try.prog w = .ok (.value (.bool b)) w := by
  subst hb
  unfold execOp
  simp only [ho, hx, hy]
  simp [go_sem]
end
theorem ba_ext {s t : ByteArray} (h : s.toList = t.toList) : s = t := by
  have e : ∀ x : ByteArray, x.toList = x.data.toList := fun x => by rw [ByteArray.toList_eq]
  rw [e, e] at h
  cases s; cases t
  simp at h
  rw [h]
def tokEq (s : ByteArray) (a b c d : Int) (s' : ByteArray) (a' b' c' d' : Int) : Bool := decide (s.toList = s'.toList) && (a == a') && (b == b') && (c == c') && (d == d')
end Go.Proofs.Ytajombnckgehbaa
