/- Whole loads, integers, tuples: operations of a drawn region; guard's contracts at named values. -/
import Derived.Test.YtffoekgopooeaaaGdLive
namespace Go.Proofs.Ytffoekgopooeaaa
set_option linter.unusedVariables false
set_option linter.unusedSimpArgs false
open Go.ChangeShapes Go.WideShapes Go.ChangeAt Go.RowKit Go.Shelf
section
variable {P : Program} {a : Act} {w : World} {o : Oper}
theorem run_ldAll (ty : TypeId) (x : Operand) (ho : o.op = .load ty x) {g : Nat} (hx : a.eval x = .pointer (some ⟨g, 0, none⟩)) {t : TypeId} {c : Array Value} (hg : Blk w g t c) {d : TypeDesc} (hu : P.underlying ty = some d)
    (hd : (match d with | .struct _ | .array _ _ => true | _ => false) = true) (hi : (P.info? ty).map (·.size) = some c.size) : (execOp a.eval o).run P w = .ok (.value (.agg c)) w := by
  unfold execOp
  simp only [ho, hx, Sem.run_bind, run_load_blk w ty g t c d hg hu hd hi, Result.andThen_ok, Sem.run_pure]
theorem run_minI (x y : Operand) (ts : Array TypeId) (ho : o.op = .call { callee := .builtin .min, args := #[x, y], argTypes := ts }) {k : IntKind} {p q z : Int} (hx : a.eval x = .int k p) (hy : a.eval y = .int k q) (hz : (if q < p then q else p) = z) : (execOp a.eval o).run P w = .ok (.value (.int k z)) w := by
  subst hz
  simp only [execOp, ho, resolve, Sem.run_bind, Sem.run_pure, Result.andThen_ok, invoke, List.map_toArray, List.map_cons, List.map_nil, hx, hy]
  simp [builtin, go_sem]
theorem run_maxI (x y : Operand) (ts : Array TypeId) (ho : o.op = .call { callee := .builtin .max, args := #[x, y], argTypes := ts }) {k : IntKind} {p q z : Int} (hx : a.eval x = .int k p) (hy : a.eval y = .int k q) (hz : (if p < q then q else p) = z) : (execOp a.eval o).run P w = .ok (.value (.int k z)) w := by
  subst hz
  simp only [execOp, ho, resolve, Sem.run_bind, Sem.run_pure, Result.andThen_ok, invoke, List.map_toArray, List.map_cons, List.map_nil, hx, hy]
  simp [builtin, go_sem]
theorem run_ext (x : Operand) (i : Nat) (ho : o.op = .extract x i) {vs : Array Value} (hx : a.eval x = .tuple vs) {v : Value} (hv : vs[i]? = some v) : (execOp a.eval o).run P w = .ok (.value v) w := by
  unfold execOp
  simp only [ho, hx, Instr.extract, hv]
  rfl
end
section
variable {a : Act} {w : World} {o : Oper}
theorem run_addI (x y : Operand) (ho : o.op = .binOp .add 3 x y 3) {p q z : Int} (hx : a.eval x = .int .i64 p) (hy : a.eval y = .int .i64 q) (hz : p + q = z) (h0 : -9223372036854775808 ≤ z) (h1 : z < 9223372036854775808) : (execOp a.eval o).run Try.prog w = .ok (.value (.int .i64 z)) w := by
  subst hz
  unfold execOp
  simp only [ho, hx, hy]
  simp [go_sem, Go.IntWalk.i64_in (p + q) (by omega)]
theorem run_subI (x y : Operand) (ho : o.op = .binOp .sub 3 x y 3) {p q z : Int} (hx : a.eval x = .int .i64 p) (hy : a.eval y = .int .i64 q) (hz : p - q = z) (h0 : -9223372036854775808 ≤ z) (h1 : z < 9223372036854775808) : (execOp a.eval o).run Try.prog w = .ok (.value (.int .i64 z)) w := by
  subst hz
  unfold execOp
  simp only [ho, hx, hy]
  simp [go_sem, Go.IntWalk.i64_in (p - q) (by omega)]
theorem run_quo10 (x y : Operand) (ho : o.op = .binOp .quo 3 x y 3) {p z : Int} (hx : a.eval x = .int .i64 p) (hy : a.eval y = .int .i64 10) (hz : p / 10 = z) (h0 : 0 ≤ p) (h1 : p < 9223372036854775808) : (execOp a.eval o).run Try.prog w = .ok (.value (.int .i64 z)) w := by
  subst hz
  have hq : p.tdiv 10 = p / 10 := Int.tdiv_eq_ediv_of_nonneg h0
  unfold execOp
  simp only [ho, hx, hy]
  simp [go_sem, hq, Go.IntWalk.i64_in (p / 10) (by omega)]
theorem run_eqI (x y : Operand) (ho : o.op = .binOp .eql 3 x y 3) {p q : Int} {b : Bool} (hx : a.eval x = .int .i64 p) (hy : a.eval y = .int .i64 q) (hb : (p == q) = b) : (execOp a.eval o).run Try.prog w = .ok (.value (.bool b)) w := by
  subst hb
  unfold execOp
  simp only [ho, hx, hy]
  simp [go_sem]
end
/-- within, as a call that names its answer. -/
theorem within_eq {a n z : Int} (hz : a % n = z) (hn : 0 < n) (hn' : n < 9223372036854775808) (ha : -9223372036854775808 ≤ a) (ha' : a < 9223372036854775808) (w : World) :
    Calls Try.prog 18 #[.int .i64 a, .int .i64 n] w fun e w' => e = .returned (.int .i64 z) ∧ Below w.heap.size w w' :=
  (within9 a n hn hn' ha ha' w).mono fun e w' h => ⟨by rw [h.1, hz], by rw [← h.2]; exact Below.refl _ _⟩
theorem tokens_eq {p : Int} {s : ByteArray} {n a r now x y : Int} (hx : tokN n a now = x) (hy : tokA n a now = y) (hn0 : 0 ≤ n) (hn5 : n ≤ 5) (ha : 0 ≤ a) (ha1 : a < 9223372036854775808) (h0 : 0 ≤ now) (h1 : now < 9223372036854775808) (w : World) :
    Calls Try.prog 19 #[.agg (recA p s n a r), .int .i64 now] w fun e w' => e = .returned (.tuple #[.int .i64 x, .int .i64 y]) ∧ Below w.heap.size w w' := by
  subst hx hy
  exact tokens_any p s n a r now hn0 hn5 ha ha1 h0 h1 w
end Go.Proofs.Ytffoekgopooeaaa
