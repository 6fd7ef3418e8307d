/- Texts, tokens, numbers that are compared: operations of a drawn region. -/
import Derived.Test.YtffoekgopooeaaaGdRIssue
import Derived.Test.YtffoekgopooeaaaGdName
namespace Go.Proofs.Ytffoekgopooeaaa
set_option linter.unusedVariables false
set_option linter.unusedSimpArgs false
open Go.ChangeShapes Go.WideShapes Go.ChangeAt Go.RowKit Go.Shelf
theorem ba_ext {s t : ByteArray} (h : s.toList = t.toList) : s = t := by
  have e : ∀ x : ByteArray, x.toList = x.data.toList := fun x => by rw [ByteArray.toList_eq]
  rw [e, e] at h
  cases s; cases t
  simp at h
  rw [h]
def tokEq (s : ByteArray) (a b c d : Int) (s' : ByteArray) (a' b' c' d' : Int) : Bool := decide (s.toList = s'.toList) && (a == a') && (b == b') && (c == c') && (d == d')
theorem eq_int (d : Nat) (x y : Int) (w : World) : (Op.equalIn (d + 1) 3 (.int .i64 x) (.int .i64 y)).run Try.prog w = .ok (x == y) w := run_equalIn_int w d 3 .i64 .i64 x y Try.underlying3
section
variable {a : Act} {w : World} {o : Oper}
theorem run_eqStr (x y : Operand) (ho : o.op = .binOp .eql 9 x y 9) {p q : ByteArray} {b : Bool} (hx : a.eval x = .string p) (hy : a.eval y = .string q) (hb : decide (p.toList = q.toList) = b) : (execOp a.eval o).run Try.prog w = .ok (.value (.bool b)) w := by
  subst hb
  unfold execOp
  simp only [ho, hx, hy]
  simp [go_sem]
  first | done | exact Bool.eq_iff_iff.2 (by simp)
theorem run_neStr (x y : Operand) (ho : o.op = .binOp .neq 9 x y 9) {p q : ByteArray} {b : Bool} (hx : a.eval x = .string p) (hy : a.eval y = .string q) (hb : (!decide (p.toList = q.toList)) = b) : (execOp a.eval o).run Try.prog w = .ok (.value (.bool b)) w := by
  subst hb
  unfold execOp
  simp only [ho, hx, hy]
  simp [go_sem]
  first | done | exact Bool.eq_iff_iff.2 (by simp)
theorem run_eqBool (x y : Operand) (ho : o.op = .binOp .eql 4 x y 4) {p q b : Bool} (hx : a.eval x = .bool p) (hy : a.eval y = .bool q) (hb : (p == q) = b) : (execOp a.eval o).run Try.prog w = .ok (.value (.bool b)) w := by
  subst hb
  unfold execOp
  simp only [ho, hx, hy]
  simp [go_sem]
theorem run_neBool (x y : Operand) (ho : o.op = .binOp .neq 4 x y 4) {p q b : Bool} (hx : a.eval x = .bool p) (hy : a.eval y = .bool q) (hb : (p != q) = b) : (execOp a.eval o).run Try.prog w = .ok (.value (.bool b)) w := by
  subst hb
  unfold execOp
  simp only [ho, hx, hy]
  simp [go_sem]
  cases p <;> cases q <;> rfl
theorem run_leI (x y : Operand) (ho : o.op = .binOp .leq 3 x y 3) {p q : Int} {b : Bool} (hx : a.eval x = .int .i64 p) (hy : a.eval y = .int .i64 q) (hb : decide (p ≤ q) = b) : (execOp a.eval o).run Try.prog w = .ok (.value (.bool b)) w := by
  subst hb
  unfold execOp
  simp only [ho, hx, hy]
  simp [go_sem]
theorem run_geI (x y : Operand) (ho : o.op = .binOp .geq 3 x y 3) {p q : Int} {b : Bool} (hx : a.eval x = .int .i64 p) (hy : a.eval y = .int .i64 q) (hb : decide (q ≤ p) = b) : (execOp a.eval o).run Try.prog w = .ok (.value (.bool b)) w := by
  subst hb
  unfold execOp
  simp only [ho, hx, hy]
  simp [go_sem]
theorem run_ltI (x y : Operand) (ho : o.op = .binOp .lss 3 x y 3) {p q : Int} {b : Bool} (hx : a.eval x = .int .i64 p) (hy : a.eval y = .int .i64 q) (hb : decide (p < q) = b) : (execOp a.eval o).run Try.prog w = .ok (.value (.bool b)) w := by
  subst hb
  unfold execOp
  simp only [ho, hx, hy]
  simp [go_sem]
theorem run_neI (x y : Operand) (ho : o.op = .binOp .neq 3 x y 3) {p q : Int} {b : Bool} (hx : a.eval x = .int .i64 p) (hy : a.eval y = .int .i64 q) (hb : (p != q) = b) : (execOp a.eval o).run Try.prog w = .ok (.value (.bool b)) w := by
  subst hb
  unfold execOp
  simp only [ho, hx, hy]
  simp [go_sem]
theorem run_eqTok (x y : Operand) (ho : o.op = .binOp .eql 41 x y 41) {s s' : ByteArray} {p q r t p' q' r' t' : Int} {b : Bool} (hx : a.eval x = .agg (tokA4 s p q r t)) (hy : a.eval y = .agg (tokA4 s' p' q' r' t')) (hb : tokEq s p q r t s' p' q' r' t' = b) : (execOp a.eval o).run Try.prog w = .ok (.value (.bool b)) w := by
  subst hb
  unfold execOp tokEq
  simp only [ho, hx, hy]
  simp [go_sem]
  by_cases h1 : s.toList = s'.toList
  · by_cases h2 : p = p'
    · by_cases h3 : q = q'
      · by_cases h4 : r = r'
        · by_cases h5 : t = t' <;> simp [h1, h2, h3, h4, h5]
        · simp [h1, h2, h3, h4]
      · simp [h1, h2, h3]
    · simp [h1, h2]
  · simp [h1]
end
end Go.Proofs.Ytffoekgopooeaaa
