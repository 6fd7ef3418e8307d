/- Arithmetic of frames: for walks by program. -/
import Derived.Test.YtgccbfkofkohpaaSym
namespace Go.Proofs.Ytgccbfkofkohpaa
set_option linter.unusedVariables false
set_option maxRecDepth 20000
set_option linter.unusedSimpArgs false
open Go.ChangeShapes Go.WideShapes Go.ChangeAt Go.RowKit Go.Shelf
section
variable {a : Act} {w : World} {o : Oper} {p q z : Int} (ty tz : TypeId) (x y : Operand)
theorem y_quoI (ho : o.op = .binOp .quo ty x y tz) (hx : a.eval x = .int .i64 p) (hy : a.eval y = .int .i64 q) (hp : 0 ≤ p ∧ p < 9223372036854775808) (hq : 0 < q) (hz : p / q = z) : (execOp a.eval o).run Try.prog w = .ok (.value (.int .i64 z)) w := by
  have e1 : p.tdiv q = z := by rw [Int.tdiv_eq_ediv_of_nonneg hp.1]; exact hz
  have h0 : q ≠ 0 := by omega
  have h2 : 0 ≤ z ∧ z ≤ p := by subst hz; exact ⟨Int.ediv_nonneg hp.1 (by omega), Int.ediv_le_self _ hp.1⟩
  unfold execOp; simp only [ho, hx, hy]; simp [go_sem, h0, e1, Go.IntWalk.i64_in z (by omega)]
theorem y_remI (ho : o.op = .binOp .rem ty x y tz) (hx : a.eval x = .int .i64 p) (hy : a.eval y = .int .i64 q) (hp : 0 ≤ p) (hq : 0 < q ∧ q < 9223372036854775808) (hz : p % q = z) : (execOp a.eval o).run Try.prog w = .ok (.value (.int .i64 z)) w := by
  have e1 : p.tmod q = z := by rw [Int.tmod_eq_emod_of_nonneg hp]; exact hz
  have h0 : q ≠ 0 := by omega
  have h2 : 0 ≤ z ∧ z < q := by subst hz; exact ⟨Int.emod_nonneg _ h0, Int.emod_lt_of_pos _ hq.1⟩
  unfold execOp; simp only [ho, hx, hy]; simp [go_sem, h0, e1, Go.IntWalk.i64_in z (by omega)]
theorem y_cvI {k k2 : IntKind} (s d : TypeId) (ho : o.op = .convert s d x) (hx : a.eval x = .int k p) (hs : Try.prog.underlying s = some (.int k)) (hd : Try.prog.underlying d = some (.int k2)) (hz : k2.wrap p = z) : (execOp a.eval o).run Try.prog w = .ok (.value (.int k2 z)) w := by
  subst hz
  refine run_cv' s d x ho hx ?_
  simp [convert, run_underlying hs, run_underlying hd, go_sem]
theorem y_shrI {k kq : IntKind} (ho : o.op = .binOp .shr ty x y tz) (hx : a.eval x = .int k p) (hy : a.eval y = .int kq q) (hq : 0 ≤ q ∧ q ≤ k.bits) (hz : p / 2 ^ q.toNat = z) : (execOp a.eval o).run Try.prog w = .ok (.value (.int k z)) w := by
  subst hz
  unfold execOp; simp only [ho, hx, hy]; simp [go_sem, Go.shift_shr k kq p q hq.1 hq.2]
theorem y_shlI {k kq : IntKind} (ho : o.op = .binOp .shl ty x y tz) (hx : a.eval x = .int k p) (hy : a.eval y = .int kq q) (hq : 0 ≤ q ∧ q < k.bits) (hz : k.wrap (p * 2 ^ q.toNat) = z) : (execOp a.eval o).run Try.prog w = .ok (.value (.int k z)) w := by
  subst hz
  unfold execOp; simp only [ho, hx, hy]; simp [go_sem, Go.shift_shl k kq p q hq.1 (Int.le_of_lt hq.2)]
theorem y_andU {k : IntKind} (ho : o.op = .binOp .and ty x y tz) (hx : a.eval x = .int k p) (hy : a.eval y = .int k q) (hz : bits .and k p q = z) : (execOp a.eval o).run Try.prog w = .ok (.value (.int k z)) w := by
  subst hz
  unfold execOp; simp only [ho, hx, hy]; simp [go_sem]
theorem y_orU {k : IntKind} (ho : o.op = .binOp .or ty x y tz) (hx : a.eval x = .int k p) (hy : a.eval y = .int k q) (hz : bits .or k p q = z) : (execOp a.eval o).run Try.prog w = .ok (.value (.int k z)) w := by
  subst hz
  unfold execOp; simp only [ho, hx, hy]; simp [go_sem]
theorem y_ixA (t : TypeId) {N : Nat} (hN : Try.prog.arrayLen t = N) (he : Try.prog.underlying t = some (.array (Try.prog.arrayLen t) (Try.prog.elem t))) (h1 : (Try.prog.info? (Try.prog.elem t)).map (·.size) = some 1) (ho : o.op = .indexAddr t x y) {b i j c : Nat} (hx : a.eval x = .pointer (some ⟨b, c, none⟩)) (hy : a.eval y = .int .i64 z) (hz : z = (i : Int)) (hi : i < N) (hj : c + i = j) : (execOp a.eval o).run Try.prog w = .ok (.value (.pointer (some ⟨b, j, none⟩))) w := by
  subst hz hN hj
  have hs : (sizeOf (Try.prog.elem t)).run Try.prog w = .ok 1 w := by
    cases hq : Try.prog.info? (Try.prog.elem t) with
    | none => simp [hq] at h1
    | some inf => simp [sizeOf, typeInfo, hq]; simpa [hq] using h1
  have h5 : (i : Int) < (Try.prog.arrayLen t : Int) := by omega
  have hrun : (Instr.indexAt t (.pointer (some ⟨b, c, none⟩)) (.int .i64 (i : Int))).run Try.prog w = .ok (.pointer (some ⟨b, c + i, none⟩)) w := by
    rw [run_indexAt_array (h := he), if_pos ⟨by omega, h5⟩, hs]
    simp only [Result.andThen_ok, Nat.mul_one, Int.toNat_natCast, addr_add]
  unfold execOp
  simp only [ho, hx, hy, Sem.run_bind, hrun, Result.andThen_ok, Sem.run_pure]
end
end Go.Proofs.Ytgccbfkofkohpaa
