/- Slices of ints: literals, places; for walks by program. -/
import Derived.Test.YtgccbfkofkohpaaSym
import Derived.Great.BuildSlice
namespace Go.Proofs.Ytgccbfkofkohpaa
set_option linter.unusedVariables false
set_option maxRecDepth 20000
set_option linter.unusedSimpArgs false
open Go.ChangeShapes Go.WideShapes Go.ChangeAt Go.RowKit Go.Shelf
section
variable {a : Act} {w : World} {o : Oper}
theorem y_ixI (x k : Operand) (ho : o.op = .indexAddr 35 x k) {b q n c i : Nat} {z : Int} (hx : a.eval x = .slice (some ⟨b, q, none⟩) n c) (hk : a.eval k = .int .i64 z) (hz : z = (i : Int)) (hi : i < n) {j : Nat} (hj : q + i = j) : (execOp a.eval o).run Try.prog w = .ok (.value (.pointer (some ⟨b, j, none⟩))) w := by
  subst hz hj
  unfold execOp
  simp only [ho, hx, hk]
  have h0 : ¬ ((i : Int) < 0) := by omega
  have h1 : (i : Int) < (n : Int) := by omega
  simp [go_sem, h0, h1, hi]
end
theorem infoInt : ∃ i, Try.prog.info? 3 = some i ∧ i.zero = some (.int .i64 0) ∧ i.size = 1 := by
  have h0 : (Try.prog.info? 3).isSome = true := by kernel_rfl
  have h1 : (Try.prog.info? 3).map (·.size) = some 1 := by kernel_rfl
  have h2 : (Try.prog.info? 3).bind (·.zero) = some (.int .i64 0) := by kernel_rfl
  cases h : Try.prog.info? 3 with
  | none => rw [h] at h0; cases h0
  | some i =>
    rw [h] at h1 h2
    exact ⟨i, rfl, h2, Option.some.inj h1⟩
theorem y_litI {a : Act} {w : World} {o : Oper} {n : Nat} {ps : Array (Nat × Operand)} (ho : o.op = .buildSlice 35 n ps) (vs : Array Value) (hn : vs.size = n) (h0 : 0 < n) (hm : n ≤ 1000)
    (hf : Instr.fill (fun i => some (i * 1, 1)) ((Array.range (n * 1)).map ((Value.int .i64 0).cells[· % (Value.int .i64 0).cells.size]!)) (ps.map fun (i, x) => (i, a.eval x)).toList = some vs) :
    (execOp a.eval o).run Try.prog w = .ok (.value (.slice (some ⟨w.heap.size, 0, none⟩) n n)) (w.alloc (.cells vs 3)) := by
  obtain ⟨i, i1, i2, i3⟩ := infoInt
  unfold execOp
  simp only [ho, Sem.run_bind, run_buildSlice w 35 3 n _ vs i (.int .i64 0) Try.underlying35 i1 i2 (by rw [i3]; omega) (by rw [i3]; omega) (by rw [i3]; exact hf), Result.andThen_ok, Sem.run_pure]
section
variable {P : Program} {ops : Array Oper} {Q : Exit → Act → World → Prop} {a : Act} {w w0 : World} {rest : List Oper} {o : Oper} {n B : Nat} {V : List (Nat × Value)} {R : List (Nat × Res)}
theorem wl_allocS (hw : Region.wanted o (yielded ops a.tmps) = true) {d : Nat} (hd : o.dst = some d) (F : Fx n a V) (hn : Nat.blt d n = true) (M : Mx B w0 w R) (i : Nat) {t : TypeId} {c : Array Value} {k m : Nat} (ht : t ≠ 5) (hr : (execOp a.eval o).run P w = .ok (.value (.slice (some ⟨w.heap.size, 0, none⟩) k m)) (w.alloc (.cells c t)))
    (h : ∀ g a' w', Fx n a' ((d, .slice (some ⟨g, 0, none⟩) k m) :: V) → Mx B w0 w' ((i, blkR g t c) :: R) → wpList P ops Q rest a' w') : wpList P ops Q (o :: rest) a w :=
  wl_run hw hd F hn _ hr fun a' F' => h _ a' _ F' (M.alloc i t c ht)
end
end Go.Proofs.Ytgccbfkofkohpaa
