/- Laws for whole numbers in memory: load, store, result, equality. -/
import Derived.Test.YteihojjciklfoaaRows
import Derived.Test.YteihojjciklfoaaNum
import Derived.WalkKit
import Derived.ProofKit
import Derived.WalkLawsBesides
import Derived.WalkSpells
import Derived.Outline
import Derived.Deep.QuietTactic
import Derived.BigQuiet
import Derived.RegionTactic
import Derived.StillTailTactics
import Derived.Deep.RegionWith
import Derived.Deep.OwnRows
import Derived.Laws.Rows
import Derived.Laws.Tables
import Derived.Deep.WholeRow
namespace Go.Proofs.Yteihojjciklfoaa
set_option linter.unusedVariables false
set_option linter.unusedSimpArgs false
open Go.ChangeShapes Go.WideShapes Go.ChangeAt Go.RowKit

theorem grown_set {a w : World} {g : Nat} (h : a.grownBy w (some g)) {p : Addr} (hp : p.block = g) (u : Value) : a.grownBy (w.setCell p u) (some g) :=
  ⟨h.os, h.tape, h.output, by simpa [World.setCell] using h.size, fun i hi hne => (Below.heap_setCell w p u i (by
    rintro rfl
    exact hne (by rw [hp]))).trans (h.block i hi hne)⟩
theorem grown_setRow (w : World) (g : Nat) (cs : Array Value) : w.grownBy (w.setRow g cs) (some g) :=
  ⟨rfl, rfl, rfl, by simp, fun k _ hne => setRow_other w g k cs (fun e => hne (by rw [e]))⟩
/-- What was written from block B on leaves what lies below it. -/
theorem below_of_grown {a w w' : World} {B g : Nat} (h : Below B a w) (hg : w.grownBy w' (some g)) (hB : B ≤ w.heap.size) (hl : B ≤ g) : Below B a w' :=
  h.grown hg hB (fun k e => by injection e with e; omega)
theorem below_drewN {B : Nat} {a w : World} (h : Below B a w) (n : Nat) : Below B a (w.drewN n) := ⟨h.os, h.tape, h.output, h.size, h.block⟩
theorem below_trans {a b c : World} {B B' : Nat} (h : Below B a b) (k : Below B' b c) (hB : B ≤ B') : Below B a c := h.trans (k.mono hB)

section
variable {P : Program}
theorem run_load_num (w : World) (ty : TypeId) (g : Nat) (t : TypeId) (n : Nat) (d : TypeDesc) (hg : Num w g t n) (hu : P.underlying ty = some d)
    (hd : (match d with | .struct _ | .array _ _ => true | _ => false) = true) (hi : (P.info? ty).map (·.size) = some 8) :
    (Instr.loadAt ty (.pointer (some ⟨g, 0, none⟩))).run P w = .ok (.agg (numA n)) w := by
  simp only [Instr.loadAt, Instr.sureAddr, Sem.run_bind, Sem.run_pure, Result.andThen_ok]
  exact run_loadVar_row w g t ty (numA n) (0, 0) d hg hu hd hi
theorem run_store_num (w : World) (ty : TypeId) (g : Nat) (n : Nat) (cs : Array Value) (hcs : cs.size = 8) (hg : w.heap[g]? = some (.cells cs ty (0, 0)))
    (hi : (P.info? ty).map (·.size) = some 8) : (Instr.storeAt ty (.pointer (some ⟨g, 0, none⟩)) (.agg (numA n))).run P w = .ok () (w.setRow g (numA n)) := by
  simp only [Instr.storeAt, Instr.sureAddr, Sem.run_bind, Sem.run_pure, Result.andThen_ok]
  exact run_storeVar_row w g ty ty cs (numA n) hg hi (by rw [hcs]; rfl) (numA_one n)
theorem num_setRow {w : World} {g : Nat} {ty : TypeId} {cs : Array Value} (n : Nat) (hg : w.heap[g]? = some (.cells cs ty (0, 0))) : Num (w.setRow g (numA n)) g ty n := setRow_heap w g cs (numA n) ty (0, 0) hg

/-- A whole number into a block that is known. -/
theorem wpList_store_num {ops : Array Oper} {rest : List Oper} {o : Oper} {a : Act} {w : World} {Q : Exit → Act → World → Prop} (hgd : o.guard = none) (ty : TypeId) (x y : Operand) (ho : o.op = .store ty x y)
    (g : Nat) (hx : a.eval x = .pointer (some ⟨g, 0, none⟩)) (n : Nat) (hy : a.eval y = .agg (numA n)) (cs : Array Value) (hcs : cs.size = 8) (hg : w.heap[g]? = some (.cells cs ty (0, 0)))
    (hi : (P.info? ty).map (·.size) = some 8)
    (h : ∀ w', w.grownBy w' (some g) → Num w' g ty n → wpList P ops Q rest (a.put o.dst undef) w') : wpList P ops Q (o :: rest) a w :=
  wpList_plain hgd fun K hK => by
    unfold Oper.wp execOp
    simp only [ho, hx, hy, Sem.run_bind, run_store_num w ty g n cs hcs hg hi, Result.andThen_ok, Sem.run_pure]
    exact hK _ _ (h _ (grown_setRow _ _ _) (num_setRow n hg))
theorem wpList_want {ops : Array Oper} {rest : List Oper} {o : Oper} {a : Act} {w : World} {Q : Exit → Act → World → Prop} (hw : Region.wanted o (yielded ops a.tmps) = true)
    (h : ∀ K : Act → World → Prop, (∀ a w, wpList P ops Q rest a w → K a w) → o.wp P a w K Q) : wpList P ops Q (o :: rest) a w :=
  wpList_step fun K hK => by rw [if_pos hw]; exact h K hK
/-- A whole number out of a block that is known. -/
theorem wpList_load_num {ops : Array Oper} {rest : List Oper} {o : Oper} {a : Act} {w : World} {Q : Exit → Act → World → Prop} (hw : Region.wanted o (yielded ops a.tmps) = true) (ty : TypeId) (x : Operand) (ho : o.op = .load ty x)
    (g : Nat) (hx : a.eval x = .pointer (some ⟨g, 0, none⟩)) (t : TypeId) (n : Nat) (d : TypeDesc) (hg : Num w g t n) (hu : P.underlying ty = some d)
    (hd : (match d with | .struct _ | .array _ _ => true | _ => false) = true) (hi : (P.info? ty).map (·.size) = some 8)
    (h : wpList P ops Q rest (a.put o.dst (.agg (numA n))) w) : wpList P ops Q (o :: rest) a w :=
  wpList_want hw fun K hK => wp_load_row ty x ho g hx t (numA n) (0, 0) d hg hu hd hi (hK _ _ h)
/-- The results: one number; a number and a slot; two numbers. -/
theorem results_num {fn : Func} {p : Tmp} {ty : TypeId} (h : fn.results = #[.cell p ty]) {tmps : Array Value} {w : World} {g : Nat} {t : TypeId} {n : Nat} {d : TypeDesc}
    (hp : tmps.getD p undef = .pointer (some ⟨g, 0, none⟩)) (hg : Num w g t n)
    (hu : P.underlying ty = some d) (hd : (match d with | .struct _ | .array _ _ => true | _ => false) = true) (hi : (P.info? ty).map (·.size) = some 8) :
    (results fn tmps).run P w = .ok (numV n) w :=
  results_cell_row h tmps w g t (numA n) (0, 0) d hp hg hu hd hi
theorem results_num_tmp {fn : Func} {p q : Tmp} {ty : TypeId} (h : fn.results = #[.cell p ty, .tmp q]) {tmps : Array Value} {w : World} {g : Nat} {t : TypeId} {n : Nat} {d : TypeDesc}
    (hp : tmps.getD p undef = .pointer (some ⟨g, 0, none⟩)) (hg : Num w g t n)
    (hu : P.underlying ty = some d) (hd : (match d with | .struct _ | .array _ _ => true | _ => false) = true) (hi : (P.info? ty).map (·.size) = some 8) :
    (results fn tmps).run P w = .ok (.tuple #[numV n, tmps.getD q undef]) w := by
  have hp' : tmps[p]?.getD undef = .pointer (some ⟨g, 0, none⟩) := by simpa using hp
  simp [results, h, hp', asAddr, run_loadVar_row w g t ty (numA n) (0, 0) d hg hu hd hi]
theorem results_num2 {fn : Func} {p q : Tmp} {ty : TypeId} (h : fn.results = #[.cell p ty, .cell q ty]) {tmps : Array Value} {w : World} {g g' : Nat} {t t' : TypeId} {n n' : Nat} {d : TypeDesc}
    (hp : tmps.getD p undef = .pointer (some ⟨g, 0, none⟩)) (hg : Num w g t n) (hp2 : tmps.getD q undef = .pointer (some ⟨g', 0, none⟩)) (hg' : Num w g' t' n')
    (hu : P.underlying ty = some d) (hd : (match d with | .struct _ | .array _ _ => true | _ => false) = true) (hi : (P.info? ty).map (·.size) = some 8) :
    (results fn tmps).run P w = .ok (.tuple #[numV n, numV n']) w := by
  have hp' : tmps[p]?.getD undef = .pointer (some ⟨g, 0, none⟩) := by simpa using hp
  have hq' : tmps[q]?.getD undef = .pointer (some ⟨g', 0, none⟩) := by simpa using hp2
  simp [results, h, hp', hq', asAddr, run_loadVar_row w g t ty (numA n) (0, 0) d hg hu hd hi, run_loadVar_row w g' t' ty (numA n') (0, 0) d hg' hu hd hi]
end

theorem size26 : (Try.prog.info? 26).map (·.size) = some 8 := by kernel_rfl
end Go.Proofs.Yteihojjciklfoaa
