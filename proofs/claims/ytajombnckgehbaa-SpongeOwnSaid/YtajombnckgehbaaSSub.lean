/- A part of a block that is known whole (a field that is an array), loaded and stored. -/
import Derived.Test.YtajombnckgehbaaSRmix
import Derived.Laws.CopyRow
namespace Go.Proofs.Ytajombnckgehbaa
set_option linter.unusedVariables false
set_option linter.unusedSimpArgs false
open Go.ChangeShapes Go.WideShapes Go.ChangeAt Go.RowKit
section
variable {P : Program}
theorem run_load_sub (w : World) (ty : TypeId) (g o : Nat) (t : TypeId) (c s : Array Value) (d : TypeDesc) (hg : Blk w g t c) (hs : ∀ (j : Nat) (v : Value), s[j]? = some v → c[o + j]? = some v) (hu : P.underlying ty = some d)
    (hd : (match d with | .struct _ | .array _ _ => true | _ => false) = true) (hi : (P.info? ty).map (·.size) = some s.size) : (Instr.loadAt ty (.pointer (some ⟨g, o, none⟩))).run P w = .ok (.agg s) w := by
  simp only [Instr.loadAt, Instr.sureAddr, Sem.run_bind, Sem.run_pure, Result.andThen_ok]
  have hl : (loadCells ⟨g, o, none⟩ s.toList.length).run P w = .ok s.toList.toArray w :=
    run_loadCells_list (P := P) w ⟨g, o, none⟩ s.toList (fun j v hv => by
      have hadd : (⟨g, o, none⟩ : Addr).add j = ⟨g, o + j, none⟩ := by unfold Addr.add; split <;> simp_all
      rw [hadd]
      exact hg.cell (hs j v (by simpa using hv)))
  cases hq : P.info? ty with
  | none => simp [hq] at hi
  | some i =>
    have hz : i.size = s.size := by simpa [hq] using hi
    have hagg : (isAgg ty).run P w = .ok true w := by
      unfold isAgg
      rw [Sem.run_bind, run_underlying hu w]
      cases d <;> simp_all
    simp only [Array.length_toList, Array.toArray_toList] at hl
    simp [loadVar, Sem.run_bind, hagg, sizeOf, typeInfo, hq, hz, hl]
theorem run_store_sub (w : World) (ty : TypeId) (g o : Nat) (t : TypeId) (c s c' : Array Value) (hg : Blk w g t c) (hos : o + s.size ≤ c.size) (h1 : s.all (·.oneCell') = true) (hc' : (c.toList.take o ++ s.toList ++ c.toList.drop (o + s.size)).toArray = c')
    (hi : (P.info? ty).map (·.size) = some s.size) : (Instr.storeAt ty (.pointer (some ⟨g, o, none⟩)) (.agg s)).run P w = .ok () (w.setRow g c') := by
  simp only [Instr.storeAt, Instr.sureAddr, Sem.run_bind, Sem.run_pure, Result.andThen_ok]
  have := run_storeCells_at (P := P) g o t s.toList 0 c w hg (by simpa using hos) (fun v hv => (Array.all_eq_true_iff_forall_mem.1 h1) v (by simpa using hv))
  simp only [Nat.add_zero, Array.length_toList] at this
  rw [hc'] at this
  cases hq : P.info? ty with
  | none => simp [hq] at hi
  | some i =>
    have hz : i.size = s.size := by simpa [hq] using hi
    simp [storeVar, Sem.run_bind, sizeOf, typeInfo, hq, hz, Value.cells, this]
/-- Loaded, stored, in a walk. -/
theorem wpList_load_sub {ops : Array Oper} {rest : List Oper} {o : Oper} {a : Act} {w : World} {Q : Exit → Act → World → Prop} (hw : Region.wanted o (yielded ops a.tmps) = true) (ty : TypeId) (x : Operand) (ho : o.op = .load ty x)
    (g k : Nat) (hx : a.eval x = .pointer (some ⟨g, k, none⟩)) (t : TypeId) (c : Array Value) (hg : Blk w g t c) (s : Array Value) (hs : ∀ (j : Nat) (v : Value), s[j]? = some v → c[k + j]? = some v) (d : TypeDesc) (hu : P.underlying ty = some d)
    (hd : (match d with | .struct _ | .array _ _ => true | _ => false) = true) (hi : (P.info? ty).map (·.size) = some s.size)
    (h : wpList P ops Q rest (a.put o.dst (.agg s)) w) : wpList P ops Q (o :: rest) a w :=
  wpList_want hw fun K hK => by
    unfold Oper.wp execOp
    simp only [ho, hx, Sem.run_bind, run_load_sub w ty g k t c s d hg hs hu hd hi, Result.andThen_ok, Sem.run_pure]
    exact hK _ _ h
theorem wpList_store_sub {ops : Array Oper} {rest : List Oper} {o : Oper} {a : Act} {w : World} {Q : Exit → Act → World → Prop} (hgd : o.guard = none) (ty : TypeId) (x y : Operand) (ho : o.op = .store ty x y)
    (g k : Nat) (hx : a.eval x = .pointer (some ⟨g, k, none⟩)) (s : Array Value) (hy : a.eval y = .agg s) (h1 : s.all (·.oneCell') = true) (t : TypeId) (c : Array Value) (hg : Blk w g t c) (hos : k + s.size ≤ c.size) (c' : Array Value)
    (hc' : (c.toList.take k ++ s.toList ++ c.toList.drop (k + s.size)).toArray = c') (hi : (P.info? ty).map (·.size) = some s.size)
    (h : ∀ w', w.grownBy w' (some g) → Blk w' g t c' → wpList P ops Q rest (a.put o.dst undef) w') : wpList P ops Q (o :: rest) a w :=
  wpList_plain hgd fun K hK => by
    unfold Oper.wp execOp
    simp only [ho, hx, hy, Sem.run_bind, run_store_sub w ty g k t c s c' hg hos h1 hc' hi, Result.andThen_ok, Sem.run_pure]
    exact hK _ _ (h _ (grown_setRow _ _ _) (setRow_heap w g c c' t (0, 0) hg))
end
end Go.Proofs.Ytajombnckgehbaa
