/- Regions that draw their order and turn marks of blocks of their own. -/
import Derived.Test.YtajombnckgehbaaSEq
import Derived.Test.YtajombnckgehbaaGenT
namespace Go.Proofs.Ytajombnckgehbaa
set_option linter.unusedVariables false
set_option linter.unusedSimpArgs false
open Go.ChangeShapes Go.WideShapes Go.ChangeAt Go.RowKit Go.Shelf

/-- A slice literal of bytes: its block is new. -/
theorem hop_lit {ops : Array Oper} {Q : Exit → Act → World → Prop} {a : Act} {w : World} {o : Oper} {B : Nat} (hw : Region.wanted o (yielded ops a.tmps) = true) (hB : B ≤ w.heap.size) (zs : List UInt8) (hz : 0 < zs.length) (hs : zs.length ≤ 1000) (parts : Array (Nat × Operand)) (ho : o.op = .buildSlice 29 zs.length parts)
    (hf : Instr.fill (fun i => some (i * 1, 1)) ((Array.range (zs.length * 1)).map ((Value.int .u8 0).cells[· % (Value.int .u8 0).cells.size]!)) (parts.map fun (i, x) => (i, a.eval x)).toList = some (bvs zs)) :
    if Region.wanted o (yielded ops a.tmps) = true then o.wp Try.prog a w (fun a' w' => ∃ v, a' = a.put o.dst v ∧ Kc B w w' ∧ (StK.lit B zs).F w' v) Q else (StK.lit B zs).F w undef :=
  hop_growK (F := (StK.lit B zs).F) hw _ (run_lit zs hz hs parts ho hf) (Kc.of_below hB (step_alloc w _)) ⟨w.heap.size, (0, 0), rfl, hB, hs, heap_alloc_new w _⟩
theorem LitB.isB {B : Nat} {w : World} {l : List UInt8} {v : Value} (h : LitB B w l v) : IsB w l v := by
  obtain ⟨g, fr, h1, h2, h4, h3⟩ := h
  refine ⟨_, _, h1, Nat.le_refl _, by unfold maxLen; omega, (fun h => by cases h), fun hp => ⟨_, rfl, heap_lt h3, fun j b hj => ?_⟩⟩
  rw [addr_add, Nat.zero_add]
  simp only [World.cell?, h3]
  simp [bvs, hj]
theorem run_convB {B : Nat} {a : Act} {w : World} {o : Oper} (x : Operand) (ho : o.op = .convert 29 29 x) {l : List UInt8} (hx : LitB B w l (a.eval x)) : ∃ w', (execOp a.eval o).run Try.prog w = .ok (.value (a.eval x)) w' ∧ Kc B w w' ∧ LitB B w' l (a.eval x) := by
  obtain ⟨g, fr, h1, h2, h4, h3⟩ := hx
  have hsh : w.shape? g = some (5, (bvs l).size) := by unfold World.shape?; rw [h3]
  have hk : Kc B w (w.freeze ⟨g, (bvs l).size, none⟩ 1) := by
    refine ⟨⟨rfl, rfl, rfl, by simp [World.freeze], fun k hk => ?_⟩, fun g' cs t fr' hg => ?_⟩
    · simp only [World.freeze, if_neg (by decide : ¬ (1 = 0)), Array.getElem?_modify]
      rw [if_neg (show ¬ g = k by omega)]
    · simp only [World.freeze, if_neg (by decide : ¬ (1 = 0)), Array.getElem?_modify]
      by_cases e : g = g'
      · subst e
        rw [if_pos rfl, hg]
        rw [h3] at hg
        injection hg with hg
        injection hg with _ ht _
        exact ⟨_, rfl, fun hn => absurd ht.symm hn⟩
      · rw [if_neg e, hg]
        exact ⟨_, rfl, fun _ => rfl⟩
  refine ⟨w.freeze ⟨g, (bvs l).size, none⟩ 1, ?_, hk, ?_⟩
  · rw [h1]
    refine run_cv' _ _ x ho h1 ?_
    simp [convert, run_underlying Try.underlying29, run_underlying Try.underlying5, markStringish, hsh]
  · obtain ⟨fr', h3', _⟩ := hk.kept g _ _ _ h3
    exact ⟨g, fr', h1, h2, h4, h3'⟩
theorem hop_convK {ops : Array Oper} {Q : Exit → Act → World → Prop} {a : Act} {w : World} {o : Oper} {B : Nat} (hw : Region.wanted o (yielded ops a.tmps) = true) (x : Operand) (ho : o.op = .convert 29 29 x) {l : List UInt8} (hx : LitB B w l (a.eval x)) :
    if Region.wanted o (yielded ops a.tmps) = true then o.wp Try.prog a w (fun a' w' => ∃ v, a' = a.put o.dst v ∧ Kc B w w' ∧ (StK.lit B l).F w' v) Q else (StK.lit B l).F w undef := by
  obtain ⟨wc, h1, h2, h3⟩ := run_convB x ho hx
  exact hop_growK (F := (StK.lit B l).F) hw _ h1 h2 h3
theorem run_lenZ {a : Act} {w : World} {o : Oper} (x : Operand) (ho : o.op = .call { callee := .builtin .len, args := #[x], argTypes := #[29] }) {l : List UInt8} (hx : IsB w l (a.eval x)) {z : Int} (hz : (l.length : Int) = z) : (execOp a.eval o).run Try.prog w = .ok (.value (.int .i64 z)) w := by
  subst hz; exact run_lenB x 3 ho hx
end Go.Proofs.Ytajombnckgehbaa
