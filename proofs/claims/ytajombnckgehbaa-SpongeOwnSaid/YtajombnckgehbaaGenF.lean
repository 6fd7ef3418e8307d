/- A range over a function, whose iterator writes memory, and whose rounds are known by what lies ahead of each, and behind it. -/
import Derived.Test.YtajombnckgehbaaGenR
import Derived.RangeFuncNested
import Derived.RangeFuncBound
import Derived.RangeFuncCalls
import Derived.RangeFuncLeaves
import Derived.Shelf.RegionOpen
import Derived.OwnWalkIn
import Derived.TacticsInMore
import Derived.LoopNIn
import Derived.LoopIn
namespace Go.Proofs.Ytajombnckgehbaa
set_option linter.unusedVariables false
set_option linter.unusedSimpArgs false
open Go.ChangeShapes Go.WideShapes Go.ChangeAt Go.RowKit Go.Shelf

/-- The loop's record, ready; the block for deferred calls. -/
def RecAt (l D : Nat) (o1 o2 : Obj) (W : World) : Prop := W.heap[l]? = some o1 ∧ W.heap[D]? = some o2 ∧ o1.isCells = false ∧ o2.isCells = false
theorem RecAt.kept {l D : Nat} {o1 o2 : Obj} {W W' : World} (h : RecAt l D o1 o2 W) (hk : KeepsOthers W W') : RecAt l D o1 o2 W' :=
  ⟨hk.same _ _ h.1 h.2.2.1, hk.same _ _ h.2.1 h.2.2.2, h.2.2⟩
def roundEnd (l : Nat) (W2 : World) (R : World → Prop) : Exit → Act → World → Prop
  | .normal, _, W3 => KeepsOthers W2 W3 ∧ ∀ o, R (W3.putObj l o)
  | _, _, _ => False
/-- Block l holds no cells. -/
def NotCells (w : World) (l : Nat) : Prop := ∀ o', w.heap[l]? = some o' → o'.isCells = false
/-- What is asked behind the assignment to the loop's variables. -/
def MidOk (F : Fence) (n : Nat) (P : Program) (l : Nat) (body : Code) (W : World) (R : World → Prop) (a₁ : Act) (W1 : World) : Prop :=
  KeepsOthers W W1 ∧ ∀ o, NotCells W1 l → body.wpIn (F.inRound l) n P (roundEnd l (W1.putObj l o) R) a₁ (W1.putObj l o)
theorem wpIn_range {F : Fence} {n : Nat} {P : Program} {g : Operand} {ps : Array Tmp} {assign body : Code} {Q : Exit → Act → World → Prop} {a : Act} {w : World}
    (hro : F.round = none) (h1 : 1 ≤ n) {gf : Nat} {lb : Array Value} (hg : a.eval g = .func (.func gf) #[] lb) (hFg : F.fn gf) (eg : ∀ args w, (callFunc gf args).run P w = .ok (.enter gf args) w)
    {α : Type} (encs : α → Array Value) (hps : ∀ x, (encs x).size = ps.size) (Pre : α → World → Prop) (Post : α → World → World → Prop) (Fin : World → Prop)
    (hround : ∀ (l : Nat) (x : α) (W : World), w.heap.size < l → l < W.heap.size → Pre x W →
      assign.wpIn (F.inRound l) (n - 1 - 1) P (Exit.then (MidOk F (n - 1 - 1) P l body W (Post x W)) (fun _ _ _ => False)) { tmps := (ps.zip (encs x)).foldl (fun t (p, v) => t.setIfInBounds p v) a.tmps, defers := [] } W)
    (hiter : ∀ (l D : Nat) (o1 o2 : Obj) (W1 : World), D = w.heap.size → l = w.heap.size + 1 → W1 = (w.alloc o2).alloc o1 → RecAt l D o1 o2 W1 →
      (∀ x W, Pre x W → RecAt l D o1 o2 W → YieldAt F (n - 1 - 1) P l (encs x) W fun e W' => e = .returned (.bool true) ∧ RecAt l D o1 o2 W' ∧ Post x W W') →
      CallsIn F (n - 1) P gf (#[.func (.yield l) #[] #[]] ++ lb) W1 fun e W' => (∃ v, e = .returned v) ∧ RecAt l D o1 o2 W' ∧ Fin W')
    (hdone : ∀ (l D : Nat) (o : Obj) (W : World), D = w.heap.size → l = w.heap.size + 1 → Fin W → l < W.heap.size → NotCells W l → (W.putObj l o).heap[D]? = some (.deferred (some [])) →
      Q .normal { a with defers := { target := .collected D, args := #[] } :: a.defers } (W.putObj l o)) :
    (Code.rangeFunc g ps assign body).wpIn F n P Q a w := by
  refine wpIn_rangeFunc ?_
  intro fn hfn
  rw [hro]
  obtain ⟨rec, hrec⟩ : ∃ rec : LoopState → Option Code → Loop, rec = fun st pe => { state := st, pending := pe, fn, tmps := a.tmps, params := ps, assign, body, defers := w.heap.size } := ⟨_, rfl⟩
  obtain ⟨W1, hW1⟩ : ∃ W1, (w.alloc (.deferred (some []))).alloc (.loop (rec .ready none)) = W1 := ⟨_, rfl⟩
  have hL1 : W1.heap[w.heap.size + 1]? = some (.loop (rec .ready none)) := by
    rw [← hW1]; have := World.alloc_heap_new (w.alloc (.deferred (some []))) (.loop (rec .ready none)); rwa [World.size_alloc] at this
  have hK1 : W1.heap[w.heap.size]? = some (.deferred (some [])) := by
    rw [← hW1]; exact (Below.heap_alloc _ _ _ (by simp)).trans (World.alloc_heap_new w _)
  refine ⟨w.heap.size + 1, [{ target := .collected w.heap.size, args := #[] }], W1, { target := .fn (.func gf) lb, args := #[.func (.yield (w.heap.size + 1)) #[] #[]] }, W1, gf,
    #[.func (.yield (w.heap.size + 1)) #[] #[]] ++ lb, W1, ?_, ?_, ?_, ?_, fun _ => h1, ?_⟩
  · rw [← hW1, hrec]; exact run_enterLoop_outer _ _ _ _ _
  · simp only [resolve, hg]
    simp [go_sem]
  · intro f' hf'; simp [Target.leads] at hf'; subst hf'; exact hFg
  · simp [invoke, go_sem, eg]
  · refine (hiter (w.heap.size + 1) w.heap.size (.loop (rec .ready none)) (.deferred (some [])) W1 rfl rfl hW1.symm ⟨hL1, hK1, rfl, rfl⟩ ?_).mono ?_
    · rintro x W hpre ⟨hl, hk, -, -⟩
      have hlt : w.heap.size + 1 < W.heap.size := (Array.getElem?_eq_some_iff.1 hl).1
      have hy := run_yield (P := P) (args := encs x) hl (by rw [hrec]; exact hps x)
      rw [hrec] at hy
      refine ⟨fn, _, assign, body, hy, roundIn_of_wpIn hfn (wpIn_mono (hround (w.heap.size + 1) x W (by omega) hlt hpre) ?_)⟩
      rintro e a1 W2 hp
      cases e with
      | normal =>
        obtain ⟨hk2, hb⟩ := hp
        have hl2 := hk2.same _ _ hl rfl
        have hd2 := hk2.same _ _ hk rfl
        have hlt2 := (Array.getElem?_eq_some_iff.1 hl2).1
        refine ⟨_, run_beginRound hl2 (by rw [hrec]), ?_⟩
        refine wpIn_mono (hb (.loop { rec .ready none with state := .busy }) (fun o' ho' => by rw [hl2] at ho'; cases ho'; rfl)) ?_
        rintro e3 a3 W3 hp3
        cases e3 with
        | normal =>
          obtain ⟨hk3, hR⟩ := hp3
          have hl3 : W3.heap[w.heap.size + 1]? = some (.loop { rec .ready none with state := .busy }) := hk3.same _ _ (World.putObj_heap_same hlt2) rfl
          have hd3 : W3.heap[w.heap.size]? = some (.deferred (some [])) := hk3.same _ _ ((World.putObj_heap_other (by omega)).trans hd2) rfl
          have hend := run_endRound (P := P) none hl3
          rw [hrec] at hend
          refine ⟨_, _, hend, rfl, ⟨?_, ?_, rfl, rfl⟩, hR _⟩
          · rw [hrec]; exact World.putObj_heap_same (Array.getElem?_eq_some_iff.1 hl3).1
          · exact (World.putObj_heap_other (by omega)).trans hd3
        | _ => exact hp3.elim
      | _ => exact hp.elim
    · rintro e W2 ⟨⟨v, rfl⟩, ⟨hl, hk, -, -⟩, hf⟩
      refine ⟨none, _, by have := run_endLoop (P := P) hl (by rw [hrec]; simp); rw [hrec] at this; exact this, ?_⟩
      exact hdone (w.heap.size + 1) w.heap.size _ W2 rfl rfl hf (Array.getElem?_eq_some_iff.1 hl).1 (fun o' ho' => by rw [hl] at ho'; cases ho'; rfl) ((World.putObj_heap_other (by omega)).trans hk)
/-- In a fence: a load, a store, by its run. -/
theorem wpListIn_load_run {F : Fence} {n : Nat} {P : Program} {w : World} {ops : Array Oper} {rest : List Oper} {o : Oper} {a : Act} {Q : Exit → Act → World → Prop} (hg : o.guard = none) (ty : TypeId) (x : Operand) (ho : o.op = .load ty x) {u v : Value} (hx : a.eval x = u)
    (hr : (Instr.loadAt ty u).run P w = .ok v w) (h : wpListIn F n P ops Q rest (a.put o.dst v) w) : wpListIn F n P ops Q (o :: rest) a w := by
  refine wpListIn_plain hg fun K hK => ?_
  unfold Oper.wpIn
  refine ⟨?_, ?_⟩
  · simp [Oper.about, ho]
  · rw [Oper.semAt_plain F _ _ (by rw [ho]; intro c hc'; cases hc')]
    simp only [execOp, ho, hx, Sem.run_bind, hr, Result.andThen_ok, Sem.run_pure]
    exact hK _ _ h
theorem wpListIn_store_run {F : Fence} {n : Nat} {P : Program} {w w' : World} {ops : Array Oper} {rest : List Oper} {o : Oper} {a : Act} {Q : Exit → Act → World → Prop} (hg : o.guard = none) (ty : TypeId) (x y : Operand) (ho : o.op = .store ty x y) {u v : Value} (hx : a.eval x = u) (hy : a.eval y = v)
    (hr : (Instr.storeAt ty u v).run P w = .ok () w') (h : wpListIn F n P ops Q rest (a.put o.dst undef) w') : wpListIn F n P ops Q (o :: rest) a w := by
  refine wpListIn_plain hg fun K hK => ?_
  unfold Oper.wpIn
  refine ⟨?_, ?_⟩
  · simp [Oper.about, ho]
  · rw [Oper.semAt_plain F _ _ (by rw [ho]; intro c hc'; cases hc')]
    simp only [execOp, ho, hx, hy, Sem.run_bind, hr, Result.andThen_ok, Sem.run_pure]
    exact hK _ _ h
end Go.Proofs.Ytajombnckgehbaa
