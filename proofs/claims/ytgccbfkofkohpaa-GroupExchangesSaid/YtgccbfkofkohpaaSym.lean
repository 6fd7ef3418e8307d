/- Frames and memory, each known by one fact: what a walk that is written by program stands on. -/
import Derived.Test.YtgccbfkofkohpaaGenT
namespace Go.Proofs.Ytgccbfkofkohpaa
set_option linter.unusedVariables false
set_option maxRecDepth 20000
set_option linter.unusedSimpArgs false
open Go.ChangeShapes Go.WideShapes Go.ChangeAt Go.RowKit Go.Shelf
/-- The first that is filed under t. -/
def look {α : Type} : List (Nat × α) → Nat → Option α
  | [], _ => none
  | p :: L, t => match Nat.beq p.1 t with
    | true => some p.2
    | false => look L t
theorem look_cons {α : Type} (k : Nat) (x : α) (L : List (Nat × α)) (t : Nat) : look ((k, x) :: L) t = if k = t then some x else look L t := by
  have e : look ((k, x) :: L) t = (match Nat.beq k t with
    | true => some x
    | false => look L t) := rfl
  rw [e]
  by_cases h : k = t
  · subst h
    rw [if_pos rfl, Nat.beq_refl]
  · have : Nat.beq k t = false := by cases hb : Nat.beq k t with
      | false => rfl
      | true => exact absurd (Nat.eq_of_beq_eq_true hb) h
    rw [if_neg h, this]
/-- A frame of n slots: these are known. -/
structure Fx (n : Nat) (a : Act) (V : List (Nat × Value)) : Prop where
  size : a.tmps.size = n
  defers : a.defers = []
  at_ : ∀ t v, look V t = some v → a.eval (.tmp t) = v
theorem Fx.get {n : Nat} {a : Act} {V : List (Nat × Value)} (F : Fx n a V) {t : Nat} {v : Value} (h : look V t = some v) : a.eval (.tmp t) = v := F.at_ t v h
theorem Fx.put {n : Nat} {a : Act} {V : List (Nat × Value)} (F : Fx n a V) (d : Nat) (v : Value) (hd : Nat.blt d n = true) : Fx n (a.put (some d) v) ((d, v) :: V) :=
  ⟨by rw [put_size]; exact F.size, by rw [put_defers]; exact F.defers, fun t u h => by
    rw [look_cons] at h
    by_cases e : d = t
    · subst e
      rw [if_pos rfl] at h
      rw [eval_put_self (by rw [F.size]; exact Nat.le_of_ble_eq_true hd)]
      exact Option.some.inj h
    · rw [if_neg e] at h
      rw [eval_put_ne (fun e2 => e (Option.some.inj e2))]
      exact F.at_ t u h⟩
theorem Fx.eq {n : Nat} {a : Act} {V V' : List (Nat × Value)} (F : Fx n a V) (h : ∀ t v, look V' t = some v → look V t = some v) : Fx n a V' := ⟨F.size, F.defers, fun t v e => F.at_ t v (h t v e)⟩
theorem Fx.zero {vs : Array Value} {n m : Nat} (V : List (Nat × Value)) (hn : vs.size + m = n) (h : ∀ t v, look V t = some v → vs[t]? = some v) : Fx n { tmps := vs ++ Array.replicate m undef, defers := [] } V :=
  ⟨by simp [hn], rfl, fun t v e => by
    have h1 := h t v e
    have hl := (Array.getElem?_eq_some_iff.1 h1).1
    simp [Act.eval, Array.getD_eq_getD_getElem?, Array.getElem?_append_left hl, h1]⟩
/-- The parameters' values, filed from k on. -/
def file : Nat → List Value → List (Nat × Value)
  | _, [] => []
  | k, v :: L => (k, v) :: file (k + 1) L
theorem look_file : ∀ (L : List Value) (k t : Nat) (v : Value), look (file k L) t = some v → k ≤ t ∧ L[t - k]? = some v
  | [], k, t, v, h => by cases h
  | u :: L, k, t, v, h => by
    unfold file at h
    rw [look_cons] at h
    by_cases e : k = t
    · subst e
      rw [if_pos rfl] at h
      exact ⟨Nat.le_refl _, by rw [Nat.sub_self]; simpa using h⟩
    · rw [if_neg e] at h
      obtain ⟨h1, h2⟩ := look_file L (k + 1) t v h
      exact ⟨by omega, by rw [show t - k = (t - (k + 1)) + 1 by omega]; simpa using h2⟩
section
variable {P : Program}
/-- A function's body, from its parameters on. -/
theorem calls_fx {f : FuncId} {fn : Func} {c : Code} {args : List Value} {w : World} {R : Ending → World → Prop} (n : Nat) (hf : P.funcs[f]? = some fn) (hb : fn.body = some c) (hn : fn.ntmps = n) (hl : Nat.ble args.length n = true)
    (h : ∀ a, Fx n a (file 0 args) → c.wp P (bodyPost P fn R) a w) : Calls P f args.toArray w R := by
  refine calls_of_wp hf hb (h _ ?_)
  have hl' : args.length ≤ n := Nat.le_of_ble_eq_true hl
  refine Fx.zero _ (by simp [hn]; omega) fun t v e => ?_
  have := (look_file args 0 t v e).2
  simpa using this
section
variable {ops : Array Oper} {Q : Exit → Act → World → Prop} {a : Act} {w w' : World} {rest : List Oper} {o : Oper} {n : Nat} {V : List (Nat × Value)}
/-- An operation that yields. -/
theorem wl_run (hw : Region.wanted o (yielded ops a.tmps) = true) {d : Nat} (hd : o.dst = some d) (F : Fx n a V) (hn : Nat.blt d n = true) (v : Value) (hr : (execOp a.eval o).run P w = .ok (.value v) w')
    (h : ∀ a', Fx n a' ((d, v) :: V) → wpList P ops Q rest a' w') : wpList P ops Q (o :: rest) a w :=
  wpList_want hw fun K hK => by
    unfold Oper.wp
    rw [hr]
    have := F.put d v hn
    rw [← hd] at this
    exact hK _ _ (h _ this)
/-- One that writes, and yields nothing. -/
theorem wl_do (hw : Region.wanted o (yielded ops a.tmps) = true) (hd : o.dst = none) (F : Fx n a V) (hr : (execOp a.eval o).run P w = .ok .skip w')
    (h : wpList P ops Q rest a w') : wpList P ops Q (o :: rest) a w :=
  wpList_want hw fun K hK => by
    unfold Oper.wp
    rw [hr]
    have e : a.put o.dst undef = a := by rw [hd]; rfl
    show K (a.put o.dst undef) w'
    rw [e]
    exact hK _ _ h
theorem wl_skip (hw : Region.wanted o (yielded ops a.tmps) = false) {d : Nat} (hd : o.dst = some d) (F : Fx n a V) (hn : Nat.blt d n = true)
    (h : ∀ a', Fx n a' ((d, undef) :: V) → wpList P ops Q rest a' w) : wpList P ops Q (o :: rest) a w :=
  wpList_skip hw (by
    have := F.put d undef hn
    rw [← hd] at this
    exact h _ this)
theorem wanted_no {ops : Array Oper} {g : Nat} {b : Bool} {og : Oper} {d : Tmp} (hg : o.guard = some (g, b)) (ho : ops[g]? = some og) (hd : og.dst = some d) (hv : a.eval (.tmp d) = .bool (!b)) : Region.wanted o (yielded ops a.tmps) = false := by
  rw [wanted_by hg ho hd hv]; cases b <;> rfl
theorem wanted_un {ops : Array Oper} {g : Nat} {b : Bool} {og : Oper} {d : Tmp} (hg : o.guard = some (g, b)) (ho : ops[g]? = some og) (hd : og.dst = some d) (hv : a.eval (.tmp d) = undef) : Region.wanted o (yielded ops a.tmps) = false := by
  have h1 : yielded ops a.tmps g = none := by
    simp only [yielded, ho, Option.bind_some, hd]
    simp only [Act.eval, Array.getD_eq_getD_getElem?] at hv
    cases h : a.tmps[d]? with
    | none => simp [h]
    | some u => rw [h] at hv; simp at hv; subst hv; simp [h, undef]
  simp [Region.wanted, hg, h1]
/-- A call. -/
theorem wl_call (hw : Region.wanted o (yielded ops a.tmps) = true) {d : Nat} (hd : o.dst = some d) (F : Fx n a V) (hn : Nat.blt d n = true) {f : FuncId} {args : Array Operand} {ts : Array TypeId} (ho : o.op = .call { callee := .value (.func f), args := args, argTypes := ts })
    (hr : ∀ args w, (callFunc f args).run P w = .ok (.enter f args) w) (vals : Array Value) (hv : args.map a.eval = vals) {G : Value → World → Prop}
    (hc : Calls P f vals w fun e w' => ∃ v, e = .returned v ∧ G v w')
    (h : ∀ v w' a', G v w' → Fx n a' ((d, v) :: V) → wpList P ops Q rest a' w') : wpList P ops Q (o :: rest) a w :=
  wpList_want hw fun K hK => by
    subst hv
    unfold Oper.wp
    have : (execOp a.eval o).run P w = .ok (.enter f (args.map a.eval)) w := by
      simp [execOp, ho, resolve, invoke, Act.eval, go_sem, hr]
    rw [this]
    refine hc.mono fun e w' ⟨v, he, hb⟩ => ?_
    subst he
    have := F.put d v hn
    rw [← hd] at this
    exact hK _ _ (h _ _ _ hb this)
end
theorem res1 {fn : Func} {t : Tmp} {a : Act} {v : Value} {w : World} (h : fn.results = #[.tmp t]) (e : a.eval (.tmp t) = v) : (results fn a.tmps).run P w = .ok v w := by
  rw [results_tmp h]; exact congrArg (fun v => Result.ok v w) e
theorem res0 {fn : Func} {a : Act} {w : World} (h : fn.results = #[]) : (results fn a.tmps).run P w = .ok (.tuple #[]) w := results_none h _ _ _
theorem res2 {fn : Func} {t u : Tmp} {a : Act} {v x : Value} {w : World} (h : fn.results = #[.tmp t, .tmp u]) (e : a.eval (.tmp t) = v) (e2 : a.eval (.tmp u) = x) : (results fn a.tmps).run P w = .ok (.tuple #[v, x]) w := by
  rw [results_tmp2 h, ← e, ← e2]; rfl
/-- **A drawn region: its head by what each operation leaves behind, its tail in the text's order.** -/
def layV (p : Nat → Value) : List Oper → Nat → List (Nat × Value) → List (Nat × Value)
  | [], _, V => V
  | o :: l, k, V => match o.dst with
    | some d => layV p l (k + 1) ((d, p k) :: V)
    | none => layV p l (k + 1) V
theorem Fx.lay (p : Nat → Value) {n : Nat} : ∀ (l : List Oper) (k : Nat) (a : Act) (V : List (Nat × Value)), Fx n a V → (∀ (i : Nat) (o : Oper) (d : Nat), l[i]? = some o → o.dst = some d → d < n) → Fx n (layAll p l k a) (layV p l k V)
  | [], _, _, _, F, _ => F
  | o :: l, k, a, V, F, h => by
    have h0 := h 0 o
    cases ho : o.dst with
    | none =>
      have e : layAll p (o :: l) k a = layAll p l (k + 1) a := by simp only [layAll, ho]; rfl
      rw [e]
      unfold layV
      rw [ho]
      exact Fx.lay p l (k + 1) a V F fun i o' d h1 h2 => h (i + 1) o' d (by simpa using h1) h2
    | some d =>
      have e : layAll p (o :: l) k a = layAll p l (k + 1) (a.put (some d) (p k)) := by simp only [layAll, ho]
      rw [e]
      unfold layV
      rw [ho]
      exact Fx.lay p l (k + 1) _ _ (F.put d (p k) (by have := h0 d rfl ho; simp [Nat.blt]; omega)) fun i o' d h1 h2 => h (i + 1) o' d (by simpa using h1) h2
theorem relOkT_dst {L : List Oper} {m n : Nat} (hok : relOkT L m n = true) : ∀ (i : Nat) (o : Oper) (d : Nat), (L.take m)[i]? = some o → o.dst = some d → d < n := by
  unfold relOkT at hok
  simp only [Bool.and_eq_true, List.all_eq_true] at hok
  obtain ⟨⟨⟨⟨-, -⟩, hall⟩, -⟩, -⟩ := hok
  intro i o d ho hd
  have hi : i < m := by
    rw [List.getElem?_take] at ho
    split at ho
    · assumption
    · cases ho
  have h1 := hall i (List.mem_range.2 hi)
  simp only [ho, hd, Bool.and_eq_true, decide_eq_true_eq] at h1
  exact h1.1.1
theorem region_fx {id : Nat} {Q : Exit → Act → World → Prop} {a0 : Act} {W : World} {L : List Oper} {n : Nat} {V : List (Nat × Value)} (F : Fx n a0 V) (S : List StK) (m : Nat) (hm : P.follows .mixedOrders = true) (hok : relOkT L m n = true)
    (hop : HopAllT P L m Q (stYK S) a0 W (L.take m) 0)
    (hend : ∀ (p : Nat → Value) (a : Act) (w : World), Kc W.heap.size W w → Fx n a (layV p (L.take m) 0 V) → YAll (stYK S) p w (L.take m) 0 → wpList P L.toArray Q (L.drop m) a w) : (Code.region id L.toArray true).wp P Q a0 W :=
  wp_region_stT S m n F.size hm hok hop fun p w hb hY => hend p _ w (by exact Kc.of_below (Nat.le_refl _) hb) (F.lay p (L.take m) 0 a0 V (relOkT_dst hok)) hY
end
/-- Something in memory: whether it may be written; the blocks that it lies in; what is known. -/
structure Res where
  wr : Bool
  fp : Nat → Prop
  F : World → Prop
/-- From world to world these blocks are as they were. -/
def Same (fp : Nat → Prop) (w w' : World) : Prop := ∀ (g : Nat) (o : Obj), fp g → w.heap[g]? = some o → w'.heap[g]? = some o
/-- From w0 to w no old block but G was touched; what is known of w. -/
structure Mx (G : Option Nat) (w0 w : World) (R : List (Nat × Res)) : Prop where
  grown : w0.grownBy w G
  at_ : ∀ i r, look R i = some r → r.F w
  dep : ∀ i r, look R i = some r → ∀ u u', Same r.fp u u' → r.F u → r.F u'
  lt : ∀ i r, look R i = some r → ∀ g, r.fp g → g < w.heap.size
  own : ∀ i r, look R i = some r → r.wr = true → ∀ g, r.fp g → w0.heap.size ≤ g ∨ G = some g
  dis : ∀ i j r s, look R i = some r → look R j = some s → i ≠ j → r.wr = true → ∀ g, r.fp g → ¬ s.fp g
section
variable {G : Option Nat} {w0 w w' : World} {R : List (Nat × Res)}
theorem Same.of_below {fp : Nat → Prop} (h : Below w.heap.size w w') : Same fp w w' := fun g o _ hg => (h.block g (Array.getElem?_eq_some_iff.1 hg).1).trans hg
theorem Same.of_grown {fp : Nat → Prop} {row : Option Nat} (h : w.grownBy w' row) (hn : ∀ g, fp g → row ≠ some g) : Same fp w w' := fun g o hf hg => (h.block g (Array.getElem?_eq_some_iff.1 hg).1 (fun e => hn g hf e.symm)).trans hg
theorem Mx.start (w : World) : Mx none w w [] :=
  ⟨World.grownBy.refl _ _, fun _ _ h => (by cases h), fun _ _ h => (by cases h), fun _ _ h => (by cases h), fun _ _ h => (by cases h), fun _ _ _ _ h => (by cases h)⟩
theorem Mx.startG (w : World) (g : Nat) : Mx (some g) w w [] :=
  ⟨World.grownBy.refl _ _, fun _ _ h => (by cases h), fun _ _ h => (by cases h), fun _ _ h => (by cases h), fun _ _ h => (by cases h), fun _ _ _ _ h => (by cases h)⟩
theorem Mx.get (M : Mx G w0 w R) {i : Nat} {r : Res} (h : look R i = some r) : r.F w := M.at_ i r h
theorem Mx.le (M : Mx G w0 w R) : w0.heap.size ≤ w.heap.size := M.grown.size
theorem Mx.below (M : Mx none w0 w R) : Below w0.heap.size w0 w := ⟨M.grown.os, M.grown.tape, M.grown.output, M.grown.size, fun k hk => M.grown.block k hk (fun e => by cases e)⟩
theorem Mx.step (M : Mx G w0 w R) (h : Below w.heap.size w w') : Mx G w0 w' R :=
  ⟨World.grownBy.trans M.grown ⟨h.os, h.tape, h.output, h.size, fun k hk _ => h.block k hk⟩, fun i r e => M.dep i r e w w' (.of_below h) (M.at_ i r e), M.dep, fun i r e g hg => Nat.lt_of_lt_of_le (M.lt i r e g hg) h.size, M.own, M.dis⟩
theorem Mx.kc (M : Mx G w0 w R) (h : Kc w.heap.size w w') : Mx G w0 w' R := M.step h.below
theorem Mx.drop (M : Mx G w0 w R) {R' : List (Nat × Res)} (h : ∀ i r, look R' i = some r → look R i = some r) : Mx G w0 w R' :=
  ⟨M.grown, fun i r e => M.at_ i r (h i r e), fun i r e => M.dep i r (h i r e), fun i r e => M.lt i r (h i r e), fun i r e => M.own i r (h i r e), fun i j r s e1 e2 => M.dis i j r s (h i r e1) (h j s e2)⟩
/-- One thing more, under a name. -/
theorem Mx.cons (M : Mx G w0 w R) (i : Nat) (r : Res) (hF : r.F w) (hdep : ∀ u u', Same r.fp u u' → r.F u → r.F u') (hlt : ∀ g, r.fp g → g < w.heap.size) (hown : r.wr = true → ∀ g, r.fp g → w0.heap.size ≤ g ∨ G = some g)
    (hdis : ∀ k s, look R k = some s → i ≠ k → (r.wr = true ∨ s.wr = true) → ∀ g, r.fp g → ¬ s.fp g) : Mx G w0 w ((i, r) :: R) := by
  refine ⟨M.grown, fun j s e => ?_, fun j s e => ?_, fun j s e => ?_, fun j s e => ?_, fun j k s t e1 e2 hjk hs g hg hg2 => ?_⟩
  · rw [look_cons] at e; split at e
    · cases e; exact hF
    · exact M.at_ j s e
  · rw [look_cons] at e; split at e
    · cases e; exact hdep
    · exact M.dep j s e
  · rw [look_cons] at e; split at e
    · cases e; exact hlt
    · exact M.lt j s e
  · rw [look_cons] at e; split at e
    · cases e; exact hown
    · exact M.own j s e
  · rw [look_cons] at e1 e2
    by_cases h1 : i = j
    · rw [if_pos h1] at e1; cases e1
      rw [if_neg (fun e => hjk (h1.symm.trans e))] at e2
      exact hdis k t e2 (fun e => hjk (h1.symm.trans e)) (.inl hs) g hg hg2
    · rw [if_neg h1] at e1
      by_cases h2 : i = k
      · rw [if_pos h2] at e2; cases e2
        exact hdis j s e1 h1 (.inr hs) g hg2 hg
      · rw [if_neg h2] at e2
        exact M.dis j k s t e1 e2 hjk hs g hg hg2
/-- One thing more, in blocks that are new. -/
theorem Mx.fresh (M : Mx G w0 w R) (h : Below w.heap.size w w') (i : Nat) (r : Res) (hF : r.F w') (hdep : ∀ u u', Same r.fp u u' → r.F u → r.F u') (hlo : ∀ g, r.fp g → w.heap.size ≤ g ∧ g < w'.heap.size) : Mx G w0 w' ((i, r) :: R) :=
  (M.step h).cons i r hF hdep (fun g hg => (hlo g hg).2) (fun _ g hg => .inl (Nat.le_trans M.le (hlo g hg).1)) fun k s e _ _ g hg hg2 => by
    have := M.lt k s e g hg2
    have := (hlo g hg).1
    omega
/-- One thing more that is only read, out of memory that was there, or out of such a thing. -/
theorem Mx.arg (M : Mx G w0 w R) (i : Nat) (r : Res) (hF : r.F w) (hdep : ∀ u u', Same r.fp u u' → r.F u → r.F u') (hw : r.wr = false) (hlo : ∀ g, r.fp g → g < w0.heap.size ∧ G ≠ some g) : Mx G w0 w ((i, r) :: R) :=
  M.cons i r hF hdep (fun g hg => Nat.lt_of_lt_of_le (hlo g hg).1 M.le) (fun e => by rw [hw] at e; cases e) fun k s e _ hh g hg hg2 => by
    rcases hh with hh | hh
    · rw [hw] at hh; cases hh
    · rcases M.own k s e hh g hg2 with h | h
      · have := (hlo g hg).1; omega
      · exact (hlo g hg).2 h
theorem Mx.part (M : Mx G w0 w R) (i : Nat) (r : Res) (hF : r.F w) (hdep : ∀ u u', Same r.fp u u' → r.F u → r.F u') (hw : r.wr = false) {k : Nat} {s : Res} (hk : look R k = some s) (hs : s.wr = false) (hlo : ∀ g, r.fp g → s.fp g) : Mx G w0 w ((i, r) :: R) :=
  M.cons i r hF hdep (fun g hg => M.lt k s hk g (hlo g hg)) (fun e => by rw [hw] at e; cases e) fun q t e _ hh g hg hg2 => by
    rcases hh with hh | hh
    · rw [hw] at hh; cases hh
    · exact M.dis q k t s e hk (fun e2 => by subst e2; rw [e] at hk; cases hk; rw [hs] at hh; cases hh) hh g hg2 (hlo g hg)
/-- What may be written is written: it lies where it lay, or in new blocks. -/
theorem Mx.write (M : Mx G w0 w R) {k : Nat} {s : Res} (hk : look R k = some s) (hs : s.wr = true) {row : Option Nat} (hb : w.grownBy w' row) (hrow : ∀ g, row = some g → s.fp g) (r : Res) (hF : r.F w') (hdep : ∀ u u', Same r.fp u u' → r.F u → r.F u')
    (hlo : ∀ g, r.fp g → g < w'.heap.size ∧ (s.fp g ∨ w.heap.size ≤ g)) : Mx G w0 w' ((k, r) :: R) := by
  have hG : w0.grownBy w' G := by
    refine ⟨hb.os.trans M.grown.os, hb.tape.trans M.grown.tape, hb.output.trans M.grown.output, Nat.le_trans M.grown.size hb.size, fun q hq hn => ?_⟩
    refine (hb.block q (Nat.lt_of_lt_of_le hq M.le) (fun e => ?_)).trans (M.grown.block q hq hn)
    rcases M.own k s hk hs q (hrow q e.symm) with h | h
    · omega
    · exact hn h.symm
  have keep : ∀ j t, look R j = some t → k ≠ j → Same t.fp w w' := fun j t e hkj => .of_grown hb fun g hg e2 => M.dis k j s t hk e hkj hs g (hrow g e2) hg
  refine ⟨hG, fun j t e => ?_, fun j t e => ?_, fun j t e => ?_, fun j t e ht g hg => ?_, fun j q t u e1 e2 hjq ht g hg hg2 => ?_⟩
  · rw [look_cons] at e; split at e
    · cases e; exact hF
    · rename_i hne; exact M.dep j t e w w' (keep j t e hne) (M.at_ j t e)
  · rw [look_cons] at e; split at e
    · cases e; exact hdep
    · exact M.dep j t e
  · rw [look_cons] at e; split at e
    · cases e; exact fun g hg => (hlo g hg).1
    · exact fun g hg => Nat.lt_of_lt_of_le (M.lt j t e g hg) hb.size
  · rw [look_cons] at e; split at e
    · cases e
      rcases (hlo g hg).2 with h | h
      · exact M.own k s hk hs g h
      · exact .inl (Nat.le_trans M.le h)
    · exact M.own j t e ht g hg
  · rw [look_cons] at e1 e2
    by_cases h1 : k = j
    · rw [if_pos h1] at e1; cases e1
      have hkq : k ≠ q := fun e => hjq (h1.symm.trans e)
      rw [if_neg hkq] at e2
      rcases (hlo g hg).2 with h | h
      · exact M.dis k q s u hk e2 hkq hs g h hg2
      · have := M.lt q u e2 g hg2; omega
    · rw [if_neg h1] at e1
      by_cases h2 : k = q
      · rw [if_pos h2] at e2; cases e2
        rcases (hlo g hg2).2 with h | h
        · exact M.dis k j s t hk e1 h1 hs g h hg
        · have := M.lt j t e1 g hg; omega
      · rw [if_neg h2] at e2
        exact M.dis j q t u e1 e2 hjq ht g hg hg2
end
/-- A block that is known whole: one's own, or the one that may be written. -/
def blkR (g : Nat) (t : TypeId) (c : Array Value) : Res := ⟨true, fun b => b = g, fun w => w.heap[g]? = some (.cells c t (0, 0))⟩
/-- One that is only read. -/
def blkO (g : Nat) (t : TypeId) (c : Array Value) : Res := ⟨false, fun b => b = g, fun w => w.heap[g]? = some (.cells c t (0, 0))⟩
theorem blkR_dep {g : Nat} {t : TypeId} {c : Array Value} : ∀ u u', Same (blkR g t c).fp u u' → (blkR g t c).F u → (blkR g t c).F u' := fun u u' hs h => hs g _ rfl h
section
variable {G : Option Nat} {w0 w w' : World} {R : List (Nat × Res)}
/-- A new block. -/
theorem Mx.alloc (M : Mx G w0 w R) (i : Nat) (t : TypeId) (c : Array Value) : Mx G w0 (w.alloc (.cells c t)) ((i, blkR w.heap.size t c) :: R) :=
  M.fresh (step_alloc w _) i _ (heap_alloc_new _ _) blkR_dep (fun g hg => by cases hg; exact ⟨Nat.le_refl _, by simp⟩)
theorem Mx.newb (M : Mx G w0 w R) (h : Below w.heap.size w w') (i : Nat) {g : Nat} {t : TypeId} {c : Array Value} (hg : w.heap.size ≤ g) (hc : w'.heap[g]? = some (.cells c t (0, 0))) : Mx G w0 w' ((i, blkR g t c) :: R) :=
  M.fresh h i _ hc blkR_dep (fun b hb => by cases hb; exact ⟨hg, heap_lt hc⟩)
/-- The block that may be written. -/
theorem Mx.theG {g : Nat} {t : TypeId} {c : Array Value} (h : w.heap[g]? = some (.cells c t (0, 0))) (i : Nat) : Mx (some g) w w [(i, blkR g t c)] :=
  (Mx.startG w g).cons i _ h blkR_dep (fun b hb => by cases hb; exact heap_lt h) (fun _ b hb => by cases hb; exact .inr rfl) fun k s e => by cases e
/-- A store. -/
theorem Mx.put (M : Mx G w0 w R) {k g : Nat} {t : TypeId} {c c' : Array Value} (hk : look R k = some (blkR g t c)) (hg : w.grownBy w' (some g)) (hc : w'.heap[g]? = some (.cells c' t (0, 0))) : Mx G w0 w' ((k, blkR g t c') :: R) :=
  M.write hk rfl hg (fun b hb => by cases hb; rfl) _ hc blkR_dep (fun b hb => by cases hb; exact ⟨heap_lt hc, .inl rfl⟩)
theorem Mx.blk (M : Mx G w0 w R) {k g : Nat} {t : TypeId} {c : Array Value} (hk : look R k = some (blkR g t c)) : w.heap[g]? = some (.cells c t (0, 0)) := M.at_ k _ hk
theorem Mx.roB (M : Mx G w0 w R) {k g : Nat} {t : TypeId} {c : Array Value} (hk : look R k = some (blkO g t c)) : w.heap[g]? = some (.cells c t (0, 0)) := M.at_ k _ hk
end

section
variable {P : Program} {a : Act} {w : World} {o : Oper}
theorem y_cell {g k : Nat} {t : TypeId} {c : Array Value} (h : w.heap[g]? = some (.cells c t (0, 0))) {v : Value} (hk : c[k]? = some v) : w.cell? ⟨g, k, none⟩ = some v := by simp [World.cell?, h, hk]
def yPlain : TypeDesc → Bool
  | .struct _ => false
  | .array _ _ => false
  | _ => true
/-- A cell is loaded. -/
theorem y_ld1 (ty : TypeId) (x : Operand) (ho : o.op = .load ty x) {g k : Nat} (hx : a.eval x = .pointer (some ⟨g, k, none⟩)) {t : TypeId} {c : Array Value} (hg : w.heap[g]? = some (.cells c t (0, 0))) {v : Value} (hv : c[k]? = some v) {d : TypeDesc} (hu : P.underlying ty = some d) (hd : yPlain d = true) : (execOp a.eval o).run P w = .ok (.value v) w := by
  have hc := y_cell hg hv
  have h1 : (isAgg ty).run P w = .ok false w := by
    unfold isAgg
    simp only [Sem.run_bind, run_underlying hu, Result.andThen_ok]
    cases d <;> first | rfl | cases hd
  unfold execOp
  simp only [ho, hx, Instr.loadAt, Instr.sureAddr, loadVar, Sem.run_bind, Sem.run_pure, Result.andThen_ok, h1, Bool.false_eq_true, if_false]
  simp [hc, Result.andThen]
/-- A struct, an array is loaded, out of a greater one or whole. -/
theorem y_ldN (ty : TypeId) (x : Operand) (ho : o.op = .load ty x) {g k : Nat} (hx : a.eval x = .pointer (some ⟨g, k, none⟩)) {t : TypeId} {c : Array Value} (hg : w.heap[g]? = some (.cells c t (0, 0))) (s : Array Value) (hs : ∀ (j : Nat) (v : Value), s[j]? = some v → c[k + j]? = some v) {d : TypeDesc} (hu : P.underlying ty = some d)
    (hd : yPlain d = false) (hi : (P.info? ty).map (·.size) = some s.size) : (execOp a.eval o).run P w = .ok (.value (.agg s)) w := by
  have hl : (loadCells ⟨g, k, none⟩ s.toList.length).run P w = .ok s.toList.toArray w :=
    run_loadCells_list (P := P) w ⟨g, k, none⟩ s.toList (fun j v hv => by
      have hadd : (⟨g, k, none⟩ : Addr).add j = ⟨g, k + j, none⟩ := by unfold Addr.add; split <;> simp_all
      rw [hadd]
      exact y_cell hg (hs j v (by simpa using hv)))
  have hrun : (Instr.loadAt ty (.pointer (some ⟨g, k, none⟩))).run P w = .ok (.agg s) w := by
    simp only [Instr.loadAt, Instr.sureAddr, Sem.run_bind, Sem.run_pure, Result.andThen_ok]
    cases hq : P.info? ty with
    | none => simp [hq] at hi
    | some i =>
      have hz : i.size = s.size := by simpa [hq] using hi
      have hagg : (isAgg ty).run P w = .ok true w := by
        unfold isAgg
        rw [Sem.run_bind, run_underlying hu w]
        cases d <;> first | rfl | cases hd
      simp only [Array.length_toList, Array.toArray_toList] at hl
      simp [loadVar, Sem.run_bind, hagg, sizeOf, typeInfo, hq, hz, hl]
  unfold execOp
  simp only [ho, hx, Sem.run_bind, hrun, Result.andThen_ok, Sem.run_pure]
theorem y_all {s c : Array Value} (h : s = c) : ∀ (j : Nat) (v : Value), s[j]? = some v → c[0 + j]? = some v := fun j v e => by rw [Nat.zero_add, ← h]; exact e
/-- A store of a value whose cells are these. -/
theorem y_st (ty : TypeId) (x y : Operand) (ho : o.op = .store ty x y) {g k : Nat} (hx : a.eval x = .pointer (some ⟨g, k, none⟩)) {v : Value} (hy : a.eval y = v) {t : TypeId} {c : Array Value} (hg : w.heap[g]? = some (.cells c t (0, 0))) (s c' : Array Value) (hv : v.cells = s) (hos : k + s.size ≤ c.size) (h1 : s.all (·.oneCell') = true) (hc' : (c.toList.take k ++ s.toList ++ c.toList.drop (k + s.size)).toArray = c')
    (hi : (P.info? ty).map (·.size) = some s.size) : (execOp a.eval o).run P w = .ok .skip (w.setRow g c') := by
  have hrun : (Instr.storeAt ty (.pointer (some ⟨g, k, none⟩)) v).run P w = .ok () (w.setRow g c') := by
    simp only [Instr.storeAt, Instr.sureAddr, Sem.run_bind, Sem.run_pure, Result.andThen_ok]
    have := run_storeCells_at (P := P) g k t s.toList 0 c w hg (by simpa using hos) (fun v hv => (Array.all_eq_true_iff_forall_mem.1 h1) v (by simpa using hv))
    simp only [Nat.add_zero, Array.length_toList] at this
    rw [hc'] at this
    cases hq : P.info? ty with
    | none => simp [hq] at hi
    | some i =>
      have hz : i.size = s.size := by simpa [hq] using hi
      simp [storeVar, Sem.run_bind, sizeOf, typeInfo, hq, hz, hv, this]
  unfold execOp
  simp only [ho, hx, hy, Sem.run_bind, hrun, Result.andThen_ok, Sem.run_pure]
end
section
variable {P : Program} {ops : Array Oper} {Q : Exit → Act → World → Prop} {a : Act} {w w0 : World} {rest : List Oper} {o : Oper} {n : Nat} {G : Option Nat} {V : List (Nat × Value)} {R : List (Nat × Res)}
theorem wl_alloc (hw : Region.wanted o (yielded ops a.tmps) = true) {d : Nat} (hd : o.dst = some d) (F : Fx n a V) (hn : Nat.blt d n = true) (M : Mx G w0 w R) (i : Nat) {t : TypeId} {c : Array Value} (hr : (execOp a.eval o).run P w = .ok (.value (.pointer (some ⟨w.heap.size, 0, none⟩))) (w.alloc (.cells c t)))
    (h : ∀ g a' w', Fx n a' ((d, .pointer (some ⟨g, 0, none⟩)) :: V) → Mx G w0 w' ((i, blkR g t c) :: R) → wpList P ops Q rest a' w') : wpList P ops Q (o :: rest) a w :=
  wl_run hw hd F hn _ hr fun a' F' => h _ a' _ F' (M.alloc i t c)
theorem wl_st (hw : Region.wanted o (yielded ops a.tmps) = true) (hd : o.dst = none) (F : Fx n a V) (M : Mx G w0 w R) {k g off : Nat} {t : TypeId} {c : Array Value} (hk : look R k = some (blkR g t c)) (ty : TypeId) (x y : Operand) (ho : o.op = .store ty x y) (hx : a.eval x = .pointer (some ⟨g, off, none⟩)) {v : Value} (hy : a.eval y = v)
    (s c' : Array Value) (hv : v.cells = s) (hos : off + s.size ≤ c.size) (h1 : s.all (·.oneCell') = true) (hc' : (c.toList.take off ++ s.toList ++ c.toList.drop (off + s.size)).toArray = c') (hi : (P.info? ty).map (·.size) = some s.size)
    (h : ∀ w', Mx G w0 w' ((k, blkR g t c') :: R) → wpList P ops Q rest a w') : wpList P ops Q (o :: rest) a w :=
  wl_do hw hd F (y_st ty x y ho hx hy (M.blk hk) s c' hv hos h1 hc' hi) (h _ (M.put hk (grown_setRow _ _ _) (setRow_heap w g c c' t (0, 0) (M.blk hk))))
end
theorem y_put0 {c s : Array Value} (h : c.size = s.size) : (c.toList.take 0 ++ s.toList ++ c.toList.drop (0 + s.size)).toArray = s := by
  apply Array.ext'
  simp [h]
section
variable {a : Act} {w : World} {o : Oper}
theorem y_ext {P : Program} (x : Operand) (i : Nat) (ho : o.op = .extract x i) {vs : Array Value} (hx : a.eval x = .tuple vs) {v : Value} (hv : vs[i]? = some v) : (execOp a.eval o).run P w = .ok (.value v) w := by
  unfold execOp
  simp only [ho, hx, Instr.extract, hv]
  rfl
end

theorem args0 {f : Operand → Value} : (#[] : Array Operand).map f = #[] := by simp
theorem args1 {f : Operand → Value} {x1 : Operand} {v1 : Value} (h1 : f x1 = v1) : #[x1].map f = #[v1] := by subst h1; simp
theorem args2 {f : Operand → Value} {x1 x2 : Operand} {v1 v2 : Value} (h1 : f x1 = v1) (h2 : f x2 = v2) : #[x1, x2].map f = #[v1, v2] := by subst h1 h2; simp
theorem args3 {f : Operand → Value} {x1 x2 x3 : Operand} {v1 v2 v3 : Value} (h1 : f x1 = v1) (h2 : f x2 = v2) (h3 : f x3 = v3) : #[x1, x2, x3].map f = #[v1, v2, v3] := by subst h1 h2 h3; simp
theorem args4 {f : Operand → Value} {x1 x2 x3 x4 : Operand} {v1 v2 v3 v4 : Value} (h1 : f x1 = v1) (h2 : f x2 = v2) (h3 : f x3 = v3) (h4 : f x4 = v4) : #[x1, x2, x3, x4].map f = #[v1, v2, v3, v4] := by subst h1 h2 h3 h4; simp
theorem args5 {f : Operand → Value} {x1 x2 x3 x4 x5 : Operand} {v1 v2 v3 v4 v5 : Value} (h1 : f x1 = v1) (h2 : f x2 = v2) (h3 : f x3 = v3) (h4 : f x4 = v4) (h5 : f x5 = v5) : #[x1, x2, x3, x4, x5].map f = #[v1, v2, v3, v4, v5] := by subst h1 h2 h3 h4 h5; simp
theorem args6 {f : Operand → Value} {x1 x2 x3 x4 x5 x6 : Operand} {v1 v2 v3 v4 v5 v6 : Value} (h1 : f x1 = v1) (h2 : f x2 = v2) (h3 : f x3 = v3) (h4 : f x4 = v4) (h5 : f x5 = v5) (h6 : f x6 = v6) : #[x1, x2, x3, x4, x5, x6].map f = #[v1, v2, v3, v4, v5, v6] := by subst h1 h2 h3 h4 h5 h6; simp
theorem call_ex {P : Program} {f : FuncId} {args : Array Value} {w : World} {v : Value} {G : World → Prop} (h : Calls P f args w fun e w' => e = .returned v ∧ G w') : Calls P f args w fun e w' => ∃ u, e = .returned u ∧ (u = v ∧ G w') :=
  h.mono fun e w' h => ⟨v, h.1, rfl, h.2⟩
section
variable {a : Act} {w : World} {o : Oper} {k : IntKind} {p q : Int} {b : Bool} (ty tz : TypeId) (x y : Operand)
theorem y_lss (ho : o.op = .binOp .lss ty x y tz) (hx : a.eval x = .int k p) (hy : a.eval y = .int k q) (hb : decide (p < q) = b) : (execOp a.eval o).run Try.prog w = .ok (.value (.bool b)) w := by
  subst hb; unfold execOp; simp only [ho, hx, hy]; simp [go_sem]
theorem y_leq (ho : o.op = .binOp .leq ty x y tz) (hx : a.eval x = .int k p) (hy : a.eval y = .int k q) (hb : decide (p ≤ q) = b) : (execOp a.eval o).run Try.prog w = .ok (.value (.bool b)) w := by
  subst hb; unfold execOp; simp only [ho, hx, hy]; simp [go_sem]
theorem y_gtr (ho : o.op = .binOp .gtr ty x y tz) (hx : a.eval x = .int k p) (hy : a.eval y = .int k q) (hb : decide (q < p) = b) : (execOp a.eval o).run Try.prog w = .ok (.value (.bool b)) w := by
  subst hb; unfold execOp; simp only [ho, hx, hy]; simp [go_sem]
theorem y_geq (ho : o.op = .binOp .geq ty x y tz) (hx : a.eval x = .int k p) (hy : a.eval y = .int k q) (hb : decide (q ≤ p) = b) : (execOp a.eval o).run Try.prog w = .ok (.value (.bool b)) w := by
  subst hb; unfold execOp; simp only [ho, hx, hy]; simp [go_sem]
theorem y_eqB {p q : Bool} (ho : o.op = .binOp .eql 4 x y 4) (hx : a.eval x = .bool p) (hy : a.eval y = .bool q) (hb : (p == q) = b) : (execOp a.eval o).run Try.prog w = .ok (.value (.bool b)) w := by
  subst hb; unfold execOp; simp only [ho, hx, hy]; simp [go_sem]
theorem y_neB {p q : Bool} (ho : o.op = .binOp .neq 4 x y 4) (hx : a.eval x = .bool p) (hy : a.eval y = .bool q) (hb : (p != q) = b) : (execOp a.eval o).run Try.prog w = .ok (.value (.bool b)) w := by
  subst hb; unfold execOp; simp only [ho, hx, hy]; simp [go_sem]; cases p <;> cases q <;> rfl
theorem y_eqI (ho : o.op = .binOp .eql ty x y tz) (hx : a.eval x = .int k p) (hy : a.eval y = .int k q) (hu : Try.prog.underlying ty = some (.int k)) (hb : (p == q) = b) : (execOp a.eval o).run Try.prog w = .ok (.value (.bool b)) w := by
  subst hb; unfold execOp; simp only [ho, hx, hy]; simp [go_sem, run_underlying hu]
theorem y_neI (ho : o.op = .binOp .neq ty x y tz) (hx : a.eval x = .int k p) (hy : a.eval y = .int k q) (hu : Try.prog.underlying ty = some (.int k)) (hb : (p != q) = b) : (execOp a.eval o).run Try.prog w = .ok (.value (.bool b)) w := by
  subst hb; unfold execOp; simp only [ho, hx, hy]; simp [go_sem, run_underlying hu]
theorem y_addI (ho : o.op = .binOp .add ty x y tz) (hx : a.eval x = .int .i64 p) (hy : a.eval y = .int .i64 q) {z : Int} (hz : p + q = z) (h0 : -9223372036854775808 ≤ z ∧ z < 9223372036854775808) : (execOp a.eval o).run Try.prog w = .ok (.value (.int .i64 z)) w := by
  subst hz; unfold execOp; simp only [ho, hx, hy]; simp [go_sem, Go.IntWalk.i64_in (p + q) (by omega)]
theorem y_subI (ho : o.op = .binOp .sub ty x y tz) (hx : a.eval x = .int .i64 p) (hy : a.eval y = .int .i64 q) {z : Int} (hz : p - q = z) (h0 : -9223372036854775808 ≤ z ∧ z < 9223372036854775808) : (execOp a.eval o).run Try.prog w = .ok (.value (.int .i64 z)) w := by
  subst hz; unfold execOp; simp only [ho, hx, hy]; simp [go_sem, Go.IntWalk.i64_in (p - q) (by omega)]
theorem y_mulI (ho : o.op = .binOp .mul ty x y tz) (hx : a.eval x = .int .i64 p) (hy : a.eval y = .int .i64 q) {z : Int} (hz : p * q = z) (h0 : -9223372036854775808 ≤ z ∧ z < 9223372036854775808) : (execOp a.eval o).run Try.prog w = .ok (.value (.int .i64 z)) w := by
  have e : IntKind.i64.wrap (p * q) = z := by rw [hz, IntKind.wrap_i64]; omega
  unfold execOp; simp only [ho, hx, hy]; simp [go_sem, e]
end
theorem y_eqV {a : Act} {w : World} {o : Oper} (ty tz : TypeId) (x y : Operand) {u v : Value} {b : Bool} (ho : o.op = .binOp .eql ty x y tz) (hx : a.eval x = u) (hy : a.eval y = v) (hg : (eqGuard .eql ty x y u v).run Try.prog w = .ok () w) (hr : (binOp .eql ty u v).run Try.prog w = .ok (.bool b) w) : (execOp a.eval o).run Try.prog w = .ok (.value (.bool b)) w := by
  unfold execOp; simp only [ho, hx, hy]; simp [hr, hg, Result.andThen]
theorem y_neV {a : Act} {w : World} {o : Oper} (ty tz : TypeId) (x y : Operand) {u v : Value} {b : Bool} (ho : o.op = .binOp .neq ty x y tz) (hx : a.eval x = u) (hy : a.eval y = v) (hg : (eqGuard .neq ty x y u v).run Try.prog w = .ok () w) (hr : (binOp .neq ty u v).run Try.prog w = .ok (.bool b) w) : (execOp a.eval o).run Try.prog w = .ok (.value (.bool b)) w := by
  unfold execOp; simp only [ho, hx, hy]; simp [hr, hg, Result.andThen]
theorem y_eqA {a : Act} {w : World} {o : Oper} (ty tz : TypeId) (x y : Operand) {c d : Array Value} {b : Bool} (ho : o.op = .binOp .eql ty x y tz) (hx : a.eval x = .agg c) (hy : a.eval y = .agg d) (hgt : Try.prog.eqGuardType Try.prog.depth ty = false) (h : (Op.equalIn 10000 ty (.agg c) (.agg d)).run Try.prog w = .ok b w) : (execOp a.eval o).run Try.prog w = .ok (.value (.bool b)) w := by
  refine y_eqV ty tz x y ho hx hy ?_ ?_
  · simp [eqGuard, go_sem, hgt]
  · simp [binOp, go_sem, h, Op.maxDepth, Op.equal]
theorem y_neA {a : Act} {w : World} {o : Oper} (ty tz : TypeId) (x y : Operand) {c d : Array Value} {b : Bool} (ho : o.op = .binOp .neq ty x y tz) (hx : a.eval x = .agg c) (hy : a.eval y = .agg d) (hgt : Try.prog.eqGuardType Try.prog.depth ty = false) (h : (Op.equalIn 10000 ty (.agg c) (.agg d)).run Try.prog w = .ok b w) : (execOp a.eval o).run Try.prog w = .ok (.value (.bool (!b))) w := by
  refine y_neV ty tz x y ho hx hy ?_ ?_
  · simp [eqGuard, go_sem, hgt]
  · simp [binOp, go_sem, h, Op.maxDepth, Op.equal]
theorem y_beqT {p q : Int} (h : p = q) : (p == q) = true := by subst h; exact beq_self_eq_true p
theorem y_beqF {p q : Int} (h : ¬ p = q) : (p == q) = false := beq_eq_false_iff_ne.2 h
theorem y_bneF {p q : Int} (h : p = q) : (p != q) = false := by rw [bne, y_beqT h]; rfl
theorem y_bneT {p q : Int} (h : ¬ p = q) : (p != q) = true := by rw [bne, y_beqF h]; rfl
theorem same_eq {P : Program} {f : FuncId} {args : Array Value} {w : World} {v : Value} (h : Calls P f args w fun e w' => e = .returned v ∧ w = w') : Calls P f args w fun e w' => e = .returned v ∧ Below w.heap.size w w' :=
  h.mono fun e w' ⟨h1, h2⟩ => ⟨h1, h2 ▸ Below.refl _ _⟩
theorem call_eqS {P : Program} {f : FuncId} {args : Array Value} {w : World} {v : Value} (h : Calls P f args w fun e w' => e = .returned v ∧ Below w.heap.size w w') : Calls P f args w fun e w' => ∃ u, e = .returned u ∧ Below w.heap.size w w' ∧ (StK.eq v).F w' u :=
  h.mono fun e w' h => ⟨v, h.1, h.2, rfl⟩
theorem y_skipU {ops : Array Oper} {o : Oper} {a : Act} {F : World → Value → Prop} {w : World} {g : Nat} {b : Bool} {og : Oper} {d : Tmp} (hg : o.guard = some (g, b)) (ho : ops[g]? = some og) (hd : og.dst = some d) (hv' : a.eval (.tmp d) = undef) (hF : F w undef) {X : Prop} :
    if Region.wanted o (yielded ops a.tmps) = true then X else F w undef := by
  rw [wanted_un hg ho hd hv', if_neg (by simp)]
  exact hF
end Go.Proofs.Ytgccbfkofkohpaa
