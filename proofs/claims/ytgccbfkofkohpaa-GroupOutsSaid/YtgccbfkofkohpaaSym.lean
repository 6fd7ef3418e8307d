/- Frames and memory, each known by one fact: what a walk that is written by program stands on. -/
import Derived.Test.YtgccbfkofkohpaaGenT
namespace Go.Proofs.Ytgccbfkofkohpaa
set_option linter.unusedVariables false
set_option maxRecDepth 20000
set_option linter.unusedSimpArgs false
open Go.ChangeShapes Go.WideShapes Go.ChangeAt Go.RowKit Go.Shelf
/-- The first that is filed under t. -/
def look {α : Type} : List (Nat × α) → Nat → Option α
  | [], _ => none
  | p :: L, t => match Nat.beq p.1 t with
    | true => some p.2
    | false => look L t
theorem look_cons {α : Type} (k : Nat) (x : α) (L : List (Nat × α)) (t : Nat) : look ((k, x) :: L) t = if k = t then some x else look L t := by
  have e : look ((k, x) :: L) t = (match Nat.beq k t with
    | true => some x
    | false => look L t) := rfl
  rw [e]
  by_cases h : k = t
  · subst h
    rw [if_pos rfl, Nat.beq_refl]
  · have : Nat.beq k t = false := by cases hb : Nat.beq k t with
      | false => rfl
      | true => exact absurd (Nat.eq_of_beq_eq_true hb) h
    rw [if_neg h, this]
/-- A frame of n slots: these are known. -/
structure Fx (n : Nat) (a : Act) (V : List (Nat × Value)) : Prop where
  size : a.tmps.size = n
  defers : a.defers = []
  at_ : ∀ t v, look V t = some v → a.eval (.tmp t) = v
theorem Fx.get {n : Nat} {a : Act} {V : List (Nat × Value)} (F : Fx n a V) {t : Nat} {v : Value} (h : look V t = some v) : a.eval (.tmp t) = v := F.at_ t v h
theorem Fx.put {n : Nat} {a : Act} {V : List (Nat × Value)} (F : Fx n a V) (d : Nat) (v : Value) (hd : Nat.blt d n = true) : Fx n (a.put (some d) v) ((d, v) :: V) :=
  ⟨by rw [put_size]; exact F.size, by rw [put_defers]; exact F.defers, fun t u h => by
    rw [look_cons] at h
    by_cases e : d = t
    · subst e
      rw [if_pos rfl] at h
      rw [eval_put_self (by rw [F.size]; exact Nat.le_of_ble_eq_true hd)]
      exact Option.some.inj h
    · rw [if_neg e] at h
      rw [eval_put_ne (fun e2 => e (Option.some.inj e2))]
      exact F.at_ t u h⟩
theorem Fx.eq {n : Nat} {a : Act} {V V' : List (Nat × Value)} (F : Fx n a V) (h : ∀ t v, look V' t = some v → look V t = some v) : Fx n a V' := ⟨F.size, F.defers, fun t v e => F.at_ t v (h t v e)⟩
theorem Fx.zero {vs : Array Value} {n m : Nat} (V : List (Nat × Value)) (hn : vs.size + m = n) (h : ∀ t v, look V t = some v → vs[t]? = some v) : Fx n { tmps := vs ++ Array.replicate m undef, defers := [] } V :=
  ⟨by simp [hn], rfl, fun t v e => by
    have h1 := h t v e
    have hl := (Array.getElem?_eq_some_iff.1 h1).1
    simp [Act.eval, Array.getD_eq_getD_getElem?, Array.getElem?_append_left hl, h1]⟩
/-- The parameters' values, filed from k on. -/
def file : Nat → List Value → List (Nat × Value)
  | _, [] => []
  | k, v :: L => (k, v) :: file (k + 1) L
theorem look_file : ∀ (L : List Value) (k t : Nat) (v : Value), look (file k L) t = some v → k ≤ t ∧ L[t - k]? = some v
  | [], k, t, v, h => by cases h
  | u :: L, k, t, v, h => by
    unfold file at h
    rw [look_cons] at h
    by_cases e : k = t
    · subst e
      rw [if_pos rfl] at h
      exact ⟨Nat.le_refl _, by rw [Nat.sub_self]; simpa using h⟩
    · rw [if_neg e] at h
      obtain ⟨h1, h2⟩ := look_file L (k + 1) t v h
      exact ⟨by omega, by rw [show t - k = (t - (k + 1)) + 1 by omega]; simpa using h2⟩
section
variable {P : Program}
/-- A function's body, from its parameters on. -/
theorem calls_fx {f : FuncId} {fn : Func} {c : Code} {args : List Value} {w : World} {R : Ending → World → Prop} (n : Nat) (hf : P.funcs[f]? = some fn) (hb : fn.body = some c) (hn : fn.ntmps = n) (hl : Nat.ble args.length n = true)
    (h : ∀ a, Fx n a (file 0 args) → c.wp P (bodyPost P fn R) a w) : Calls P f args.toArray w R := by
  refine calls_of_wp hf hb (h _ ?_)
  have hl' : args.length ≤ n := Nat.le_of_ble_eq_true hl
  refine Fx.zero _ (by simp [hn]; omega) fun t v e => ?_
  have := (look_file args 0 t v e).2
  simpa using this
section
variable {ops : Array Oper} {Q : Exit → Act → World → Prop} {a : Act} {w w' : World} {rest : List Oper} {o : Oper} {n : Nat} {V : List (Nat × Value)}
/-- An operation that yields. -/
theorem wl_run (hw : Region.wanted o (yielded ops a.tmps) = true) {d : Nat} (hd : o.dst = some d) (F : Fx n a V) (hn : Nat.blt d n = true) (v : Value) (hr : (execOp a.eval o).run P w = .ok (.value v) w')
    (h : ∀ a', Fx n a' ((d, v) :: V) → wpList P ops Q rest a' w') : wpList P ops Q (o :: rest) a w :=
  wpList_want hw fun K hK => by
    unfold Oper.wp
    rw [hr]
    have := F.put d v hn
    rw [← hd] at this
    exact hK _ _ (h _ this)
/-- One that writes, and yields nothing. -/
theorem wl_do (hw : Region.wanted o (yielded ops a.tmps) = true) (hd : o.dst = none) (F : Fx n a V) (hr : (execOp a.eval o).run P w = .ok .skip w')
    (h : wpList P ops Q rest a w') : wpList P ops Q (o :: rest) a w :=
  wpList_want hw fun K hK => by
    unfold Oper.wp
    rw [hr]
    have e : a.put o.dst undef = a := by rw [hd]; rfl
    show K (a.put o.dst undef) w'
    rw [e]
    exact hK _ _ h
theorem wl_skip (hw : Region.wanted o (yielded ops a.tmps) = false) {d : Nat} (hd : o.dst = some d) (F : Fx n a V) (hn : Nat.blt d n = true)
    (h : ∀ a', Fx n a' ((d, undef) :: V) → wpList P ops Q rest a' w) : wpList P ops Q (o :: rest) a w :=
  wpList_skip hw (by
    have := F.put d undef hn
    rw [← hd] at this
    exact h _ this)
theorem wanted_no {ops : Array Oper} {g : Nat} {b : Bool} {og : Oper} {d : Tmp} (hg : o.guard = some (g, b)) (ho : ops[g]? = some og) (hd : og.dst = some d) (hv : a.eval (.tmp d) = .bool (!b)) : Region.wanted o (yielded ops a.tmps) = false := by
  rw [wanted_by hg ho hd hv]; cases b <;> rfl
theorem wanted_un {ops : Array Oper} {g : Nat} {b : Bool} {og : Oper} {d : Tmp} (hg : o.guard = some (g, b)) (ho : ops[g]? = some og) (hd : og.dst = some d) (hv : a.eval (.tmp d) = undef) : Region.wanted o (yielded ops a.tmps) = false := by
  have h1 : yielded ops a.tmps g = none := by
    simp only [yielded, ho, Option.bind_some, hd]
    simp only [Act.eval, Array.getD_eq_getD_getElem?] at hv
    cases h : a.tmps[d]? with
    | none => simp [h]
    | some u => rw [h] at hv; simp at hv; subst hv; simp [h, undef]
  simp [Region.wanted, hg, h1]
/-- A call. -/
theorem wl_call (hw : Region.wanted o (yielded ops a.tmps) = true) {d : Nat} (hd : o.dst = some d) (F : Fx n a V) (hn : Nat.blt d n = true) {f : FuncId} {args : Array Operand} {ts : Array TypeId} (ho : o.op = .call { callee := .value (.func f), args := args, argTypes := ts })
    (hr : ∀ args w, (callFunc f args).run P w = .ok (.enter f args) w) (vals : Array Value) (hv : args.map a.eval = vals) {G : Value → World → Prop}
    (hc : Calls P f vals w fun e w' => ∃ v, e = .returned v ∧ G v w')
    (h : ∀ v w' a', G v w' → Fx n a' ((d, v) :: V) → wpList P ops Q rest a' w') : wpList P ops Q (o :: rest) a w :=
  wpList_want hw fun K hK => by
    subst hv
    unfold Oper.wp
    have : (execOp a.eval o).run P w = .ok (.enter f (args.map a.eval)) w := by
      simp [execOp, ho, resolve, invoke, Act.eval, go_sem, hr]
    rw [this]
    refine hc.mono fun e w' ⟨v, he, hb⟩ => ?_
    subst he
    have := F.put d v hn
    rw [← hd] at this
    exact hK _ _ (h _ _ _ hb this)
end
theorem res1 {fn : Func} {t : Tmp} {a : Act} {v : Value} {w : World} (h : fn.results = #[.tmp t]) (e : a.eval (.tmp t) = v) : (results fn a.tmps).run P w = .ok v w := by
  rw [results_tmp h]; exact congrArg (fun v => Result.ok v w) e
theorem res0 {fn : Func} {a : Act} {w : World} (h : fn.results = #[]) : (results fn a.tmps).run P w = .ok (.tuple #[]) w := results_none h _ _ _
theorem res2 {fn : Func} {t u : Tmp} {a : Act} {v x : Value} {w : World} (h : fn.results = #[.tmp t, .tmp u]) (e : a.eval (.tmp t) = v) (e2 : a.eval (.tmp u) = x) : (results fn a.tmps).run P w = .ok (.tuple #[v, x]) w := by
  rw [results_tmp2 h, ← e, ← e2]; rfl
/-- **A drawn region: its head by what each operation leaves behind, its tail in the text's order.** -/
def layV (p : Nat → Value) : List Oper → Nat → List (Nat × Value) → List (Nat × Value)
  | [], _, V => V
  | o :: l, k, V => match o.dst with
    | some d => layV p l (k + 1) ((d, p k) :: V)
    | none => layV p l (k + 1) V
theorem Fx.lay (p : Nat → Value) {n : Nat} : ∀ (l : List Oper) (k : Nat) (a : Act) (V : List (Nat × Value)), Fx n a V → (∀ (i : Nat) (o : Oper) (d : Nat), l[i]? = some o → o.dst = some d → d < n) → Fx n (layAll p l k a) (layV p l k V)
  | [], _, _, _, F, _ => F
  | o :: l, k, a, V, F, h => by
    have h0 := h 0 o
    cases ho : o.dst with
    | none =>
      have e : layAll p (o :: l) k a = layAll p l (k + 1) a := by simp only [layAll, ho]; rfl
      rw [e]
      unfold layV
      rw [ho]
      exact Fx.lay p l (k + 1) a V F fun i o' d h1 h2 => h (i + 1) o' d (by simpa using h1) h2
    | some d =>
      have e : layAll p (o :: l) k a = layAll p l (k + 1) (a.put (some d) (p k)) := by simp only [layAll, ho]
      rw [e]
      unfold layV
      rw [ho]
      exact Fx.lay p l (k + 1) _ _ (F.put d (p k) (by have := h0 d rfl ho; simp [Nat.blt]; omega)) fun i o' d h1 h2 => h (i + 1) o' d (by simpa using h1) h2
theorem relOkT_dst {L : List Oper} {m n : Nat} (hok : relOkT L m n = true) : ∀ (i : Nat) (o : Oper) (d : Nat), (L.take m)[i]? = some o → o.dst = some d → d < n := by
  unfold relOkT at hok
  simp only [Bool.and_eq_true, List.all_eq_true] at hok
  obtain ⟨⟨⟨⟨-, -⟩, hall⟩, -⟩, -⟩ := hok
  intro i o d ho hd
  have hi : i < m := by
    rw [List.getElem?_take] at ho
    split at ho
    · assumption
    · cases ho
  have h1 := hall i (List.mem_range.2 hi)
  simp only [ho, hd, Bool.and_eq_true, decide_eq_true_eq] at h1
  exact h1.1.1
theorem region_fx {id : Nat} {Q : Exit → Act → World → Prop} {a0 : Act} {W : World} {L : List Oper} {n : Nat} {V : List (Nat × Value)} (F : Fx n a0 V) (S : List StK) (m : Nat) (hm : P.follows .mixedOrders = true) (hok : relOkT L m n = true)
    (hop : HopAllT P L m Q (stYK S) a0 W (L.take m) 0)
    (hend : ∀ (p : Nat → Value) (a : Act) (w : World), Kc W.heap.size W w → Fx n a (layV p (L.take m) 0 V) → YAll (stYK S) p w (L.take m) 0 → wpList P L.toArray Q (L.drop m) a w) : (Code.region id L.toArray true).wp P Q a0 W :=
  wp_region_stT S m n F.size hm hok hop fun p w hb hY => hend p _ w (by exact Kc.of_below (Nat.le_refl _) hb) (F.lay p (L.take m) 0 a0 V (relOkT_dst hok)) hY
end
/-- Something in memory: whether it may be written; the blocks that it lies in; what is known. -/
structure Res where
  wr : Bool
  lo : Nat
  hi : Nat
  F : World → Prop
/-- From world to world what lies in these blocks is as it was. -/
def Same (lo hi : Nat) (w w' : World) : Prop := ∀ (g : Nat) (cs : Array Value) (t : TypeId) (fr : Nat × Nat), lo ≤ g → g < hi → w.heap[g]? = some (Obj.cells cs t fr) → ∃ fr2 : Nat × Nat, w'.heap[g]? = some (Obj.cells cs t fr2) ∧ (t ≠ 5 → fr2 = fr)
structure Mx (B : Nat) (w0 w : World) (R : List (Nat × Res)) : Prop where
  below : Below B w0 w
  base : B ≤ w0.heap.size
  at_ : ∀ i r, look R i = some r → r.F w
  dep : ∀ i r, look R i = some r → ∀ u u', Same r.lo r.hi u u' → r.F u → r.F u'
  lt : ∀ i r, look R i = some r → r.hi ≤ w.heap.size
  own : ∀ i r, look R i = some r → r.wr = true → B ≤ r.lo
  dis : ∀ i j r s, look R i = some r → look R j = some s → i ≠ j → r.wr = true → r.hi ≤ s.lo ∨ s.hi ≤ r.lo
section
variable {B : Nat} {w0 w w' : World} {R : List (Nat × Res)}
theorem Kc.same {b lo hi : Nat} (h : Kc b w w') : Same lo hi w w' := fun g cs t fr _ _ hg => h.kept g cs t fr hg
theorem Mx.start (B : Nat) (w : World) (hB : B = w.heap.size) : Mx B w w [] :=
  ⟨Below.refl _ _, by omega, fun _ _ h => (by cases h), fun _ _ h => (by cases h), fun _ _ h => (by cases h), fun _ _ h => (by cases h), fun _ _ _ _ h => (by cases h)⟩
theorem Mx.get (M : Mx B w0 w R) {i : Nat} {r : Res} (h : look R i = some r) : r.F w := M.at_ i r h
theorem Mx.le (M : Mx B w0 w R) : B ≤ w.heap.size := Nat.le_trans M.base M.below.size
theorem Mx.kc {b : Nat} (M : Mx B w0 w R) (h : Kc b w w') (hb : B ≤ b) : Mx B w0 w' R :=
  ⟨M.below.trans (h.below.mono hb), M.base, fun i r e => M.dep i r e w w' h.same (M.at_ i r e), M.dep, fun i r e => Nat.le_trans (M.lt i r e) h.below.size, M.own, M.dis⟩
theorem Mx.step (M : Mx B w0 w R) (h : Below w.heap.size w w') : Mx B w0 w' R := M.kc (Kc.of_below (Nat.le_refl _) h) M.le
theorem Mx.reg (M : Mx B w0 w R) (h : Below w.heap.size w w') : Mx B w0 w' R := M.step h
/-- One thing more, in blocks that are new. -/
theorem Mx.fresh (M : Mx B w0 w R) (h : Below w.heap.size w w') (i : Nat) (r : Res) (hF : r.F w') (hdep : ∀ u u', Same r.lo r.hi u u' → r.F u → r.F u') (hlo : w.heap.size ≤ r.lo) (hhi : r.hi ≤ w'.heap.size) : Mx B w0 w' ((i, r) :: R) := by
  have M' := M.step h
  have hB := M.le
  refine ⟨M'.below, M'.base, fun j s e => ?_, fun j s e => ?_, fun j s e => ?_, fun j s e hs => ?_, fun j k s t e1 e2 hjk hs => ?_⟩
  · rw [look_cons] at e; split at e
    · cases e; exact hF
    · exact M'.at_ j s e
  · rw [look_cons] at e; split at e
    · cases e; exact hdep
    · exact M'.dep j s e
  · rw [look_cons] at e; split at e
    · cases e; exact hhi
    · exact M'.lt j s e
  · rw [look_cons] at e; split at e
    · cases e; omega
    · exact M'.own j s e hs
  · rw [look_cons] at e1 e2
    by_cases h1 : i = j
    · rw [if_pos h1] at e1; cases e1
      rw [if_neg (by omega)] at e2
      have := M.lt k t e2
      omega
    · rw [if_neg h1] at e1
      by_cases h2 : i = k
      · rw [if_pos h2] at e2; cases e2
        have := M.lt j s e1
        omega
      · rw [if_neg h2] at e2
        exact M'.dis j k s t e1 e2 hjk hs
/-- One thing more that is only read, in blocks of one that is read, or of old. -/
theorem Mx.more (M : Mx B w0 w R) (i : Nat) (r : Res) (hF : r.F w) (hdep : ∀ u u', Same r.lo r.hi u u' → r.F u → r.F u') (hw : r.wr = false) (hr : r.hi ≤ B ∨ ∃ k s, look R k = some s ∧ s.wr = false ∧ s.lo ≤ r.lo ∧ r.hi ≤ s.hi) : Mx B w0 w ((i, r) :: R) := by
  have hB := M.le
  refine ⟨M.below, M.base, fun j s e => ?_, fun j s e => ?_, fun j s e => ?_, fun j s e hs => ?_, fun j k s t e1 e2 hjk hs => ?_⟩
  · rw [look_cons] at e; split at e
    · cases e; exact hF
    · exact M.at_ j s e
  · rw [look_cons] at e; split at e
    · cases e; exact hdep
    · exact M.dep j s e
  · rw [look_cons] at e; split at e
    · cases e
      rcases hr with h | ⟨k, s, h1, h2, h3, h4⟩
      · omega
      · have := M.lt k s h1; omega
    · exact M.lt j s e
  · rw [look_cons] at e; split at e
    · cases e; rw [hw] at hs; cases hs
    · exact M.own j s e hs
  · rw [look_cons] at e1 e2
    by_cases h1 : i = j
    · rw [if_pos h1] at e1; cases e1; rw [hw] at hs; cases hs
    · rw [if_neg h1] at e1
      by_cases h2 : i = k
      · rw [if_pos h2] at e2; cases e2
        rcases hr with h | ⟨q, u, u1, u2, u3, u4⟩
        · have := M.own j s e1 hs; omega
        · have hjq : j ≠ q := fun e => by subst e; rw [e1] at u1; cases u1; rw [u2] at hs; cases hs
          rcases M.dis j q s u e1 u1 hjq hs with h | h
          · exact .inl (by omega)
          · exact .inr (by omega)
      · rw [if_neg h2] at e2
        exact M.dis j k s t e1 e2 hjk hs
/-- What may be written is written: it lies where it lay, or in new blocks. -/
theorem Mx.write (M : Mx B w0 w R) {k : Nat} {s : Res} (hk : look R k = some s) (hs : s.wr = true) (hb : Below B w w') (hsame : ∀ lo hi, hi ≤ w.heap.size → hi ≤ s.lo ∨ s.hi ≤ lo → Same lo hi w w') (r : Res) (hF : r.F w') (hdep : ∀ u u', Same r.lo r.hi u u' → r.F u → r.F u') (hhi : r.hi ≤ w'.heap.size)
    (hlo : (s.lo ≤ r.lo ∧ r.hi ≤ s.hi) ∨ w.heap.size ≤ r.lo) : Mx B w0 w' ((k, r) :: R) := by
  have hB := M.le
  have hBs := M.own k s hk hs
  have other : ∀ j t, look R j = some t → k ≠ j → s.hi ≤ t.lo ∨ t.hi ≤ s.lo := fun j t e h => M.dis k j s t hk e h hs
  refine ⟨M.below.trans hb, M.base, fun j t e => ?_, fun j t e => ?_, fun j t e => ?_, fun j t e ht => ?_, fun j q t u e1 e2 hjq ht => ?_⟩
  · rw [look_cons] at e; split at e
    · cases e; exact hF
    · rename_i hne
      refine M.dep j t e w w' (hsame _ _ (M.lt j t e) ?_) (M.at_ j t e)
      rcases other j t e hne with h | h
      · exact .inr h
      · exact .inl h
  · rw [look_cons] at e; split at e
    · cases e; exact hdep
    · exact M.dep j t e
  · rw [look_cons] at e; split at e
    · cases e; exact hhi
    · exact Nat.le_trans (M.lt j t e) hb.size
  · rw [look_cons] at e; split at e
    · cases e; omega
    · exact M.own j t e ht
  · rw [look_cons] at e1 e2
    by_cases h1 : k = j
    · rw [if_pos h1] at e1; cases e1
      rw [if_neg (by omega)] at e2
      have h3 := M.lt q u e2
      rcases hlo with ⟨l1, l2⟩ | l1
      · rcases other q u e2 (by omega) with h | h
        · exact .inl (by omega)
        · exact .inr (by omega)
      · exact .inr (by omega)
    · rw [if_neg h1] at e1
      by_cases h2 : k = q
      · rw [if_pos h2] at e2; cases e2
        have h3 := M.lt j t e1
        rcases hlo with ⟨l1, l2⟩ | l1
        · rcases other j t e1 h1 with h | h
          · exact .inr (by omega)
          · exact .inl (by omega)
        · exact .inl (by omega)
      · rw [if_neg h2] at e2
        exact M.dis j q t u e1 e2 hjq ht
theorem Mx.drop (M : Mx B w0 w R) {R' : List (Nat × Res)} (h : ∀ i r, look R' i = some r → look R i = some r) : Mx B w0 w R' :=
  ⟨M.below, M.base, fun i r e => M.at_ i r (h i r e), fun i r e => M.dep i r (h i r e), fun i r e => M.lt i r (h i r e), fun i r e => M.own i r (h i r e), fun i j r s e1 e2 => M.dis i j r s (h i r e1) (h j s e2)⟩
end
/-- A block of one's own that is known whole. -/
def blkR (g : Nat) (t : TypeId) (c : Array Value) : Res := ⟨true, g, g + 1, fun w => w.heap[g]? = some (.cells c t (0, 0))⟩
theorem blkR_dep {g : Nat} {t : TypeId} {c : Array Value} (ht : t ≠ 5) : ∀ u u', Same (blkR g t c).lo (blkR g t c).hi u u' → (blkR g t c).F u → (blkR g t c).F u' := fun u u' hs h => by
  obtain ⟨fr, h1, h2⟩ := hs g c t (0, 0) (Nat.le_refl _) (Nat.lt_succ_self _) h
  rw [h2 ht] at h1
  exact h1
theorem Same.of_grown {w w' : World} {g lo hi : Nat} (h : w.grownBy w' (some g)) (hh : hi ≤ w.heap.size) (hd : hi ≤ g ∨ g + 1 ≤ lo) : Same lo hi w w' := fun b cs t fr h1 h2 hb =>
  ⟨fr, (h.block b (by omega) (fun e => by injection e; omega)).trans hb, fun _ => rfl⟩
section
variable {B : Nat} {w0 w w' : World} {R : List (Nat × Res)}
/-- A new block. -/
theorem Mx.alloc (M : Mx B w0 w R) (i : Nat) (t : TypeId) (c : Array Value) (ht : t ≠ 5) : Mx B w0 (w.alloc (.cells c t)) ((i, blkR w.heap.size t c) :: R) :=
  M.fresh (step_alloc w _) i _ (heap_alloc_new _ _) (blkR_dep ht) (Nat.le_refl _) (by simp [blkR])
theorem Mx.newb (M : Mx B w0 w R) (h : Below w.heap.size w w') (i : Nat) {g : Nat} {t : TypeId} {c : Array Value} (ht : t ≠ 5) (hg : w.heap.size ≤ g) (hc : w'.heap[g]? = some (.cells c t (0, 0))) : Mx B w0 w' ((i, blkR g t c) :: R) :=
  M.fresh h i _ hc (blkR_dep ht) hg (heap_lt hc)
/-- A store. -/
theorem Mx.put (M : Mx B w0 w R) {k g : Nat} {t : TypeId} {c c' : Array Value} (hk : look R k = some (blkR g t c)) (ht : t ≠ 5) (hg : w.grownBy w' (some g)) (hc : w'.heap[g]? = some (.cells c' t (0, 0))) : Mx B w0 w' ((k, blkR g t c') :: R) :=
  M.write hk rfl ((Below.refl B w).grown hg M.le (fun j e => by cases e; exact M.own k _ hk rfl)) (fun lo hi h1 h2 => Same.of_grown hg h1 h2) _ hc (blkR_dep ht) (heap_lt hc) (.inl ⟨Nat.le_refl _, Nat.le_refl _⟩)
theorem Mx.blk (M : Mx B w0 w R) {k g : Nat} {t : TypeId} {c : Array Value} (hk : look R k = some (blkR g t c)) : w.heap[g]? = some (.cells c t (0, 0)) := M.at_ k _ hk
end

section
variable {P : Program} {a : Act} {w : World} {o : Oper}
theorem y_cell {g k : Nat} {t : TypeId} {c : Array Value} (h : w.heap[g]? = some (.cells c t (0, 0))) {v : Value} (hk : c[k]? = some v) : w.cell? ⟨g, k, none⟩ = some v := by simp [World.cell?, h, hk]
def yPlain : TypeDesc → Bool
  | .struct _ => false
  | .array _ _ => false
  | _ => true
/-- A cell is loaded. -/
theorem y_ld1 (ty : TypeId) (x : Operand) (ho : o.op = .load ty x) {g k : Nat} (hx : a.eval x = .pointer (some ⟨g, k, none⟩)) {t : TypeId} {c : Array Value} (hg : w.heap[g]? = some (.cells c t (0, 0))) {v : Value} (hv : c[k]? = some v) {d : TypeDesc} (hu : P.underlying ty = some d) (hd : yPlain d = true) : (execOp a.eval o).run P w = .ok (.value v) w := by
  have hc := y_cell hg hv
  have h1 : (isAgg ty).run P w = .ok false w := by
    unfold isAgg
    simp only [Sem.run_bind, run_underlying hu, Result.andThen_ok]
    cases d <;> first | rfl | cases hd
  unfold execOp
  simp only [ho, hx, Instr.loadAt, Instr.sureAddr, loadVar, Sem.run_bind, Sem.run_pure, Result.andThen_ok, h1, Bool.false_eq_true, if_false]
  simp [hc, Result.andThen]
/-- A struct, an array is loaded, out of a greater one or whole. -/
theorem y_ldN (ty : TypeId) (x : Operand) (ho : o.op = .load ty x) {g k : Nat} (hx : a.eval x = .pointer (some ⟨g, k, none⟩)) {t : TypeId} {c : Array Value} (hg : w.heap[g]? = some (.cells c t (0, 0))) (s : Array Value) (hs : ∀ (j : Nat) (v : Value), s[j]? = some v → c[k + j]? = some v) {d : TypeDesc} (hu : P.underlying ty = some d)
    (hd : yPlain d = false) (hi : (P.info? ty).map (·.size) = some s.size) : (execOp a.eval o).run P w = .ok (.value (.agg s)) w := by
  have hl : (loadCells ⟨g, k, none⟩ s.toList.length).run P w = .ok s.toList.toArray w :=
    run_loadCells_list (P := P) w ⟨g, k, none⟩ s.toList (fun j v hv => by
      have hadd : (⟨g, k, none⟩ : Addr).add j = ⟨g, k + j, none⟩ := by unfold Addr.add; split <;> simp_all
      rw [hadd]
      exact y_cell hg (hs j v (by simpa using hv)))
  have hrun : (Instr.loadAt ty (.pointer (some ⟨g, k, none⟩))).run P w = .ok (.agg s) w := by
    simp only [Instr.loadAt, Instr.sureAddr, Sem.run_bind, Sem.run_pure, Result.andThen_ok]
    cases hq : P.info? ty with
    | none => simp [hq] at hi
    | some i =>
      have hz : i.size = s.size := by simpa [hq] using hi
      have hagg : (isAgg ty).run P w = .ok true w := by
        unfold isAgg
        rw [Sem.run_bind, run_underlying hu w]
        cases d <;> first | rfl | cases hd
      simp only [Array.length_toList, Array.toArray_toList] at hl
      simp [loadVar, Sem.run_bind, hagg, sizeOf, typeInfo, hq, hz, hl]
  unfold execOp
  simp only [ho, hx, Sem.run_bind, hrun, Result.andThen_ok, Sem.run_pure]
theorem y_all {s c : Array Value} (h : s = c) : ∀ (j : Nat) (v : Value), s[j]? = some v → c[0 + j]? = some v := fun j v e => by rw [Nat.zero_add, ← h]; exact e
/-- A store of a value whose cells are these. -/
theorem y_st (ty : TypeId) (x y : Operand) (ho : o.op = .store ty x y) {g k : Nat} (hx : a.eval x = .pointer (some ⟨g, k, none⟩)) {v : Value} (hy : a.eval y = v) {t : TypeId} {c : Array Value} (hg : w.heap[g]? = some (.cells c t (0, 0))) (s c' : Array Value) (hv : v.cells = s) (hos : k + s.size ≤ c.size) (h1 : s.all (·.oneCell') = true) (hc' : (c.toList.take k ++ s.toList ++ c.toList.drop (k + s.size)).toArray = c')
    (hi : (P.info? ty).map (·.size) = some s.size) : (execOp a.eval o).run P w = .ok .skip (w.setRow g c') := by
  have hrun : (Instr.storeAt ty (.pointer (some ⟨g, k, none⟩)) v).run P w = .ok () (w.setRow g c') := by
    simp only [Instr.storeAt, Instr.sureAddr, Sem.run_bind, Sem.run_pure, Result.andThen_ok]
    have := run_storeCells_at (P := P) g k t s.toList 0 c w hg (by simpa using hos) (fun v hv => (Array.all_eq_true_iff_forall_mem.1 h1) v (by simpa using hv))
    simp only [Nat.add_zero, Array.length_toList] at this
    rw [hc'] at this
    cases hq : P.info? ty with
    | none => simp [hq] at hi
    | some i =>
      have hz : i.size = s.size := by simpa [hq] using hi
      simp [storeVar, Sem.run_bind, sizeOf, typeInfo, hq, hz, hv, this]
  unfold execOp
  simp only [ho, hx, hy, Sem.run_bind, hrun, Result.andThen_ok, Sem.run_pure]
end
section
variable {P : Program} {ops : Array Oper} {Q : Exit → Act → World → Prop} {a : Act} {w w0 : World} {rest : List Oper} {o : Oper} {n B : Nat} {V : List (Nat × Value)} {R : List (Nat × Res)}
theorem wl_alloc (hw : Region.wanted o (yielded ops a.tmps) = true) {d : Nat} (hd : o.dst = some d) (F : Fx n a V) (hn : Nat.blt d n = true) (M : Mx B w0 w R) (i : Nat) {t : TypeId} {c : Array Value} (ht : t ≠ 5) (hr : (execOp a.eval o).run P w = .ok (.value (.pointer (some ⟨w.heap.size, 0, none⟩))) (w.alloc (.cells c t)))
    (h : ∀ g a' w', Fx n a' ((d, .pointer (some ⟨g, 0, none⟩)) :: V) → Mx B w0 w' ((i, blkR g t c) :: R) → wpList P ops Q rest a' w') : wpList P ops Q (o :: rest) a w :=
  wl_run hw hd F hn _ hr fun a' F' => h _ a' _ F' (M.alloc i t c ht)
theorem wl_st (hw : Region.wanted o (yielded ops a.tmps) = true) (hd : o.dst = none) (F : Fx n a V) (M : Mx B w0 w R) {k g off : Nat} {t : TypeId} {c : Array Value} (hk : look R k = some (blkR g t c)) (ht : t ≠ 5) (ty : TypeId) (x y : Operand) (ho : o.op = .store ty x y) (hx : a.eval x = .pointer (some ⟨g, off, none⟩)) {v : Value} (hy : a.eval y = v)
    (s c' : Array Value) (hv : v.cells = s) (hos : off + s.size ≤ c.size) (h1 : s.all (·.oneCell') = true) (hc' : (c.toList.take off ++ s.toList ++ c.toList.drop (off + s.size)).toArray = c') (hi : (P.info? ty).map (·.size) = some s.size)
    (h : ∀ w', Mx B w0 w' ((k, blkR g t c') :: R) → wpList P ops Q rest a w') : wpList P ops Q (o :: rest) a w :=
  wl_do hw hd F (y_st ty x y ho hx hy (M.blk hk) s c' hv hos h1 hc' hi) (h _ (M.put hk ht (grown_setRow _ _ _) (setRow_heap w g c c' t (0, 0) (M.blk hk))))
end
theorem y_put0 {c s : Array Value} (h : c.size = s.size) : (c.toList.take 0 ++ s.toList ++ c.toList.drop (0 + s.size)).toArray = s := by
  apply Array.ext'
  simp [h]
section
variable {a : Act} {w : World} {o : Oper}
theorem y_ext {P : Program} (x : Operand) (i : Nat) (ho : o.op = .extract x i) {vs : Array Value} (hx : a.eval x = .tuple vs) {v : Value} (hv : vs[i]? = some v) : (execOp a.eval o).run P w = .ok (.value v) w := by
  unfold execOp
  simp only [ho, hx, Instr.extract, hv]
  rfl
end

theorem args0 {f : Operand → Value} : (#[] : Array Operand).map f = #[] := by simp
theorem args1 {f : Operand → Value} {x1 : Operand} {v1 : Value} (h1 : f x1 = v1) : #[x1].map f = #[v1] := by subst h1; simp
theorem args2 {f : Operand → Value} {x1 x2 : Operand} {v1 v2 : Value} (h1 : f x1 = v1) (h2 : f x2 = v2) : #[x1, x2].map f = #[v1, v2] := by subst h1 h2; simp
theorem args3 {f : Operand → Value} {x1 x2 x3 : Operand} {v1 v2 v3 : Value} (h1 : f x1 = v1) (h2 : f x2 = v2) (h3 : f x3 = v3) : #[x1, x2, x3].map f = #[v1, v2, v3] := by subst h1 h2 h3; simp
theorem args4 {f : Operand → Value} {x1 x2 x3 x4 : Operand} {v1 v2 v3 v4 : Value} (h1 : f x1 = v1) (h2 : f x2 = v2) (h3 : f x3 = v3) (h4 : f x4 = v4) : #[x1, x2, x3, x4].map f = #[v1, v2, v3, v4] := by subst h1 h2 h3 h4; simp
theorem args5 {f : Operand → Value} {x1 x2 x3 x4 x5 : Operand} {v1 v2 v3 v4 v5 : Value} (h1 : f x1 = v1) (h2 : f x2 = v2) (h3 : f x3 = v3) (h4 : f x4 = v4) (h5 : f x5 = v5) : #[x1, x2, x3, x4, x5].map f = #[v1, v2, v3, v4, v5] := by subst h1 h2 h3 h4 h5; simp
theorem args6 {f : Operand → Value} {x1 x2 x3 x4 x5 x6 : Operand} {v1 v2 v3 v4 v5 v6 : Value} (h1 : f x1 = v1) (h2 : f x2 = v2) (h3 : f x3 = v3) (h4 : f x4 = v4) (h5 : f x5 = v5) (h6 : f x6 = v6) : #[x1, x2, x3, x4, x5, x6].map f = #[v1, v2, v3, v4, v5, v6] := by subst h1 h2 h3 h4 h5 h6; simp
theorem call_ex {P : Program} {f : FuncId} {args : Array Value} {w : World} {v : Value} {G : World → Prop} (h : Calls P f args w fun e w' => e = .returned v ∧ G w') : Calls P f args w fun e w' => ∃ u, e = .returned u ∧ (u = v ∧ G w') :=
  h.mono fun e w' h => ⟨v, h.1, rfl, h.2⟩
section
variable {a : Act} {w : World} {o : Oper} {k : IntKind} {p q : Int} {b : Bool} (ty tz : TypeId) (x y : Operand)
theorem y_lss (ho : o.op = .binOp .lss ty x y tz) (hx : a.eval x = .int k p) (hy : a.eval y = .int k q) (hb : decide (p < q) = b) : (execOp a.eval o).run Try.prog w = .ok (.value (.bool b)) w := by
  subst hb; unfold execOp; simp only [ho, hx, hy]; simp [go_sem]
theorem y_leq (ho : o.op = .binOp .leq ty x y tz) (hx : a.eval x = .int k p) (hy : a.eval y = .int k q) (hb : decide (p ≤ q) = b) : (execOp a.eval o).run Try.prog w = .ok (.value (.bool b)) w := by
  subst hb; unfold execOp; simp only [ho, hx, hy]; simp [go_sem]
theorem y_gtr (ho : o.op = .binOp .gtr ty x y tz) (hx : a.eval x = .int k p) (hy : a.eval y = .int k q) (hb : decide (q < p) = b) : (execOp a.eval o).run Try.prog w = .ok (.value (.bool b)) w := by
  subst hb; unfold execOp; simp only [ho, hx, hy]; simp [go_sem]
theorem y_geq (ho : o.op = .binOp .geq ty x y tz) (hx : a.eval x = .int k p) (hy : a.eval y = .int k q) (hb : decide (q ≤ p) = b) : (execOp a.eval o).run Try.prog w = .ok (.value (.bool b)) w := by
  subst hb; unfold execOp; simp only [ho, hx, hy]; simp [go_sem]
theorem y_eqB {p q : Bool} (ho : o.op = .binOp .eql 4 x y 4) (hx : a.eval x = .bool p) (hy : a.eval y = .bool q) (hb : (p == q) = b) : (execOp a.eval o).run Try.prog w = .ok (.value (.bool b)) w := by
  subst hb; unfold execOp; simp only [ho, hx, hy]; simp [go_sem]
theorem y_neB {p q : Bool} (ho : o.op = .binOp .neq 4 x y 4) (hx : a.eval x = .bool p) (hy : a.eval y = .bool q) (hb : (p != q) = b) : (execOp a.eval o).run Try.prog w = .ok (.value (.bool b)) w := by
  subst hb; unfold execOp; simp only [ho, hx, hy]; simp [go_sem]; cases p <;> cases q <;> rfl
theorem y_eqI (ho : o.op = .binOp .eql ty x y tz) (hx : a.eval x = .int k p) (hy : a.eval y = .int k q) (hu : Try.prog.underlying ty = some (.int k)) (hb : (p == q) = b) : (execOp a.eval o).run Try.prog w = .ok (.value (.bool b)) w := by
  subst hb; unfold execOp; simp only [ho, hx, hy]; simp [go_sem, run_underlying hu]
theorem y_neI (ho : o.op = .binOp .neq ty x y tz) (hx : a.eval x = .int k p) (hy : a.eval y = .int k q) (hu : Try.prog.underlying ty = some (.int k)) (hb : (p != q) = b) : (execOp a.eval o).run Try.prog w = .ok (.value (.bool b)) w := by
  subst hb; unfold execOp; simp only [ho, hx, hy]; simp [go_sem, run_underlying hu]
theorem y_addI (ho : o.op = .binOp .add ty x y tz) (hx : a.eval x = .int .i64 p) (hy : a.eval y = .int .i64 q) {z : Int} (hz : p + q = z) (h0 : -9223372036854775808 ≤ z ∧ z < 9223372036854775808) : (execOp a.eval o).run Try.prog w = .ok (.value (.int .i64 z)) w := by
  subst hz; unfold execOp; simp only [ho, hx, hy]; simp [go_sem, Go.IntWalk.i64_in (p + q) (by omega)]
theorem y_subI (ho : o.op = .binOp .sub ty x y tz) (hx : a.eval x = .int .i64 p) (hy : a.eval y = .int .i64 q) {z : Int} (hz : p - q = z) (h0 : -9223372036854775808 ≤ z ∧ z < 9223372036854775808) : (execOp a.eval o).run Try.prog w = .ok (.value (.int .i64 z)) w := by
  subst hz; unfold execOp; simp only [ho, hx, hy]; simp [go_sem, Go.IntWalk.i64_in (p - q) (by omega)]
theorem y_mulI (ho : o.op = .binOp .mul ty x y tz) (hx : a.eval x = .int .i64 p) (hy : a.eval y = .int .i64 q) {z : Int} (hz : p * q = z) (h0 : -9223372036854775808 ≤ z ∧ z < 9223372036854775808) : (execOp a.eval o).run Try.prog w = .ok (.value (.int .i64 z)) w := by
  have e : IntKind.i64.wrap (p * q) = z := by rw [hz, IntKind.wrap_i64]; omega
  unfold execOp; simp only [ho, hx, hy]; simp [go_sem, e]
end
theorem y_eqV {a : Act} {w : World} {o : Oper} (ty tz : TypeId) (x y : Operand) {u v : Value} {b : Bool} (ho : o.op = .binOp .eql ty x y tz) (hx : a.eval x = u) (hy : a.eval y = v) (hg : (eqGuard .eql ty x y u v).run Try.prog w = .ok () w) (hr : (binOp .eql ty u v).run Try.prog w = .ok (.bool b) w) : (execOp a.eval o).run Try.prog w = .ok (.value (.bool b)) w := by
  unfold execOp; simp only [ho, hx, hy]; simp [hr, hg, Result.andThen]
theorem y_neV {a : Act} {w : World} {o : Oper} (ty tz : TypeId) (x y : Operand) {u v : Value} {b : Bool} (ho : o.op = .binOp .neq ty x y tz) (hx : a.eval x = u) (hy : a.eval y = v) (hg : (eqGuard .neq ty x y u v).run Try.prog w = .ok () w) (hr : (binOp .neq ty u v).run Try.prog w = .ok (.bool b) w) : (execOp a.eval o).run Try.prog w = .ok (.value (.bool b)) w := by
  unfold execOp; simp only [ho, hx, hy]; simp [hr, hg, Result.andThen]
theorem y_eqA {a : Act} {w : World} {o : Oper} (ty tz : TypeId) (x y : Operand) {c d : Array Value} {b : Bool} (ho : o.op = .binOp .eql ty x y tz) (hx : a.eval x = .agg c) (hy : a.eval y = .agg d) (hgt : Try.prog.eqGuardType Try.prog.depth ty = false) (h : (Op.equalIn 10000 ty (.agg c) (.agg d)).run Try.prog w = .ok b w) : (execOp a.eval o).run Try.prog w = .ok (.value (.bool b)) w := by
  refine y_eqV ty tz x y ho hx hy ?_ ?_
  · simp [eqGuard, go_sem, hgt]
  · simp [binOp, go_sem, h, Op.maxDepth, Op.equal]
theorem y_neA {a : Act} {w : World} {o : Oper} (ty tz : TypeId) (x y : Operand) {c d : Array Value} {b : Bool} (ho : o.op = .binOp .neq ty x y tz) (hx : a.eval x = .agg c) (hy : a.eval y = .agg d) (hgt : Try.prog.eqGuardType Try.prog.depth ty = false) (h : (Op.equalIn 10000 ty (.agg c) (.agg d)).run Try.prog w = .ok b w) : (execOp a.eval o).run Try.prog w = .ok (.value (.bool (!b))) w := by
  refine y_neV ty tz x y ho hx hy ?_ ?_
  · simp [eqGuard, go_sem, hgt]
  · simp [binOp, go_sem, h, Op.maxDepth, Op.equal]
theorem y_beqT {p q : Int} (h : p = q) : (p == q) = true := by subst h; exact beq_self_eq_true p
theorem y_beqF {p q : Int} (h : ¬ p = q) : (p == q) = false := beq_eq_false_iff_ne.2 h
theorem y_bneF {p q : Int} (h : p = q) : (p != q) = false := by rw [bne, y_beqT h]; rfl
theorem y_bneT {p q : Int} (h : ¬ p = q) : (p != q) = true := by rw [bne, y_beqF h]; rfl
theorem same_eq {P : Program} {f : FuncId} {args : Array Value} {w : World} {v : Value} (h : Calls P f args w fun e w' => e = .returned v ∧ w = w') : Calls P f args w fun e w' => e = .returned v ∧ Below w.heap.size w w' :=
  h.mono fun e w' ⟨h1, h2⟩ => ⟨h1, h2 ▸ Below.refl _ _⟩
theorem call_eqS {P : Program} {f : FuncId} {args : Array Value} {w : World} {v : Value} (h : Calls P f args w fun e w' => e = .returned v ∧ Below w.heap.size w w') : Calls P f args w fun e w' => ∃ u, e = .returned u ∧ Below w.heap.size w w' ∧ (StK.eq v).F w' u :=
  h.mono fun e w' h => ⟨v, h.1, h.2, rfl⟩
theorem y_skipU {ops : Array Oper} {o : Oper} {a : Act} {F : World → Value → Prop} {w : World} {g : Nat} {b : Bool} {og : Oper} {d : Tmp} (hg : o.guard = some (g, b)) (ho : ops[g]? = some og) (hd : og.dst = some d) (hv' : a.eval (.tmp d) = undef) (hF : F w undef) {X : Prop} :
    if Region.wanted o (yielded ops a.tmps) = true then X else F w undef := by
  rw [wanted_un hg ho hd hv', if_neg (by simp)]
  exact hF
end Go.Proofs.Ytgccbfkofkohpaa
