/- Regions that draw their order, what each operation leaves behind said by a relation. -/
import Derived.Test.YtajombnckgehbaaGenB
import Derived.Shelf.Abstract
namespace Go.Proofs.Ytajombnckgehbaa
set_option linter.unusedVariables false
set_option linter.unusedSimpArgs false
open Go.ChangeShapes Go.WideShapes Go.ChangeAt Go.RowKit

/-- The operation that writes slot t. -/
def depOf (L : List Oper) (t : Tmp) : Option Nat := L.findIdx? fun o => o.dst == some t
def relOk (L : List Oper) (n : Nat) : Bool :=
  Region.noSelect L.toArray && backB L.toArray &&
  ((List.range L.length).all fun i => match L[i]? with
    | none => true
    | some o => (match o.dst with
        | none => true
        | some d => decide (d < n) && depOf L d == some i) &&
      (o.looksAt L.toArray).all fun t => match depOf L t with
        | none => true
        | some j => o.after.any fun e => Region.binds .any e && e.on == j)
/-- What is known of slot t where operation o reads it. -/
def SlotOk (L : List Oper) (Y : Nat → World → Value → Prop) (a0 a : Act) (w : World) (t : Tmp) : Prop :=
  match depOf L t with
  | none => a.eval (.tmp t) = a0.eval (.tmp t)
  | some j => Y j w (a.eval (.tmp t))
def Hop (P : Program) (L : List Oper) (Q : Exit → Act → World → Prop) (Y : Nat → World → Value → Prop) (a0 : Act) (W : World) (k : Nat) (o : Oper) : Prop :=
  ∀ (a : Act) (w : World), Below W.heap.size W w → (∀ t ∈ o.looksAt L.toArray, SlotOk L Y a0 a w t) →
    if Region.wanted o (yielded L.toArray a.tmps) = true then o.wp P a w (fun a' w' => ∃ v, a' = a.put o.dst v ∧ Below w.heap.size w w' ∧ Y k w' v) Q else Y k w undef
def HopAll (P : Program) (L : List Oper) (Q : Exit → Act → World → Prop) (Y : Nat → World → Value → Prop) (a0 : Act) (W : World) : List Oper → Nat → Prop
  | [], _ => True
  | o :: l, k => Hop P L Q Y a0 W k o ∧ HopAll P L Q Y a0 W l (k + 1)
def layAll (p : Nat → Value) : List Oper → Nat → Act → Act
  | [], _, a => a
  | o :: l, k, a => layAll p l (k + 1) (a.put o.dst (p k))
def YAll (Y : Nat → World → Value → Prop) (p : Nat → Value) (w : World) : List Oper → Nat → Prop
  | [], _ => True
  | o :: l, k => (o.dst ≠ none → Y k w (p k)) ∧ YAll Y p w l (k + 1)

theorem hop_at {P : Program} {L : List Oper} {Q : Exit → Act → World → Prop} {Y : Nat → World → Value → Prop} {a0 : Act} {W : World} : ∀ (l : List Oper) (k : Nat), HopAll P L Q Y a0 W l k → ∀ (i : Nat) (o : Oper), l[i]? = some o → Hop P L Q Y a0 W (k + i) o
  | [], _, _, i, o, ho => by cases ho
  | q :: l, k, h, 0, o, ho => by
    simp only [List.getElem?_cons_zero, Option.some.injEq] at ho
    subst ho; exact h.1
  | q :: l, k, h, i + 1, o, ho => by
    have := hop_at l (k + 1) h.2 i o (by simpa using ho)
    rwa [show k + 1 + i = k + (i + 1) by omega] at this
theorem yall_of {Y : Nat → World → Value → Prop} {p : Nat → Value} {w : World} : ∀ (l : List Oper) (k : Nat), (∀ (i : Nat) (o : Oper), l[i]? = some o → o.dst ≠ none → Y (k + i) w (p (k + i))) → YAll Y p w l k
  | [], _, _ => trivial
  | q :: l, k, h => ⟨fun hd => h 0 q rfl hd, yall_of l (k + 1) fun i o ho hd => by
    have := h (i + 1) o (by simpa using ho) hd
    rwa [show k + (i + 1) = k + 1 + i by omega] at this⟩
theorem eval_put_ne {a : Act} {dst : Option Tmp} {v : Value} {t : Tmp} (h : dst ≠ some t) : (a.put dst v).eval (.tmp t) = a.eval (.tmp t) :=
  Act.eval_put fun d hd e => by cases e; exact h hd
theorem eval_put_self {a : Act} {d : Tmp} {v : Value} (h : d < a.tmps.size) : (a.put (some d) v).eval (.tmp d) = v := by
  simp [Act.put, Act.eval, h]
theorem put_size (a : Act) (dst : Option Tmp) (v : Value) : (a.put dst v).tmps.size = a.tmps.size := by cases dst <;> simp [Act.put]
theorem put_defers (a : Act) (dst : Option Tmp) (v : Value) : (a.put dst v).defers = a.defers := by cases dst <;> rfl
theorem lay_size (p : Nat → Value) : ∀ (l : List Oper) (k : Nat) (a : Act), (layAll p l k a).tmps.size = a.tmps.size ∧ (layAll p l k a).defers = a.defers
  | [], _, _ => ⟨rfl, rfl⟩
  | o :: l, k, a => by
    obtain ⟨h1, h2⟩ := lay_size p l (k + 1) (a.put o.dst (p k))
    exact ⟨h1.trans (put_size _ _ _), h2.trans (put_defers _ _ _)⟩
theorem lay_base (p : Nat → Value) {t : Tmp} : ∀ (l : List Oper) (k : Nat) (a : Act), (∀ (j : Nat) (oj : Oper), l[j]? = some oj → oj.dst ≠ some t) → (layAll p l k a).eval (.tmp t) = a.eval (.tmp t)
  | [], _, _, _ => rfl
  | o :: l, k, a, h => (lay_base p l (k + 1) _ fun j oj hj => h (j + 1) oj (by simpa using hj)).trans (eval_put_ne (h 0 o rfl))
theorem lay_at (p : Nat → Value) {t : Tmp} : ∀ (l : List Oper) (k i : Nat) (a : Act) (o : Oper), l[i]? = some o → o.dst = some t → t < a.tmps.size → (∀ (j : Nat) (oj : Oper), l[j]? = some oj → j ≠ i → oj.dst ≠ some t) → (layAll p l k a).eval (.tmp t) = p (k + i)
  | [], _, _, _, _, h, _, _, _ => by cases h
  | q :: l, k, 0, a, o, h, hd, hs, hn => by
    simp only [List.getElem?_cons_zero, Option.some.injEq] at h
    subst h
    refine (lay_base p l (k + 1) _ fun j oj hj => hn (j + 1) oj (by simpa using hj) (by omega)).trans ?_
    rw [hd]; exact eval_put_self hs
  | q :: l, k, i + 1, a, o, h, hd, hs, hn => by
    have := lay_at p l (k + 1) i (a.put q.dst (p k)) o (by simpa using h) hd (by rw [put_size]; exact hs) fun j oj hj hji => hn (j + 1) oj (by simpa using hj) (by omega)
    rw [show k + 1 + i = k + (i + 1) by omega] at this
    exact this
theorem act_ext {a b : Act} (hs : a.tmps.size = b.tmps.size) (hd : a.defers = b.defers) (h : ∀ t, t < a.tmps.size → a.eval (.tmp t) = b.eval (.tmp t)) : a = b := by
  obtain ⟨ta, da⟩ := a
  obtain ⟨tb, db⟩ := b
  simp only at hs hd h
  subst hd
  congr 1
  refine Array.ext hs fun i h1 h2 => ?_
  have := h i h1
  simpa [Act.eval, h1, h2] using this
theorem depOf_some {L : List Oper} {t : Tmp} {j : Nat} (h : depOf L t = some j) : ∃ o, L[j]? = some o ∧ o.dst = some t := by
  unfold depOf at h
  obtain ⟨hl, h1, _⟩ := List.findIdx?_eq_some_iff_getElem.1 h
  exact ⟨L[j], List.getElem?_eq_getElem hl, by simpa using h1⟩
theorem depOf_none {L : List Oper} {t : Tmp} (h : depOf L t = none) : ∀ (j : Nat) (o : Oper), L[j]? = some o → o.dst ≠ some t := by
  intro j o ho e
  unfold depOf at h
  rw [List.findIdx?_eq_none_iff] at h
  have := h o (List.mem_of_getElem? ho)
  simp [e] at this
/-- **A region's orders, by what each operation leaves behind.** -/
theorem wp_region_rel {P : Program} {id : Nat} {Q : Exit → Act → World → Prop} {a0 : Act} {W : World} {L : List Oper} (n : Nat) (hn : a0.tmps.size = n) (hm : P.follows .mixedOrders = true) (hok : relOk L n = true) (Y : Nat → World → Value → Prop)
    (hY : ∀ i w w' v, Below w.heap.size w w' → Y i w v → Y i w' v) (hop : HopAll P L Q Y a0 W L 0)
    (hend : ∀ (p : Nat → Value) (w : World), Below W.heap.size W w → YAll Y p w L 0 → Q .normal (layAll p L 0 a0) w) : (Code.region id L.toArray true).wp P Q a0 W := by
  unfold relOk at hok
  simp only [Bool.and_eq_true, List.all_eq_true] at hok
  obtain ⟨⟨hsel, hE⟩, hall⟩ := hok
  have hdst : ∀ (i : Nat) (o : Oper) (d : Tmp), L[i]? = some o → o.dst = some d → d < n ∧ depOf L d = some i := fun i o d ho hd => by
    have h1 := hall i (List.mem_range.2 (List.getElem?_eq_some_iff.1 ho).1)
    simp only [ho, hd, Bool.and_eq_true, decide_eq_true_eq, beq_iff_eq] at h1
    exact h1.1
  have hread : ∀ (i : Nat) (o : Oper) (t : Tmp) (j : Nat), L[i]? = some o → t ∈ o.looksAt L.toArray → depOf L t = some j → ∃ e ∈ o.after, Region.binds .any e = true ∧ e.on = j := fun i o t j ho ht hj => by
    have h1 := hall i (List.mem_range.2 (List.getElem?_eq_some_iff.1 ho).1)
    simp only [ho, Bool.and_eq_true, List.all_eq_true] at h1
    have h2 := h1.2 t ht
    simp only [hj, Array.any_eq_true, Bool.and_eq_true, beq_iff_eq] at h2
    obtain ⟨x, hx, hb, he⟩ := h2
    exact ⟨_, Array.getElem_mem hx, hb, he⟩
  have hdis : ∀ (i j : Nat) (oi oj : Oper) (d : Tmp), L[i]? = some oi → L[j]? = some oj → j ≠ i → oi.dst = some d → oj.dst ≠ some d := fun i j oi oj d hi hj hne hd e => by
    have h1 := (hdst i oi d hi hd).2
    have h2 := (hdst j oj d hj e).2
    rw [h1] at h2
    exact hne (Option.some.inj h2).symm
  refine wp_region_inv hm (fun listed a w => Below W.heap.size W w ∧ a.tmps.size = n ∧ a.defers = a0.defers ∧
    (∀ t : Tmp, (∀ (j : Nat) (oj : Oper), L[j]? = some oj → listed.getD j true = true → oj.dst ≠ some t) → a.eval (.tmp t) = a0.eval (.tmp t)) ∧
    (∀ (j : Nat) (oj : Oper) (d : Tmp), L[j]? = some oj → listed.getD j true = true → oj.dst = some d → Y j w (a.eval (.tmp d)))) ?_ ?_ ?_
  · refine ⟨step_drew W, hn, rfl, fun _ _ => rfl, fun j oj d hj hl _ => ?_⟩
    have hjl := (List.getElem?_eq_some_iff.1 hj).1
    simp [hjl] at hl
  · rintro listed a w i hs ⟨hB, hz, hd, hbase, hYs⟩ hi
    obtain ⟨hiu, o, ho, hwait⟩ := mem_ready.1 hi
    have ho' : L[i]? = some o := by simpa using ho
    have hil := (List.getElem?_eq_some_iff.1 ho').1
    have hh := hop_at L 0 hop i o ho'
    rw [Nat.zero_add] at hh
    have hslots : ∀ t ∈ o.looksAt L.toArray, SlotOk L Y a0 a w t := fun t ht => by
      unfold SlotOk
      cases hj : depOf L t with
      | none => exact hbase t fun j oj hoj _ => depOf_none hj j oj hoj
      | some j =>
        obtain ⟨oj, hoj, hdj⟩ := depOf_some hj
        obtain ⟨e, he, hb, hon⟩ := hread i o t j ho' ht hj
        have h1 := hwait e he hb
        rw [hon] at h1
        refine hYs j oj t hoj ?_ hdj
        have hjl : j < listed.size := by rw [hs]; simpa using (List.getElem?_eq_some_iff.1 hoj).1
        simpa [hjl] using h1
    have hh := hh a w hB hslots
    have hset : ∀ (v : Value) (w' : World), Below w.heap.size w w' → Y i w' v → (Below W.heap.size W w' ∧ (a.put o.dst v).tmps.size = n ∧ (a.put o.dst v).defers = a0.defers ∧
        (∀ t : Tmp, (∀ (j : Nat) (oj : Oper), L[j]? = some oj → (listed.setIfInBounds i true).getD j true = true → oj.dst ≠ some t) → (a.put o.dst v).eval (.tmp t) = a0.eval (.tmp t)) ∧
        (∀ (j : Nat) (oj : Oper) (d : Tmp), L[j]? = some oj → (listed.setIfInBounds i true).getD j true = true → oj.dst = some d → Y j w' ((a.put o.dst v).eval (.tmp d)))) := fun v w' hb hy => by
      refine ⟨hB.trans (hb.mono hB.size), by rw [put_size]; exact hz, by rw [put_defers]; exact hd, fun t ht => ?_, fun j oj d hoj hl hdj => ?_⟩
      · rw [eval_put_ne (ht i o ho' (by rw [Array.getD_eq_getD_getElem?, Array.getElem?_setIfInBounds_self]; simp [hs, hil]))]
        refine hbase t fun j oj hoj hl => ht j oj hoj ?_
        by_cases e : i = j
        · subst e; rw [hl] at hiu; cases hiu
        · rw [getD_set_ne true e]; exact hl
      · by_cases e : i = j
        · subst e
          obtain rfl : o = oj := Option.some.inj (ho'.symm.trans hoj)
          rw [hdj, eval_put_self (by rw [hz]; exact (hdst i o d ho' hdj).1)]
          exact hy
        · rw [eval_put_ne (hdis j i oj o d hoj ho' e hdj)]
          rw [getD_set_ne true e] at hl
          exact hY j w w' _ hb (hYs j oj d hoj hl hdj)
    unfold wpOp
    simp only [ho]
    by_cases hw : Region.wanted o (yielded L.toArray a.tmps) = true
    · rw [if_pos hw] at hh ⊢
      exact .inl (Oper.wp_mono (fun a' w' ⟨v, e, hb, hy⟩ => by rw [e]; exact hset v w' hb hy) hh)
    · rw [if_neg hw] at hh ⊢
      exact hset undef w (Below.refl _ _) hh
  · rintro listed a w hs ⟨hB, hz, hd, hbase, hYs⟩ hr
    have hlisted : ∀ (j : Nat) (oj : Oper), L[j]? = some oj → listed.getD j true = true := fun j oj hoj => by
      have hjl := (List.getElem?_eq_some_iff.1 hoj).1
      cases h : listed.getD j true with
      | true => rfl
      | false => exact absurd hr (ready_of_unlisted hE hs j (by simpa using hjl) h)
    have hp : a = layAll (fun j => a.eval (match (L[j]?).bind (·.dst) with | some d => .tmp d | none => .const undef)) L 0 a0 := by
      obtain ⟨z1, z2⟩ := lay_size (fun j => a.eval (match (L[j]?).bind (·.dst) with | some d => .tmp d | none => .const undef)) L 0 a0
      refine act_ext (by rw [z1, hz, hn]) (by rw [z2, hd]) fun t ht => ?_
      cases hj : depOf L t with
      | none => rw [lay_base _ L 0 a0 (depOf_none hj)]; exact hbase t fun j oj hoj _ => depOf_none hj j oj hoj
      | some j =>
        obtain ⟨oj, hoj, hdj⟩ := depOf_some hj
        rw [lay_at _ L 0 j a0 oj hoj hdj (by rw [hn, ← hz]; exact ht) fun i oi hi hne => hdis j i oj oi t hoj hi hne hdj]
        simp [hoj, hdj]
    rw [hp]
    refine hend _ w hB (yall_of L 0 fun i o ho hdn => ?_)
    rw [Nat.zero_add]
    cases hdo : o.dst with
    | none => exact absurd hdo hdn
    | some d =>
      simp only [ho, hdo, Option.bind_some]
      exact hYs i o d ho (hlisted i o ho) hdo

/-- What is known of a value, and stays so. -/
structure St where
  F : World → Value → Prop
  h : ∀ w w' v, Below w.heap.size w w' → F w v → F w' v
def St.any : St := ⟨fun _ _ => True, fun _ _ _ _ _ => trivial⟩
def St.eq (c : Value) : St := ⟨fun _ v => v = c, fun _ _ _ _ h => h⟩
/-- A slice that leads to these bytes. -/
def IsB (w : World) (l : List UInt8) (v : Value) : Prop := ∃ A c, v = .slice A l.length c ∧ l.length ≤ c ∧ c ≤ maxLen ∧ (A = none → c = 0) ∧ Rd w A l
theorem IsB.step {w w' : World} {l : List UInt8} {v : Value} (h : IsB w l v) (hb : Below w.heap.size w w') : IsB w' l v := by
  obtain ⟨A, c, h1, h2, h3, h4, h5⟩ := h
  exact ⟨A, c, h1, h2, h3, h4, h5.step hb⟩
def St.bytes (l : List UInt8) : St := ⟨fun w v => IsB w l v, fun _ _ _ hb h => h.step hb⟩
def stY (S : List St) (i : Nat) (w : World) (v : Value) : Prop := ((S[i]?).getD St.any).F w v
theorem wp_region_st {P : Program} {id : Nat} {Q : Exit → Act → World → Prop} {a0 : Act} {W : World} {L : List Oper} (S : List St) (n : Nat) (hn : a0.tmps.size = n) (hm : P.follows .mixedOrders = true) (hok : relOk L n = true)
    (hop : HopAll P L Q (stY S) a0 W L 0)
    (hend : ∀ (p : Nat → Value) (w : World), Below W.heap.size W w → YAll (stY S) p w L 0 → Q .normal (layAll p L 0 a0) w) : (Code.region id L.toArray true).wp P Q a0 W :=
  wp_region_rel n hn hm hok (stY S) (fun i w w' v hb h => ((S[i]?).getD St.any).h w w' v hb h) hop hend
section
variable {P : Program} {L : List Oper} {Q : Exit → Act → World → Prop} {a : Act} {w : World} {o : Oper} {F : World → Value → Prop}
theorem wanted_none {ops : Array Oper} (hg : o.guard = none) : Region.wanted o (yielded ops a.tmps) = true := by simp [Region.wanted, hg]
theorem wanted_by {ops : Array Oper} {g : Nat} {b c : Bool} {og : Oper} {d : Tmp} (hg : o.guard = some (g, b)) (ho : ops[g]? = some og) (hd : og.dst = some d) (hv : a.eval (.tmp d) = .bool c) : Region.wanted o (yielded ops a.tmps) = (c == b) := by
  have h1 : a.tmps[d]? = some (.bool c) := by
    simp only [Act.eval, Array.getD_eq_getD_getElem?] at hv
    cases h : a.tmps[d]? with
    | none => rw [h] at hv; cases hv
    | some u => rw [h] at hv; simp at hv; rw [hv]
  simp [Region.wanted, hg, yielded, ho, hd, h1]
theorem wanted_yes {ops : Array Oper} {g : Nat} {b : Bool} {og : Oper} {d : Tmp} (hg : o.guard = some (g, b)) (ho : ops[g]? = some og) (hd : og.dst = some d) (hv : a.eval (.tmp d) = .bool b) : Region.wanted o (yielded ops a.tmps) = true := by
  rw [wanted_by hg ho hd hv]; simp
/-- An operation that yields, in the world that it got. -/
theorem hop_run {ops : Array Oper} (hw : Region.wanted o (yielded ops a.tmps) = true) (v : Value) (hr : (execOp a.eval o).run P w = .ok (.value v) w) (hF : F w v) :
    if Region.wanted o (yielded ops a.tmps) = true then o.wp P a w (fun a' w' => ∃ v, a' = a.put o.dst v ∧ Below w.heap.size w w' ∧ F w' v) Q else F w undef := by
  rw [if_pos hw]
  unfold Oper.wp
  rw [hr]
  exact ⟨v, rfl, Below.refl _ _, hF⟩
theorem hop_skip {ops : Array Oper} {g : Nat} {b : Bool} {og : Oper} {d : Tmp} (hg : o.guard = some (g, b)) (ho : ops[g]? = some og) (hd : og.dst = some d) (hv' : a.eval (.tmp d) = .bool (!b)) (hF : F w undef) {X : Prop} :
    if Region.wanted o (yielded ops a.tmps) = true then X else F w undef := by
  rw [wanted_by hg ho hd hv', if_neg (by cases b <;> simp)]
  exact hF
theorem hop_call {ops : Array Oper} (hw : Region.wanted o (yielded ops a.tmps) = true) {f : FuncId} {args : Array Operand} {ts : Array TypeId} (ho : o.op = .call { callee := .value (.func f), args := args, argTypes := ts }) (vals : Array Value) (hv : args.map a.eval = vals) (hr : ∀ args w, (callFunc f args).run P w = .ok (.enter f args) w)
    (hc : Calls P f vals w fun e w' => ∃ v, e = .returned v ∧ Below w.heap.size w w' ∧ F w' v) :
    if Region.wanted o (yielded ops a.tmps) = true then o.wp P a w (fun a' w' => ∃ v, a' = a.put o.dst v ∧ Below w.heap.size w w' ∧ F w' v) Q else F w undef := by
  rw [if_pos hw]
  subst hv
  unfold Oper.wp
  have : (execOp a.eval o).run P w = .ok (.enter f (args.map a.eval)) w := by
    simp [execOp, ho, resolve, invoke, Act.eval, go_sem, hr]
  rw [this]
  exact hc.mono fun e w' ⟨v, he, hb, hF⟩ => by subst he; exact ⟨v, rfl, hb, hF⟩
theorem run_mv (x : Operand) (ho : o.op = .move x ∨ o.op = .assign x) {v : Value} (hx : a.eval x = v) : (execOp a.eval o).run P w = .ok (.value v) w := by
  rcases ho with ho | ho <;> simp [execOp, ho, hx]
theorem run_cv (s d : TypeId) (x : Operand) (ho : o.op = .convert s d x) {u v : Value} (hx : a.eval x = u) (h : (convert s d u).run P w = .ok v w) : (execOp a.eval o).run P w = .ok (.value v) w := by
  simp [execOp, ho, hx, h, Result.andThen]
theorem run_pick {x y z : Operand} (ho : o.op = .pick x y z) {b : Bool} (hx : a.eval x = .bool b) {v : Value} (hy : (if b then a.eval y else a.eval z) = v) : (execOp a.eval o).run P w = .ok (.value v) w := by
  subst hy
  simp [execOp, ho, hx, asBool, Result.andThen]
theorem run_pick_t {x y z : Operand} (ho : o.op = .pick x y z) (hx : a.eval x = .bool true) {v : Value} (hy : a.eval y = v) : (execOp a.eval o).run P w = .ok (.value v) w :=
  run_pick ho hx (by rw [if_pos rfl]; exact hy)
theorem run_pick_f {x y z : Operand} (ho : o.op = .pick x y z) (hx : a.eval x = .bool false) {v : Value} (hy : a.eval z = v) : (execOp a.eval o).run P w = .ok (.value v) w :=
  run_pick ho hx (by rw [if_neg (by simp)]; exact hy)
theorem run_ln (x : Operand) (t : TypeId) (ho : o.op = .call { callee := .builtin .len, args := #[x], argTypes := #[t] }) {A : Option Addr} {n c : Nat} (hx : a.eval x = .slice A n c) (ht : P.underlying t = some (.slice (P.elem t))) : (execOp a.eval o).run P w = .ok (.value (.int .i64 (n : Int))) w := by
  simp only [execOp, ho, resolve, Sem.run_bind, Sem.run_pure, Result.andThen_ok, invoke, List.map_toArray, List.map_cons, List.map_nil, hx]
  simp [builtin, go_sem, run_len_slice w t o.type A n c ht, Result.andThen, goInt]
theorem run_not (t : TypeId) (x : Operand) (ho : o.op = .unOp .not t x) {b : Bool} (hx : a.eval x = .bool b) : (execOp a.eval o).run P w = .ok (.value (.bool (!b))) w := by
  unfold execOp
  simp only [ho, hx]
  rfl
end
theorem run_str {o : Oper} {a : Act} {w : World} (x : Operand) (ho : o.op = .convert 29 9 x) {l : List UInt8} (hx : IsB w l (a.eval x)) : (execOp a.eval o).run Try.prog w = .ok (.value (.string ⟨l.toArray⟩)) w := by
  obtain ⟨A, c, h1, h2, h3, h4, h5⟩ := hx
  exact run_cv _ _ x ho h1 (run_string_bytes w A l l.length c rfl h5)
end Go.Proofs.Ytajombnckgehbaa
