/- Regions that draw their order and turn marks of blocks of their own; such with stores at their end. -/
import Derived.Test.YtgccbfkofkohpaaGenR
namespace Go.Proofs.Ytgccbfkofkohpaa
set_option linter.unusedVariables false
set_option maxRecDepth 20000
set_option linter.unusedSimpArgs false
open Go.ChangeShapes Go.WideShapes Go.ChangeAt Go.RowKit Go.Shelf

/-- Below B all is as it was; from B on cells stay. -/
structure Kc (B : Nat) (w w' : World) : Prop where
  below : Below B w w'
  kept : ∀ (g : Nat) (cs : Array Value) (t : TypeId) (fr : Nat × Nat), w.heap[g]? = some (Obj.cells cs t fr) → ∃ fr2 : Nat × Nat, w'.heap[g]? = some (Obj.cells cs t fr2) ∧ (t ≠ 5 → fr2 = fr)
theorem Kc.refl (B : Nat) (w : World) : Kc B w w := ⟨Below.refl _ _, fun _ _ _ fr h => ⟨fr, h, fun _ => rfl⟩⟩
theorem Kc.of_below {B : Nat} {w w' : World} (hB : B ≤ w.heap.size) (h : Below w.heap.size w w') : Kc B w w' := ⟨h.mono hB, fun g _ _ fr hg => ⟨fr, (h.block g (heap_lt hg)).trans hg, fun _ => rfl⟩⟩
theorem Kc.rd {B : Nat} {w w' : World} {A : Option Addr} {l : List UInt8} (k : Kc B w w') (h : Rd w A l) : Rd w' A l := fun hp => by
  obtain ⟨b, o, e, hb, hc⟩ := h.at hp
  refine ⟨_, e, Nat.lt_of_lt_of_le hb k.below.size, fun j x hx => ?_⟩
  have h1 := hc j x hx
  rw [addr_add]
  cases hw : w.heap[b]? with
  | none => simp [World.cell?, hw] at h1
  | some ob =>
    cases ob with
    | cells cs t fr =>
      obtain ⟨fr', h2, _⟩ := k.kept b cs t fr hw
      simp only [World.cell?, hw] at h1
      simp only [World.cell?, h2]
      exact h1
    | _ => simp [World.cell?, hw] at h1
theorem run_cv' {P : Program} {a : Act} {w w' : World} {o : Oper} (s d : TypeId) (x : Operand) (ho : o.op = .convert s d x) {u v : Value} (hx : a.eval x = u) (h : (convert s d u).run P w = .ok v w') : (execOp a.eval o).run P w = .ok (.value v) w' := by
  simp [execOp, ho, hx, h, Result.andThen]
def HopK (P : Program) (L : List Oper) (Q : Exit → Act → World → Prop) (Y : Nat → World → Value → Prop) (a0 : Act) (W : World) (k : Nat) (o : Oper) : Prop :=
  ∀ (a : Act) (w : World), Below W.heap.size W w → (∀ t ∈ o.looksAt L.toArray, SlotOk L Y a0 a w t) →
    if Region.wanted o (yielded L.toArray a.tmps) = true then o.wp P a w (fun a' w' => ∃ v, a' = a.put o.dst v ∧ Kc W.heap.size w w' ∧ Y k w' v) Q else Y k w undef
def HopAllK (P : Program) (L : List Oper) (Q : Exit → Act → World → Prop) (Y : Nat → World → Value → Prop) (a0 : Act) (W : World) : List Oper → Nat → Prop
  | [], _ => True
  | o :: l, k => HopK P L Q Y a0 W k o ∧ HopAllK P L Q Y a0 W l (k + 1)
theorem hop_atK {P : Program} {L : List Oper} {Q : Exit → Act → World → Prop} {Y : Nat → World → Value → Prop} {a0 : Act} {W : World} : ∀ (l : List Oper) (k : Nat), HopAllK P L Q Y a0 W l k → ∀ (i : Nat) (o : Oper), l[i]? = some o → HopK P L Q Y a0 W (k + i) o
  | [], _, _, i, o, ho => by cases ho
  | q :: l, k, h, 0, o, ho => by
    simp only [List.getElem?_cons_zero, Option.some.injEq] at ho
    subst ho; exact h.1
  | q :: l, k, h, i + 1, o, ho => by
    have := hop_atK l (k + 1) h.2 i o (by simpa using ho)
    rwa [show k + 1 + i = k + (i + 1) by omega] at this
/-- **A region's orders, by what each operation leaves behind.** -/
theorem wp_region_relK {P : Program} {id : Nat} {Q : Exit → Act → World → Prop} {a0 : Act} {W : World} {L : List Oper} (n : Nat) (hn : a0.tmps.size = n) (hm : P.follows .mixedOrders = true) (hok : relOk L n = true) (Y : Nat → World → Value → Prop)
    (hY : ∀ i w w' v, Kc W.heap.size w w' → Y i w v → Y i w' v) (hop : HopAllK P L Q Y a0 W L 0)
    (hend : ∀ (p : Nat → Value) (w : World), Below W.heap.size W w → YAll Y p w L 0 → Q .normal (layAll p L 0 a0) w) : (Code.region id L.toArray true).wp P Q a0 W := by
  unfold relOk at hok
  simp only [Bool.and_eq_true, List.all_eq_true] at hok
  obtain ⟨⟨hsel, hE⟩, hall⟩ := hok
  have hdst : ∀ (i : Nat) (o : Oper) (d : Tmp), L[i]? = some o → o.dst = some d → d < n ∧ depOf L d = some i := fun i o d ho hd => by
    have h1 := hall i (List.mem_range.2 (List.getElem?_eq_some_iff.1 ho).1)
    simp only [ho, hd, Bool.and_eq_true, decide_eq_true_eq, beq_iff_eq] at h1
    exact h1.1
  have hread : ∀ (i : Nat) (o : Oper) (t : Tmp) (j : Nat), L[i]? = some o → t ∈ o.looksAt L.toArray → depOf L t = some j → ∃ e ∈ o.after, Region.binds .any e = true ∧ e.on = j := fun i o t j ho ht hj => by
    have h1 := hall i (List.mem_range.2 (List.getElem?_eq_some_iff.1 ho).1)
    simp only [ho, Bool.and_eq_true, List.all_eq_true] at h1
    have h2 := h1.2 t ht
    simp only [hj, Array.any_eq_true, Bool.and_eq_true, beq_iff_eq] at h2
    obtain ⟨x, hx, hb, he⟩ := h2
    exact ⟨_, Array.getElem_mem hx, hb, he⟩
  have hdis : ∀ (i j : Nat) (oi oj : Oper) (d : Tmp), L[i]? = some oi → L[j]? = some oj → j ≠ i → oi.dst = some d → oj.dst ≠ some d := fun i j oi oj d hi hj hne hd e => by
    have h1 := (hdst i oi d hi hd).2
    have h2 := (hdst j oj d hj e).2
    rw [h1] at h2
    exact hne (Option.some.inj h2).symm
  refine wp_region_inv hm (fun listed a w => Below W.heap.size W w ∧ a.tmps.size = n ∧ a.defers = a0.defers ∧
    (∀ t : Tmp, (∀ (j : Nat) (oj : Oper), L[j]? = some oj → listed.getD j true = true → oj.dst ≠ some t) → a.eval (.tmp t) = a0.eval (.tmp t)) ∧
    (∀ (j : Nat) (oj : Oper) (d : Tmp), L[j]? = some oj → listed.getD j true = true → oj.dst = some d → Y j w (a.eval (.tmp d)))) ?_ ?_ ?_
  · refine ⟨step_drew W, hn, rfl, fun _ _ => rfl, fun j oj d hj hl _ => ?_⟩
    have hjl := (List.getElem?_eq_some_iff.1 hj).1
    simp [hjl] at hl
  · rintro listed a w i hs ⟨hB, hz, hd, hbase, hYs⟩ hi
    obtain ⟨hiu, o, ho, hwait⟩ := mem_ready.1 hi
    have ho' : L[i]? = some o := by simpa using ho
    have hil := (List.getElem?_eq_some_iff.1 ho').1
    have hh := hop_atK L 0 hop i o ho'
    rw [Nat.zero_add] at hh
    have hslots : ∀ t ∈ o.looksAt L.toArray, SlotOk L Y a0 a w t := fun t ht => by
      unfold SlotOk
      cases hj : depOf L t with
      | none => exact hbase t fun j oj hoj _ => depOf_none hj j oj hoj
      | some j =>
        obtain ⟨oj, hoj, hdj⟩ := depOf_some hj
        obtain ⟨e, he, hb, hon⟩ := hread i o t j ho' ht hj
        have h1 := hwait e he hb
        rw [hon] at h1
        refine hYs j oj t hoj ?_ hdj
        have hjl : j < listed.size := by rw [hs]; simpa using (List.getElem?_eq_some_iff.1 hoj).1
        simpa [hjl] using h1
    have hh := hh a w hB hslots
    have hset : ∀ (v : Value) (w' : World), Kc W.heap.size w w' → Y i w' v → (Below W.heap.size W w' ∧ (a.put o.dst v).tmps.size = n ∧ (a.put o.dst v).defers = a0.defers ∧
        (∀ t : Tmp, (∀ (j : Nat) (oj : Oper), L[j]? = some oj → (listed.setIfInBounds i true).getD j true = true → oj.dst ≠ some t) → (a.put o.dst v).eval (.tmp t) = a0.eval (.tmp t)) ∧
        (∀ (j : Nat) (oj : Oper) (d : Tmp), L[j]? = some oj → (listed.setIfInBounds i true).getD j true = true → oj.dst = some d → Y j w' ((a.put o.dst v).eval (.tmp d)))) := fun v w' hb hy => by
      refine ⟨hB.trans hb.below, by rw [put_size]; exact hz, by rw [put_defers]; exact hd, fun t ht => ?_, fun j oj d hoj hl hdj => ?_⟩
      · rw [eval_put_ne (ht i o ho' (by rw [Array.getD_eq_getD_getElem?, Array.getElem?_setIfInBounds_self]; simp [hs, hil]))]
        refine hbase t fun j oj hoj hl => ht j oj hoj ?_
        by_cases e : i = j
        · subst e; rw [hl] at hiu; cases hiu
        · rw [getD_set_ne true e]; exact hl
      · by_cases e : i = j
        · subst e
          obtain rfl : o = oj := Option.some.inj (ho'.symm.trans hoj)
          rw [hdj, eval_put_self (by rw [hz]; exact (hdst i o d ho' hdj).1)]
          exact hy
        · rw [eval_put_ne (hdis j i oj o d hoj ho' e hdj)]
          rw [getD_set_ne true e] at hl
          exact hY j w w' _ hb (hYs j oj d hoj hl hdj)
    unfold wpOp
    simp only [ho]
    by_cases hw : Region.wanted o (yielded L.toArray a.tmps) = true
    · rw [if_pos hw] at hh ⊢
      exact .inl (Oper.wp_mono (fun a' w' ⟨v, e, hb, hy⟩ => by rw [e]; exact hset v w' hb hy) hh)
    · rw [if_neg hw] at hh ⊢
      exact hset undef w (Kc.refl _ _) hh
  · rintro listed a w hs ⟨hB, hz, hd, hbase, hYs⟩ hr
    have hlisted : ∀ (j : Nat) (oj : Oper), L[j]? = some oj → listed.getD j true = true := fun j oj hoj => by
      have hjl := (List.getElem?_eq_some_iff.1 hoj).1
      cases h : listed.getD j true with
      | true => rfl
      | false => exact absurd hr (ready_of_unlisted hE hs j (by simpa using hjl) h)
    have hp : a = layAll (fun j => a.eval (match (L[j]?).bind (·.dst) with | some d => .tmp d | none => .const undef)) L 0 a0 := by
      obtain ⟨z1, z2⟩ := lay_size (fun j => a.eval (match (L[j]?).bind (·.dst) with | some d => .tmp d | none => .const undef)) L 0 a0
      refine act_ext (by rw [z1, hz, hn]) (by rw [z2, hd]) fun t ht => ?_
      cases hj : depOf L t with
      | none => rw [lay_base _ L 0 a0 (depOf_none hj)]; exact hbase t fun j oj hoj _ => depOf_none hj j oj hoj
      | some j =>
        obtain ⟨oj, hoj, hdj⟩ := depOf_some hj
        rw [lay_at _ L 0 j a0 oj hoj hdj (by rw [hn, ← hz]; exact ht) fun i oi hi hne => hdis j i oj oi t hoj hi hne hdj]
        simp [hoj, hdj]
    rw [hp]
    refine hend _ w hB (yall_of L 0 fun i o ho hdn => ?_)
    rw [Nat.zero_add]
    cases hdo : o.dst with
    | none => exact absurd hdo hdn
    | some d =>
      simp only [ho, hdo, Option.bind_some]
      exact hYs i o d ho (hlisted i o ho) hdo

/-- What is known of a value, and stays so. -/
structure StK where
  F : World → Value → Prop
  h : ∀ B w w' v, Kc B w w' → F w v → F w' v
def StK.any : StK := ⟨fun _ _ => True, fun _ _ _ _ _ _ => trivial⟩
def StK.eq (c : Value) : StK := ⟨fun _ v => v = c, fun _ _ _ _ _ h => h⟩
theorem IsB.kc {B : Nat} {w w' : World} {l : List UInt8} {v : Value} (h : IsB w l v) (hb : Kc B w w') : IsB w' l v := by
  obtain ⟨A, c, h1, h2, h3, h4, h5⟩ := h
  exact ⟨A, c, h1, h2, h3, h4, hb.rd h5⟩
def StK.bytes (l : List UInt8) : StK := ⟨fun w v => IsB w l v, fun _ _ _ _ hb h => h.kc hb⟩
/-- A slice of bytes in a block of its own, from B on. -/
def LitB (B : Nat) (w : World) (l : List UInt8) (v : Value) : Prop := ∃ g fr, v = .slice (some ⟨g, 0, none⟩) l.length l.length ∧ B ≤ g ∧ l.length ≤ 1000 ∧ w.heap[g]? = some (.cells (bvs l) 5 fr)
def StK.lit (B : Nat) (l : List UInt8) : StK := ⟨fun w v => LitB B w l v, fun _ _ _ _ hb h => by
  obtain ⟨g, fr, h1, h2, h4, h3⟩ := h
  obtain ⟨fr', h3', _⟩ := hb.kept _ _ _ _ h3
  exact ⟨g, fr', h1, h2, h4, h3'⟩⟩
def stYK (S : List StK) (i : Nat) (w : World) (v : Value) : Prop := ((S[i]?).getD StK.any).F w v
theorem wp_region_stK {P : Program} {id : Nat} {Q : Exit → Act → World → Prop} {a0 : Act} {W : World} {L : List Oper} (S : List StK) (n : Nat) (hn : a0.tmps.size = n) (hm : P.follows .mixedOrders = true) (hok : relOk L n = true)
    (hop : HopAllK P L Q (stYK S) a0 W L 0)
    (hend : ∀ (p : Nat → Value) (w : World), Below W.heap.size W w → YAll (stYK S) p w L 0 → Q .normal (layAll p L 0 a0) w) : (Code.region id L.toArray true).wp P Q a0 W :=
  wp_region_relK n hn hm hok (stYK S) (fun i w w' v hb h => ((S[i]?).getD StK.any).h _ w w' v hb h) hop hend
section
variable {P : Program} {Q : Exit → Act → World → Prop} {a : Act} {w : World} {o : Oper} {F : World → Value → Prop} {B : Nat}
theorem hop_runK {ops : Array Oper} (hw : Region.wanted o (yielded ops a.tmps) = true) (v : Value) (hr : (execOp a.eval o).run P w = .ok (.value v) w) (hF : F w v) :
    if Region.wanted o (yielded ops a.tmps) = true then o.wp P a w (fun a' w' => ∃ v, a' = a.put o.dst v ∧ Kc B w w' ∧ F w' v) Q else F w undef := by
  rw [if_pos hw]
  unfold Oper.wp
  rw [hr]
  exact ⟨v, rfl, Kc.refl _ _, hF⟩
theorem hop_growK {ops : Array Oper} (hw : Region.wanted o (yielded ops a.tmps) = true) (v : Value) {w1 : World} (hr : (execOp a.eval o).run P w = .ok (.value v) w1) (hb : Kc B w w1) (hF : F w1 v) :
    if Region.wanted o (yielded ops a.tmps) = true then o.wp P a w (fun a' w' => ∃ v, a' = a.put o.dst v ∧ Kc B w w' ∧ F w' v) Q else F w undef := by
  rw [if_pos hw]
  unfold Oper.wp
  rw [hr]
  exact ⟨v, rfl, hb, hF⟩
theorem hop_callK {ops : Array Oper} (hw : Region.wanted o (yielded ops a.tmps) = true) (hB : B ≤ w.heap.size) {f : FuncId} {args : Array Operand} {ts : Array TypeId} (ho : o.op = .call { callee := .value (.func f), args := args, argTypes := ts }) (vals : Array Value) (hv : args.map a.eval = vals) (hr : ∀ args w, (callFunc f args).run P w = .ok (.enter f args) w)
    (hc : Calls P f vals w fun e w' => ∃ v, e = .returned v ∧ Below w.heap.size w w' ∧ F w' v) :
    if Region.wanted o (yielded ops a.tmps) = true then o.wp P a w (fun a' w' => ∃ v, a' = a.put o.dst v ∧ Kc B w w' ∧ F w' v) Q else F w undef := by
  rw [if_pos hw]
  subst hv
  unfold Oper.wp
  have : (execOp a.eval o).run P w = .ok (.enter f (args.map a.eval)) w := by
    simp [execOp, ho, resolve, invoke, Act.eval, go_sem, hr]
  rw [this]
  exact hc.mono fun e w' ⟨v, he, hb, hF⟩ => by subst he; exact ⟨v, rfl, Kc.of_below hB hb, hF⟩
theorem hop_skipK {ops : Array Oper} {g : Nat} {b : Bool} {og : Oper} {d : Tmp} (hg : o.guard = some (g, b)) (ho : ops[g]? = some og) (hd : og.dst = some d) (hv' : a.eval (.tmp d) = .bool (!b)) (hF : F w undef) {X : Prop} :
    if Region.wanted o (yielded ops a.tmps) = true then X else F w undef := by
  rw [wanted_by hg ho hd hv', if_neg (by cases b <;> simp)]
  exact hF
end
/-- What is asked of a region whose operations from m on wait for all ahead of them. -/
def relOkT (L : List Oper) (m n : Nat) : Bool :=
  Region.noSelect L.toArray && backB L.toArray &&
  ((List.range m).all fun i => match (L.take m)[i]? with
    | none => true
    | some o => (match o.dst with
        | none => true
        | some d => decide (d < n) && depOf (L.take m) d == some i) &&
      (o.looksAt L.toArray).all fun t => match depOf (L.take m) t with
        | none => true
        | some j => o.after.any fun e => Region.binds .any e && e.on == j) &&
  ((L.drop m).all fun t => t.guard.isNone) && ((List.range L.length).all fun i => decide (i < m) || (List.range i).all fun j => Region.waitsFor .any L.toArray i j)
/-- What is known of slot t where operation o of the head reads it. -/
def HopT (P : Program) (L : List Oper) (m : Nat) (Q : Exit → Act → World → Prop) (Y : Nat → World → Value → Prop) (a0 : Act) (W : World) (k : Nat) (o : Oper) : Prop :=
  ∀ (a : Act) (w : World), Below W.heap.size W w → (∀ t ∈ o.looksAt L.toArray, SlotOk (L.take m) Y a0 a w t) →
    if Region.wanted o (yielded L.toArray a.tmps) = true then o.wp P a w (fun a' w' => ∃ v, a' = a.put o.dst v ∧ Kc W.heap.size w w' ∧ Y k w' v) Q else Y k w undef
def HopAllT (P : Program) (L : List Oper) (m : Nat) (Q : Exit → Act → World → Prop) (Y : Nat → World → Value → Prop) (a0 : Act) (W : World) : List Oper → Nat → Prop
  | [], _ => True
  | o :: l, k => HopT P L m Q Y a0 W k o ∧ HopAllT P L m Q Y a0 W l (k + 1)
theorem hop_atT {P : Program} {L : List Oper} {m : Nat} {Q : Exit → Act → World → Prop} {Y : Nat → World → Value → Prop} {a0 : Act} {W : World} : ∀ (l : List Oper) (k : Nat), HopAllT P L m Q Y a0 W l k → ∀ (i : Nat) (o : Oper), l[i]? = some o → HopT P L m Q Y a0 W (k + i) o
  | [], _, _, i, o, ho => by cases ho
  | q :: l, k, h, 0, o, ho => by
    simp only [List.getElem?_cons_zero, Option.some.injEq] at ho
    subst ho; exact h.1
  | q :: l, k, h, i + 1, o, ho => by
    have := hop_atT l (k + 1) h.2 i o (by simpa using ho)
    rwa [show k + 1 + i = k + (i + 1) by omega] at this
/-- **A region's orders, by what each operation of its head leaves behind; its tail in the text's order.** -/
theorem wp_region_relT {P : Program} {id : Nat} {Q : Exit → Act → World → Prop} {a0 : Act} {W : World} {L : List Oper} (m n : Nat) (hn : a0.tmps.size = n) (hm : P.follows .mixedOrders = true) (hok : relOkT L m n = true) (Y : Nat → World → Value → Prop)
    (hY : ∀ i w w' v, Kc W.heap.size w w' → Y i w v → Y i w' v) (hop : HopAllT P L m Q Y a0 W (L.take m) 0)
    (hend : ∀ (p : Nat → Value) (w : World), Below W.heap.size W w → YAll Y p w (L.take m) 0 → wpList P L.toArray Q (L.drop m) (layAll p (L.take m) 0 a0) w) : (Code.region id L.toArray true).wp P Q a0 W := by
  unfold relOkT at hok
  simp only [Bool.and_eq_true, List.all_eq_true, Option.isNone_iff_eq_none, Bool.or_eq_true, decide_eq_true_eq] at hok
  obtain ⟨⟨⟨⟨hsel, hE⟩, hall⟩, hT1⟩, hT2⟩ := hok
  have htake : ∀ (i : Nat) (o : Oper), (L.take m)[i]? = some o → i < m ∧ L[i]? = some o := fun i o h => by
    rw [List.getElem?_take] at h
    split at h
    · exact ⟨by assumption, h⟩
    · cases h
  have hintake : ∀ (i : Nat) (o : Oper), i < m → L[i]? = some o → (L.take m)[i]? = some o := fun i o h1 h2 => by
    rw [List.getElem?_take, if_pos h1]; exact h2
  have hdst : ∀ (i : Nat) (o : Oper) (d : Tmp), (L.take m)[i]? = some o → o.dst = some d → d < n ∧ depOf (L.take m) d = some i := fun i o d ho hd => by
    have h1 := hall i (List.mem_range.2 (htake i o ho).1)
    simp only [ho, hd, Bool.and_eq_true, decide_eq_true_eq, beq_iff_eq] at h1
    exact h1.1
  have hread : ∀ (i : Nat) (o : Oper) (t : Tmp) (j : Nat), (L.take m)[i]? = some o → t ∈ o.looksAt L.toArray → depOf (L.take m) t = some j → ∃ e ∈ o.after, Region.binds .any e = true ∧ e.on = j := fun i o t j ho ht hj => by
    have h1 := hall i (List.mem_range.2 (htake i o ho).1)
    simp only [ho, Bool.and_eq_true, List.all_eq_true] at h1
    have h2 := h1.2 t ht
    simp only [hj, Array.any_eq_true, Bool.and_eq_true, beq_iff_eq] at h2
    obtain ⟨x, hx, hb, he⟩ := h2
    exact ⟨_, Array.getElem_mem hx, hb, he⟩
  have hdis : ∀ (i j : Nat) (oi oj : Oper) (d : Tmp), (L.take m)[i]? = some oi → (L.take m)[j]? = some oj → j ≠ i → oi.dst = some d → oj.dst ≠ some d := fun i j oi oj d hi hj hne hd e => by
    have h1 := (hdst i oi d hi hd).2
    have h2 := (hdst j oj d hj e).2
    rw [h1] at h2
    exact hne (Option.some.inj h2).symm
  -- a tail operation that is ready: all ahead of it is listed
  have htail : ∀ (listed : Array Bool) (i : Nat), listed.size = L.toArray.size → i ∈ Region.ready .any L.toArray listed → m ≤ i → ∀ j, j < i → listed.getD j true = true := by
    intro listed i hs hi hmi j hj
    obtain ⟨hiu, o, ho, hwait⟩ := mem_ready.1 hi
    have hil : i < L.length := by simpa using (Array.getElem?_eq_some_iff.1 ho).1
    have h3 := hT2 i (List.mem_range.2 hil)
    rcases h3 with h3 | h3
    · omega
    obtain ⟨o', ho', e, he, hb, hon⟩ := Region.waitsFor_spec (h3 j (List.mem_range.2 hj))
    have : o' = o := Option.some.inj (ho'.symm.trans ho)
    subst this
    have h5 := hwait e he hb
    rw [hon, ← getD_listed (by simp at hs; omega)] at h5
    exact h5
  have hI : ∀ (listed : Array Bool) (a : Act) (w : World), (Below W.heap.size W w ∧ a.tmps.size = n ∧ a.defers = a0.defers ∧
      (∀ t : Tmp, (∀ (j : Nat) (oj : Oper), (L.take m)[j]? = some oj → listed.getD j true = true → oj.dst ≠ some t) → a.eval (.tmp t) = a0.eval (.tmp t)) ∧
      (∀ (j : Nat) (oj : Oper) (d : Tmp), (L.take m)[j]? = some oj → listed.getD j true = true → oj.dst = some d → Y j w (a.eval (.tmp d)))) → (∀ j, j < m → j < L.length → listed.getD j true = true) → wpList P L.toArray Q (L.drop m) a w := by
    rintro listed a w ⟨hB, hz, hd, hbase, hYs⟩ hl
    have hlisted : ∀ (j : Nat) (oj : Oper), (L.take m)[j]? = some oj → listed.getD j true = true := fun j oj hoj => by
      obtain ⟨h1, h2⟩ := htake j oj hoj
      exact hl j h1 (List.getElem?_eq_some_iff.1 h2).1
    have hp : a = layAll (fun j => a.eval (match ((L.take m)[j]?).bind (·.dst) with | some d => .tmp d | none => .const undef)) (L.take m) 0 a0 := by
      obtain ⟨z1, z2⟩ := lay_size (fun j => a.eval (match ((L.take m)[j]?).bind (·.dst) with | some d => .tmp d | none => .const undef)) (L.take m) 0 a0
      refine act_ext (by rw [z1, hz, hn]) (by rw [z2, hd]) fun t ht => ?_
      cases hj : depOf (L.take m) t with
      | none => rw [lay_base _ (L.take m) 0 a0 (depOf_none hj)]; exact hbase t fun j oj hoj _ => depOf_none hj j oj hoj
      | some j =>
        obtain ⟨oj, hoj, hdj⟩ := depOf_some hj
        rw [lay_at _ (L.take m) 0 j a0 oj hoj hdj (by rw [hn, ← hz]; exact ht) fun i oi hi hne => hdis j i oj oi t hoj hi hne hdj]
        rw [Nat.zero_add]
        simp only [hoj, hdj, Option.bind_some]
    rw [hp]
    refine hend _ w hB (yall_of (L.take m) 0 fun i o ho hdn => ?_)
    rw [Nat.zero_add]
    cases hdo : o.dst with
    | none => exact absurd hdo hdn
    | some d =>
      simp only [ho, hdo, Option.bind_some]
      exact hYs i o d ho (hlisted i o ho) hdo
  refine wp_region_inv hm (fun listed a w => ((∀ j, m ≤ j → j < L.length → listed.getD j true = false) ∧ Below W.heap.size W w ∧ a.tmps.size = n ∧ a.defers = a0.defers ∧
    (∀ t : Tmp, (∀ (j : Nat) (oj : Oper), (L.take m)[j]? = some oj → listed.getD j true = true → oj.dst ≠ some t) → a.eval (.tmp t) = a0.eval (.tmp t)) ∧
    (∀ (j : Nat) (oj : Oper) (d : Tmp), (L.take m)[j]? = some oj → listed.getD j true = true → oj.dst = some d → Y j w (a.eval (.tmp d)))) ∨
    (∃ k, m ≤ k ∧ (∀ j, j < L.length → (listed.getD j true = true ↔ j < k)) ∧ wpList P L.toArray Q (L.drop k) a w)) ?_ ?_ ?_
  · refine .inl ⟨fun j _ hj => by simp [hj], step_drew W, hn, rfl, fun _ _ => rfl, fun j oj d hj hl _ => ?_⟩
    have hjl := (List.getElem?_eq_some_iff.1 (htake j oj hj).2).1
    simp [hjl] at hl
  · rintro listed a w i hs hinv hi
    obtain ⟨hiu, o, ho, hwait⟩ := mem_ready.1 hi
    have ho' : L[i]? = some o := by simpa using ho
    have hil := (List.getElem?_eq_some_iff.1 ho').1
    have hsl : listed.size = L.length := by simpa using hs
    by_cases him : i < m
    · rcases hinv with ⟨htl, hB, hz, hd, hbase, hYs⟩ | ⟨k, hmk, hlk, _⟩
      · have ht' := hintake i o him ho'
        have hh := hop_atT (L.take m) 0 hop i o ht'
        rw [Nat.zero_add] at hh
        have hslots : ∀ t ∈ o.looksAt L.toArray, SlotOk (L.take m) Y a0 a w t := fun t ht => by
          unfold SlotOk
          cases hj : depOf (L.take m) t with
          | none => exact hbase t fun j oj hoj _ => depOf_none hj j oj hoj
          | some j =>
            obtain ⟨oj, hoj, hdj⟩ := depOf_some hj
            obtain ⟨e, he, hb, hon⟩ := hread i o t j ht' ht hj
            have h1 := hwait e he hb
            rw [hon] at h1
            refine hYs j oj t hoj ?_ hdj
            have hjl : j < listed.size := by rw [hsl]; exact (List.getElem?_eq_some_iff.1 (htake j oj hoj).2).1
            simpa [hjl] using h1
        have hh := hh a w hB hslots
        have hset : ∀ (v : Value) (w' : World), Kc W.heap.size w w' → Y i w' v → ((∀ j, m ≤ j → j < L.length → (listed.setIfInBounds i true).getD j true = false) ∧ Below W.heap.size W w' ∧ (a.put o.dst v).tmps.size = n ∧ (a.put o.dst v).defers = a0.defers ∧
            (∀ t : Tmp, (∀ (j : Nat) (oj : Oper), (L.take m)[j]? = some oj → (listed.setIfInBounds i true).getD j true = true → oj.dst ≠ some t) → (a.put o.dst v).eval (.tmp t) = a0.eval (.tmp t)) ∧
            (∀ (j : Nat) (oj : Oper) (d : Tmp), (L.take m)[j]? = some oj → (listed.setIfInBounds i true).getD j true = true → oj.dst = some d → Y j w' ((a.put o.dst v).eval (.tmp d)))) := fun v w' hb hy => by
          refine ⟨fun j h1 h2 => by rw [getD_set_ne true (show i ≠ j by omega)]; exact htl j h1 h2, hB.trans hb.below, by rw [put_size]; exact hz, by rw [put_defers]; exact hd, fun t ht => ?_, fun j oj d hoj hl hdj => ?_⟩
          · rw [eval_put_ne (ht i o ht' (by rw [Array.getD_eq_getD_getElem?, Array.getElem?_setIfInBounds_self]; simp [hsl, hil]))]
            refine hbase t fun j oj hoj hl => ht j oj hoj ?_
            by_cases e : i = j
            · subst e; rw [hl] at hiu; cases hiu
            · rw [getD_set_ne true e]; exact hl
          · by_cases e : i = j
            · subst e
              obtain rfl : o = oj := Option.some.inj (ht'.symm.trans hoj)
              rw [hdj, eval_put_self (by rw [hz]; exact (hdst i o d ht' hdj).1)]
              exact hy
            · rw [eval_put_ne (hdis j i oj o d hoj ht' e hdj)]
              rw [getD_set_ne true e] at hl
              exact hY j w w' _ hb (hYs j oj d hoj hl hdj)
        unfold wpOp
        simp only [ho]
        by_cases hw : Region.wanted o (yielded L.toArray a.tmps) = true
        · rw [if_pos hw] at hh ⊢
          exact .inl (Oper.wp_mono (fun a' w' ⟨v, e, hb, hy⟩ => by rw [e]; exact .inl (hset v w' hb hy)) hh)
        · rw [if_neg hw] at hh ⊢
          exact .inl (hset undef w (Kc.refl _ _) hh)
      · have := (hlk i hil).2 (by omega)
        rw [this] at hiu; cases hiu
    · have hmi : m ≤ i := Nat.le_of_not_lt him
      have hahead := htail listed i hs hi hmi
      have hk : (∀ j, j < L.length → (listed.getD j true = true ↔ j < i)) ∧ wpList P L.toArray Q (L.drop i) a w := by
        rcases hinv with ⟨htl, hrest⟩ | ⟨k, hmk, hlk, hwp⟩
        · obtain rfl : i = m := by
            refine Nat.le_antisymm (Nat.le_of_not_lt fun hlt => ?_) hmi
            have h1 := hahead m hlt
            rw [htl m (Nat.le_refl _) (by omega)] at h1; cases h1
          refine ⟨fun j hj => ⟨fun h => Nat.lt_of_not_le fun h2 => ?_, hahead j⟩, hI listed a w hrest fun j h1 _ => hahead j h1⟩
          rw [htl j h2 hj] at h; cases h
        · obtain rfl : k = i := by
            refine Nat.le_antisymm (Nat.le_of_not_lt fun hlt => ?_) (Nat.le_of_not_lt fun hlt => ?_)
            · have := (hlk i hil).2 hlt
              rw [this] at hiu; cases hiu
            · have := (hlk k (by omega)).1 (hahead k hlt)
              omega
          exact ⟨hlk, hwp⟩
      obtain ⟨hlk, hwp⟩ := hk
      have hdr : L.drop i = L[i] :: L.drop (i + 1) := List.drop_eq_getElem_cons hil
      have hoe : L[i] = o := by rw [List.getElem?_eq_getElem hil] at ho'; exact Option.some.inj ho'
      rw [hoe] at hdr
      have hg := hT1 o (by
        have h6 : L.drop i = (L.drop m).drop (i - m) := by rw [List.drop_drop]; congr 1; omega
        have h7 : o ∈ L.drop i := by rw [hdr]; exact List.mem_cons_self
        rw [h6] at h7
        exact List.mem_of_mem_drop h7)
      have hset : ∀ j, j < L.length → ((listed.setIfInBounds i true).getD j true = true ↔ j < i + 1) := by
        intro j hj
        by_cases hji : j = i
        · subst hji; simp [hsl, hj]
        · rw [getD_set_ne true (fun e => hji e.symm), hlk j hj]; omega
      rw [hdr] at hwp
      unfold wpList at hwp
      unfold wpOp
      simp only [ho]
      have hw' : ∀ g, Region.wanted o g = true := fun g => by simp [Region.wanted, hg]
      simp only [hw', if_true] at hwp ⊢
      exact hwp.imp (Oper.wp_mono fun a' w' h' => .inr ⟨i + 1, by omega, hset, h'⟩) (fun h => h)
  · rintro listed a w hs hinv hr
    have hsl : listed.size = L.length := by simpa using hs
    have hlisted : ∀ j, j < L.length → listed.getD j true = true := fun j hj => by
      cases h : listed.getD j true with
      | true => rfl
      | false => exact absurd hr (ready_of_unlisted hE hs j (by simpa using hj) h)
    have hwp : ∃ k, L.length ≤ k ∧ wpList P L.toArray Q (L.drop k) a w := by
      rcases hinv with ⟨htl, hrest⟩ | ⟨k, hmk, hlk, hwp⟩
      · refine ⟨m, Nat.le_of_not_lt fun hlt => ?_, hI listed a w hrest fun j _ hj => hlisted j hj⟩
        have h1 := htl m (Nat.le_refl _) hlt
        rw [hlisted m hlt] at h1; cases h1
      · refine ⟨k, Nat.le_of_not_lt fun hlt => ?_, hwp⟩
        exact absurd ((hlk k hlt).1 (hlisted k hlt)) (Nat.lt_irrefl _)
    obtain ⟨k, h1, h2⟩ := hwp
    rw [List.drop_eq_nil_of_le h1] at h2
    exact h2
theorem wp_region_stT {P : Program} {id : Nat} {Q : Exit → Act → World → Prop} {a0 : Act} {W : World} {L : List Oper} (S : List StK) (m n : Nat) (hn : a0.tmps.size = n) (hm : P.follows .mixedOrders = true) (hok : relOkT L m n = true)
    (hop : HopAllT P L m Q (stYK S) a0 W (L.take m) 0)
    (hend : ∀ (p : Nat → Value) (w : World), Below W.heap.size W w → YAll (stYK S) p w (L.take m) 0 → wpList P L.toArray Q (L.drop m) (layAll p (L.take m) 0 a0) w) : (Code.region id L.toArray true).wp P Q a0 W :=
  wp_region_relT m n hn hm hok (stYK S) (fun i w w' v hb h => ((S[i]?).getD StK.any).h _ w w' v hb h) hop hend
def relOkU (L : List Oper) (m n : Nat) : Bool :=
  Region.noSelect L.toArray && backB L.toArray &&
  ((List.range m).all fun i => match (L.take m)[i]? with
    | none => true
    | some o => (match o.dst with
        | none => true
        | some d => decide (d < n) && depOf (L.take m) d == some i) &&
      (o.looksAt L.toArray).all fun t => match depOf (L.take m) t with
        | none => true
        | some j => o.after.any fun e => Region.binds .any e && e.on == j)
/-- .. in the text's order. -/
theorem wp_region_relU {P : Program} {id : Nat} {Q : Exit → Act → World → Prop} {a0 : Act} {W : World} {L : List Oper} (m n : Nat) (hn : a0.tmps.size = n) (hok : relOkU L m n = true) (hml : m ≤ L.length) (Y : Nat → World → Value → Prop)
    (hY : ∀ i w w' v, Kc W.heap.size w w' → Y i w v → Y i w' v) (hop : HopAllT P L m Q Y a0 W (L.take m) 0)
    (hend : ∀ (p : Nat → Value) (w : World), Below W.heap.size W w → YAll Y p w (L.take m) 0 → wpList P L.toArray Q (L.drop m) (layAll p (L.take m) 0 a0) w) : (Code.region id L.toArray false).wp P Q a0 W := by
  unfold relOkU at hok
  simp only [Bool.and_eq_true, List.all_eq_true] at hok
  obtain ⟨⟨hsel, hE⟩, hall⟩ := hok
  have htake : ∀ (i : Nat) (o : Oper), (L.take m)[i]? = some o → i < m ∧ L[i]? = some o := fun i o h => by
    rw [List.getElem?_take] at h
    split at h
    · exact ⟨by assumption, h⟩
    · cases h
  have hintake : ∀ (i : Nat) (o : Oper), i < m → L[i]? = some o → (L.take m)[i]? = some o := fun i o h1 h2 => by
    rw [List.getElem?_take, if_pos h1]; exact h2
  have hdst : ∀ (i : Nat) (o : Oper) (d : Tmp), (L.take m)[i]? = some o → o.dst = some d → d < n ∧ depOf (L.take m) d = some i := fun i o d ho hd => by
    have h1 := hall i (List.mem_range.2 (htake i o ho).1)
    simp only [ho, hd, Bool.and_eq_true, decide_eq_true_eq, beq_iff_eq] at h1
    exact h1.1
  have hread : ∀ (i : Nat) (o : Oper) (t : Tmp) (j : Nat), (L.take m)[i]? = some o → t ∈ o.looksAt L.toArray → depOf (L.take m) t = some j → j < i := fun i o t j ho ht hj => by
    have h1 := hall i (List.mem_range.2 (htake i o ho).1)
    simp only [ho, Bool.and_eq_true, List.all_eq_true] at h1
    have h2 := h1.2 t ht
    simp only [hj, Array.any_eq_true, Bool.and_eq_true, beq_iff_eq] at h2
    obtain ⟨x, hx, hb, he⟩ := h2
    have := backB_spec hE (i := i) (o := o) (by simpa using (htake i o ho).2) _ (Array.getElem_mem hx) hb
    omega
  have hdis : ∀ (i j : Nat) (oi oj : Oper) (d : Tmp), (L.take m)[i]? = some oi → (L.take m)[j]? = some oj → j ≠ i → oi.dst = some d → oj.dst ≠ some d := fun i j oi oj d hi hj hne hd e => by
    have h1 := (hdst i oi d hi hd).2
    have h2 := (hdst j oj d hj e).2
    rw [h1] at h2
    exact hne (Option.some.inj h2).symm
  have main : ∀ (r k : Nat) (a : Act) (w : World), k + r = m → Below W.heap.size W w → a.tmps.size = n → a.defers = a0.defers →
      (∀ t : Tmp, (∀ (j : Nat) (oj : Oper), (L.take m)[j]? = some oj → j < k → oj.dst ≠ some t) → a.eval (.tmp t) = a0.eval (.tmp t)) →
      (∀ (j : Nat) (oj : Oper) (d : Tmp), (L.take m)[j]? = some oj → j < k → oj.dst = some d → Y j w (a.eval (.tmp d))) → wpList P L.toArray Q (L.drop k) a w := by
    intro r
    induction r with
    | zero =>
      intro k a w hk hB hz hd hbase hYs
      obtain rfl : k = m := by omega
      have hp : a = layAll (fun j => a.eval (match ((L.take k)[j]?).bind (·.dst) with | some d => .tmp d | none => .const undef)) (L.take k) 0 a0 := by
        obtain ⟨z1, z2⟩ := lay_size (fun j => a.eval (match ((L.take k)[j]?).bind (·.dst) with | some d => .tmp d | none => .const undef)) (L.take k) 0 a0
        refine act_ext (by rw [z1, hz, hn]) (by rw [z2, hd]) fun t ht => ?_
        cases hj : depOf (L.take k) t with
        | none => rw [lay_base _ (L.take k) 0 a0 (depOf_none hj)]; exact hbase t fun j oj hoj _ => depOf_none hj j oj hoj
        | some j =>
          obtain ⟨oj, hoj, hdj⟩ := depOf_some hj
          rw [lay_at _ (L.take k) 0 j a0 oj hoj hdj (by rw [hn, ← hz]; exact ht) fun i oi hi hne => hdis j i oj oi t hoj hi hne hdj]
          rw [Nat.zero_add]
          simp only [hoj, hdj, Option.bind_some]
      rw [hp]
      refine hend _ w hB (yall_of (L.take k) 0 fun i o ho hdn => ?_)
      rw [Nat.zero_add]
      cases hdo : o.dst with
      | none => exact absurd hdo hdn
      | some d =>
        simp only [ho, hdo, Option.bind_some]
        exact hYs i o d ho (htake i o ho).1 hdo
    | succ r ih =>
      intro k a w hk hB hz hd hbase hYs
      have hkl : k < L.length := by omega
      have hdr : L.drop k = L[k] :: L.drop (k + 1) := List.drop_eq_getElem_cons hkl
      have hok := hintake k L[k] (by omega) (List.getElem?_eq_getElem hkl)
      have hh := hop_atT (L.take m) 0 hop k L[k] hok
      rw [Nat.zero_add] at hh
      have hh := hh a w hB fun t ht => by
        unfold SlotOk
        cases hj : depOf (L.take m) t with
        | none => exact hbase t fun j oj hoj _ => depOf_none hj j oj hoj
        | some j =>
          obtain ⟨oj, hoj, hdj⟩ := depOf_some hj
          exact hYs j oj t hoj (hread k L[k] t j hok ht hj) hdj
      have hset : ∀ (v : Value) (w' : World), Kc W.heap.size w w' → Y k w' v → wpList P L.toArray Q (L.drop (k + 1)) (a.put L[k].dst v) w' := fun v w' hb hy => by
        refine ih (k + 1) _ w' (by omega) (hB.trans hb.below) (by rw [put_size]; exact hz) (by rw [put_defers]; exact hd) (fun t ht => ?_) (fun j oj d hoj hl hdj => ?_)
        · rw [eval_put_ne (ht k L[k] hok (Nat.lt_succ_self k))]
          exact hbase t fun j oj hoj hl => ht j oj hoj (by omega)
        · by_cases e : k = j
          · subst e
            obtain rfl : L[k] = oj := Option.some.inj (hok.symm.trans hoj)
            rw [hdj, eval_put_self (by rw [hz]; exact (hdst k _ d hok hdj).1)]
            exact hy
          · rw [eval_put_ne (hdis j k oj L[k] d hoj hok e hdj)]
            exact hY j w w' _ hb (hYs j oj d hoj (by omega) hdj)
      rw [hdr]
      unfold wpList
      by_cases hw : Region.wanted L[k] (yielded L.toArray a.tmps) = true
      · rw [if_pos hw] at hh ⊢
        exact .inl (Oper.wp_mono (fun a' w' ⟨v, e, hb, hy⟩ => by rw [e]; exact hset v w' hb hy) hh)
      · rw [if_neg hw] at hh ⊢
        exact hset undef w (Kc.refl _ _) hh
  refine wp_region_list ?_
  have := main m 0 a0 W (by omega) (Below.refl _ _) hn rfl (fun _ _ => rfl) (fun _ _ _ _ h => absurd h (by omega))
  simpa using this
theorem wp_region_stU {P : Program} {id : Nat} {Q : Exit → Act → World → Prop} {a0 : Act} {W : World} {L : List Oper} (S : List StK) (m n : Nat) (hn : a0.tmps.size = n) (hok : relOkU L m n = true) (hml : (decide (m ≤ L.length)) = true)
    (hop : HopAllT P L m Q (stYK S) a0 W (L.take m) 0)
    (hend : ∀ (p : Nat → Value) (w : World), Below W.heap.size W w → YAll (stYK S) p w (L.take m) 0 → wpList P L.toArray Q (L.drop m) (layAll p (L.take m) 0 a0) w) : (Code.region id L.toArray false).wp P Q a0 W :=
  wp_region_relU m n hn hok (of_decide_eq_true hml) (stYK S) (fun i w w' v hb h => ((S[i]?).getD StK.any).h _ w w' v hb h) hop hend
/-- A block that the region laid, whole. -/
def StK.new (B : Nat) (cs : Array Value) (t : TypeId) (ht : t ≠ 5) : StK := ⟨fun w v => ∃ g, v = .pointer (some ⟨g, 0, none⟩) ∧ B ≤ g ∧ w.heap[g]? = some (.cells cs t (0, 0)), fun _ _ _ _ hb h => by
  obtain ⟨g, h1, h2, h3⟩ := h
  obtain ⟨fr', h3', he⟩ := hb.kept _ _ _ _ h3
  rw [he ht] at h3'
  exact ⟨g, h1, h2, h3'⟩⟩
theorem hop_new {P : Program} {Q : Exit → Act → World → Prop} {a : Act} {w : World} {o : Oper} {B B' : Nat} {ops : Array Oper} (hw : Region.wanted o (yielded ops a.tmps) = true) (hB : B ≤ w.heap.size) (hB' : B' ≤ w.heap.size) {cs : Array Value} {t : TypeId} (ht : t ≠ 5)
    (hr : (execOp a.eval o).run P w = .ok (.value (.pointer (some ⟨w.heap.size, 0, none⟩))) (w.alloc (.cells cs t))) :
    if Region.wanted o (yielded ops a.tmps) = true then o.wp P a w (fun a' w' => ∃ v, a' = a.put o.dst v ∧ Kc B w w' ∧ (StK.new B' cs t ht).F w' v) Q else (StK.new B' cs t ht).F w undef :=
  hop_growK (F := (StK.new B' cs t ht).F) hw _ hr (Kc.of_below hB (step_alloc w _)) ⟨w.heap.size, rfl, hB', heap_alloc_new w _⟩
theorem Kc.isCells {B : Nat} {w w' : World} (k : Kc B w w') {b o : Nat} {v : Value} (h : w.cell? ⟨b, o, none⟩ = some v) : w'.cell? ⟨b, o, none⟩ = some v := by
  cases hw : w.heap[b]? with
  | none => simp [World.cell?, hw] at h
  | some ob =>
    cases ob with
    | cells cs t fr =>
      obtain ⟨fr', h2, _⟩ := k.kept b cs t fr hw
      simp only [World.cell?, hw] at h
      simp only [World.cell?, h2]
      exact h
    | _ => simp [World.cell?, hw] at h
end Go.Proofs.Ytgccbfkofkohpaa
