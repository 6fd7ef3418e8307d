/- Regions that draw their order and store whole into blocks that were there, loads floating past stores. -/
import Derived.Test.YtcfobgimpflneaaGaRel
namespace Go.Proofs.Ytcfobgimpflneaa
set_option linter.unusedVariables false
set_option linter.unusedSimpArgs false
open Go.ChangeShapes Go.WideShapes Go.ChangeAt Go.RowKit
/-- A store: its operation, its block, what the block holds ahead and behind. -/
structure Put where
  k : Nat
  b : Nat
  O : Obj
  O' : Obj
structure OldAt (W : World) (S : Nat → Put) (m B0 : Nat) (f : Nat → Bool) (w : World) : Prop where
  below : Below B0 W w
  rest : ∀ b, b < W.heap.size → (∀ q, q < m → b ≠ (S q).b) → w.heap[b]? = W.heap[b]?
  at_ : ∀ q, q < m → w.heap[(S q).b]? = some (if f (S q).k = true then (S q).O' else (S q).O)
theorem OldAt.step {W : World} {S : Nat → Put} {m B0 : Nat} {f : Nat → Bool} {w w' : World} (h : OldAt W S m B0 f w) (hB : B0 ≤ W.heap.size) (hb : Below w.heap.size w w') : OldAt W S m B0 f w' :=
  ⟨h.below.trans (hb.mono (Nat.le_trans hB h.below.size)), fun b hl hn => (hb.block b (Nat.lt_of_lt_of_le hl h.below.size)).trans (h.rest b hl hn), fun q hq => (hb.block _ (heap_lt (h.at_ q hq))).trans (h.at_ q hq)⟩
def putTest (L : List Oper) (S : Nat → Put) (m : Nat) : Bool := (List.range m).all fun q =>
  (match L[(S q).k]? with | some o => o.guard.isNone && o.dst == none | none => false) && (List.range m).all fun r => q == r || (S q).k != (S r).k
def isPut (S : Nat → Put) (m k : Nat) : Bool := (List.range m).any fun q => (S q).k == k
def HopO (P : Program) (L : List Oper) (Q : Exit → Act → World → Prop) (Y : Nat → Value → Prop) (S : Nat → Put) (m B0 : Nat) (a0 : Act) (W : World) (k : Nat) (o : Oper) : Prop :=
  ∀ (a : Act) (w : World) (f : Nat → Bool), OldAt W S m B0 f w → (∀ q, q < m → waitB L 40 (S q).k k = true → f (S q).k = false) → (∀ t ∈ o.looksAt L.toArray, SlotOk L (fun i _ v => Y i v) a0 a w t) →
    if Region.wanted o (yielded L.toArray a.tmps) = true then o.wp P a w (fun a' w' => ∃ v, a' = a.put o.dst v ∧ Below w.heap.size w w' ∧ Y k v) Q else Y k undef
def HopAllO (P : Program) (L : List Oper) (Q : Exit → Act → World → Prop) (Y : Nat → Value → Prop) (S : Nat → Put) (m B0 : Nat) (a0 : Act) (W : World) : List Oper → Nat → Prop
  | [], _ => True
  | o :: l, k => (isPut S m k = false → HopO P L Q Y S m B0 a0 W k o) ∧ HopAllO P L Q Y S m B0 a0 W l (k + 1)
theorem hop_atO {P : Program} {L : List Oper} {Q : Exit → Act → World → Prop} {Y : Nat → Value → Prop} {S : Nat → Put} {m B0 : Nat} {a0 : Act} {W : World} : ∀ (l : List Oper) (k : Nat), HopAllO P L Q Y S m B0 a0 W l k → ∀ (i : Nat) (o : Oper), l[i]? = some o → isPut S m (k + i) = false → HopO P L Q Y S m B0 a0 W (k + i) o
  | [], _, _, i, o, ho, _ => by cases ho
  | q :: l, k, h, 0, o, ho, hi => by
    simp only [List.getElem?_cons_zero, Option.some.injEq] at ho
    subst ho
    rw [Nat.add_zero] at hi
    exact h.1 hi
  | q :: l, k, h, i + 1, o, ho, hi => by
    have := hop_atO l (k + 1) h.2 i o (by simpa using ho) (by rwa [show k + 1 + i = k + (i + 1) by omega])
    rwa [show k + 1 + i = k + (i + 1) by omega] at this
/-- **A region whose stores go whole into blocks that were there, in any order.** -/
theorem wp_region_old {P : Program} {id : Nat} {Q : Exit → Act → World → Prop} {a0 : Act} {W : World} {L : List Oper} (S : Nat → Put) (m n B0 : Nat) (hB0 : B0 ≤ W.heap.size) (hn : a0.tmps.size = n) (hm : P.follows .mixedOrders = true) (hok : relOk L n = true) (hpt : putTest L S m = true) (Y : Nat → Value → Prop)
    (hYS : ∀ i v, isPut S m i = true → Y i v) (hb0 : ∀ q, q < m → B0 ≤ (S q).b ∧ W.heap[(S q).b]? = some (S q).O) (hbb : ∀ q r, q < m → r < m → q ≠ r → (S q).b ≠ (S r).b)
    (hput : ∀ q, q < m → ∀ (o : Oper) (a : Act) (w : World), L[(S q).k]? = some o → (∀ t ∈ o.looksAt L.toArray, SlotOk L (fun i _ v => Y i v) a0 a w t) → w.heap[(S q).b]? = some (S q).O →
      ∃ w', (execOp a.eval o).run P w = .ok .skip w' ∧ w'.heap[(S q).b]? = some (S q).O' ∧ w.grownBy w' (some (S q).b))
    (hop : HopAllO P L Q Y S m B0 a0 W L 0)
    (hend : ∀ (p : Nat → Value) (w : World), OldAt W S m B0 (fun _ => true) w → YAll (fun i _ v => Y i v) p w L 0 → Q .normal (layAll p L 0 a0) w) : (Code.region id L.toArray true).wp P Q a0 W := by
  unfold relOk at hok
  simp only [Bool.and_eq_true, List.all_eq_true] at hok
  obtain ⟨⟨hsel, hE⟩, hall⟩ := hok
  unfold putTest at hpt
  simp only [Bool.and_eq_true, List.all_eq_true] at hpt
  have hK : ∀ q, q < m → ∃ o, L[(S q).k]? = some o ∧ o.guard = none ∧ o.dst = none := fun q hq => by
    have h1 := (hpt q (List.mem_range.2 hq)).1
    cases ho : L[(S q).k]? with
    | none => rw [ho] at h1; cases h1
    | some o => rw [ho] at h1; simp at h1; exact ⟨o, rfl, h1.1, h1.2⟩
  have hqr : ∀ q r, q < m → r < m → q ≠ r → (S q).k ≠ (S r).k := fun q r hq hr hne => by
    have h1 := (hpt q (List.mem_range.2 hq)).2 r (List.mem_range.2 hr)
    simp only [Bool.or_eq_true, beq_iff_eq, bne_iff_ne, ne_eq] at h1
    rcases h1 with h1 | h1
    · exact absurd h1 hne
    · exact h1
  clear hpt
  have hdst : ∀ (i : Nat) (o : Oper) (d : Tmp), L[i]? = some o → o.dst = some d → d < n ∧ depOf L d = some i := fun i o d ho hd => by
    have h1 := hall i (List.mem_range.2 (List.getElem?_eq_some_iff.1 ho).1)
    simp only [ho, hd, Bool.and_eq_true, decide_eq_true_eq, beq_iff_eq] at h1
    exact h1.1
  have hread : ∀ (i : Nat) (o : Oper) (t : Tmp) (j : Nat), L[i]? = some o → t ∈ o.looksAt L.toArray → depOf L t = some j → ∃ e ∈ o.after, Region.binds .any e = true ∧ e.on = j := fun i o t j ho ht hj => by
    have h1 := hall i (List.mem_range.2 (List.getElem?_eq_some_iff.1 ho).1)
    simp only [ho, Bool.and_eq_true, List.all_eq_true] at h1
    have h2 := h1.2 t ht
    simp only [hj, Array.any_eq_true, Bool.and_eq_true, beq_iff_eq] at h2
    obtain ⟨x, hx, hb, he⟩ := h2
    exact ⟨_, Array.getElem_mem hx, hb, he⟩
  have hdis : ∀ (i j : Nat) (oi oj : Oper) (d : Tmp), L[i]? = some oi → L[j]? = some oj → j ≠ i → oi.dst = some d → oj.dst ≠ some d := fun i j oi oj d hi hj hne hd e => by
    have h1 := (hdst i oi d hi hd).2
    have h2 := (hdst j oj d hj e).2
    rw [h1] at h2
    exact hne (Option.some.inj h2).symm
  refine wp_region_inv hm (fun listed a w => OldAt W S m B0 (fun i => listed.getD i true) w ∧ a.tmps.size = n ∧ a.defers = a0.defers ∧
    (∀ t : Tmp, (∀ (j : Nat) (oj : Oper), L[j]? = some oj → listed.getD j true = true → oj.dst ≠ some t) → a.eval (.tmp t) = a0.eval (.tmp t)) ∧
    (∀ (j : Nat) (oj : Oper) (d : Tmp), L[j]? = some oj → listed.getD j true = true → oj.dst = some d → Y j (a.eval (.tmp d))) ∧ Closed L listed) ?_ ?_ ?_
  · have hfalse : ∀ (j : Nat) (oj : Oper), L[j]? = some oj → (Array.replicate L.toArray.size false).getD j true = false := fun j oj hj => by
      have hjl := (List.getElem?_eq_some_iff.1 hj).1
      simp [hjl]
    refine ⟨⟨(step_drew W).mono hB0, fun b _ _ => rfl, fun q hq => ?_⟩, hn, rfl, fun _ _ => rfl, fun j oj d hj hl _ => ?_, fun j oj hj hl => ?_⟩
    · obtain ⟨o, ho, -⟩ := hK q hq
      show W.heap[(S q).b]? = _
      rw [(hb0 q hq).2, hfalse _ o ho]; rfl
    · rw [hfalse j oj hj] at hl; cases hl
    · rw [hfalse j oj hj] at hl; cases hl
  · rintro listed a w i hs ⟨hO, hz, hd, hbase, hYs, hcl⟩ hi
    obtain ⟨hiu, o, ho, hwait⟩ := mem_ready.1 hi
    have ho' : L[i]? = some o := by simpa using ho
    have hil := (List.getElem?_eq_some_iff.1 ho').1
    have hsl : listed.size = L.length := by simpa using hs
    have hslots : ∀ t ∈ o.looksAt L.toArray, SlotOk L (fun i _ v => Y i v) a0 a w t := fun t ht => by
      unfold SlotOk
      cases hj : depOf L t with
      | none => exact hbase t fun j oj hoj _ => depOf_none hj j oj hoj
      | some j =>
        obtain ⟨oj, hoj, hdj⟩ := depOf_some hj
        obtain ⟨e, he, hb, hon⟩ := hread i o t j ho' ht hj
        have h1 := hwait e he hb
        rw [hon] at h1
        refine hYs j oj t hoj ?_ hdj
        have hjl : j < listed.size := by rw [hs]; simpa using (List.getElem?_eq_some_iff.1 hoj).1
        simpa [hjl] using h1
    have hlen : i < listed.size := by rw [hs]; simpa using hil
    have hself : (listed.setIfInBounds i true).getD i true = true := by rw [Array.getD_eq_getD_getElem?, Array.getElem?_setIfInBounds_self]; simp [hlen]
    have hset : ∀ (v : Value) (w' : World), OldAt W S m B0 (fun j => (listed.setIfInBounds i true).getD j true) w' → Y i v → (OldAt W S m B0 (fun j => (listed.setIfInBounds i true).getD j true) w' ∧ (a.put o.dst v).tmps.size = n ∧ (a.put o.dst v).defers = a0.defers ∧
        (∀ t : Tmp, (∀ (j : Nat) (oj : Oper), L[j]? = some oj → (listed.setIfInBounds i true).getD j true = true → oj.dst ≠ some t) → (a.put o.dst v).eval (.tmp t) = a0.eval (.tmp t)) ∧
        (∀ (j : Nat) (oj : Oper) (d : Tmp), L[j]? = some oj → (listed.setIfInBounds i true).getD j true = true → oj.dst = some d → Y j ((a.put o.dst v).eval (.tmp d))) ∧ Closed L (listed.setIfInBounds i true)) := fun v w' hO' hy => by
      refine ⟨hO', by rw [put_size]; exact hz, by rw [put_defers]; exact hd, fun t ht => ?_, fun j oj d hoj hl hdj => ?_, closed_set hcl hsl ho' hwait⟩
      · rw [eval_put_ne (ht i o ho' hself)]
        refine hbase t fun j oj hoj hl => ht j oj hoj ?_
        by_cases e : i = j
        · subst e; rw [hl] at hiu; cases hiu
        · rw [getD_set_ne true e]; exact hl
      · by_cases e : i = j
        · subst e
          obtain rfl : o = oj := Option.some.inj (ho'.symm.trans hoj)
          rw [hdj, eval_put_self (by rw [hz]; exact (hdst i o d ho' hdj).1)]
          exact hy
        · rw [eval_put_ne (hdis j i oj o d hoj ho' e hdj)]
          rw [getD_set_ne true e] at hl
          exact hYs j oj d hoj hl hdj
    unfold wpOp
    simp only [ho]
    by_cases hPut : ∃ q, q < m ∧ (S q).k = i
    · obtain ⟨q, hq, rfl⟩ := hPut
      obtain ⟨o2, e1, hg, hdo⟩ := hK q hq
      obtain rfl : o = o2 := Option.some.inj (ho'.symm.trans e1)
      have hw : Region.wanted o (yielded L.toArray a.tmps) = true := by simp [Region.wanted, hg]
      rw [if_pos hw]
      left
      have g3 := hO.at_ q hq
      rw [if_neg (by rw [hiu]; decide)] at g3
      obtain ⟨w', r1, r2, r3⟩ := hput q hq o a w ho' hslots g3
      unfold Oper.wp
      rw [r1]
      simp only [Oper.upon]
      have hfin := hset undef w' ⟨below_of_grown hO.below r3 (Nat.le_trans hB0 hO.below.size) (hb0 q hq).1, fun b hl hnb => (r3.block b (Nat.lt_of_lt_of_le hl hO.below.size) (fun e => hnb q hq (by injection e))).trans (hO.rest b hl hnb), fun r hr => by
        by_cases hrq : r = q
        · subst hrq
          rw [if_pos hself]; exact r2
        · rw [getD_set_ne true (hqr q r hq hr (Ne.symm hrq))]
          exact (r3.block _ (heap_lt (hO.at_ r hr)) (fun e => hbb r q hr hq hrq (by injection e))).trans (hO.at_ r hr)⟩ (hYS _ _ (by unfold isPut; rw [List.any_eq_true]; exact ⟨q, List.mem_range.2 hq, by simp⟩))
      exact hfin
    · have hnl : isPut S m i = false := by
        cases h : isPut S m i with
        | false => rfl
        | true =>
          unfold isPut at h
          rw [List.any_eq_true] at h
          obtain ⟨q, hq, h⟩ := h
          simp only [beq_iff_eq] at h
          exact absurd ⟨q, List.mem_range.1 hq, h⟩ hPut
      have hh := hop_atO L 0 hop i o ho' (by rw [Nat.zero_add]; exact hnl)
      rw [Nat.zero_add] at hh
      have hh := hh a w (fun j => listed.getD j true) hO (fun q hq hwt => by
        cases hk : listed.getD (S q).k true with
        | false => rfl
        | true =>
          obtain ⟨ok, k1, -⟩ := hK q hq
          have := wait_listed hcl 40 (S q).k ok i k1 (hcl _ ok k1 hk) hwt
          rw [hiu] at this; cases this) hslots
      have hO2 : ∀ w', Below w.heap.size w w' → OldAt W S m B0 (fun j => (listed.setIfInBounds i true).getD j true) w' := fun w' hb => by
        have h1 := hO.step hB0 hb
        refine ⟨h1.below, h1.rest, fun q hq => ?_⟩
        rw [getD_set_ne true (fun e => hPut ⟨q, hq, e.symm⟩)]
        exact h1.at_ q hq
      by_cases hw : Region.wanted o (yielded L.toArray a.tmps) = true
      · rw [if_pos hw] at hh ⊢
        exact .inl (Oper.wp_mono (fun a' w' ⟨v, e, hb, hy⟩ => by rw [e]; exact hset v w' (hO2 w' hb) hy) hh)
      · rw [if_neg hw] at hh ⊢
        exact hset undef w (hO2 w (Below.refl _ _)) hh
  · rintro listed a w hs ⟨hO, hz, hd, hbase, hYs, hcl⟩ hr
    have hlisted : ∀ (j : Nat) (oj : Oper), L[j]? = some oj → listed.getD j true = true := fun j oj hoj => by
      have hjl := (List.getElem?_eq_some_iff.1 hoj).1
      cases h : listed.getD j true with
      | true => rfl
      | false => exact absurd hr (ready_of_unlisted hE hs j (by simpa using hjl) h)
    obtain ⟨p0, hp0⟩ : ∃ p0 : Nat → Value, p0 = (fun j => a.eval (match (L[j]?).bind (·.dst) with | some d => .tmp d | none => .const undef)) := ⟨_, rfl⟩
    have hp : a = layAll p0 L 0 a0 := by
      obtain ⟨z1, z2⟩ := lay_size p0 L 0 a0
      refine act_ext (by rw [z1, hz, hn]) (by rw [z2, hd]) fun t ht => ?_
      cases hj : depOf L t with
      | none => rw [lay_base _ L 0 a0 (depOf_none hj)]; exact hbase t fun j oj hoj _ => depOf_none hj j oj hoj
      | some j =>
        obtain ⟨oj, hoj, hdj⟩ := depOf_some hj
        rw [lay_at _ L 0 j a0 oj hoj hdj (by rw [hn, ← hz]; exact ht) fun i oi hi hne => hdis j i oj oi t hoj hi hne hdj, hp0]
        simp [hoj, hdj]
    rw [hp]
    refine hend p0 w ⟨hO.below, hO.rest, fun q hq => ?_⟩ (yall_of L 0 fun i o ho hdn => ?_)
    · obtain ⟨ok, k1, -⟩ := hK q hq
      rw [if_pos rfl]
      have := hO.at_ q hq
      rw [if_pos (hlisted _ _ k1)] at this
      exact this
    · rw [Nat.zero_add, hp0]
      cases hdo : o.dst with
      | none => exact absurd hdo hdn
      | some d =>
        simp only [ho, hdo, Option.bind_some]
        exact hYs i o d ho (hlisted i o ho) hdo
end Go.Proofs.Ytcfobgimpflneaa
