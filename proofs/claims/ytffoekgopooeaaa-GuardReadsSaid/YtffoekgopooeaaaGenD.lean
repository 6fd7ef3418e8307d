/- Regions that draw their order in which words die: an append may write where its first word stood. -/
import Derived.Test.YtffoekgopooeaaaSReg
namespace Go.Proofs.Ytffoekgopooeaaa
set_option linter.unusedVariables false
set_option linter.unusedSimpArgs false
open Go.ChangeShapes Go.WideShapes Go.ChangeAt Go.RowKit Go.Shelf
/-- Word j has not yet been taken up by the operation that it dies at. -/
def LiveD (kl : Nat → Option Nat) (listed : Array Bool) (j : Nat) : Prop := ∀ k, kl j = some k → listed.getD k true = false
theorem getD_ft {listed : Array Bool} {i : Nat} (h : listed.getD i false = true) : listed.getD i true = true := by
  rw [Array.getD_eq_getD_getElem?] at h ⊢
  cases hq : listed[i]? with
  | none => rfl
  | some b => rw [hq] at h; exact h
/-- What an operation reads dies at none but it. -/
def okD (L : List Oper) (m : Nat) (kl : Nat → Option Nat) : Bool := (List.range m).all fun i => match L[i]? with
  | none => true
  | some o => (o.looksAt L.toArray).all fun t => match depOf (L.take m) t with
    | none => true
    | some j => (kl j == none) || (kl j == some i)
theorem okD_at {L : List Oper} {m : Nat} {kl : Nat → Option Nat} (h : okD L m kl = true) {i : Nat} {o : Oper} {t : Tmp} {j : Nat} (hi : i < m) (ho : L[i]? = some o) (ht : t ∈ o.looksAt L.toArray) (hj : depOf (L.take m) t = some j) : kl j = none ∨ kl j = some i := by
  unfold okD at h
  rw [List.all_eq_true] at h
  have h1 := h i (List.mem_range.2 hi)
  simp only [ho, Array.all_eq_true', List.all_eq_true] at h1
  have h2 := h1 t ht
  simpa [hj] using h2
def HopD (P : Program) (L : List Oper) (m : Nat) (Q : Exit → Act → World → Prop) (Y : Nat → World → Value → Prop) (ex : Nat → Nat → Bool) (a0 : Act) (W : World) (k : Nat) (o : Oper) : Prop :=
  ∀ (a : Act) (w : World), Below W.heap.size W w → (∀ t ∈ o.looksAt L.toArray, SlotOk (L.take m) Y a0 a w t) →
    if Region.wanted o (yielded L.toArray a.tmps) = true then o.wp P a w (fun a' w' => ∃ v, a' = a.put o.dst v ∧ Below W.heap.size w w' ∧ (∀ j u, ex k j = false → Y j w u → Y j w' u) ∧ Y k w' v) Q else Y k w undef
/-- Operation j waits for k, by way of others too. -/
def aftB (L : List Oper) : Nat → Nat → Nat → Bool
  | 0, _, _ => false
  | f + 1, j, k => match L[j]? with
    | none => false
    | some o => o.after.any fun e => Region.binds .any e && (e.on == k || aftB L f e.on k)
def okE (L : List Oper) (m : Nat) (kl : Nat → Option Nat) (ex : Nat → Nat → Bool) : Bool := (List.range m).all fun k => (List.range m).all fun j => !ex k j || (j == k || (kl j == some k || aftB (L.take m) 40 j k))
theorem okE_at {L : List Oper} {m : Nat} {kl : Nat → Option Nat} {ex : Nat → Nat → Bool} (h : okE L m kl ex = true) {k j : Nat} (hk : k < m) (hj : j < m) (hx : ex k j = true) : j = k ∨ kl j = some k ∨ aftB (L.take m) 40 j k = true := by
  unfold okE at h
  rw [List.all_eq_true] at h
  have h1 := h k (List.mem_range.2 hk)
  rw [List.all_eq_true] at h1
  have h2 := h1 j (List.mem_range.2 hj)
  simpa [hx] using h2
theorem aft_listed {L : List Oper} {listed : Array Bool} (hc : ∀ (j : Nat) (oj : Oper), L[j]? = some oj → listed.getD j true = true → ∀ e ∈ oj.after, Region.binds .any e = true → listed.getD e.on true = true) : ∀ (f j : Nat) (oj : Oper) (k : Nat), L[j]? = some oj → listed.getD j true = true → aftB L f j k = true → listed.getD k true = true
  | 0, _, _, _, _, _, h => by cases h
  | f + 1, j, oj, k, ho, hl, h => by
    unfold aftB at h
    simp only [ho, Array.any_eq_true, Bool.and_eq_true, Bool.or_eq_true, beq_iff_eq] at h
    obtain ⟨x, hx, hb, h⟩ := h
    have h1 := hc j oj ho hl _ (Array.getElem_mem hx) hb
    rcases h with h | h
    · rw [h] at h1; exact h1
    · cases hq : L[oj.after[x].on]? with
      | none => cases f with
        | zero => cases h
        | succ f => unfold aftB at h; rw [hq] at h; cases h
      | some oq => exact aft_listed hc f _ oq k hq h1 h
def HopB (P : Program) (L : List Oper) (m : Nat) (Q : Exit → Act → World → Prop) (Y : Nat → World → Value → Prop) (a0 : Act) (W : World) (k : Nat) (o : Oper) : Prop :=
  ∀ (a : Act) (w : World), Below W.heap.size W w → (∀ t ∈ o.looksAt L.toArray, SlotOk (L.take m) Y a0 a w t) →
    if Region.wanted o (yielded L.toArray a.tmps) = true then o.wp P a w (fun a' w' => ∃ v, a' = a.put o.dst v ∧ Below w.heap.size w w' ∧ Y k w' v) Q else Y k w undef
def HopAllD (P : Program) (L : List Oper) (m : Nat) (Q : Exit → Act → World → Prop) (Y : Nat → World → Value → Prop) (ex : Nat → Nat → Bool) (D : Nat → Bool) (a0 : Act) (W : World) : List Oper → Nat → Prop
  | [], _ => True
  | o :: l, k => (match D k with | true => HopD P L m Q Y ex a0 W k o | false => HopB P L m Q Y a0 W k o) ∧ HopAllD P L m Q Y ex D a0 W l (k + 1)
theorem hop_atD {P : Program} {L : List Oper} {m : Nat} {Q : Exit → Act → World → Prop} {Y : Nat → World → Value → Prop} {ex : Nat → Nat → Bool} {D : Nat → Bool} {a0 : Act} {W : World} (hY : ∀ i w w' v, Below w.heap.size w w' → Y i w v → Y i w' v) : ∀ (l : List Oper) (k : Nat), HopAllD P L m Q Y ex D a0 W l k → ∀ (i : Nat) (o : Oper), l[i]? = some o → HopD P L m Q Y ex a0 W (k + i) o
  | [], _, _, i, o, ho => by cases ho
  | q :: l, k, h, 0, o, ho => by
    simp only [List.getElem?_cons_zero, Option.some.injEq] at ho
    subst ho
    have h1 := h.1
    cases hD : D k with
    | true => rw [hD] at h1; exact h1
    | false =>
      rw [hD] at h1
      intro a w hb hs
      have h2 := h1 a w hb hs
      by_cases hw : Region.wanted q (yielded L.toArray a.tmps) = true
      · rw [if_pos hw] at h2 ⊢
        exact Oper.wp_mono (fun a' w' ⟨v, e, hk, hy⟩ => ⟨v, e, hk.mono hb.size, fun j u _ h => hY j w w' u hk h, hy⟩) h2
      · rw [if_neg hw] at h2 ⊢
        exact h2
  | q :: l, k, h, i + 1, o, ho => by
    have := hop_atD hY l (k + 1) h.2 i o (by simpa using ho)
    rwa [show k + 1 + i = k + (i + 1) by omega] at this
/-- **A region's orders, by what each operation of its head leaves behind; its tail in the text's order; words that die.** -/
theorem wp_region_relD {P : Program} {id : Nat} {Q : Exit → Act → World → Prop} {a0 : Act} {W : World} {L : List Oper} (m n : Nat) (hn : a0.tmps.size = n) (hm : P.follows .mixedOrders = true) (hok : relOkT L m n = true) (kl : Nat → Option Nat) (D : Nat → Bool) (ex : Nat → Nat → Bool) (hkl : okD L m kl = true) (hex : okE L m kl ex = true) (Y : Nat → World → Value → Prop)
    (hY : ∀ i w w' v, Below w.heap.size w w' → Y i w v → Y i w' v) (hop : HopAllD P L m Q Y ex D a0 W (L.take m) 0)
    (hend : ∀ (p : Nat → Value) (w : World), Below W.heap.size W w → YAll (fun j w v => kl j = none → Y j w v) p w (L.take m) 0 → wpList P L.toArray Q (L.drop m) (layAll p (L.take m) 0 a0) w) : (Code.region id L.toArray true).wp P Q a0 W := by
  unfold relOkT at hok
  simp only [Bool.and_eq_true, List.all_eq_true, Option.isNone_iff_eq_none, Bool.or_eq_true, decide_eq_true_eq] at hok
  obtain ⟨⟨⟨⟨hsel, hE⟩, hall⟩, hT1⟩, hT2⟩ := hok
  have htake : ∀ (i : Nat) (o : Oper), (L.take m)[i]? = some o → i < m ∧ L[i]? = some o := fun i o h => by
    rw [List.getElem?_take] at h
    split at h
    · exact ⟨by assumption, h⟩
    · cases h
  have hintake : ∀ (i : Nat) (o : Oper), i < m → L[i]? = some o → (L.take m)[i]? = some o := fun i o h1 h2 => by
    rw [List.getElem?_take, if_pos h1]; exact h2
  have hdst : ∀ (i : Nat) (o : Oper) (d : Tmp), (L.take m)[i]? = some o → o.dst = some d → d < n ∧ depOf (L.take m) d = some i := fun i o d ho hd => by
    have h1 := hall i (List.mem_range.2 (htake i o ho).1)
    simp only [ho, hd, Bool.and_eq_true, decide_eq_true_eq, beq_iff_eq] at h1
    exact h1.1
  have hread : ∀ (i : Nat) (o : Oper) (t : Tmp) (j : Nat), (L.take m)[i]? = some o → t ∈ o.looksAt L.toArray → depOf (L.take m) t = some j → ∃ e ∈ o.after, Region.binds .any e = true ∧ e.on = j := fun i o t j ho ht hj => by
    have h1 := hall i (List.mem_range.2 (htake i o ho).1)
    simp only [ho, Bool.and_eq_true, List.all_eq_true] at h1
    have h2 := h1.2 t ht
    simp only [hj, Array.any_eq_true, Bool.and_eq_true, beq_iff_eq] at h2
    obtain ⟨x, hx, hb, he⟩ := h2
    exact ⟨_, Array.getElem_mem hx, hb, he⟩
  have hdis : ∀ (i j : Nat) (oi oj : Oper) (d : Tmp), (L.take m)[i]? = some oi → (L.take m)[j]? = some oj → j ≠ i → oi.dst = some d → oj.dst ≠ some d := fun i j oi oj d hi hj hne hd e => by
    have h1 := (hdst i oi d hi hd).2
    have h2 := (hdst j oj d hj e).2
    rw [h1] at h2
    exact hne (Option.some.inj h2).symm
  -- a tail operation that is ready: all ahead of it is listed
  have htail : ∀ (listed : Array Bool) (i : Nat), listed.size = L.toArray.size → i ∈ Region.ready .any L.toArray listed → m ≤ i → ∀ j, j < i → listed.getD j true = true := by
    intro listed i hs hi hmi j hj
    obtain ⟨hiu, o, ho, hwait⟩ := mem_ready.1 hi
    have hil : i < L.length := by simpa using (Array.getElem?_eq_some_iff.1 ho).1
    have h3 := hT2 i (List.mem_range.2 hil)
    rcases h3 with h3 | h3
    · omega
    obtain ⟨o', ho', e, he, hb, hon⟩ := Region.waitsFor_spec (h3 j (List.mem_range.2 hj))
    have : o' = o := Option.some.inj (ho'.symm.trans ho)
    subst this
    have h5 := hwait e he hb
    rw [hon, ← getD_listed (by simp at hs; omega)] at h5
    exact h5
  have hI : ∀ (listed : Array Bool) (a : Act) (w : World), (Below W.heap.size W w ∧ a.tmps.size = n ∧ a.defers = a0.defers ∧
      (∀ t : Tmp, (∀ (j : Nat) (oj : Oper), (L.take m)[j]? = some oj → listed.getD j true = true → oj.dst ≠ some t) → a.eval (.tmp t) = a0.eval (.tmp t)) ∧
      (∀ (j : Nat) (oj : Oper) (d : Tmp), (L.take m)[j]? = some oj → listed.getD j true = true → LiveD kl listed j → oj.dst = some d → Y j w (a.eval (.tmp d))) ∧ (∀ (j : Nat) (oj : Oper), (L.take m)[j]? = some oj → listed.getD j true = true → ∀ e ∈ oj.after, Region.binds .any e = true → listed.getD e.on true = true)) → (∀ j, j < m → j < L.length → listed.getD j true = true) → wpList P L.toArray Q (L.drop m) a w := by
    rintro listed a w ⟨hB, hz, hd, hbase, hYs, hcl⟩ hl
    have hlisted : ∀ (j : Nat) (oj : Oper), (L.take m)[j]? = some oj → listed.getD j true = true := fun j oj hoj => by
      obtain ⟨h1, h2⟩ := htake j oj hoj
      exact hl j h1 (List.getElem?_eq_some_iff.1 h2).1
    have hp : a = layAll (fun j => a.eval (match ((L.take m)[j]?).bind (·.dst) with | some d => .tmp d | none => .const undef)) (L.take m) 0 a0 := by
      obtain ⟨z1, z2⟩ := lay_size (fun j => a.eval (match ((L.take m)[j]?).bind (·.dst) with | some d => .tmp d | none => .const undef)) (L.take m) 0 a0
      refine act_ext (by rw [z1, hz, hn]) (by rw [z2, hd]) fun t ht => ?_
      cases hj : depOf (L.take m) t with
      | none => rw [lay_base _ (L.take m) 0 a0 (depOf_none hj)]; exact hbase t fun j oj hoj _ => depOf_none hj j oj hoj
      | some j =>
        obtain ⟨oj, hoj, hdj⟩ := depOf_some hj
        rw [lay_at _ (L.take m) 0 j a0 oj hoj hdj (by rw [hn, ← hz]; exact ht) fun i oi hi hne => hdis j i oj oi t hoj hi hne hdj]
        rw [Nat.zero_add]
        simp only [hoj, hdj, Option.bind_some]
    rw [hp]
    refine hend _ w hB (yall_of (L.take m) 0 fun i o ho hdn => ?_)
    rw [Nat.zero_add]
    cases hdo : o.dst with
    | none => exact absurd hdo hdn
    | some d =>
      simp only [ho, hdo, Option.bind_some]
      exact fun hk => hYs i o d ho (hlisted i o ho) (fun k h => by rw [hk] at h; cases h) hdo
  refine wp_region_inv hm (fun listed a w => ((∀ j, m ≤ j → j < L.length → listed.getD j true = false) ∧ Below W.heap.size W w ∧ a.tmps.size = n ∧ a.defers = a0.defers ∧
    (∀ t : Tmp, (∀ (j : Nat) (oj : Oper), (L.take m)[j]? = some oj → listed.getD j true = true → oj.dst ≠ some t) → a.eval (.tmp t) = a0.eval (.tmp t)) ∧
    (∀ (j : Nat) (oj : Oper) (d : Tmp), (L.take m)[j]? = some oj → listed.getD j true = true → LiveD kl listed j → oj.dst = some d → Y j w (a.eval (.tmp d))) ∧ (∀ (j : Nat) (oj : Oper), (L.take m)[j]? = some oj → listed.getD j true = true → ∀ e ∈ oj.after, Region.binds .any e = true → listed.getD e.on true = true)) ∨
    (∃ k, m ≤ k ∧ (∀ j, j < L.length → (listed.getD j true = true ↔ j < k)) ∧ wpList P L.toArray Q (L.drop k) a w)) ?_ ?_ ?_
  · refine .inl ⟨fun j _ hj => by simp [hj], step_drew W, hn, rfl, fun _ _ => rfl, fun j oj d hj hl _ _ => ?_, fun j oj hj hl => ?_⟩
    all_goals
      have hjl := (List.getElem?_eq_some_iff.1 (htake j oj hj).2).1
      simp [hjl] at hl
  · rintro listed a w i hs hinv hi
    obtain ⟨hiu, o, ho, hwait⟩ := mem_ready.1 hi
    have ho' : L[i]? = some o := by simpa using ho
    have hil := (List.getElem?_eq_some_iff.1 ho').1
    have hsl : listed.size = L.length := by simpa using hs
    by_cases him : i < m
    · rcases hinv with ⟨htl, hB, hz, hd, hbase, hYs, hcl⟩ | ⟨k, hmk, hlk, _⟩
      · have ht' := hintake i o him ho'
        have hh := hop_atD hY (L.take m) 0 hop i o ht'
        rw [Nat.zero_add] at hh
        have hslots : ∀ t ∈ o.looksAt L.toArray, SlotOk (L.take m) Y a0 a w t := fun t ht => by
          unfold SlotOk
          cases hj : depOf (L.take m) t with
          | none => exact hbase t fun j oj hoj _ => depOf_none hj j oj hoj
          | some j =>
            obtain ⟨oj, hoj, hdj⟩ := depOf_some hj
            obtain ⟨e, he, hb, hon⟩ := hread i o t j ht' ht hj
            have h1 := hwait e he hb
            rw [hon] at h1
            refine hYs j oj t hoj ?_ (fun k hk => ?_) hdj
            · have hjl : j < listed.size := by rw [hsl]; exact (List.getElem?_eq_some_iff.1 (htake j oj hoj).2).1
              simpa [hjl] using h1
            · have h9 := okD_at hkl him ho' ht hj
              rw [hk] at h9
              rcases h9 with h9 | h9
              · cases h9
              · obtain rfl := Option.some.inj h9; exact hiu
        have hh := hh a w hB hslots
        have hset : ∀ (v : Value) (w' : World), Below W.heap.size w w' → (∀ j u, ex i j = false → Y j w u → Y j w' u) → Y i w' v → ((∀ j, m ≤ j → j < L.length → (listed.setIfInBounds i true).getD j true = false) ∧ Below W.heap.size W w' ∧ (a.put o.dst v).tmps.size = n ∧ (a.put o.dst v).defers = a0.defers ∧
            (∀ t : Tmp, (∀ (j : Nat) (oj : Oper), (L.take m)[j]? = some oj → (listed.setIfInBounds i true).getD j true = true → oj.dst ≠ some t) → (a.put o.dst v).eval (.tmp t) = a0.eval (.tmp t)) ∧
            (∀ (j : Nat) (oj : Oper) (d : Tmp), (L.take m)[j]? = some oj → (listed.setIfInBounds i true).getD j true = true → LiveD kl (listed.setIfInBounds i true) j → oj.dst = some d → Y j w' ((a.put o.dst v).eval (.tmp d))) ∧ (∀ (j : Nat) (oj : Oper), (L.take m)[j]? = some oj → (listed.setIfInBounds i true).getD j true = true → ∀ e ∈ oj.after, Region.binds .any e = true → (listed.setIfInBounds i true).getD e.on true = true)) := fun v w' hb hp hy => by
          refine ⟨fun j h1 h2 => by rw [getD_set_ne true (show i ≠ j by omega)]; exact htl j h1 h2, hB.trans hb, by rw [put_size]; exact hz, by rw [put_defers]; exact hd, fun t ht => ?_, fun j oj d hoj hl hlv hdj => ?_, fun j oj hoj hl e he hb2 => ?_⟩
          · rw [eval_put_ne (ht i o ht' (by rw [Array.getD_eq_getD_getElem?, Array.getElem?_setIfInBounds_self]; simp [hsl, hil]))]
            refine hbase t fun j oj hoj hl => ht j oj hoj ?_
            by_cases e : i = j
            · subst e; rw [hl] at hiu; cases hiu
            · rw [getD_set_ne true e]; exact hl
          · by_cases e : i = j
            · subst e
              obtain rfl : o = oj := Option.some.inj (ht'.symm.trans hoj)
              rw [hdj, eval_put_self (by rw [hz]; exact (hdst i o d ht' hdj).1)]
              exact hy
            · rw [eval_put_ne (hdis j i oj o d hoj ht' e hdj)]
              rw [getD_set_ne true e] at hl
              have hki : kl j ≠ some i := fun h => by
                have := hlv i h
                rw [Array.getD_eq_getD_getElem?, Array.getElem?_setIfInBounds_self] at this
                simp [hsl, hil] at this
              have hxj : ex i j = false := by
                cases hx : ex i j with
                | false => rfl
                | true =>
                  rcases okE_at hex him (htake j oj hoj).1 hx with h | h | h
                  · exact absurd h.symm e
                  · exact absurd h hki
                  · have := aft_listed hcl 40 j oj i hoj hl h
                    rw [hiu] at this; cases this
              exact hp j _ hxj (hYs j oj d hoj hl (fun k hk => by
                have h1 := hlv k hk
                rwa [getD_set_ne true (fun e2 => hki (by rw [e2]; exact hk))] at h1) hdj)
          · have h0 : listed.getD e.on true = true := by
              by_cases e3 : i = j
              · subst e3
                obtain rfl : o = oj := Option.some.inj (ht'.symm.trans hoj)
                exact getD_ft (hwait e he hb2)
              · rw [getD_set_ne true e3] at hl
                exact hcl j oj hoj hl e he hb2
            by_cases e4 : i = e.on
            · rw [← e4, Array.getD_eq_getD_getElem?, Array.getElem?_setIfInBounds_self]; simp [hsl, hil]
            · rw [getD_set_ne true e4]; exact h0
        unfold wpOp
        simp only [ho]
        by_cases hw : Region.wanted o (yielded L.toArray a.tmps) = true
        · rw [if_pos hw] at hh ⊢
          exact .inl (Oper.wp_mono (fun a' w' ⟨v, e, hb, hp, hy⟩ => by rw [e]; exact .inl (hset v w' hb hp hy)) hh)
        · rw [if_neg hw] at hh ⊢
          exact .inl (hset undef w (Below.refl _ _) (fun _ _ _ h => h) hh)
      · have := (hlk i hil).2 (by omega)
        rw [this] at hiu; cases hiu
    · have hmi : m ≤ i := Nat.le_of_not_lt him
      have hahead := htail listed i hs hi hmi
      have hk : (∀ j, j < L.length → (listed.getD j true = true ↔ j < i)) ∧ wpList P L.toArray Q (L.drop i) a w := by
        rcases hinv with ⟨htl, hrest⟩ | ⟨k, hmk, hlk, hwp⟩
        · obtain rfl : i = m := by
            refine Nat.le_antisymm (Nat.le_of_not_lt fun hlt => ?_) hmi
            have h1 := hahead m hlt
            rw [htl m (Nat.le_refl _) (by omega)] at h1; cases h1
          refine ⟨fun j hj => ⟨fun h => Nat.lt_of_not_le fun h2 => ?_, hahead j⟩, hI listed a w hrest fun j h1 _ => hahead j h1⟩
          rw [htl j h2 hj] at h; cases h
        · obtain rfl : k = i := by
            refine Nat.le_antisymm (Nat.le_of_not_lt fun hlt => ?_) (Nat.le_of_not_lt fun hlt => ?_)
            · have := (hlk i hil).2 hlt
              rw [this] at hiu; cases hiu
            · have := (hlk k (by omega)).1 (hahead k hlt)
              omega
          exact ⟨hlk, hwp⟩
      obtain ⟨hlk, hwp⟩ := hk
      have hdr : L.drop i = L[i] :: L.drop (i + 1) := List.drop_eq_getElem_cons hil
      have hoe : L[i] = o := by rw [List.getElem?_eq_getElem hil] at ho'; exact Option.some.inj ho'
      rw [hoe] at hdr
      have hg := hT1 o (by
        have h6 : L.drop i = (L.drop m).drop (i - m) := by rw [List.drop_drop]; congr 1; omega
        have h7 : o ∈ L.drop i := by rw [hdr]; exact List.mem_cons_self
        rw [h6] at h7
        exact List.mem_of_mem_drop h7)
      have hset : ∀ j, j < L.length → ((listed.setIfInBounds i true).getD j true = true ↔ j < i + 1) := by
        intro j hj
        by_cases hji : j = i
        · subst hji; simp [hsl, hj]
        · rw [getD_set_ne true (fun e => hji e.symm), hlk j hj]; omega
      rw [hdr] at hwp
      unfold wpList at hwp
      unfold wpOp
      simp only [ho]
      have hw' : ∀ g, Region.wanted o g = true := fun g => by simp [Region.wanted, hg]
      simp only [hw', if_true] at hwp ⊢
      exact hwp.imp (Oper.wp_mono fun a' w' h' => .inr ⟨i + 1, by omega, hset, h'⟩) (fun h => h)
  · rintro listed a w hs hinv hr
    have hsl : listed.size = L.length := by simpa using hs
    have hlisted : ∀ j, j < L.length → listed.getD j true = true := fun j hj => by
      cases h : listed.getD j true with
      | true => rfl
      | false => exact absurd hr (ready_of_unlisted hE hs j (by simpa using hj) h)
    have hwp : ∃ k, L.length ≤ k ∧ wpList P L.toArray Q (L.drop k) a w := by
      rcases hinv with ⟨htl, hrest⟩ | ⟨k, hmk, hlk, hwp⟩
      · refine ⟨m, Nat.le_of_not_lt fun hlt => ?_, hI listed a w hrest fun j _ hj => hlisted j hj⟩
        have h1 := htl m (Nat.le_refl _) hlt
        rw [hlisted m hlt] at h1; cases h1
      · refine ⟨k, Nat.le_of_not_lt fun hlt => ?_, hwp⟩
        exact absurd ((hlk k hlt).1 (hlisted k hlt)) (Nat.lt_irrefl _)
    obtain ⟨k, h1, h2⟩ := hwp
    rw [List.drop_eq_nil_of_le h1] at h2
    exact h2
theorem wp_region_stD {P : Program} {id : Nat} {Q : Exit → Act → World → Prop} {a0 : Act} {W : World} {L : List Oper} (S : List St) (m n : Nat) (kl : Nat → Option Nat) (D : Nat → Bool) (ex : Nat → Nat → Bool) (hn : a0.tmps.size = n) (hm : P.follows .mixedOrders = true) (hok : relOkT L m n = true) (hkl : okD L m kl = true) (hex : okE L m kl ex = true)
    (hop : HopAllD P L m Q (stY S) ex D a0 W (L.take m) 0)
    (hend : ∀ (p : Nat → Value) (w : World), Below W.heap.size W w → YAll (fun j w v => kl j = none → stY S j w v) p w (L.take m) 0 → wpList P L.toArray Q (L.drop m) (layAll p (L.take m) 0 a0) w) : (Code.region id L.toArray true).wp P Q a0 W :=
  wp_region_relD m n hn hm hok kl D ex hkl hex (stY S) (fun i w w' v hb h => ((S[i]?).getD St.any).h w w' v hb h) hop hend
/-- Bytes of one's own, in a block from B on. -/
def St.own (B : Nat) (l : List UInt8) : St := ⟨fun w v => Byt w B v l, fun _ _ _ hb h => h.step hb⟩
/-- A slice of these cells, in a block of its own. -/
def St.row (t : TypeId) (C : World → Array Value → Prop) (hC : ∀ w w' c, Below w.heap.size w w' → C w c → C w' c) : St := ⟨fun w v => ∃ g c, v = .slice (some ⟨g, 0, none⟩) c.size c.size ∧ Blk w g t c ∧ C w c, fun w w' v hb h => by
  obtain ⟨g, c, h1, h2, h3⟩ := h
  exact ⟨g, c, h1, h2.step hb, hC w w' c hb h3⟩⟩
/-- One's own bytes in a block of just these. -/
def St.lit1 (l : List UInt8) : St := ⟨fun w v => ∃ g, v = .slice (some ⟨g, 0, none⟩) l.length l.length ∧ l.length ≤ 1000 ∧ w.heap[g]? = some (.cells (bvs l) 5), fun w w' v hb ⟨g, h1, h2, h3⟩ => ⟨g, h1, h2, (hb.block g (heap_lt h3)).trans h3⟩⟩
theorem lit1_isB {w : World} {l : List UInt8} {v : Value} (h : (St.lit1 l).F w v) : IsB w l v := by
  obtain ⟨g, rfl, h2, h3⟩ := h
  exact ⟨_, _, rfl, Nat.le_refl _, by unfold maxLen; omega, fun h => (by cases h), Bts.rd (t := 5) h3⟩
theorem lit1_byt {w : World} {v : Value} {B : Nat} (h : (St.lit1 []).F w v) (hB : ∀ g, v = .slice (some ⟨g, 0, none⟩) 0 0 → B ≤ g) : Byt w B v [] := by
  obtain ⟨g, rfl, h2, h3⟩ := h
  exact ⟨rfl, .inr ⟨g, 0, #[], rfl, hB g rfl, h3, Nat.le_refl _, by unfold maxLen; omega, rfl, rfl⟩⟩
/-- The empty literal, from B on. -/
def St.nil0 (B : Nat) : St := ⟨fun w v => ∃ g, v = .slice (some ⟨g, 0, none⟩) 0 0 ∧ B ≤ g ∧ w.heap[g]? = some (.cells #[] 5), fun w w' v hb ⟨g, h1, h2, h3⟩ => ⟨g, h1, h2, (hb.block g (heap_lt h3)).trans h3⟩⟩
theorem nil0_byt {B : Nat} {w : World} {v : Value} (h : (St.nil0 B).F w v) : Byt w B v [] := by
  obtain ⟨g, rfl, h2, h3⟩ := h
  exact ⟨rfl, .inr ⟨g, 0, #[], rfl, h2, h3, Nat.le_refl _, by unfold maxLen; omega, rfl, rfl⟩⟩
section
variable {Q : Exit → Act → World → Prop} {a : Act} {w : World} {o : Oper} {B : Nat} {ops : Array Oper}
theorem hop_nil0 (hw : Region.wanted o (yielded ops a.tmps) = true) (hB : B ≤ w.heap.size) (ho : o.op = .buildSlice 23 0 #[]) :
    if Region.wanted o (yielded ops a.tmps) = true then o.wp Try.prog a w (fun a' w' => ∃ v, a' = a.put o.dst v ∧ Below w.heap.size w w' ∧ (St.nil0 B).F w' v) Q else (St.nil0 B).F w undef := by
  refine hop_grow (F := (St.nil0 B).F) hw (.slice (some ⟨w.heap.size, 0, none⟩) 0 0) (w1 := w.alloc (.cells #[] 5)) ?_ (step_alloc _ _) ⟨_, rfl, hB, heap_alloc_new w _⟩
  unfold execOp
  simp only [ho]
  kernel_rfl
theorem hop_lit1 (hw : Region.wanted o (yielded ops a.tmps) = true) (zs : List UInt8) (hz : 0 < zs.length) (hs : zs.length ≤ 1000) (parts : Array (Nat × Operand)) (ho : o.op = .buildSlice 23 zs.length parts)
    (hf : Instr.fill (fun i => some (i * 1, 1)) ((Array.range (zs.length * 1)).map ((Value.int .u8 0).cells[· % (Value.int .u8 0).cells.size]!)) (parts.map fun (i, x) => (i, a.eval x)).toList = some (bvs zs)) :
    if Region.wanted o (yielded ops a.tmps) = true then o.wp Try.prog a w (fun a' w' => ∃ v, a' = a.put o.dst v ∧ Below w.heap.size w w' ∧ (St.lit1 zs).F w' v) Q else (St.lit1 zs).F w undef :=
  hop_grow (F := (St.lit1 zs).F) hw _ (run_lit zs hz hs parts ho hf) (step_alloc _ _) ⟨_, rfl, hs, heap_alloc_new w _⟩
/-- An append, where words may die. -/
theorem hop_appD (hgd : o.guard = none) (s x : Operand) (ho : o.op = .call { callee := .builtin .append, args := #[s, x], argTypes := #[23, 23] }) (hB : B ≤ w.heap.size) {l r : List UInt8} (hs : Byt w B (a.eval s) l) (hx : IsB w r (a.eval x)) (hle : l.length + r.length ≤ 1000000)
    {Y : Nat → World → Value → Prop} {ex : Nat → Nat → Bool} {k : Nat} (hY : ∀ w', Below B w w' → w.grownBy w' (a.eval s).ownBlock → ∀ j u, ex k j = false → Y j w u → Y j w' u) (hF : ∀ w' v, Byt w' B v (l ++ r) → Y k w' v) :
    if Region.wanted o (yielded ops a.tmps) = true then o.wp Try.prog a w (fun a' w' => ∃ v, a' = a.put o.dst v ∧ Below B w w' ∧ (∀ j u, ex k j = false → Y j w u → Y j w' u) ∧ Y k w' v) Q else Y k w undef := by
  obtain ⟨A, c, e, h1, h2, h3, h4⟩ := hx
  by_cases hm : 0 < r.length
  · cases A with
    | none => obtain ⟨ad, e, _⟩ := h4 hm; cases e
    | some ad =>
      exact step_append_bytes hgd s x ho B (a.eval s) l r rfl hs ad r.length c e rfl hm h4 hle hB fun g cap w' q1 q2 q3 _ _ => ⟨_, rfl, q2, hY w' q2 q3, hF _ _ q1⟩
  · obtain rfl : r = [] := List.eq_nil_of_length_eq_zero (by omega)
    obtain ⟨i, hi1, hi2, hi3, hi4⟩ := info_u8
    obtain ⟨A2, c2, e2, g1, g2, _⟩ := id hs.slice
    have hw : Region.wanted o (yielded ops a.tmps) = true := by simp [Region.wanted, hgd]
    rw [if_pos hw]
    have hsrc : Go.Src Try.prog i.size 23 (.slice A 0 c) 0 [] w := by
      cases A with
      | none => exact Go.Src.ofNil w Try.underlying23 c
      | some ad => exact Go.Src.ofSlice w Try.underlying23 ad 0 c [] (by simp) (fun j u hu => by simp at hu) (fun u hu => by cases hu)
    have hrun := run_append_nothing (P := Try.prog) w 23 23 o.type 5 i Try.underlying23 hi1 A2 l.length c2 g1 (.slice A 0 c) hsrc
    have hF' := hF w (.slice A2 l.length c2) (by rw [List.append_nil, ← e2]; exact hs)
    have hY' := hY w (Below.refl _ _) (World.grownBy.refl _ _)
    rw [List.length_nil] at e
    unfold Oper.wp execOp
    simp only [ho, resolve, invoke, builtin, Sem.run_bind, Sem.run_pure, Result.andThen_ok, List.map_toArray, List.map_cons, List.map_nil, e2, e, hrun]
    exact ⟨_, rfl, Below.refl _ _, hY', hF'⟩
/-- A slice of slices. -/
theorem hop_rowD (hw : Region.wanted o (yielded ops a.tmps) = true) {n : Nat} {ps : Array (Nat × Operand)} (ho : o.op = .buildSlice 47 n ps) {C : World → Array Value → Prop} {hC : ∀ w w' c, Below w.heap.size w w' → C w c → C w' c} {c : Array Value} (hn : c.size = n) (hn0 : 0 < n) (hn1 : n ≤ 1000)
    (hf : Instr.fill (fun i => some (i * 1, 1)) ((Array.range (n * 1)).map ((Value.slice none 0 0).cells[· % (Value.slice none 0 0).cells.size]!)) (ps.map fun (i, x) => (i, a.eval x)).toList = some c) (h : C w c) :
    if Region.wanted o (yielded ops a.tmps) = true then o.wp Try.prog a w (fun a' w' => ∃ v, a' = a.put o.dst v ∧ Below w.heap.size w w' ∧ (St.row 23 C hC).F w' v) Q else (St.row 23 C hC).F w undef := by
  obtain ⟨i, i1, i2, i3⟩ := infoSl
  subst hn
  refine hop_grow (F := (St.row 23 C hC).F) hw (.slice (some ⟨w.heap.size, 0, none⟩) c.size c.size) (w1 := w.alloc (.cells c 23)) ?_ (step_alloc _ _) ⟨_, c, rfl, heap_alloc_new w _, hC _ _ _ (step_alloc _ _) h⟩
  unfold execOp
  simp only [ho, Sem.run_bind, run_buildSlice w 47 23 c.size _ c i (.slice none 0 0) Try.underlying47 i1 i2 (by rw [i3]; omega) (by rw [i3]; omega) (by rw [i3]; exact hf), Result.andThen_ok, Sem.run_pure]
end
end Go.Proofs.Ytffoekgopooeaaa
