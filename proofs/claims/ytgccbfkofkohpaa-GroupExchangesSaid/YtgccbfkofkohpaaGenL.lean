/- A drawn region: a head known by relations, one store into a new block, a tail; extracts of the head that may run behind the store. -/
import Derived.Test.YtgccbfkofkohpaaGenT
namespace Go.Proofs.Ytgccbfkofkohpaa
set_option linter.unusedVariables false
set_option maxRecDepth 20000
set_option linter.unusedSimpArgs false
open Go.ChangeShapes Go.WideShapes Go.ChangeAt Go.RowKit
/-- Is operation j of the head an extract that may come late? -/
def notLate (L : List Oper) (m : Nat) (late : List Nat) (t : Tmp) : Bool := match depOf (L.take m) t with | some k => !late.contains k | none => true
def lateOp (L : List Oper) (m : Nat) (late : List Nat) (j : Nat) : Bool := match L[j]? with
  | some o => decide (j < m) && o.guard.isNone && o.dst.isSome && (match o.op with | .extract (.tmp t) _ => (depOf (L.take m) t).isSome && notLate L m late t | _ => false)
  | none => false
def storeOp (L : List Oper) (m : Nat) (late : List Nat) : Bool := match L[m]? with
  | some o => o.dst.isNone && (match o.op with | .store _ (.tmp x) (.tmp y) => notLate L m late x && notLate L m late y | _ => false)
  | none => false
def relOkL (L : List Oper) (m n : Nat) (late : List Nat) : Bool :=
  Region.noSelect L.toArray && backB L.toArray &&
  ((List.range m).all fun i => match (L.take m)[i]? with
    | none => true
    | some o => (match o.dst with
        | none => true
        | some d => decide (d < n) && depOf (L.take m) d == some i) &&
      (o.looksAt L.toArray).all fun t => match depOf (L.take m) t with
        | none => true
        | some j => o.after.any fun e => Region.binds .any e && e.on == j) &&
  ((L.drop m).all fun t => t.guard.isNone) && ((List.range L.length).all fun i => decide (i < m) || (List.range i).all fun j => Region.waitsFor .any L.toArray i j || (i == m && late.contains j)) &&
  (late.all fun j => lateOp L m late j) && storeOp L m late
theorem run_extL {P : Program} {a : Act} {w : World} {o : Oper} (x : Operand) (i : Nat) (ho : o.op = .extract x i) {vs : Array Value} (hx : a.eval x = .tuple vs) {v : Value} (hv : vs[i]? = some v) : (execOp a.eval o).run P w = .ok (.value v) w := by
  unfold execOp
  simp only [ho, hx]
  simp [Instr.extract, hv]
set_option maxHeartbeats 4000000 in
theorem wp_region_relL {P : Program} {id : Nat} {Q : Exit → Act → World → Prop} {a0 : Act} {W : World} {L : List Oper} (m n : Nat) (late : List Nat) (c : Nat → Value) (hn : a0.tmps.size = n) (hm : P.follows .mixedOrders = true) (hok : relOkL L m n late = true) (Y : Nat → World → Value → Prop)
    (hY : ∀ i w w' v, Kc W.heap.size w w' → Y i w v → Y i w' v) (hop : HopAllT P L m Q Y a0 W (L.take m) 0)
    (hlY : ∀ j ∈ late, ∀ w v, Y j w v ↔ v = c j)
    (hlS : ∀ j ∈ late, ∀ o t i k, L[j]? = some o → o.op = .extract (.tmp t) i → depOf (L.take m) t = some k → ∀ w v, Y k w v → ∃ vs, v = .tuple vs ∧ vs[i]? = some (c j))
    (hend : ∀ (p : Nat → Value) (w : World), Below W.heap.size W w → YAll Y p w (L.take m) 0 → ∀ om, L[m]? = some om → ∃ w', (execOp (layAll p (L.take m) 0 a0).eval om).run P w = .ok .skip w' ∧ wpList P L.toArray Q (L.drop (m + 1)) (layAll p (L.take m) 0 a0) w') : (Code.region id L.toArray true).wp P Q a0 W := by
  unfold relOkL at hok
  simp only [Bool.and_eq_true, List.all_eq_true, Option.isNone_iff_eq_none, Bool.or_eq_true, decide_eq_true_eq, beq_iff_eq, List.contains_iff_mem] at hok
  obtain ⟨⟨⟨⟨⟨⟨hsel, hE⟩, hall⟩, hT1⟩, hT2⟩, hL⟩, hSt⟩ := hok
  have htake : ∀ (i : Nat) (o : Oper), (L.take m)[i]? = some o → i < m ∧ L[i]? = some o := fun i o h => by
    rw [List.getElem?_take] at h
    split at h
    · exact ⟨by assumption, h⟩
    · cases h
  have hintake : ∀ (i : Nat) (o : Oper), i < m → L[i]? = some o → (L.take m)[i]? = some o := fun i o h1 h2 => by
    rw [List.getElem?_take, if_pos h1]; exact h2
  have hdst : ∀ (i : Nat) (o : Oper) (d : Tmp), (L.take m)[i]? = some o → o.dst = some d → d < n ∧ depOf (L.take m) d = some i := fun i o d ho hd => by
    have h1 := hall i (List.mem_range.2 (htake i o ho).1)
    simp only [ho, hd, Bool.and_eq_true, decide_eq_true_eq, beq_iff_eq] at h1
    exact h1.1
  have hread : ∀ (i : Nat) (o : Oper) (t : Tmp) (j : Nat), (L.take m)[i]? = some o → t ∈ o.looksAt L.toArray → depOf (L.take m) t = some j → ∃ e ∈ o.after, Region.binds .any e = true ∧ e.on = j := fun i o t j ho ht hj => by
    have h1 := hall i (List.mem_range.2 (htake i o ho).1)
    simp only [ho, Bool.and_eq_true, List.all_eq_true] at h1
    have h2 := h1.2 t ht
    simp only [hj, Array.any_eq_true, Bool.and_eq_true, beq_iff_eq] at h2
    obtain ⟨x, hx, hb, he⟩ := h2
    exact ⟨_, Array.getElem_mem hx, hb, he⟩
  have hdis : ∀ (i j : Nat) (oi oj : Oper) (d : Tmp), (L.take m)[i]? = some oi → (L.take m)[j]? = some oj → j ≠ i → oi.dst = some d → oj.dst ≠ some d := fun i j oi oj d hi hj hne hd e => by
    have h1 := (hdst i oi d hi hd).2
    have h2 := (hdst j oj d hj e).2
    rw [h1] at h2
    exact hne (Option.some.inj h2).symm
  -- the store
  obtain ⟨om, hom, hod, ty, sx, sy, hos, hx0, hy0⟩ : ∃ om, L[m]? = some om ∧ om.dst = none ∧ ∃ ty x y, om.op = .store ty (.tmp x) (.tmp y) ∧ notLate L m late x = true ∧ notLate L m late y = true := by
    unfold storeOp at hSt
    cases h : L[m]? with
    | none => rw [h] at hSt; cases hSt
    | some o =>
      rw [h] at hSt
      simp only [Bool.and_eq_true, Option.isNone_iff_eq_none] at hSt
      obtain ⟨h1, h2⟩ := hSt
      refine ⟨o, rfl, h1, ?_⟩
      split at h2
      · rename_i ty x y e
        simp only [Bool.and_eq_true] at h2
        exact ⟨ty, x, y, e, h2.1, h2.2⟩
      · cases h2
  have hml : m < L.length := (List.getElem?_eq_some_iff.1 hom).1
  -- late operations
  have hlate : ∀ j ∈ late, ∃ o d t i k, L[j]? = some o ∧ j < m ∧ o.guard = none ∧ o.dst = some d ∧ o.op = .extract (.tmp t) i ∧ depOf (L.take m) t = some k ∧ k ∉ late := by
    intro j hj
    have h := hL j hj
    unfold lateOp at h
    cases ho : L[j]? with
    | none => rw [ho] at h; cases h
    | some o =>
      rw [ho] at h
      simp only [Bool.and_eq_true, decide_eq_true_eq, Option.isNone_iff_eq_none] at h
      obtain ⟨⟨⟨h1, h2⟩, h3⟩, h4⟩ := h
      obtain ⟨d, hd⟩ := Option.isSome_iff_exists.1 h3
      split at h4
      · rename_i t i e
        simp only [Bool.and_eq_true] at h4
        obtain ⟨k, hk⟩ := Option.isSome_iff_exists.1 h4.1
        have h5 := h4.2
        unfold notLate at h5
        rw [hk] at h5
        simp only [Bool.not_eq_true', ← Bool.not_eq_true, List.contains_iff_mem] at h5
        exact ⟨o, d, t, i, k, rfl, h1, h2, hd, e, hk, h5⟩
      · cases h4
  have hnot : ∀ t, notLate L m late t = true → ∀ j, j ∈ late → ∀ oj, (L.take m)[j]? = some oj → oj.dst ≠ some t := by
    intro t ht j hj oj hoj e
    have h1 := (hdst j oj t hoj e).2
    unfold notLate at ht
    rw [h1] at ht
    simp only [Bool.not_eq_true', ← Bool.not_eq_true, List.contains_iff_mem] at ht
    exact ht hj
  -- what is ready at or behind the store
  have htail : ∀ (listed : Array Bool) (i : Nat), listed.size = L.toArray.size → i ∈ Region.ready .any L.toArray listed → m ≤ i → ∀ j, j < i → ¬ (i = m ∧ j ∈ late) → listed.getD j true = true := by
    intro listed i hs hi hmi j hj hnl
    obtain ⟨hiu, o, ho, hwait⟩ := mem_ready.1 hi
    have hil : i < L.length := by simpa using (Array.getElem?_eq_some_iff.1 ho).1
    have h3 := hT2 i (List.mem_range.2 hil)
    rcases h3 with h3 | h3
    · omega
    have h4 := h3 j (List.mem_range.2 hj)
    rcases h4 with h4 | h4
    · obtain ⟨o', ho', e, he, hb, hon⟩ := Region.waitsFor_spec h4
      have : o' = o := Option.some.inj (ho'.symm.trans ho)
      subst this
      have h5 := hwait e he hb
      rw [hon, ← getD_listed (by simp at hs; omega)] at h5
      exact h5
    · exact absurd h4 hnl
  let A (listed : Array Bool) (a : Act) (w : World) : Prop := ((∀ j, m ≤ j → j < L.length → listed.getD j true = false) ∧ Below W.heap.size W w ∧ a.tmps.size = n ∧ a.defers = a0.defers ∧
    (∀ t : Tmp, (∀ (j : Nat) (oj : Oper), (L.take m)[j]? = some oj → listed.getD j true = true → oj.dst ≠ some t) → a.eval (.tmp t) = a0.eval (.tmp t)) ∧
    (∀ (j : Nat) (oj : Oper) (d : Tmp), (L.take m)[j]? = some oj → listed.getD j true = true → oj.dst = some d → Y j w (a.eval (.tmp d))))
  let B (listed : Array Bool) (a : Act) (w : World) : Prop := (∀ j, j < L.length → j ∉ late → (listed.getD j true = true ↔ j < m + 1)) ∧ ∃ full : Act, full.tmps.size = n ∧ a.tmps.size = n ∧ a.defers = full.defers ∧
    (∀ t : Tmp, (∀ (j : Nat) (oj : Oper), j ∈ late → (L.take m)[j]? = some oj → listed.getD j true = false → oj.dst ≠ some t) → a.eval (.tmp t) = full.eval (.tmp t)) ∧
    (∀ j ∈ late, ∀ o d, L[j]? = some o → o.dst = some d → full.eval (.tmp d) = c j) ∧
    (∀ j ∈ late, ∀ o t i, L[j]? = some o → o.op = .extract (.tmp t) i → ∃ vs, full.eval (.tmp t) = .tuple vs ∧ vs[i]? = some (c j)) ∧ wpList P L.toArray Q (L.drop (m + 1)) full w
  let C (listed : Array Bool) (a : Act) (w : World) : Prop := ∃ k, m + 1 ≤ k ∧ (∀ j, j < L.length → (listed.getD j true = true ↔ j < k)) ∧ wpList P L.toArray Q (L.drop k) a w
  have hBC : ∀ listed a w, B listed a w → (∀ j ∈ late, listed.getD j true = true) → C listed a w := by
    rintro listed a w ⟨h1, full, h2, h3, h4, h5, -, -, h8⟩ hl
    refine ⟨m + 1, Nat.le_refl _, fun j hj => ?_, ?_⟩
    · by_cases hjl : j ∈ late
      · obtain ⟨_, _, _, _, _, _, hjm, _⟩ := hlate j hjl
        exact ⟨fun _ => by omega, fun _ => hl j hjl⟩
      · exact h1 j hj hjl
    · have : a = full := act_ext (h3.trans h2.symm) h4 fun t _ => h5 t fun j oj hj _ hf _ => by rw [hl j hj] at hf; cases hf
      rw [this]; exact h8
  refine wp_region_inv hm (fun listed a w => A listed a w ∨ B listed a w ∨ C listed a w) ?_ ?_ ?_
  · refine .inl ⟨fun j _ hj => by simp [hj], step_drew W, hn, rfl, fun _ _ => rfl, fun j oj d hj hl _ => ?_⟩
    have hjl := (List.getElem?_eq_some_iff.1 (htake j oj hj).2).1
    simp [hjl] at hl
  · rintro listed a w i hs hinv hi
    obtain ⟨hiu, o, ho, hwait⟩ := mem_ready.1 hi
    have ho' : L[i]? = some o := by simpa using ho
    have hil := (List.getElem?_eq_some_iff.1 ho').1
    have hsl : listed.size = L.length := by simpa using hs
    have hset1 : (listed.setIfInBounds i true).getD i true = true := by rw [Array.getD_eq_getD_getElem?, Array.getElem?_setIfInBounds_self]; simp [hsl, hil]
    by_cases him : i < m
    · rcases hinv with ⟨htl, hB, hz, hd, hbase, hYs⟩ | ⟨hlB, full, f1, f2, f3, f4, f5, f6, f7⟩ | ⟨k, hmk, hlk, _⟩
      · have ht' := hintake i o him ho'
        have hh := hop_atT (L.take m) 0 hop i o ht'
        rw [Nat.zero_add] at hh
        have hslots : ∀ t ∈ o.looksAt L.toArray, SlotOk (L.take m) Y a0 a w t := fun t ht => by
          unfold SlotOk
          cases hj : depOf (L.take m) t with
          | none => exact hbase t fun j oj hoj _ => depOf_none hj j oj hoj
          | some j =>
            obtain ⟨oj, hoj, hdj⟩ := depOf_some hj
            obtain ⟨e, he, hb, hon⟩ := hread i o t j ht' ht hj
            have h1 := hwait e he hb
            rw [hon] at h1
            refine hYs j oj t hoj ?_ hdj
            have hjl : j < listed.size := by rw [hsl]; exact (List.getElem?_eq_some_iff.1 (htake j oj hoj).2).1
            simpa [hjl] using h1
        have hh := hh a w hB hslots
        have hset : ∀ (v : Value) (w' : World), Kc W.heap.size w w' → Y i w' v → ((∀ j, m ≤ j → j < L.length → (listed.setIfInBounds i true).getD j true = false) ∧ Below W.heap.size W w' ∧ (a.put o.dst v).tmps.size = n ∧ (a.put o.dst v).defers = a0.defers ∧
            (∀ t : Tmp, (∀ (j : Nat) (oj : Oper), (L.take m)[j]? = some oj → (listed.setIfInBounds i true).getD j true = true → oj.dst ≠ some t) → (a.put o.dst v).eval (.tmp t) = a0.eval (.tmp t)) ∧
            (∀ (j : Nat) (oj : Oper) (d : Tmp), (L.take m)[j]? = some oj → (listed.setIfInBounds i true).getD j true = true → oj.dst = some d → Y j w' ((a.put o.dst v).eval (.tmp d)))) := fun v w' hb hy => by
          refine ⟨fun j h1 h2 => by rw [getD_set_ne true (show i ≠ j by omega)]; exact htl j h1 h2, hB.trans hb.below, by rw [put_size]; exact hz, by rw [put_defers]; exact hd, fun t ht => ?_, fun j oj d hoj hl hdj => ?_⟩
          · rw [eval_put_ne (ht i o ht' (hset1))]
            refine hbase t fun j oj hoj hl => ht j oj hoj ?_
            by_cases e : i = j
            · subst e; rw [hl] at hiu; cases hiu
            · rw [getD_set_ne true e]; exact hl
          · by_cases e : i = j
            · subst e
              obtain rfl : o = oj := Option.some.inj (ht'.symm.trans hoj)
              rw [hdj, eval_put_self (by rw [hz]; exact (hdst i o d ht' hdj).1)]
              exact hy
            · rw [eval_put_ne (hdis j i oj o d hoj ht' e hdj)]
              rw [getD_set_ne true e] at hl
              exact hY j w w' _ hb (hYs j oj d hoj hl hdj)
        unfold wpOp
        simp only [ho]
        by_cases hw : Region.wanted o (yielded L.toArray a.tmps) = true
        · rw [if_pos hw] at hh ⊢
          exact .inl (Oper.wp_mono (fun a' w' ⟨v, e, hb, hy⟩ => by rw [e]; exact .inl (hset v w' hb hy)) hh)
        · rw [if_neg hw] at hh ⊢
          exact .inl (hset undef w (Kc.refl _ _) hh)
      · -- a late extract, behind the store
        have hjl : i ∈ late := by
          apply Classical.byContradiction
          intro h
          have := (hlB i hil h).2 (by omega)
          rw [this] at hiu; cases hiu
        obtain ⟨o2, d, t, ix, k, ho2, _, hg, hdd, hop2, hk, hkl⟩ := hlate i hjl
        obtain rfl : o2 = o := Option.some.inj (ho2.symm.trans ho')
        obtain ⟨vs, hvs, hvc⟩ := f6 i hjl o2 t ix ho' hop2
        have hev : a.eval (.tmp t) = .tuple vs := by
          rw [f4 t (fun j oj hj hoj _ e => ?_)]
          · exact hvs
          · have := (hdst j oj t hoj e).2
            rw [hk] at this
            exact hkl (Option.some.inj this ▸ hj)
        have hrun := run_extL (P := P) (a := a) (w := w) (.tmp t) ix hop2 hev hvc
        have ht' := hintake i o2 him ho'
        unfold wpOp
        simp only [ho]
        rw [if_pos (by simp [Region.wanted, hg])]
        refine .inl ?_
        unfold Oper.wp
        rw [hrun]
        refine .inr (.inl ⟨fun j hj hjn => ?_, full, f1, by rw [put_size]; exact f2, by rw [put_defers]; exact f3, fun t2 ht2 => ?_, f5, f6, f7⟩)
        · by_cases e : i = j
          · subst e; exact absurd hjl hjn
          · rw [getD_set_ne true e]; exact hlB j hj hjn
        · by_cases e : t2 = d
          · subst e
            rw [hdd, eval_put_self (by rw [f2]; exact (hdst i o2 t2 ht' hdd).1)]
            exact (f5 i hjl o2 t2 ho' hdd).symm
          · rw [eval_put_ne (by rw [hdd]; exact fun h => e (Option.some.inj h).symm)]
            refine f4 t2 fun j oj hj hoj hf => ?_
            by_cases e2 : i = j
            · subst e2
              obtain rfl : o2 = oj := Option.some.inj (ht'.symm.trans hoj)
              rw [hdd]; exact fun h => e (Option.some.inj h).symm
            · exact ht2 j oj hj hoj (by rw [getD_set_ne true e2]; exact hf)
      · have := (hlk i hil).2 (by omega)
        rw [this] at hiu; cases hiu
    · have hmi : m ≤ i := Nat.le_of_not_lt him
      have hahead := htail listed i hs hi hmi
      by_cases hime : i = m
      · subst hime
        obtain rfl : om = o := Option.some.inj (hom.symm.trans ho')
        rcases hinv with ⟨htl, hB, hz, hd, hbase, hYs⟩ | ⟨hlB, _⟩ | ⟨k, hmk, hlk, _⟩
        · have hahead' : ∀ j, j < i → j ∉ late → listed.getD j true = true := fun j h1 h2 => hahead j h1 (fun h => h2 h.2)
          let p : Nat → Value := fun j => if j ∈ late then c j else a.eval (match ((L.take i)[j]?).bind (·.dst) with | some d => .tmp d | none => .const undef)
          have hya : YAll Y p w (L.take i) 0 := yall_of (L.take i) 0 fun j oj hoj hdn => by
            rw [Nat.zero_add]
            by_cases hjl : j ∈ late
            · simp only [p, if_pos hjl]; exact (hlY j hjl w _).2 rfl
            · cases hdo : oj.dst with
              | none => exact absurd hdo hdn
              | some d =>
                simp only [p, if_neg hjl, hoj, hdo, Option.bind_some]
                exact hYs j oj d hoj (hahead' j (htake j oj hoj).1 hjl) hdo
          obtain ⟨w', hrun, hwp⟩ := hend p w hB hya om ho'
          obtain ⟨z1, z2⟩ := lay_size p (L.take i) 0 a0
          have hfe : ∀ (j : Nat) (oj : Oper) (d : Tmp), (L.take i)[j]? = some oj → oj.dst = some d → (layAll p (L.take i) 0 a0).eval (.tmp d) = p j := fun j oj d hoj hdo => by
            have := lay_at p (L.take i) 0 j a0 oj hoj hdo (by rw [hn]; exact (hdst j oj d hoj hdo).1) fun q oq hq hne => hdis j q oj oq d hoj hq hne hdo
            rwa [Nat.zero_add] at this
          have hagree : ∀ t : Tmp, (∀ (j : Nat) (oj : Oper), j ∈ late → (L.take i)[j]? = some oj → listed.getD j true = false → oj.dst ≠ some t) → a.eval (.tmp t) = (layAll p (L.take i) 0 a0).eval (.tmp t) := by
            intro t ht
            cases hj : depOf (L.take i) t with
            | none => rw [lay_base _ (L.take i) 0 a0 (depOf_none hj)]; exact hbase t fun j oj hoj _ => depOf_none hj j oj hoj
            | some j =>
              obtain ⟨oj, hoj, hdj⟩ := depOf_some hj
              rw [hfe j oj t hoj hdj]
              by_cases hjl : j ∈ late
              · simp only [p, if_pos hjl]
                cases hlj : listed.getD j true with
                | false => exact absurd hdj (ht j oj hjl hoj hlj)
                | true => exact (hlY j hjl w _).1 (hYs j oj t hoj hlj hdj)
              · simp only [p, if_neg hjl, hoj, hdj, Option.bind_some]
          have hex : (execOp a.eval om).run P w = .ok .skip w' := by
            rw [← hrun]
            unfold execOp
            simp only [hos]
            rw [hagree sx fun j oj hj hoj _ => hnot sx hx0 j hj oj hoj, hagree sy fun j oj hj hoj _ => hnot sy hy0 j hj oj hoj]
          unfold wpOp
          simp only [ho]
          have hg := hT1 om (by rw [List.drop_eq_getElem_cons hml]; rw [List.getElem?_eq_getElem hml] at ho'; rw [Option.some.inj ho']; exact List.mem_cons_self)
          rw [if_pos (by simp [Region.wanted, hg])]
          refine .inl ?_
          unfold Oper.wp
          rw [hex]
          refine .inr (.inl ⟨fun j hj hjn => ?_, _, z1.trans hn, by rw [put_size]; exact hz, by rw [put_defers, hd, z2], fun t ht => ?_, fun j hj oj d hoj hdo => ?_, fun j hj oj t ix hoj hop2 => ?_, hwp⟩)
          · by_cases hji : i = j
            · subst hji; exact ⟨fun _ => by omega, fun _ => hset1⟩
            · rw [getD_set_ne true hji]
              refine ⟨fun h => ?_, fun h => hahead' j (by omega) hjn⟩
              apply Classical.byContradiction
              intro h2
              rw [htl j (by omega) hj] at h; cases h
          · rw [eval_put_ne (by rw [hod]; exact fun h => by cases h)]
            refine hagree t fun j oj hj hoj hf => ht j oj hj hoj ?_
            rw [getD_set_ne true (by have := (htake j oj hoj).1; omega)]; exact hf
          · obtain ⟨_, _, _, _, _, _, hjm, _⟩ := hlate j hj
            rw [hfe j oj d (hintake j oj hjm hoj) hdo]
            simp only [p, if_pos hj]
          · obtain ⟨o3, _, t3, ix3, k, ho3, _, _, _, hop3, hk, hkl⟩ := hlate j hj
            obtain rfl : o3 = oj := Option.some.inj (ho3.symm.trans hoj)
            have e3 := hop3.symm.trans hop2
            injection e3 with e4 e5
            injection e4 with e6
            subst e6; subst e5
            obtain ⟨ok, hok2, hdk⟩ := depOf_some hk
            obtain ⟨vs, e1, e2⟩ := hlS j hj o3 t3 ix3 k hoj hop2 hk w _ (hYs k ok t3 hok2 (hahead' k (htake k ok hok2).1 hkl) hdk)
            refine ⟨vs, ?_, e2⟩
            rw [← hagree t3 fun q oq hq hoq _ => hnot t3 (by unfold notLate; rw [hk]; simp only [Bool.not_eq_true', ← Bool.not_eq_true, List.contains_iff_mem]; exact hkl) q hq oq hoq]
            exact e1
        · have hmn : i ∉ late := fun h => by obtain ⟨_, _, _, _, _, _, hjm, _⟩ := hlate i h; omega
          have := (hlB i hil hmn).2 (by omega)
          rw [this] at hiu; cases hiu
        · have := (hlk i hil).2 (by omega)
          rw [this] at hiu; cases hiu
      · have hk : (∀ j, j < L.length → (listed.getD j true = true ↔ j < i)) ∧ wpList P L.toArray Q (L.drop i) a w := by
          have hall2 : ∀ j, j < i → listed.getD j true = true := fun j h1 => hahead j h1 (fun h => hime h.1)
          have hC : C listed a w := by
            rcases hinv with ⟨htl, _⟩ | hB | hC
            · have h1 := hall2 m (by omega)
              rw [htl m (Nat.le_refl _) hml] at h1; cases h1
            · refine hBC _ _ _ hB fun j hj => ?_
              obtain ⟨_, _, _, _, _, _, hjm, _⟩ := hlate j hj
              exact hall2 j (by omega)
            · exact hC
          obtain ⟨k, hmk, hlk, hwp⟩ := hC
          obtain rfl : k = i := by
            refine Nat.le_antisymm (Nat.le_of_not_lt fun hlt => ?_) (Nat.le_of_not_lt fun hlt => ?_)
            · have := (hlk i hil).2 hlt
              rw [this] at hiu; cases hiu
            · have := (hlk k (by omega)).1 (hall2 k hlt)
              omega
          exact ⟨hlk, hwp⟩
        obtain ⟨hlk, hwp⟩ := hk
        have hdr : L.drop i = L[i] :: L.drop (i + 1) := List.drop_eq_getElem_cons hil
        have hoe : L[i] = o := by rw [List.getElem?_eq_getElem hil] at ho'; exact Option.some.inj ho'
        rw [hoe] at hdr
        have hg := hT1 o (by
          have h6 : L.drop i = (L.drop m).drop (i - m) := by rw [List.drop_drop]; congr 1; omega
          have h7 : o ∈ L.drop i := by rw [hdr]; exact List.mem_cons_self
          rw [h6] at h7
          exact List.mem_of_mem_drop h7)
        have hset : ∀ j, j < L.length → ((listed.setIfInBounds i true).getD j true = true ↔ j < i + 1) := by
          intro j hj
          by_cases hji : j = i
          · subst hji; simp [hsl, hj]
          · rw [getD_set_ne true (fun e => hji e.symm), hlk j hj]; omega
        rw [hdr] at hwp
        unfold wpList at hwp
        unfold wpOp
        simp only [ho]
        have hw' : ∀ g, Region.wanted o g = true := fun g => by simp [Region.wanted, hg]
        simp only [hw', if_true] at hwp ⊢
        exact hwp.imp (Oper.wp_mono fun a' w' h' => .inr (.inr ⟨i + 1, by omega, hset, h'⟩)) (fun h => h)
  · rintro listed a w hs hinv hr
    have hsl : listed.size = L.length := by simpa using hs
    have hlisted : ∀ j, j < L.length → listed.getD j true = true := fun j hj => by
      cases h : listed.getD j true with
      | true => rfl
      | false => exact absurd hr (ready_of_unlisted hE hs j (by simpa using hj) h)
    have hC : C listed a w := by
      rcases hinv with ⟨htl, _⟩ | hB | hC
      · have h1 := hlisted m hml
        rw [htl m (Nat.le_refl _) hml] at h1; cases h1
      · refine hBC _ _ _ hB fun j hj => ?_
        obtain ⟨_, _, _, _, _, _, hjm, _⟩ := hlate j hj
        exact hlisted j (by omega)
      · exact hC
    obtain ⟨k, h1, hlk, h2⟩ := hC
    have hk : L.length ≤ k := Nat.le_of_not_lt fun hlt => absurd ((hlk k hlt).1 (hlisted k hlt)) (Nat.lt_irrefl _)
    rw [List.drop_eq_nil_of_le hk] at h2
    exact h2
/-- One late extract. -/
theorem wp_region_stL {P : Program} {id : Nat} {Q : Exit → Act → World → Prop} {a0 : Act} {W : World} {L : List Oper} (S : List StK) (m n e t i k : Nat) (vs : Array Value) (v : Value) (hn : a0.tmps.size = n) (hm : P.follows .mixedOrders = true) (hok : relOkL L m n [e] = true)
    (h1 : (L[e]?).map (·.op) = some (.extract (.tmp t) i)) (h2 : depOf (L.take m) t = some k) (h3 : ∀ w u, stYK S k w u → u = .tuple vs) (h4 : vs[i]? = some v) (h5 : ∀ w u, stYK S e w u ↔ u = v)
    {om : Oper} (h0 : L[m]? = some om) (hop : HopAllT P L m Q (stYK S) a0 W (L.take m) 0)
    (hend : ∀ (p : Nat → Value) (w : World), Below W.heap.size W w → YAll (stYK S) p w (L.take m) 0 → ∃ w', (execOp (layAll p (L.take m) 0 a0).eval om).run P w = .ok .skip w' ∧ wpList P L.toArray Q (L.drop (m + 1)) (layAll p (L.take m) 0 a0) w') : (Code.region id L.toArray true).wp P Q a0 W := by
  refine wp_region_relL m n [e] (fun _ => v) hn hm hok (stYK S) (fun i w w' v hb h => ((S[i]?).getD StK.any).h _ w w' v hb h) hop ?_ ?_ ?_
  · intro j hj; obtain rfl := List.mem_singleton.1 hj; exact h5
  · intro j hj o t2 i2 k2 ho hop2 hk w u hu
    obtain rfl := List.mem_singleton.1 hj
    rw [ho] at h1
    have e1 := (Option.some.inj h1)
    simp only at e1
    have e3 := e1.symm.trans hop2
    injection e3 with e4 e5
    injection e4 with e6
    subst e6; subst e5
    rw [h2] at hk
    obtain rfl := Option.some.inj hk
    exact ⟨vs, h3 w u hu, h4⟩
  · intro p w hb hp om2 hom2
    obtain rfl := Option.some.inj (h0.symm.trans hom2)
    exact hend p w hb hp
end Go.Proofs.Ytgccbfkofkohpaa
