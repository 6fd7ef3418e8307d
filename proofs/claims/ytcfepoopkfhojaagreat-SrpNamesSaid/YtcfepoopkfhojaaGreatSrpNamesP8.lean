/- What SrpNames stands on, part 8. -/
import Derived.Test.YtcfepoopkfhojaaGreatSrpNamesP1
import Derived.Test.YtcfepoopkfhojaaGreatSrpNamesP2
import Derived.Test.YtcfepoopkfhojaaGreatSrpNamesP3
import Derived.Test.YtcfepoopkfhojaaGreatSrpNamesP4
import Derived.Test.YtcfepoopkfhojaaGreatSrpNamesP5
import Derived.Test.YtcfepoopkfhojaaGreatSrpNamesP6
import Derived.Test.YtcfepoopkfhojaaGreatSrpNamesP7
set_option maxRecDepth 100000
set_option maxHeartbeats 8000000
set_option linter.unusedVariables false
set_option linter.unusedSimpArgs false
namespace Go.Proofs.YtcfepoopkfhojaaGreat
open Go.ChangeShapes Go.WideShapes Go.ChangeAt Go.RowKit
def notLate (L : List Oper) (m : Nat) (late : List Nat) (t : Tmp) : Bool := match zob (L.take m) t with | some k => !late.contains k | none => true
def lateOp (L : List Oper) (m : Nat) (late : List Nat) (j : Nat) : Bool := match L[j]? with
 | some o => decide (j < m) && o.guard.isNone && o.dst.isSome && (match o.op with | .extract (.tmp t) _ => (zob (L.take m) t).isSome && notLate L m late t | _ => false)
 | none => false
def storeOp (L : List Oper) (m : Nat) (late : List Nat) : Bool := match L[m]? with
 | some o => o.dst.isNone && (match o.op with | .store _ (.tmp x) (.tmp y) => notLate L m late x && notLate L m late y | _ => false)
 | none => false
def relOkL (L : List Oper) (m n : Nat) (late : List Nat) : Bool :=
 Region.noSelect L.toArray && backB L.toArray &&
 ((List.range m).all fun i => match (L.take m)[i]? with
  | none => true
  | some o => (match o.dst with
    | none => true
    | some d => decide (d < n) && zob (L.take m) d == some i) &&
   (o.looksAt L.toArray).all fun t => match zob (L.take m) t with
    | none => true
    | some j => o.after.any fun e => Region.binds .any e && e.on == j) &&
 ((L.drop m).all fun t => t.guard.isNone) && ((List.range L.length).all fun i => decide (i < m) || (List.range i).all fun j => Region.waitsFor .any L.toArray i j || (i == m && late.contains j)) &&
 (late.all fun j => lateOp L m late j) && storeOp L m late
theorem run_extL {P : Program} {a : Act} {w : World} {o : Oper} (x : Operand) (i : Nat) (ho : o.op = .extract x i) {vs : Array Value} (hx : a.eval x = .tuple vs) {v : Value} (hv : vs[i]? = some v) : (execOp a.eval o).run P w = .ok (.value v) w := by
 unfold execOp
 simp only [ho, hx]
 simp [Instr.extract, hv]
theorem wp_region_relL {P : Program} {id : Nat} {Q : Exit → Act → World → Prop} {a0 : Act} {W : World} {L : List Oper} (m n : Nat) (late : List Nat) (c : Nat → Value) (hn : a0.tmps.size = n) (hm : P.follows .mixedOrders = true) (hok : relOkL L m n late = true) (Y : Nat → World → Value → Prop)
  (hY : ∀ i w w' v, Kc W.heap.size w w' → Y i w v → Y i w' v) (hop : HopAllT P L m Q Y a0 W (L.take m) 0)
  (hlY : ∀ j ∈ late, ∀ w v, Y j w v ↔ v = c j)
  (hlS : ∀ j ∈ late, ∀ o t i k, L[j]? = some o → o.op = .extract (.tmp t) i → zob (L.take m) t = some k → ∀ w v, Y k w v → ∃ vs, v = .tuple vs ∧ vs[i]? = some (c j))
  (hend : ∀ (p : Nat → Value) (w : World), Below W.heap.size W w → YAll Y p w (L.take m) 0 → ∀ om, L[m]? = some om → ∃ w', (execOp (ztb p (L.take m) 0 a0).eval om).run P w = .ok .skip w' ∧ wpList P L.toArray Q (L.drop (m + 1)) (ztb p (L.take m) 0 a0) w') : (Code.region id L.toArray true).wp P Q a0 W := by
 unfold relOkL at hok
 simp only [Bool.and_eq_true, List.all_eq_true, Option.isNone_iff_eq_none, Bool.or_eq_true, decide_eq_true_eq, beq_iff_eq, List.contains_iff_mem] at hok
 obtain ⟨⟨⟨⟨⟨⟨hsel, hE⟩, hall⟩, hT1⟩, hT2⟩, hL⟩, hSt⟩ := hok
 have htake : ∀ (i : Nat) (o : Oper), (L.take m)[i]? = some o → i < m ∧ L[i]? = some o := fun i o h => by
  rw [List.getElem?_take] at h
  split at h
  ·exact ⟨by assumption, h⟩
  ·cases h
 have hintake : ∀ (i : Nat) (o : Oper), i < m → L[i]? = some o → (L.take m)[i]? = some o := fun i o h1 h2 => by
  rw [List.getElem?_take, if_pos h1]; exact h2
 have hdst : ∀ (i : Nat) (o : Oper) (d : Tmp), (L.take m)[i]? = some o → o.dst = some d → d < n ∧ zob (L.take m) d = some i := fun i o d ho hd => by
  have h1 := hall i (List.mem_range.2 (htake i o ho).1)
  simp only [ho, hd, Bool.and_eq_true, decide_eq_true_eq, beq_iff_eq] at h1
  exact h1.1
 have hread : ∀ (i : Nat) (o : Oper) (t : Tmp) (j : Nat), (L.take m)[i]? = some o → t ∈ o.looksAt L.toArray → zob (L.take m) t = some j → ∃ e ∈ o.after, Region.binds .any e = true ∧ e.on = j := fun i o t j ho ht hj => by
  have h1 := hall i (List.mem_range.2 (htake i o ho).1)
  simp only [ho, Bool.and_eq_true, List.all_eq_true] at h1
  have h2 := h1.2 t ht
  simp only [hj, Array.any_eq_true, Bool.and_eq_true, beq_iff_eq] at h2
  obtain ⟨x, hx, hb, he⟩ := h2
  exact ⟨_, Array.getElem_mem hx, hb, he⟩
 have hdis : ∀ (i j : Nat) (oi oj : Oper) (d : Tmp), (L.take m)[i]? = some oi → (L.take m)[j]? = some oj → j ≠ i → oi.dst = some d → oj.dst ≠ some d := fun i j oi oj d hi hj hne hd e => by
  have h1 := (hdst i oi d hi hd).2
  have h2 := (hdst j oj d hj e).2
  rw [h1] at h2
  exact hne (Option.some.inj h2).symm
 -- the store
 obtain ⟨om, hom, hod, ty, sx, sy, hos, hx0, hy0⟩ : ∃ om, L[m]? = some om ∧ om.dst = none ∧ ∃ ty x y, om.op = .store ty (.tmp x) (.tmp y) ∧ notLate L m late x = true ∧ notLate L m late y = true := by
  unfold storeOp at hSt
  cases h : L[m]? with
  | none => rw [h] at hSt; cases hSt
  | some o =>
   rw [h] at hSt
   simp only [Bool.and_eq_true, Option.isNone_iff_eq_none] at hSt
   obtain ⟨h1, h2⟩ := hSt
   refine ⟨o, rfl, h1, ?_⟩
   split at h2
   ·rename_i ty x y e
    simp only [Bool.and_eq_true] at h2
    exact ⟨ty, x, y, e, h2.1, h2.2⟩
   ·cases h2
 have hml : m < L.length := (List.getElem?_eq_some_iff.1 hom).1
 -- late operations
 have hlate : ∀ j ∈ late, ∃ o d t i k, L[j]? = some o ∧ j < m ∧ o.guard = none ∧ o.dst = some d ∧ o.op = .extract (.tmp t) i ∧ zob (L.take m) t = some k ∧ k ∉ late := by
  intro j hj
  have h := hL j hj
  unfold lateOp at h
  cases ho : L[j]? with
  | none => rw [ho] at h; cases h
  | some o =>
   rw [ho] at h
   simp only [Bool.and_eq_true, decide_eq_true_eq, Option.isNone_iff_eq_none] at h
   obtain ⟨⟨⟨h1, h2⟩, h3⟩, h4⟩ := h
   obtain ⟨d, hd⟩ := Option.isSome_iff_exists.1 h3
   split at h4
   ·rename_i t i e
    simp only [Bool.and_eq_true] at h4
    obtain ⟨k, hk⟩ := Option.isSome_iff_exists.1 h4.1
    have h5 := h4.2
    unfold notLate at h5
    rw [hk] at h5
    simp only [Bool.not_eq_true', ← Bool.not_eq_true, List.contains_iff_mem] at h5
    exact ⟨o, d, t, i, k, rfl, h1, h2, hd, e, hk, h5⟩
   ·cases h4
 have hnot : ∀ t, notLate L m late t = true → ∀ j, j ∈ late → ∀ oj, (L.take m)[j]? = some oj → oj.dst ≠ some t := by
  intro t ht j hj oj hoj e
  have h1 := (hdst j oj t hoj e).2
  unfold notLate at ht
  rw [h1] at ht
  simp only [Bool.not_eq_true', ← Bool.not_eq_true, List.contains_iff_mem] at ht
  exact ht hj
 -- what is ready at or behind the store
 have htail : ∀ (listed : Array Bool) (i : Nat), listed.size = L.toArray.size → i ∈ Region.ready .any L.toArray listed → m ≤ i → ∀ j, j < i → ¬ (i = m ∧ j ∈ late) → listed.getD j true = true := by
  intro listed i hs hi hmi j hj hnl
  obtain ⟨hiu, o, ho, hwait⟩ := mem_ready.1 hi
  have hil : i < L.length := by simpa using (Array.getElem?_eq_some_iff.1 ho).1
  have h3 := hT2 i (List.mem_range.2 hil)
  rcases h3 with h3 | h3
  ·omega
  have h4 := h3 j (List.mem_range.2 hj)
  rcases h4 with h4 | h4
  ·obtain ⟨o', ho', e, he, hb, hon⟩ := Region.waitsFor_spec h4
   have : o' = o := Option.some.inj (ho'.symm.trans ho)
   subst this
   have h5 := hwait e he hb
   rw [hon, ← getD_listed (by simp at hs; omega)] at h5
   exact h5
  ·exact absurd h4 hnl
 let A (listed : Array Bool) (a : Act) (w : World) : Prop := ((∀ j, m ≤ j → j < L.length → listed.getD j true = false) ∧ Below W.heap.size W w ∧ a.tmps.size = n ∧ a.defers = a0.defers ∧
  (∀ t : Tmp, (∀ (j : Nat) (oj : Oper), (L.take m)[j]? = some oj → listed.getD j true = true → oj.dst ≠ some t) → a.eval (.tmp t) = a0.eval (.tmp t)) ∧
  (∀ (j : Nat) (oj : Oper) (d : Tmp), (L.take m)[j]? = some oj → listed.getD j true = true → oj.dst = some d → Y j w (a.eval (.tmp d))))
 let B (listed : Array Bool) (a : Act) (w : World) : Prop := (∀ j, j < L.length → j ∉ late → (listed.getD j true = true ↔ j < m + 1)) ∧ ∃ full : Act, full.tmps.size = n ∧ a.tmps.size = n ∧ a.defers = full.defers ∧
  (∀ t : Tmp, (∀ (j : Nat) (oj : Oper), j ∈ late → (L.take m)[j]? = some oj → listed.getD j true = false → oj.dst ≠ some t) → a.eval (.tmp t) = full.eval (.tmp t)) ∧
  (∀ j ∈ late, ∀ o d, L[j]? = some o → o.dst = some d → full.eval (.tmp d) = c j) ∧
  (∀ j ∈ late, ∀ o t i, L[j]? = some o → o.op = .extract (.tmp t) i → ∃ vs, full.eval (.tmp t) = .tuple vs ∧ vs[i]? = some (c j)) ∧ wpList P L.toArray Q (L.drop (m + 1)) full w
 let C (listed : Array Bool) (a : Act) (w : World) : Prop := ∃ k, m + 1 ≤ k ∧ (∀ j, j < L.length → (listed.getD j true = true ↔ j < k)) ∧ wpList P L.toArray Q (L.drop k) a w
 have hBC : ∀ listed a w, B listed a w → (∀ j ∈ late, listed.getD j true = true) → C listed a w := by
  rintro listed a w ⟨h1, full, h2, h3, h4, h5, -, -, h8⟩ hl
  refine ⟨m + 1, Nat.le_refl _, fun j hj => ?_, ?_⟩
  ·by_cases hjl : j ∈ late
   ·obtain ⟨_, _, _, _, _, _, hjm, _⟩ := hlate j hjl
    exact ⟨fun _ => by omega, fun _ => hl j hjl⟩
   ·exact h1 j hj hjl
  ·have : a = full := act_ext (h3.trans h2.symm) h4 fun t _ => h5 t fun j oj hj _ hf _ => by rw [hl j hj] at hf; cases hf
   rw [this]; exact h8
 refine wp_region_inv hm (fun listed a w => A listed a w ∨ B listed a w ∨ C listed a w) ?_ ?_ ?_
 ·refine .inl ⟨fun j _ hj => by simp [hj], zya W, hn, rfl, fun _ _ => rfl, fun j oj d hj hl _ => ?_⟩
  have hjl := (List.getElem?_eq_some_iff.1 (htake j oj hj).2).1
  simp [hjl] at hl
 ·rintro listed a w i hs hinv hi
  obtain ⟨hiu, o, ho, hwait⟩ := mem_ready.1 hi
  have ho' : L[i]? = some o := by simpa using ho
  have hil := (List.getElem?_eq_some_iff.1 ho').1
  have hsl : listed.size = L.length := by simpa using hs
  have hset1 : (listed.setIfInBounds i true).getD i true = true := by rw [Array.getD_eq_getD_getElem?, Array.getElem?_setIfInBounds_self]; simp [hsl, hil]
  by_cases him : i < m
  ·rcases hinv with ⟨htl, hB, hz, hd, hbase, hYs⟩ | ⟨hlB, full, f1, f2, f3, f4, f5, f6, f7⟩ | ⟨k, hmk, hlk, _⟩
   ·have ht' := hintake i o him ho'
    have hh := hop_atT (L.take m) 0 hop i o ht'
    rw [Nat.zero_add] at hh
    have hslots : ∀ t ∈ o.looksAt L.toArray, SlotOk (L.take m) Y a0 a w t := fun t ht => by
     unfold SlotOk
     cases hj : zob (L.take m) t with
     | none => exact hbase t fun j oj hoj _ => zxb hj j oj hoj
     | some j =>
      obtain ⟨oj, hoj, hdj⟩ := zgc hj
      obtain ⟨e, he, hb, hon⟩ := hread i o t j ht' ht hj
      have h1 := hwait e he hb
      rw [hon] at h1
      refine hYs j oj t hoj ?_ hdj
      have hjl : j < listed.size := by rw [hsl]; exact (List.getElem?_eq_some_iff.1 (htake j oj hoj).2).1
      simpa [hjl] using h1
    have hh := hh a w hB hslots
    have hset : ∀ (v : Value) (w' : World), Kc W.heap.size w w' → Y i w' v → ((∀ j, m ≤ j → j < L.length → (listed.setIfInBounds i true).getD j true = false) ∧ Below W.heap.size W w' ∧ (a.put o.dst v).tmps.size = n ∧ (a.put o.dst v).defers = a0.defers ∧
      (∀ t : Tmp, (∀ (j : Nat) (oj : Oper), (L.take m)[j]? = some oj → (listed.setIfInBounds i true).getD j true = true → oj.dst ≠ some t) → (a.put o.dst v).eval (.tmp t) = a0.eval (.tmp t)) ∧
      (∀ (j : Nat) (oj : Oper) (d : Tmp), (L.take m)[j]? = some oj → (listed.setIfInBounds i true).getD j true = true → oj.dst = some d → Y j w' ((a.put o.dst v).eval (.tmp d)))) := fun v w' hb hy => by
     refine ⟨fun j h1 h2 => by rw [getD_set_ne true (show i ≠ j by omega)]; exact htl j h1 h2, hB.trans hb.below, by rw [put_size]; exact hz, by rw [znc]; exact hd, fun t ht => ?_, fun j oj d hoj hl hdj => ?_⟩
     ·rw [zib (ht i o ht' (hset1))]
      refine hbase t fun j oj hoj hl => ht j oj hoj ?_
      by_cases e : i = j
      ·subst e; rw [hl] at hiu; cases hiu
      ·rw [getD_set_ne true e]; exact hl
     ·by_cases e : i = j
      ·subst e
       obtain rfl : o = oj := Option.some.inj (ht'.symm.trans hoj)
       rw [hdj, z0b (by rw [hz]; exact (hdst i o d ht' hdj).1)]
       exact hy
      ·rw [zib (hdis j i oj o d hoj ht' e hdj)]
       rw [getD_set_ne true e] at hl
       exact hY j w w' _ hb (hYs j oj d hoj hl hdj)
    unfold wpOp
    simp only [ho]
    by_cases hw : Region.wanted o (yielded L.toArray a.tmps) = true
    ·rw [if_pos hw] at hh ⊢
     exact .inl (Oper.wp_mono (fun a' w' ⟨v, e, hb, hy⟩ => by rw [e]; exact .inl (hset v w' hb hy)) hh)
    ·rw [if_neg hw] at hh ⊢
     exact .inl (hset undef w (Kc.refl _ _) hh)
   ·-- a late extract, behind the store
    have hjl : i ∈ late := by
     apply Classical.byContradiction
     intro h
     have := (hlB i hil h).2 (by omega)
     rw [this] at hiu; cases hiu
    obtain ⟨o2, d, t, ix, k, ho2, _, hg, hdd, hop2, hk, hkl⟩ := hlate i hjl
    obtain rfl : o2 = o := Option.some.inj (ho2.symm.trans ho')
    obtain ⟨vs, hvs, hvc⟩ := f6 i hjl o2 t ix ho' hop2
    have hev : a.eval (.tmp t) = .tuple vs := by
     rw [f4 t (fun j oj hj hoj _ e => ?_)]
     ·exact hvs
     ·have := (hdst j oj t hoj e).2
      rw [hk] at this
      exact hkl (Option.some.inj this ▸ hj)
    have hrun := run_extL (P := P) (a := a) (w := w) (.tmp t) ix hop2 hev hvc
    have ht' := hintake i o2 him ho'
    unfold wpOp
    simp only [ho]
    rw [if_pos (by simp [Region.wanted, hg])]
    refine .inl ?_
    unfold Oper.wp
    rw [hrun]
    refine .inr (.inl ⟨fun j hj hjn => ?_, full, f1, by rw [put_size]; exact f2, by rw [znc]; exact f3, fun t2 ht2 => ?_, f5, f6, f7⟩)
    ·by_cases e : i = j
     ·subst e; exact absurd hjl hjn
     ·rw [getD_set_ne true e]; exact hlB j hj hjn
    ·by_cases e : t2 = d
     ·subst e
      rw [hdd, z0b (by rw [f2]; exact (hdst i o2 t2 ht' hdd).1)]
      exact (f5 i hjl o2 t2 ho' hdd).symm
     ·rw [zib (by rw [hdd]; exact fun h => e (Option.some.inj h).symm)]
      refine f4 t2 fun j oj hj hoj hf => ?_
      by_cases e2 : i = j
      ·subst e2
       obtain rfl : o2 = oj := Option.some.inj (ht'.symm.trans hoj)
       rw [hdd]; exact fun h => e (Option.some.inj h).symm
      ·exact ht2 j oj hj hoj (by rw [getD_set_ne true e2]; exact hf)
   ·have := (hlk i hil).2 (by omega)
    rw [this] at hiu; cases hiu
  ·have hmi : m ≤ i := Nat.le_of_not_lt him
   have hahead := htail listed i hs hi hmi
   by_cases hime : i = m
   ·subst hime
    obtain rfl : om = o := Option.some.inj (hom.symm.trans ho')
    rcases hinv with ⟨htl, hB, hz, hd, hbase, hYs⟩ | ⟨hlB, _⟩ | ⟨k, hmk, hlk, _⟩
    ·have hahead' : ∀ j, j < i → j ∉ late → listed.getD j true = true := fun j h1 h2 => hahead j h1 (fun h => h2 h.2)
     let p : Nat → Value := fun j => if j ∈ late then c j else a.eval (match ((L.take i)[j]?).bind (·.dst) with | some d => .tmp d | none => .const undef)
     have hya : YAll Y p w (L.take i) 0 := yall_of (L.take i) 0 fun j oj hoj hdn => by
      rw [Nat.zero_add]
      by_cases hjl : j ∈ late
      ·simp only [p, if_pos hjl]; exact (hlY j hjl w _).2 rfl
      ·cases hdo : oj.dst with
       | none => exact absurd hdo hdn
       | some d =>
        simp only [p, if_neg hjl, hoj, hdo, Option.bind_some]
        exact hYs j oj d hoj (hahead' j (htake j oj hoj).1 hjl) hdo
     obtain ⟨w', hrun, hwp⟩ := hend p w hB hya om ho'
     obtain ⟨z1, z2⟩ := lay_size p (L.take i) 0 a0
     have hfe : ∀ (j : Nat) (oj : Oper) (d : Tmp), (L.take i)[j]? = some oj → oj.dst = some d → (ztb p (L.take i) 0 a0).eval (.tmp d) = p j := fun j oj d hoj hdo => by
      have := lay_at p (L.take i) 0 j a0 oj hoj hdo (by rw [hn]; exact (hdst j oj d hoj hdo).1) fun q oq hq hne => hdis j q oj oq d hoj hq hne hdo
      rwa [Nat.zero_add] at this
     have hagree : ∀ t : Tmp, (∀ (j : Nat) (oj : Oper), j ∈ late → (L.take i)[j]? = some oj → listed.getD j true = false → oj.dst ≠ some t) → a.eval (.tmp t) = (ztb p (L.take i) 0 a0).eval (.tmp t) := by
      intro t ht
      cases hj : zob (L.take i) t with
      | none => rw [lay_base _ (L.take i) 0 a0 (zxb hj)]; exact hbase t fun j oj hoj _ => zxb hj j oj hoj
      | some j =>
       obtain ⟨oj, hoj, hdj⟩ := zgc hj
       rw [hfe j oj t hoj hdj]
       by_cases hjl : j ∈ late
       ·simp only [p, if_pos hjl]
        cases hlj : listed.getD j true with
        | false => exact absurd hdj (ht j oj hjl hoj hlj)
        | true => exact (hlY j hjl w _).1 (hYs j oj t hoj hlj hdj)
       ·simp only [p, if_neg hjl, hoj, hdj, Option.bind_some]
     have hex : (execOp a.eval om).run P w = .ok .skip w' := by
      rw [← hrun]
      unfold execOp
      simp only [hos]
      rw [hagree sx fun j oj hj hoj _ => hnot sx hx0 j hj oj hoj, hagree sy fun j oj hj hoj _ => hnot sy hy0 j hj oj hoj]
     unfold wpOp
     simp only [ho]
     have hg := hT1 om (by rw [List.drop_eq_getElem_cons hml]; rw [List.getElem?_eq_getElem hml] at ho'; rw [Option.some.inj ho']; exact List.mem_cons_self)
     rw [if_pos (by simp [Region.wanted, hg])]
     refine .inl ?_
     unfold Oper.wp
     rw [hex]
     refine .inr (.inl ⟨fun j hj hjn => ?_, _, z1.trans hn, by rw [put_size]; exact hz, by rw [znc, hd, z2], fun t ht => ?_, fun j hj oj d hoj hdo => ?_, fun j hj oj t ix hoj hop2 => ?_, hwp⟩)
     ·by_cases hji : i = j
      ·subst hji; exact ⟨fun _ => by omega, fun _ => hset1⟩
      ·rw [getD_set_ne true hji]
       refine ⟨fun h => ?_, fun h => hahead' j (by omega) hjn⟩
       apply Classical.byContradiction
       intro h2
       rw [htl j (by omega) hj] at h; cases h
     ·rw [zib (by rw [hod]; exact fun h => by cases h)]
      refine hagree t fun j oj hj hoj hf => ht j oj hj hoj ?_
      rw [getD_set_ne true (by have := (htake j oj hoj).1; omega)]; exact hf
     ·obtain ⟨_, _, _, _, _, _, hjm, _⟩ := hlate j hj
      rw [hfe j oj d (hintake j oj hjm hoj) hdo]
      simp only [p, if_pos hj]
     ·obtain ⟨o3, _, t3, ix3, k, ho3, _, _, _, hop3, hk, hkl⟩ := hlate j hj
      obtain rfl : o3 = oj := Option.some.inj (ho3.symm.trans hoj)
      have e3 := hop3.symm.trans hop2
      injection e3 with e4 e5
      injection e4 with e6
      subst e6; subst e5
      obtain ⟨ok, hok2, hdk⟩ := zgc hk
      obtain ⟨vs, e1, e2⟩ := hlS j hj o3 t3 ix3 k hoj hop2 hk w _ (hYs k ok t3 hok2 (hahead' k (htake k ok hok2).1 hkl) hdk)
      refine ⟨vs, ?_, e2⟩
      rw [← hagree t3 fun q oq hq hoq _ => hnot t3 (by unfold notLate; rw [hk]; simp only [Bool.not_eq_true', ← Bool.not_eq_true, List.contains_iff_mem]; exact hkl) q hq oq hoq]
      exact e1
    ·have hmn : i ∉ late := fun h => by obtain ⟨_, _, _, _, _, _, hjm, _⟩ := hlate i h; omega
     have := (hlB i hil hmn).2 (by omega)
     rw [this] at hiu; cases hiu
    ·have := (hlk i hil).2 (by omega)
     rw [this] at hiu; cases hiu
   ·have hk : (∀ j, j < L.length → (listed.getD j true = true ↔ j < i)) ∧ wpList P L.toArray Q (L.drop i) a w := by
     have hall2 : ∀ j, j < i → listed.getD j true = true := fun j h1 => hahead j h1 (fun h => hime h.1)
     have hC : C listed a w := by
      rcases hinv with ⟨htl, _⟩ | hB | hC
      ·have h1 := hall2 m (by omega)
       rw [htl m (Nat.le_refl _) hml] at h1; cases h1
      ·refine hBC _ _ _ hB fun j hj => ?_
       obtain ⟨_, _, _, _, _, _, hjm, _⟩ := hlate j hj
       exact hall2 j (by omega)
      ·exact hC
     obtain ⟨k, hmk, hlk, hwp⟩ := hC
     obtain rfl : k = i := by
      refine Nat.le_antisymm (Nat.le_of_not_lt fun hlt => ?_) (Nat.le_of_not_lt fun hlt => ?_)
      ·have := (hlk i hil).2 hlt
       rw [this] at hiu; cases hiu
      ·have := (hlk k (by omega)).1 (hall2 k hlt)
       omega
     exact ⟨hlk, hwp⟩
    obtain ⟨hlk, hwp⟩ := hk
    have hdr : L.drop i = L[i] :: L.drop (i + 1) := List.drop_eq_getElem_cons hil
    have hoe : L[i] = o := by rw [List.getElem?_eq_getElem hil] at ho'; exact Option.some.inj ho'
    rw [hoe] at hdr
    have hg := hT1 o (by
     have h6 : L.drop i = (L.drop m).drop (i - m) := by rw [List.drop_drop]; congr 1; omega
     have h7 : o ∈ L.drop i := by rw [hdr]; exact List.mem_cons_self
     rw [h6] at h7
     exact List.mem_of_mem_drop h7)
    have hset : ∀ j, j < L.length → ((listed.setIfInBounds i true).getD j true = true ↔ j < i + 1) := by
     intro j hj
     by_cases hji : j = i
     ·subst hji; simp [hsl, hj]
     ·rw [getD_set_ne true (fun e => hji e.symm), hlk j hj]; omega
    rw [hdr] at hwp
    unfold wpList at hwp
    unfold wpOp
    simp only [ho]
    have hw' : ∀ g, Region.wanted o g = true := fun g => by simp [Region.wanted, hg]
    simp only [hw', if_true] at hwp ⊢
    exact hwp.imp (Oper.wp_mono fun a' w' h' => .inr (.inr ⟨i + 1, by omega, hset, h'⟩)) (fun h => h)
 ·rintro listed a w hs hinv hr
  have hsl : listed.size = L.length := by simpa using hs
  have hlisted : ∀ j, j < L.length → listed.getD j true = true := fun j hj => by
   cases h : listed.getD j true with
   | true => rfl
   | false => exact absurd hr (zcb hE hs j (by simpa using hj) h)
  have hC : C listed a w := by
   rcases hinv with ⟨htl, _⟩ | hB | hC
   ·have h1 := hlisted m hml
    rw [htl m (Nat.le_refl _) hml] at h1; cases h1
   ·refine hBC _ _ _ hB fun j hj => ?_
    obtain ⟨_, _, _, _, _, _, hjm, _⟩ := hlate j hj
    exact hlisted j (by omega)
   ·exact hC
  obtain ⟨k, h1, hlk, h2⟩ := hC
  have hk : L.length ≤ k := Nat.le_of_not_lt fun hlt => absurd ((hlk k hlt).1 (hlisted k hlt)) (Nat.lt_irrefl _)
  rw [List.drop_eq_nil_of_le hk] at h2
  exact h2
theorem wp_region_stL {P : Program} {id : Nat} {Q : Exit → Act → World → Prop} {a0 : Act} {W : World} {L : List Oper} (S : List StK) (m n e t i k : Nat) (vs : Array Value) (v : Value) (hn : a0.tmps.size = n) (hm : P.follows .mixedOrders = true) (hok : relOkL L m n [e] = true)
  (h1 : (L[e]?).map (·.op) = some (.extract (.tmp t) i)) (h2 : zob (L.take m) t = some k) (h3 : ∀ w u, stYK S k w u → u = .tuple vs) (h4 : vs[i]? = some v) (h5 : ∀ w u, stYK S e w u ↔ u = v)
  {om : Oper} (h0 : L[m]? = some om) (hop : HopAllT P L m Q (stYK S) a0 W (L.take m) 0)
  (hend : ∀ (p : Nat → Value) (w : World), Below W.heap.size W w → YAll (stYK S) p w (L.take m) 0 → ∃ w', (execOp (ztb p (L.take m) 0 a0).eval om).run P w = .ok .skip w' ∧ wpList P L.toArray Q (L.drop (m + 1)) (ztb p (L.take m) 0 a0) w') : (Code.region id L.toArray true).wp P Q a0 W := by
 refine wp_region_relL m n [e] (fun _ => v) hn hm hok (stYK S) (fun i w w' v hb h => ((S[i]?).getD StK.any).h _ w w' v hb h) hop ?_ ?_ ?_
 ·intro j hj; obtain rfl := List.mem_singleton.1 hj; exact h5
 ·intro j hj o t2 i2 k2 ho hop2 hk w u hu
  obtain rfl := List.mem_singleton.1 hj
  rw [ho] at h1
  have e1 := (Option.some.inj h1)
  simp only at e1
  have e3 := e1.symm.trans hop2
  injection e3 with e4 e5
  injection e4 with e6
  subst e6; subst e5
  rw [h2] at hk
  obtain rfl := Option.some.inj hk
  exact ⟨vs, h3 w u hu, h4⟩
 ·intro p w hb hp om2 hom2
  obtain rfl := Option.some.inj (h0.symm.trans hom2)
  exact hend p w hb hp
end Go.Proofs.YtcfepoopkfhojaaGreat
namespace Go.Proofs.YtcfepoopkfhojaaGreat
open Go.ChangeShapes Go.WideShapes Go.ChangeAt Go.RowKit Go.Shelf
variable {ds : List Deferred}
section
variable {P : Program}
theorem relOkL_dst {L : List Oper} {m n : Nat} {late : List Nat} (hok : relOkL L m n late = true) : ∀ (i : Nat) (o : Oper) (d : Nat), (L.take m)[i]? = some o → o.dst = some d → d < n := by
 unfold relOkL at hok
 simp only [Bool.and_eq_true, List.all_eq_true] at hok
 obtain ⟨⟨⟨⟨⟨⟨-, -⟩, hall⟩, -⟩, -⟩, -⟩, -⟩ := hok
 intro i o d ho hd
 have hi : i < m := by
  rw [List.getElem?_take] at ho
  split at ho
  ·assumption
  ·cases ho
 have h1 := hall i (List.mem_range.2 hi)
 simp only [ho, hd, Bool.and_eq_true, decide_eq_true_eq] at h1
 exact h1.1.1
theorem region_fxL {id : Nat} {Q : Exit → Act → World → Prop} {a0 : Act} {W : World} {L : List Oper} {n : Nat} {V : List (Nat × Value)} (F : Fx n a0 V ds) (S : List StK) (m e t i k : Nat) (vs : Array Value) (v : Value) (hm : P.follows .mixedOrders = true) (hok : relOkL L m n [e] = true)
  (h1 : (L[e]?).map (·.op) = some (.extract (.tmp t) i)) (h2 : zob (L.take m) t = some k) (h3 : ∀ w u, stYK S k w u → u = .tuple vs) (h4 : vs[i]? = some v) (h5 : ∀ w u, stYK S e w u ↔ u = v)
  {om : Oper} (h0 : L[m]? = some om) (hop : HopAllT P L m Q (stYK S) a0 W (L.take m) 0)
  (hend : ∀ (p : Nat → Value) (a : Act) (w : World), Kc W.heap.size W w → Fx n a (layV p (L.take m) 0 V) ds → YAll (stYK S) p w (L.take m) 0 → ∃ w', (execOp a.eval om).run P w = .ok .skip w' ∧ wpList P L.toArray Q (L.drop (m + 1)) a w') : (Code.region id L.toArray true).wp P Q a0 W :=
 wp_region_stL S m n e t i k vs v F.size hm hok h1 h2 h3 h4 h5 h0 hop fun p w hb hY => hend p _ w (Kc.of_below (Nat.le_refl _) hb) (F.lay p (L.take m) 0 a0 V (relOkL_dst hok)) hY
theorem st_ex {ops : Array Oper} {Q : Exit → Act → World → Prop} {a : Act} {w w0 : World} {rest : List Oper} {o : Oper} {G : Option Nat} {R : List (Nat × Res)} (M : Mx G w0 w R) {k g off : Nat} {t : TypeId} {c : Array Value} (hk : look R k = some (blkR g t c)) (ty : TypeId) (x y : Operand) (ho : o.op = .store ty x y) (hx : a.eval x = .pointer (some ⟨g, off, none⟩)) {v : Value} (hy : a.eval y = v)
  (s c' : Array Value) (hv : v.cells = s) (hos : off + s.size ≤ c.size) (h1 : s.all (·.oneCell') = true) (hc' : (c.toList.take off ++ s.toList ++ c.toList.drop (off + s.size)).toArray = c') (hi : (P.info? ty).map (·.size) = some s.size)
  (h : ∀ w', Mx G w0 w' ((k, blkR g t c') :: R) → wpList P ops Q rest a w') : ∃ w', (execOp a.eval o).run P w = .ok .skip w' ∧ wpList P ops Q rest a w' :=
 ⟨_, y_st ty x y ho hx hy (M.blk hk) s c' hv hos h1 hc' hi, h _ (M.put hk (znb _ _ _) (setRow_heap w g c c' t (0, 0) (M.blk hk)))⟩
theorem relOkU_dst {L : List Oper} {m n : Nat} (hok : relOkU L m n = true) : ∀ (i : Nat) (o : Oper) (d : Nat), (L.take m)[i]? = some o → o.dst = some d → d < n := by
 unfold relOkU at hok
 simp only [Bool.and_eq_true, List.all_eq_true] at hok
 intro i o d ho hd
 have hi : i < m := by
  rw [List.getElem?_take] at ho
  split at ho
  ·assumption
  ·cases ho
 have hall := hok.2
 have h1 := hall i (List.mem_range.2 hi)
 simp only [ho, hd, Bool.and_eq_true, decide_eq_true_eq] at h1
 exact h1.1.1
theorem region_fxU {id : Nat} {Q : Exit → Act → World → Prop} {a0 : Act} {W : World} {L : List Oper} {n : Nat} {V : List (Nat × Value)} (F : Fx n a0 V ds) (S : List StK) (m : Nat) (hok : relOkU L m n = true) (hml : (decide (m ≤ L.length)) = true)
  (hop : HopAllT P L m Q (stYK S) a0 W (L.take m) 0)
  (hend : ∀ (p : Nat → Value) (a : Act) (w : World), Kc W.heap.size W w → Fx n a (layV p (L.take m) 0 V) ds → YAll (stYK S) p w (L.take m) 0 → wpList P L.toArray Q (L.drop m) a w) : (Code.region id L.toArray false).wp P Q a0 W :=
 wp_region_stU S m n F.size hok hml hop fun p w hb hY => hend p _ w (Kc.of_below (Nat.le_refl _) hb) (F.lay p (L.take m) 0 a0 V (relOkU_dst hok)) hY
end
end Go.Proofs.YtcfepoopkfhojaaGreat
/- sentinelref3: Bytes, Stretch, Stream; sponge.Stretch. -/
namespace Go.Proofs.YtcfepoopkfhojaaGreat
open Go.ChangeShapes Go.WideShapes Go.ChangeAt Go.RowKit Go.Shelf
theorem Byt.mono {w : World} {b b' : Nat} {v : Value} {l : List UInt8} (h : Byt w b v l) (hb : b' ≤ b) : Byt w b' v l := by
 refine ⟨h.1, ?_⟩
 rcases h.2 with hn | ⟨g, c, cur, e, hbg, rest⟩
 ·exact .inl hn
 ·exact .inr ⟨g, c, cur, e, Nat.le_trans hb hbg, rest⟩
def sumY (y : Nat → Int) : List UInt8 := (List.range 16).map fun j => UInt8.ofNat (y j).toNat
theorem zyb (y : Nat → Int) : (sumY y).length = 16 := by simp [sumY]
theorem sumY_val {z : Int} (h : 0 ≤ z ∧ z < 256) : (((UInt8.ofNat z.toNat).toNat : Nat) : Int) = z := by
 have e : (UInt8.ofNat z.toNat).toNat = z.toNat := by simp; omega
 rw [e, Int.toNat_of_nonneg h.1]
theorem sumY_take (y : Nat → Int) {k : Nat} (hk : k < 16) : (sumY y).take (k + 1) = (sumY y).take k ++ [UInt8.ofNat (y k).toNat] := by
 have h : k < (sumY y).length := by rw [zyb]; exact hk
 rw [List.take_succ_eq_append_getElem h]
 congr 2
 simp [sumY]
theorem arr16_at' (y : Nat → Int) {j : Nat} (hj : j < 16) : (zk y)[j]? = some (.int .u8 (y j)) := by
 have : j = 0 ∨ j = 1 ∨ j = 2 ∨ j = 3 ∨ j = 4 ∨ j = 5 ∨ j = 6 ∨ j = 7 ∨ j = 8 ∨ j = 9 ∨ j = 10 ∨ j = 11 ∨ j = 12 ∨ j = 13 ∨ j = 14 ∨ j = 15 := by omega
 rcases this with rfl | rfl | rfl | rfl | rfl | rfl | rfl | rfl | rfl | rfl | rfl | rfl | rfl | rfl | rfl | rfl <;> rfl
theorem arr16_put (y : Nat → Int) (v : Int) {k : Nat} (hk : k < 16) : (zk y).setIfInBounds k (.int .u8 v) = zk (fun j => if j = k then v else y j) := by
 have : k = 0 ∨ k = 1 ∨ k = 2 ∨ k = 3 ∨ k = 4 ∨ k = 5 ∨ k = 6 ∨ k = 7 ∨ k = 8 ∨ k = 9 ∨ k = 10 ∨ k = 11 ∨ k = 12 ∨ k = 13 ∨ k = 14 ∨ k = 15 := by omega
 rcases this with rfl | rfl | rfl | rfl | rfl | rfl | rfl | rfl | rfl | rfl | rfl | rfl | rfl | rfl | rfl | rfl <;> simp [zk]
theorem arr16_congr {y z : Nat → Int} (h : ∀ j, j < 16 → y j = z j) : zk y = zk z := by
 simp [zk, h 0, h 1, h 2, h 3, h 4, h 5, h 6, h 7, h 8, h 9, h 10, h 11, h 12, h 13, h 14, h 15]
theorem srbytes_any (y : Nat → Int) (hy : ∀ k, 0 ≤ y k ∧ y k < 256) (w : World) :
  Calls Tryz.prog 18 #[.agg (zk y)] w fun e w' => ∃ v, e = .returned v ∧ Byt w' w.heap.size v (sumY y) ∧ Below w.heap.size w w' := by
 have HT := hid (fun k (hk : k < 16) => sumY_take y hk)
 have HV := hid (fun k => sumY_val (hy k))
 have HL := hid (zyb y)
 have z0 := Blk.new w 35 (zk y)
 have b0 := zca w (.cells (zk y) 35)
 have s0 : (w.alloc (.cells (zk y) 35)).heap.size = w.heap.size + 1 := by simp
 go_enter Tryz.func18, Tryz.ntmps18
 go_wp2
 generalize World.alloc _ _ = W at *
 go_loopw [3, 4] (fun v i wr => ∃ k : Nat, k ≤ 16 ∧ i = .int .i64 k ∧ Byt wr (w.heap.size + 1) v ((sumY y).take k) ∧ Below (w.heap.size + 1) W wr) (fun _ i _ => 16 - (intOf i).toNat)
 case atStart => exact ⟨0, by omega, rfl, Byt.nil _ _, Below.refl _ _⟩
 case round =>
  obtain ⟨k, hk, rfl, hv, hB⟩ := hrel
  by_cases hlt : k < 16
  ·have et := HT.out k hlt
   have hvk := HV.out k
   have hle : ((sumY y).take k).length ≤ 16 := by rw [List.length_take, HL.out]; omega
   obtain ⟨x, hx⟩ : ∃ x, x = UInt8.ofNat (y k).toNat := ⟨_, rfl⟩
   rw [← hx] at et hvk
   have hrd : Rd (wr.alloc (.cells #[Value.int .u8 (y k)] 5)) (some ⟨wr.heap.size, 0, none⟩) [x] := by
    have := rd_one x wr
    rw [hvk] at this
    exact this
   have hz := hB.size
   have hck : wr.cell? ⟨w.heap.size, k, none⟩ = some (.int .u8 (y k)) := (Blk.cell (z0.below hB (by omega)) (arr16_at' y hlt))
   generalize y k = Y at *
   clear hx hvk HT HV z0
   go_wp2_with (refine zfa rfl (.tmp 9) (.tmp 13) rfl (w.heap.size + 1) _ _ [x] rfl (hv.alloc _) _ 1 1 rfl rfl (fun h => by cases h) hrd (by simp <;> omega) (by simp; omega) ?_; intro v' w' h1 h2 h3)
   go_roundw
   case rel => exact ⟨k + 1, by omega, by go_num, by rw [et]; exact h1, hB.trans (z4b h2 (by omega))⟩
   case measure => simp [intOf]; omega
  ·obtain rfl : k = 16 := by omega
   rw [List.take_of_length_le (by rw [HL.out]; omega)] at hv
   go_wp2
   go_ret
   exact ⟨_, rfl, hv.mono (by omega), b0.trans (hB.mono (by omega))⟩
def xorB (a b : Int) : Int := bits .xor .u8 a b
theorem xorB_bd (a b : Int) : 0 ≤ xorB a b ∧ xorB a b < 256 := by
 have := wrap_within .u8 (bits .xor .u8 a b)
 unfold xorB bits
 rw [IntKind.wrap_u8]
 omega
def strU (p s : List UInt8) : Nat → W8
 | 0 => macW p [s]
 | k + 1 => macW p [sumL (strU p s k)]
def strA (p s : List UInt8) : Nat → Nat → Int
 | 0, j => outF (strU p s 0) j
 | k + 1, j => xorB (strA p s k j) (outF (strU p s (k + 1)) j)
theorem strA_bd (p s : List UInt8) : ∀ k j, 0 ≤ strA p s k j ∧ strA p s k j < 256
 | 0, j => zdc _ _
 | k + 1, j => xorB_bd _ _
def midA (a b : Nat → Int) (k j : Nat) : Int := if j < k then xorB (a j) (b j) else a j
theorem midA_set (a b : Nat → Int) {k : Nat} (hk : k < 16) : (zk (midA a b k)).setIfInBounds k (.int .u8 (xorB (a k) (b k))) = zk (midA a b (k + 1)) := by
 rw [arr16_put _ _ hk]
 refine arr16_congr fun j _ => ?_
 unfold midA
 by_cases e : j = k
 ·subst e; rw [if_pos rfl, if_pos (by omega)]
 ·rw [if_neg e]
  by_cases h : j < k
  ·rw [if_pos h, if_pos (by omega)]
  ·rw [if_neg h, if_neg (by omega)]
theorem midA_zero (a b : Nat → Int) : zk a = zk (midA a b 0) := arr16_congr fun j _ => by unfold midA; rw [if_neg (by omega)]
theorem midA_full (a b : Nat → Int) : zk (midA a b 16) = zk (fun j => xorB (a j) (b j)) := arr16_congr fun j hj => by unfold midA; rw [if_pos hj]
attribute [irreducible] xorB
end Go.Proofs.YtcfepoopkfhojaaGreat
namespace Go.Proofs.YtcfepoopkfhojaaGreat
def NoDiv (n : Int) : Prop := ∀ d : Int, 2 ≤ d → d * d ≤ n → n % d ≠ 0
open Classical in
noncomputable def primeB (n : Int) : Bool := decide (2 ≤ n ∧ n < 2147483648 ∧ NoDiv n)
open Classical in
theorem primeB_yes {n : Int} (h0 : 2 ≤ n) (h1 : n < 2147483648) (h : NoDiv n) : primeB n = true := by unfold primeB; exact decide_eq_true ⟨h0, h1, h⟩
open Classical in
theorem primeB_no {n : Int} (h : ¬ (2 ≤ n ∧ n < 2147483648 ∧ NoDiv n)) : primeB n = false := by unfold primeB; exact decide_eq_false h
def okN (n D : Nat) : Nat → Bool
 | 0 => true
 | f + 1 => (n % (D - f) != 0) && okN n D f
theorem okN_spec {n D : Nat} : ∀ f, okN n D f = true → ∀ d, D - f < d → d ≤ D → n % d ≠ 0
 | 0, _, d, h1, h2 => by omega
 | f + 1, h, d, h1, h2 => by
  unfold okN at h
  simp only [Bool.and_eq_true, bne_iff_ne, ne_eq] at h
  by_cases e : d = D - f
  ·rw [e]; exact h.1
  ·exact okN_spec f h.2 d (by omega) h2
theorem okN_bad {n D : Nat} : ∀ f, okN n D f = false → ∃ d, D - f < d ∧ d ≤ D ∧ n % d = 0 ∨ ∃ g, g < f ∧ n % (D - g) = 0
 | 0, h => by cases h
 | f + 1, h => by
  unfold okN at h
  by_cases e : n % (D - f) = 0
  ·exact ⟨0, .inr ⟨f, by omega, e⟩⟩
  ·have h2 : okN n D f = false := by simpa [e] using h
   obtain ⟨d, h3 | ⟨g, h4, h5⟩⟩ := okN_bad f h2
   ·exact ⟨d, .inl ⟨by omega, h3.2.1, h3.2.2⟩⟩
   ·exact ⟨0, .inr ⟨g, by omega, h5⟩⟩
def primeF (n D : Nat) : Bool := okN n D (D - 1)
theorem primeF_yes {n D : Nat} (h2 : 2 ≤ n) (hn : n < 2147483648) (hD : n < (D + 1) * (D + 1)) (h : primeF n D = true) : primeB (n : Int) = true := by
 refine primeB_yes (by omega) (by omega) fun d h1 h3 => ?_
 obtain ⟨e, rfl⟩ := Int.eq_ofNat_of_zero_le (show 0 ≤ d by omega)
 have h3' : e * e ≤ n := by exact_mod_cast h3
 have he : e ≤ D := by
  refine Nat.le_of_lt_succ (Nat.lt_of_not_le fun hle => ?_)
  have : (D + 1) * (D + 1) ≤ e * e := Nat.mul_le_mul hle hle
  omega
 have := okN_spec _ h e (by omega) he
 intro h4
 exact this (by exact_mod_cast h4)
theorem primeF_no {n d : Nat} (h2 : 2 ≤ d) (hd : d * d ≤ n) (h : n % d = 0) : primeB (n : Int) = false := by
 refine primeB_no fun ⟨_, _, hp⟩ => hp (d : Int) (by omega) (by exact_mod_cast hd) (by exact_mod_cast h)
def compF (n D : Nat) : Bool := !(okN n D (D - 1))
theorem compF_no {n D : Nat} (hD : D * D ≤ n) (h : compF n D = true) : primeB (n : Int) = false := by
 unfold compF at h
 have h1 : okN n D (D - 1) = false := by simpa using h
 obtain ⟨d, h3 | ⟨g, h4, h5⟩⟩ := okN_bad _ h1
 ·have : d * d ≤ D * D := Nat.mul_le_mul h3.2.1 h3.2.1
  exact primeF_no (by omega) (by omega) h3.2.2
 ·have : (D - g) * (D - g) ≤ D * D := Nat.mul_le_mul (by omega) (by omega)
  exact primeF_no (d := D - g) (by omega) (by omega) h5
end Go.Proofs.YtcfepoopkfhojaaGreat
namespace Go.Proofs.YtcfepoopkfhojaaGreat
open Go.ChangeShapes Go.WideShapes Go.ChangeAt Go.RowKit
theorem sq_le {D : Int} (h : 2 ≤ D) : D ≤ D * D := by
 have := Int.mul_le_mul_of_nonneg_left (show (1 : Int) ≤ D by omega) (show (0 : Int) ≤ D by omega)
 omega
theorem sq_bd {D n : Int} (h : 2 ≤ D) (hs : (D - 1) * (D - 1) ≤ n) (hn : n < 2147483648) : 0 ≤ D * D ∧ D * D < 1099511627776 ∧ D ≤ 46342 := by
 have h3 : D ≤ 46342 := by
  refine Int.le_of_not_gt fun hgt => ?_
  have := Int.mul_le_mul (show (46342 : Int) ≤ D - 1 by omega) (show (46342 : Int) ≤ D - 1 by omega) (by omega) (show (0 : Int) ≤ D - 1 by omega)
  omega
 have h4 := Int.mul_le_mul h3 h3 (show (0 : Int) ≤ D by omega) (by omega)
 have h5 := Int.mul_nonneg (show (0 : Int) ≤ D by omega) (show (0 : Int) ≤ D by omega)
 exact ⟨h5, by omega, h3⟩
theorem rprime_any (n : Int) (h0 : -9223372036854775808 ≤ n) (h1 : n < 9223372036854775808) (w : World) :
  Calls Tryz.prog 66 #[.int .i64 n] w fun e w' => e = .returned (.bool (primeB n)) ∧ w = w' := by
 obtain ⟨V, hV⟩ : ∃ V, Hid (primeB n = V) := ⟨_, hid rfl⟩
 rw [hV.out]
 by_cases ha : n < 2
 ·obtain rfl : V = false := by rw [← hV.out]; exact primeB_no (by omega)
  go_enter Tryz.func66, Tryz.ntmps66
  go_wp2
  go_ret
  exact ⟨rfl, rfl⟩
 by_cases hb : n < 2147483648
 ·have h2 : 2 ≤ n := by omega
  clear h0 h1 ha
  go_enter Tryz.func66, Tryz.ntmps66
  go_wp2_with fail
  go_loopw [3] (fun d wr => ∃ D : Int, 2 ≤ D ∧ Hid ((D - 1) * (D - 1) ≤ n) ∧ d = .int .i64 D ∧ Hid (∀ e : Int, 2 ≤ e → e < D → n % e ≠ 0) ∧ w = wr) (fun d _ => (n + 2 - intOf d).toNat)
  case atStart => exact ⟨2, by omega, hid (by omega), rfl, hid (fun e g1 g2 => absurd g2 (by omega)), rfl⟩
  case round =>
   obtain ⟨D, hD, hs, rfl, hn, rfl⟩ := hrel
   obtain ⟨q0, q1, q2⟩ := sq_bd hD hs.out hb
   obtain ⟨s, hsq⟩ : ∃ s, Hid (D * D = s) := ⟨_, hid rfl⟩
   rw [hsq.out] at q0 q1
   have hds : D * D = s := hsq.out
   have hz : (D == 0) = false := by rw [beq_eq_false_iff_ne]; omega
   by_cases hle : s ≤ n
   ·have hlt : D < n + 2 := by have := sq_le hD; have := hsq.out; omega
    obtain ⟨R, hR⟩ : ∃ R, Hid (n % D = R) := ⟨_, hid rfl⟩
    have ht : n.tmod D = R := by rw [Int.tmod_eq_emod_of_nonneg (by omega)]; exact hR.out
    by_cases hr : R = 0
    ·subst hr
     obtain rfl : V = false := by rw [← hV.out]; exact primeB_no (fun h => h.2.2 D hD (by rw [hsq.out]; exact hle) hR.out)
     go_wp2_with fail
     go_ret
     exact ⟨rfl, rfl⟩
    ·have hr' : (R == 0) = false := beq_eq_false_iff_ne.2 hr
     go_wp2_with fail
     go_roundw
     case rel => exact ⟨D + 1, by omega, hid (by rw [Int.add_sub_cancel, hsq.out]; exact hle), by go_num, hid (fun e g1 g2 => by
      by_cases e1 : e = D
      ·subst e1; rw [hR.out]; exact hr
      ·exact hn.out e g1 (by omega)), (by first | rfl | trivial)⟩
     case measure => simp [intOf] <;> omega
   ·obtain rfl : V = true := by
     rw [← hV.out]
     refine primeB_yes h2 hb fun d g1 g2 => hn.out d g1 (Int.lt_of_not_ge fun hge => ?_)
     have := Int.mul_le_mul hge hge (show (0 : Int) ≤ D by omega) (show (0 : Int) ≤ d by omega)
     have := hsq.out
     omega
    go_wp2_with fail
    go_ret
    exact ⟨rfl, rfl⟩
 ·obtain rfl : V = false := by rw [← hV.out]; exact primeB_no (by omega)
  go_enter Tryz.func66, Tryz.ntmps66
  go_wp2
  go_ret
  exact ⟨rfl, rfl⟩
end Go.Proofs.YtcfepoopkfhojaaGreat
namespace Go.Proofs.YtcfepoopkfhojaaGreat
open Go.ChangeShapes Go.WideShapes Go.ChangeAt Go.RowKit
def pickN (y : Int) (a b : Nat) : Nat := if y = 0 then b else a
theorem mask_one (y : Int) (h0 : 0 < y) (h1 : y < 4294967296) : bits .or .u32 y (-y % 4294967296) / 2147483648 = 1 := by
 obtain ⟨y, rfl⟩ := Int.eq_ofNat_of_zero_le (Int.le_of_lt h0)
 have e : -(y : Int) % 4294967296 = ((4294967296 - y : Nat) : Int) := by omega
 rw [e, u32_or_nat _ _ (by omega) (by omega)]
 have h := Nat.or_div_two_pow (a := y) (b := 4294967296 - y) (n := 31)
 have h2 : (y ||| (4294967296 - y)) / 2147483648 = y / 2147483648 ||| (4294967296 - y) / 2147483648 := h
 have h3 : (y / 2147483648 = 0 ∧ (4294967296 - y) / 2147483648 = 1) ∨ (y / 2147483648 = 1 ∧ (4294967296 - y) / 2147483648 = 1) ∨ (y / 2147483648 = 1 ∧ (4294967296 - y) / 2147483648 = 0) := by omega
 have h4 : (y ||| (4294967296 - y)) / 2147483648 = 1 := by
  rw [h2]
  rcases h3 with ⟨a, b⟩ | ⟨a, b⟩ | ⟨a, b⟩ <;> rw [a, b] <;> rfl
 omega
theorem and_all (x : Int) (h0 : 0 ≤ x) (h1 : x < 4294967296) : bits .and .u32 x 4294967295 = x := by
 rw [u32_and _ _ h0 h1 (by omega) (by omega)]
 have : x.toNat &&& (4294967295 : Int).toNat = x.toNat % 2 ^ 32 := Nat.and_two_pow_sub_one_eq_mod x.toNat 32
 rw [this]; omega
theorem and_none (x : Int) (h0 : 0 ≤ x) (h1 : x < 4294967296) : bits .and .u32 x 0 = 0 := by
 rw [u32_and _ _ h0 h1 (by omega) (by omega)]; simp
theorem not_all (x : Int) (h0 : 0 ≤ x) (h1 : x < 4294967296) : bits .andNot .u32 x 4294967295 = 0 := by
 rw [u32_andNot _ _ h0 h1 (by omega) (by omega)]; simp
theorem not_none (x : Int) (h0 : 0 ≤ x) (h1 : x < 4294967296) : bits .andNot .u32 x 0 = x := by
 rw [u32_andNot _ _ h0 h1 (by omega) (by omega)]
 have : x.toNat &&& (4294967295 - (0 : Int).toNat) = x.toNat % 2 ^ 32 := Nat.and_two_pow_sub_one_eq_mod x.toNat 32
 rw [this]; omega
theorem or_none (x : Int) (h0 : 0 ≤ x) (h1 : x < 4294967296) : bits .or .u32 x 0 = x ∧ bits .or .u32 0 x = x := by
 rw [u32_or _ _ h0 h1 (by omega) (by omega), u32_or _ _ (by omega) (by omega) h0 h1]; simp; omega
def mixF (r a k j : Nat) : Value := if j < k then numF r j else numF a j
theorem mix_set (r a k j : Nat) : (if j = k then numF r k else mixF r a k j) = mixF r a (k + 1) j := by
 unfold mixF
 by_cases h : j = k
 ·subst h; rw [if_pos rfl, if_pos (by omega)]
 ·rw [if_neg h]
  by_cases h2 : j < k
  ·rw [if_pos h2, if_pos (by omega)]
  ·rw [if_neg h2, if_neg (by omega)]
theorem pick_any (y : Int) (h0 : 0 ≤ y) (h1 : y < 4294967296) (a b : Nat) (w : World) :
  Calls Tryz.prog 101 #[.int .u32 y, numV a, numV b] w fun e w' => e = .returned (numV (pickN y a b)) ∧ Below w.heap.size w w' := by
 have hr : y = 0 ∧ pickN y a b = b ∨ 0 < y ∧ pickN y a b = a := by
  unfold pickN
  by_cases h : y = 0
  ·exact .inl ⟨h, if_pos h⟩
  ·exact .inr ⟨by omega, if_neg h⟩
 rcases hr with ⟨rfl, hr⟩ | ⟨hy, hr⟩
 ·rw [hr]
  clear hr
  have hm : bits .or .u32 0 0 = 0 := by decide +kernel
  go_enter Tryz.func101, Tryz.ntmps101
  go_wp2
  have g0 := ((Num.new w 27 a).alloc (.cells (numA b) 27)).alloc (.cells #[Value.int .u32 0, .int .u32 0, .int .u32 0, .int .u32 0, .int .u32 0, .int .u32 0, .int .u32 0, .int .u32 0] 27)
  have g1 := (Num.new (w.alloc (.cells (numA a) 27)) 27 b).alloc (.cells #[Value.int .u32 0, .int .u32 0, .int .u32 0, .int .u32 0, .int .u32 0, .int .u32 0, .int .u32 0, .int .u32 0] 27)
  have g2 := heap_alloc_new ((w.alloc (.cells (numA a) 27)).alloc (.cells (numA b) 27)) (.cells #[Value.int .u32 0, .int .u32 0, .int .u32 0, .int .u32 0, .int .u32 0, .int .u32 0, .int .u32 0, .int .u32 0] 27)
  simp only [World.size_alloc] at g1 g2
  have gb : Below w.heap.size w (((w.alloc (.cells (numA a) 27)).alloc (.cells (numA b) 27)).alloc (.cells #[Value.int .u32 0, .int .u32 0, .int .u32 0, .int .u32 0, .int .u32 0, .int .u32 0, .int .u32 0, .int .u32 0] 27)) := (((Below.refl _ _).alloc (Nat.le_refl _) _).alloc (by simp) _).alloc (by simp; omega) _
  have gs : w.heap.size + 2 < (((w.alloc (.cells (numA a) 27)).alloc (.cells (numA b) 27)).alloc (.cells #[Value.int .u32 0, .int .u32 0, .int .u32 0, .int .u32 0, .int .u32 0, .int .u32 0, .int .u32 0, .int .u32 0] 27)).heap.size := by simp
  generalize hW : World.alloc _ _ = W at *
  clear hW
  go_loopw [15] (fun i wr => ∃ k : Nat, k ≤ 8 ∧ i = .int .i64 k ∧ wr.rowIs w.heap.size 27 8 (mixF b a k) ∧ W.grownBy wr (some w.heap.size)) (fun i _ => 8 - (intOf i).toNat)
  case atStart => exact ⟨0, by omega, rfl, g0.row.congr fun j _ => by unfold mixF; rw [if_neg (by omega)], World.grownBy.refl _ _⟩
  case round =>
   obtain ⟨k, hk, rfl, hr, hg⟩ := hrel
   by_cases hlt : k < 8
   ·have hc0 := hr.cell hlt
    have hc1 := hg.cell (g1.cell hlt) (by simp)
    have hz := hr.frozen k
    unfold mixF numF at hc0
    rw [if_neg (by omega)] at hc0
    have ha0 := zqa a k
    have ha1 := zpa a k
    have hb0 := zqa b k
    have hb1 := zpa b k
    have f1 := and_none (digI a k) ha0 ha1
    have f2 := not_none (digI b k) hb0 hb1
    have f3 := (or_none (digI b k) hb0 hb1).2
    go_wp2
    go_still_tail 13, (by kernel_rfl)
    change wpList _ _ _ _ _ (World.drew _)
    go_wp2
    go_roundw
    case rel => exact ⟨k + 1, by omega, by go_num, (hr.set k _).congr fun j _ => mix_set b a k j, only_drewN (zi hg rfl _) 1⟩
    case measure => simp [intOf] <;> omega
   ·obtain rfl : k = 8 := by omega
    have m0 : Num wr w.heap.size 27 b := zwb hr fun j hj => by unfold mixF; rw [if_pos hj]
    have m2 := (hg.block _ (by omega) (by simp <;> omega)).trans g2
    have m3 := zf gb hg (by omega) (by omega)
    have m4 := hg.size
    go_wp2_with (first | (refine zd rfl _ _ rfl _ rfl _ _ _ m0 Tryz.underlying27 rfl ze ?_) | (refine zj rfl _ _ _ rfl _ rfl _ rfl _ rfl m2 ze ?_; intro w5 g5 m5))
    exact bodyPost_ret (z0a rfl rfl m5 Tryz.underlying27 rfl ze) rfl ⟨rfl, zf m3 g5 (by omega) (by omega)⟩
 ·rw [hr]
  clear hr
  have hm := mask_one y hy h1
  go_enter Tryz.func101, Tryz.ntmps101
  go_wp2
  clear hm
  rw [show (-1 : Int) % 4294967296 = 4294967295 by decide]
  have g0 := ((Num.new w 27 a).alloc (.cells (numA b) 27)).alloc (.cells #[Value.int .u32 0, .int .u32 0, .int .u32 0, .int .u32 0, .int .u32 0, .int .u32 0, .int .u32 0, .int .u32 0] 27)
  have g1 := (Num.new (w.alloc (.cells (numA a) 27)) 27 b).alloc (.cells #[Value.int .u32 0, .int .u32 0, .int .u32 0, .int .u32 0, .int .u32 0, .int .u32 0, .int .u32 0, .int .u32 0] 27)
  have g2 := heap_alloc_new ((w.alloc (.cells (numA a) 27)).alloc (.cells (numA b) 27)) (.cells #[Value.int .u32 0, .int .u32 0, .int .u32 0, .int .u32 0, .int .u32 0, .int .u32 0, .int .u32 0, .int .u32 0] 27)
  simp only [World.size_alloc] at g1 g2
  have gb : Below w.heap.size w (((w.alloc (.cells (numA a) 27)).alloc (.cells (numA b) 27)).alloc (.cells #[Value.int .u32 0, .int .u32 0, .int .u32 0, .int .u32 0, .int .u32 0, .int .u32 0, .int .u32 0, .int .u32 0] 27)) := (((Below.refl _ _).alloc (Nat.le_refl _) _).alloc (by simp) _).alloc (by simp; omega) _
  have gs : w.heap.size + 2 < (((w.alloc (.cells (numA a) 27)).alloc (.cells (numA b) 27)).alloc (.cells #[Value.int .u32 0, .int .u32 0, .int .u32 0, .int .u32 0, .int .u32 0, .int .u32 0, .int .u32 0, .int .u32 0] 27)).heap.size := by simp
  generalize hW : World.alloc _ _ = W at *
  clear hW
  go_loopw [15] (fun i wr => ∃ k : Nat, k ≤ 8 ∧ i = .int .i64 k ∧ wr.rowIs w.heap.size 27 8 (mixF a a k) ∧ W.grownBy wr (some w.heap.size)) (fun i _ => 8 - (intOf i).toNat)
  case atStart => exact ⟨0, by omega, rfl, g0.row.congr fun j _ => by unfold mixF; rw [if_neg (by omega)], World.grownBy.refl _ _⟩
  case round =>
   obtain ⟨k, hk, rfl, hr, hg⟩ := hrel
   by_cases hlt : k < 8
   ·have hc0 := hr.cell hlt
    have hc1 := hg.cell (g1.cell hlt) (by simp)
    have hz := hr.frozen k
    unfold mixF numF at hc0
    rw [if_neg (by omega)] at hc0
    have ha0 := zqa a k
    have ha1 := zpa a k
    have hb0 := zqa b k
    have hb1 := zpa b k
    have f1 := and_all (digI a k) ha0 ha1
    have f2 := not_all (digI b k) hb0 hb1
    have f3 := (or_none (digI a k) ha0 ha1).1
    go_wp2
    go_still_tail 13, (by kernel_rfl)
    change wpList _ _ _ _ _ (World.drew _)
    go_wp2
    go_roundw
    case rel => exact ⟨k + 1, by omega, by go_num, (hr.set k _).congr fun j _ => mix_set a a k j, only_drewN (zi hg rfl _) 1⟩
    case measure => simp [intOf] <;> omega
   ·obtain rfl : k = 8 := by omega
    have m0 : Num wr w.heap.size 27 a := zwb hr fun j hj => by unfold mixF; rw [if_pos hj]
    have m2 := (hg.block _ (by omega) (by simp <;> omega)).trans g2
    have m3 := zf gb hg (by omega) (by omega)
    have m4 := hg.size
    go_wp2_with (first | (refine zd rfl _ _ rfl _ rfl _ _ _ m0 Tryz.underlying27 rfl ze ?_) | (refine zj rfl _ _ _ rfl _ rfl _ rfl _ rfl m2 ze ?_; intro w5 g5 m5))
    exact bodyPost_ret (z0a rfl rfl m5 Tryz.underlying27 rfl ze) rfl ⟨rfl, zf m3 g5 (by omega) (by omega)⟩
theorem mt_pick {T m : Nat} (hm : m < 4294967296 ^ 8) (hT : T < 2 * m) : ∃ (S c : Nat) (L : Int) (Y : Int), T % 4294967296 ^ 8 = S ∧ T / 4294967296 ^ 8 = c ∧ S < 4294967296 ^ 8 ∧ c ≤ 1 ∧ lentI S m = L ∧ 0 ≤ L ∧ L ≤ 1 ∧ bits .or .u32 (c : Int) (1 - L) = Y ∧ 0 ≤ Y ∧ Y < 4294967296 ∧ pickN Y (subN S m) S = if m ≤ T then T - m else T := by
 have hS := Nat.mod_lt T (show 0 < 4294967296 ^ 8 by decide)
 have hc : T / 4294967296 ^ 8 ≤ 1 := by
  have : T / 4294967296 ^ 8 < 2 := Nat.div_lt_of_lt_mul (by omega)
  omega
 have hd := Nat.div_add_mod T (4294967296 ^ 8)
 obtain ⟨S, hSe⟩ : ∃ S, T % 4294967296 ^ 8 = S := ⟨_, rfl⟩
 obtain ⟨c, hce⟩ : ∃ c, T / 4294967296 ^ 8 = c := ⟨_, rfl⟩
 rw [hSe] at hS hd
 rw [hce] at hc hd
 have hL : lentI S m = 0 ∨ lentI S m = 1 := by unfold lentI; split <;> omega
 refine ⟨S, c, _, _, hSe, hce, hS, hc, rfl, by omega, by omega, rfl, ?_⟩
 have o1 : bits .or .u32 0 0 = 0 := by decide +kernel
 have o2 : bits .or .u32 0 1 = 1 := by decide +kernel
 have o3 : bits .or .u32 1 0 = 1 := by decide +kernel
 have o4 : bits .or .u32 1 1 = 1 := by decide +kernel
 clear hSe hce hL
 have hc2 : c = 0 ∨ c = 1 := by omega
 by_cases h2 : m ≤ S
 ·have l : lentI S m = 0 := by unfold lentI; rw [if_pos h2]
  have s : subN S m = S - m := by unfold subN; rw [if_pos h2]
  rw [l, s]
  rcases hc2 with rfl | rfl
  ·have hTS : T = S := by omega
   subst hTS
   have : bits .or .u32 ((0 : Nat) : Int) (1 - 0) = 1 := o2
   rw [this, if_pos h2]
   exact ⟨by omega, by omega, by unfold pickN; rw [if_neg (by omega)]⟩
  ·have : bits .or .u32 ((1 : Nat) : Int) (1 - 0) = 1 := o4
   omega
 ·have l : lentI S m = 1 := by unfold lentI; rw [if_neg h2]
  rw [l]
  rcases hc2 with rfl | rfl
  ·have hTS : T = S := by omega
   subst hTS
   have : bits .or .u32 ((0 : Nat) : Int) (1 - 1) = 0 := o1
   rw [this, if_neg h2]
   exact ⟨by omega, by omega, by unfold pickN; rw [if_pos rfl]⟩
  ·have : bits .or .u32 ((1 : Nat) : Int) (1 - 1) = 1 := o3
   rw [this, if_pos (by omega)]
   refine ⟨by omega, by omega, ?_⟩
   unfold pickN subN
   rw [if_neg (by omega), if_neg h2]
   omega
theorem mt_drew (w : World) (row : Option Nat) : w.grownBy w.drew row := ⟨rfl, rfl, rfl, Nat.le_refl _, fun _ _ _ => rfl⟩
theorem mt_cells {S2 t2 T' : Nat} (h1 : t2 % 4294967296 ^ 8 = S2) (h2 : t2 = 4294967296 * T') : #[numF S2 1, numF S2 2, numF S2 3, numF S2 4, numF S2 5, numF S2 6, numF S2 7, .int .u32 ((dig T' 7 : Nat) : Int)] = numA (T' % 4294967296 ^ 8) := by
 have h : ∀ j, j < 7 → numF S2 (j + 1) = numF (T' % 4294967296 ^ 8) j := by
  intro j hj
  unfold numF digI
  rw [← h1, dig_mod t2 (show j + 1 < 8 by omega), mt_shift h2, dig_mod T' (show j < 8 by omega)]
 have h7 : Value.int .u32 ((dig T' 7 : Nat) : Int) = numF (T' % 4294967296 ^ 8) 7 := by
  unfold numF digI
  rw [dig_mod T' (show 7 < 8 by decide)]
 rw [h7]
 unfold numA
 rw [← h 0 (by decide), ← h 1 (by decide), ← h 2 (by decide), ← h 3 (by decide), ← h 4 (by decide), ← h 5 (by decide), ← h 6 (by decide)]
theorem mtmul_any (m r t : Nat) (n : Int) (hm : m < 4294967296 ^ 8) (ho : m % 2 = 1) (hn : ∃ q, n * digI m 0 + 1 = 4294967296 * q) (hn0 : 0 ≤ n) (hn1 : n < 4294967296) (a b : Nat) (ha : a < 4294967296 ^ 8) (hb : b < m) (w : World) :
  Calls Tryz.prog 100 #[.agg (z1a m r t n), numV a, numV b] w fun e w' => e = .returned (numV (mm m (a * b))) ∧ Below w.heap.size w w' := by
 obtain ⟨W, hW⟩ : ∃ W, W = ((((w.alloc (.cells (z1a m r t n) 99)).alloc (.cells (numA a) 27)).alloc (.cells (numA b) 27)).alloc (.cells (numA 0) 27)).alloc (.cells (numA 0) 27) := ⟨_, rfl⟩
 have qc : Blk W w.heap.size 99 (z1a m r t n) := by rw [hW]; exact ((((Blk.new w _ _).alloc _).alloc _).alloc _).alloc _
 have qa : Num W (w.heap.size + 1) 27 a := by
  have := (((Num.new (w.alloc (.cells (z1a m r t n) 99)) 27 a).alloc (.cells (numA b) 27)).alloc (.cells (numA 0) 27)).alloc (.cells (numA 0) 27)
  rw [World.size_alloc] at this; rw [hW]; exact this
 have qb : Num W (w.heap.size + 1 + 1) 27 b := by
  have := ((Num.new ((w.alloc (.cells (z1a m r t n) 99)).alloc (.cells (numA a) 27)) 27 b).alloc (.cells (numA 0) 27)).alloc (.cells (numA 0) 27)
  rw [World.size_alloc, World.size_alloc] at this; rw [hW]; exact this
 have qr : Num W (w.heap.size + 1 + 1 + 1) 27 0 := by
  have := (Num.new (((w.alloc (.cells (z1a m r t n) 99)).alloc (.cells (numA a) 27)).alloc (.cells (numA b) 27)) 27 0).alloc (.cells (numA 0) 27)
  rw [World.size_alloc, World.size_alloc, World.size_alloc] at this; rw [hW]; exact this
 have qs : Num W (w.heap.size + 1 + 1 + 1 + 1) 27 0 := by
  have := Num.new ((((w.alloc (.cells (z1a m r t n) 99)).alloc (.cells (numA a) 27)).alloc (.cells (numA b) 27)).alloc (.cells (numA 0) 27)) 27 0
  rw [World.size_alloc, World.size_alloc, World.size_alloc, World.size_alloc] at this; rw [hW]; exact this
 have gb : Below w.heap.size w W := by rw [hW]; exact (((((Below.refl _ _).alloc (Nat.le_refl _) _).alloc (by simp) _).alloc (by simp; omega) _).alloc (by simp; omega) _).alloc (by simp; omega) _
 have gs : w.heap.size + 1 + 1 + 1 + 1 < W.heap.size := qs.lt
 have HN := hid hn
 have HM := hid hm
 have HA := hid ha
 have hbP : Hid (b < 4294967296 ^ 8) := hid (by omega)
 have HBM := hid hb
 have HO := hid ho
 rw [← zeroA] at hW
 clear hn hm ha hb ho
 go_enter Tryz.func100, Tryz.ntmps100
 go_upto_region 2 with fail
 rw [← hW]
 clear hW
 obtain ⟨C, hC⟩ : ∃ C, C = w.heap.size := ⟨_, rfl⟩
 rw [← hC] at qc qa qb qr qs gb gs ⊢
 have HC := hid hC
 clear hC
 go_wp2_with (refine zd rfl _ (.tmp 4) rfl _ rfl _ _ _ qa Tryz.underlying27 rfl ze ?_)
 go_loopw [8, 14] (fun cy i wr => ∃ (k T q c : Nat), k ≤ 8 ∧ i = .int .i64 (k : Int) ∧ cy = .int .u64 (c : Int) ∧ Hid (T / 4294967296 ^ 8 = c) ∧ Hid (T < b + m) ∧ Hid (4294967296 ^ k * T = a % 4294967296 ^ k * b + q * m) ∧ Num wr (C + 1 + 1 + 1 + 1) 27 (T % 4294967296 ^ 8) ∧ W.grownBy wr (some (C + 1 + 1 + 1 + 1))) (fun _ i _ => 8 - (intOf i).toNat)
 case atStart => exact ⟨0, 0, 0, 0, by omega, rfl, rfl, hid (by decide), hid (by have := HBM.out; omega), hid (by simp [Nat.mod_one]), qs, World.grownBy.refl _ _⟩
 case round =>
  obtain ⟨k, T, q, c, hk, rfl, rfl, HCY, HT, HE, hs, hg⟩ := hrel
  clear qs
  by_cases hlt : k < 8
  ·have hix := fun w' => index_num a k hlt w'
   obtain ⟨D, hD⟩ : ∃ D, Hid (dig a k = D) := ⟨_, hid rfl⟩
   have hDI : Hid (digI a k = (D : Int)) := hid (by unfold digI; rw [hD.out])
   have hDb : Hid (D < 4294967296) := hid (by rw [← hD.out]; exact dig_lt _ _)
   have hix2 : ∀ w', (Instr.index 27 (.agg (numA a)) (.int .i64 (k : Int))).run Tryz.prog w' = .ok (.int .u32 (D : Int)) w' := fun w' => by rw [hix w', hDI.out]
   have kb := qb.grown hg (by simp)
   have kc := qc.grown hg (by simp; omega)
   have hSl : Hid (T % 4294967296 ^ 8 < 4294967296 ^ 8) := hid (Nat.mod_lt _ (by decide))
   obtain ⟨e1, e2⟩ := div_split T (D * b) (4294967296 ^ 8) (by decide)
   rw [HCY.out] at e1
   obtain ⟨c1, hc1⟩ : ∃ c1, Hid ((T % 4294967296 ^ 8 + D * b) / 4294967296 ^ 8 = c1) := ⟨_, hid rfl⟩
   obtain ⟨S1, hS1⟩ : ∃ S1, Hid ((T % 4294967296 ^ 8 + D * b) % 4294967296 ^ 8 = S1) := ⟨_, hid rfl⟩
   rw [hc1.out] at e1
   rw [hS1.out] at e2
   have hS1b : Hid (S1 < 4294967296 ^ 8) := hid (by rw [← hS1.out]; exact Nat.mod_lt _ (by decide))
   have E1 := hid e1
   have E2 := hid e2
   have hcb : Hid (c ≤ 1 ∧ c1 < 4294967296) := hid (by
    have h1 := HT.out
    have h2 := HBM.out
    have h3 := HM.out
    refine ⟨?_, ?_⟩
    ·rw [← HCY.out]
     have : T / 4294967296 ^ 8 < 2 := Nat.div_lt_of_lt_mul (by omega)
     omega
    ·rw [← hc1.out]
     refine Nat.div_lt_of_lt_mul ?_
     have h4 : D * b ≤ 4294967295 * b := Nat.mul_le_mul_right _ (by have := hDb.out; omega)
     have := hSl.out
     omega)
   clear e1 e2 hix
   go_wp2_with (refine zd rfl _ (.tmp 5) rfl _ rfl _ _ _ kb Tryz.underlying27 rfl ze ?_)
   refine (mtadd_any (C + 1 + 1 + 1 + 1) (T % 4294967296 ^ 8) D b _ hSl.out hDb.out hbP.out _ hs).mono ?_
   rintro e w1 ⟨rfl, s1, g1⟩
   rw [hc1.out]
   rw [hS1.out] at s1
   obtain ⟨c2, hc2⟩ : ∃ c2, Hid (c + c1 = c2) := ⟨_, hid rfl⟩
   have hcc : (c : Int) + (c1 : Int) = (c2 : Int) := by have := hc2.out; omega
   have hcb2 : c2 ≤ 4294967296 := by have := hc2.out; have := hcb.out; omega
   have e3 := Go.IntWalk.u64_in (c2 : Int) (by omega)
   have s1c := s1.row.cell (i := 0) (by decide)
   simp only [numF] at s1c
   have s1f := s1.row.frozen 0
   have kb1 := kb.grown g1 (by simp)
   have kc1 := kc.grown g1 (by simp; omega)
   have kn := kc1.cell (k := 24) montA_n
   have knf := kc1.frozen 24
   obtain ⟨s10, s11⟩ : 0 ≤ digI S1 0 ∧ digI S1 0 < 4294967296 := ⟨zqa _ _, zpa _ _⟩
   obtain ⟨u, hu⟩ : ∃ u : Nat, Hid ((u : Int) = digI S1 0 * n % 4294967296) := ⟨(digI S1 0 * n % 4294967296).toNat, hid (Int.toNat_of_nonneg (Int.emod_nonneg _ (by decide)))⟩
   have hub : Hid (u < 4294967296) := hid (by have := hu.out; have := Int.emod_lt_of_pos (digI S1 0 * n) (show (0 : Int) < 4294967296 by decide); omega)
   have e4 : IntKind.u32.wrap (digI S1 0 * n) = (u : Int) := by rw [hu.out]; rfl
   clear s10 s11
   go_wp2_with (refine z3a rfl _ (.tmp 28) rfl C 0 rfl _ _ (numA m) _ kc1 montA_m Tryz.underlying27 rfl ze ?_)
   refine (mtadd_any (C + 1 + 1 + 1 + 1) S1 u m _ hS1b.out hub.out HM.out _ s1).mono ?_
   rintro e w2 ⟨rfl, s2, g2⟩
   obtain ⟨f1, f2⟩ := div_split (T + D * b) (u * m) (4294967296 ^ 8) (by decide)
   rw [E1.out, E2.out] at f1
   rw [E2.out] at f2
   obtain ⟨c3, hc3⟩ : ∃ c3, Hid ((S1 + u * m) / 4294967296 ^ 8 = c3) := ⟨_, hid rfl⟩
   obtain ⟨S2, hS2⟩ : ∃ S2, Hid ((S1 + u * m) % 4294967296 ^ 8 = S2) := ⟨_, hid rfl⟩
   rw [hc3.out] at f1 ⊢
   rw [hS2.out] at f2 s2
   obtain ⟨c4, hc4⟩ : ∃ c4, Hid (c2 + c3 = c4) := ⟨_, hid rfl⟩
   have hcc4 : (c2 : Int) + (c3 : Int) = (c4 : Int) := by have := hc4.out; omega
   have F1 : Hid ((T + D * b + u * m) / 4294967296 ^ 8 = c4) := hid (by rw [f1, ← hc4.out, ← hc2.out])
   have F2 := hid f2
   obtain ⟨T', hT'⟩ : ∃ T', Hid (T + D * b + u * m = 4294967296 * T') := by
    obtain ⟨T', h⟩ := mt_low (t1 := T + D * b) (u := u) HN.out (by rw [E2.out]; exact hu.out)
    exact ⟨T', hid h⟩
   have hTb : Hid (T' < b + m) := hid (mt_bound HT.out hDb.out hub.out hT'.out)
   obtain ⟨t7, t8⟩ := mt_top hT'.out
   rw [F1.out] at t7 t8
   have hc4b : Hid (c4 < 18446744073709551616) := hid (by
    have h1 := hTb.out
    have h2 := HBM.out
    have h3 := HM.out
    have : T' / 4294967296 ^ 8 < 2 := Nat.div_lt_of_lt_mul (by omega)
    omega)
   have e5 := Go.IntWalk.u64_in (c4 : Int) (by have := hc4b.out; omega)
   clear f1 f2
   go_wp2_with fail
   obtain ⟨w3, r3, s3, g3⟩ := copy_down w2.drew (C + 1 + 1 + 1 + 1) S2 _ s2.drew
   have s3f := s3.frozen 7
   have s3c := s3.cell (k := 7) rfl
   have e6 : IntKind.u32.wrap (c4 : Int) = ((dig T' 7 : Nat) : Int) := by rw [← t7]; rfl
   obtain ⟨cT, hcT⟩ : ∃ cT, Hid (T' / 4294967296 ^ 8 = cT) := ⟨_, hid rfl⟩
   have e7 : (c4 : Int) / 4294967296 = (cT : Int) := by rw [← hcT.out, ← t8]; rfl
   have hc40 : (0 : Int) ≤ (c4 : Int) := by omega
   clear t7 t8
   go_still_tail 2, (by kernel_rfl)
   change wpList _ _ _ _ _ (World.drew _)
   go_wp2_with fail
   go_roundw
   case rel =>
    have cells := mt_cells F2.out hT'.out
    refine ⟨k + 1, T', q + 4294967296 ^ k * u, cT, by omega, by go_num, ?_, hcT, hTb, hid (mt_next HE.out (by rw [hD.out]; exact hT'.out)), ?_, ?_⟩
    ·rfl
    ·exact s3.set 7 _ cells
    ·exact zi (World.grownBy.trans (World.grownBy.trans (World.grownBy.trans (World.grownBy.trans hg g1) g2) (mt_drew _ _)) g3) rfl _
   case measure => simp [intOf] <;> omega
  ·obtain rfl : k = 8 := by omega
   have hend := mt_end (q := q) HO.out HA.out HBM.out HT.out HE.out
   obtain ⟨S, c', L, Y, z1, z2, hS, hc, hL, hL0, hL1, hY, hY0, hY1, hP⟩ := mt_pick HM.out (show T < 2 * m by have := HT.out; have := HBM.out; omega)
   rw [hend] at hP
   obtain rfl : c' = c := by rw [← z2, HCY.out]
   rw [z1] at hs
   have kc := qc.grown hg (by simp; omega)
   have kr := qr.grown hg (by simp)
   have sg := hg.size
   go_wp2_with (first | (refine zd rfl _ (.tmp 7) rfl _ rfl _ _ _ hs Tryz.underlying27 rfl ze ?_) | (refine z3a rfl _ (.tmp 43) rfl C 0 rfl _ _ (numA m) _ kc montA_m Tryz.underlying27 rfl ze ?_))
   refine (sub_any S m hS HM.out _).mono ?_
   rintro e w1 ⟨rfl, b1⟩
   rw [hL]
   have nz : Num (w1.alloc (.cells #[.int .u32 0, .int .u32 0, .int .u32 0, .int .u32 0, .int .u32 0, .int .u32 0, .int .u32 0, .int .u32 0] 27)) w1.heap.size 27 0 := by
    have := Num.new w1 27 0
    rw [← zeroA] at this
    exact this
   have hw1 := b1.size
   have e1 : IntKind.u32.wrap (c' : Int) = (c' : Int) := by show (c' : Int) % 4294967296 = _; omega
   have e2 : IntKind.u32.wrap (1 - L) = 1 - L := by show (1 - L) % 4294967296 = _; omega
   have gs2 : C + 1 + 1 + 1 + 1 < wr.heap.size := by omega
   have hs1 := (hs.step b1).alloc (.cells #[.int .u32 0, .int .u32 0, .int .u32 0, .int .u32 0, .int .u32 0, .int .u32 0, .int .u32 0, .int .u32 0] 27)
   have kr1 := (kr.step b1).alloc (.cells #[.int .u32 0, .int .u32 0, .int .u32 0, .int .u32 0, .int .u32 0, .int .u32 0, .int .u32 0, .int .u32 0] 27)
   go_wp2_with (first | (refine zj rfl _ (.tmp 11) _ rfl _ rfl _ rfl _ rfl nz ze ?_; intro w2 g2 m2; have hs2 := hs1.grown g2 (by simp <;> omega); have kr2 := kr1.grown g2 (by simp <;> omega)) | (refine zd rfl _ (.tmp 11) rfl _ rfl _ _ _ m2 Tryz.underlying27 rfl ze ?_) | (refine zd rfl _ (.tmp 7) rfl _ rfl _ _ _ hs2 Tryz.underlying27 rfl ze ?_))
   refine (pick_any Y hY0 hY1 (subN S m) S _).mono ?_
   rintro e w3 ⟨rfl, b3⟩
   rw [hP]
   have kr3 := kr2.step b3
   go_wp2_with (refine zj rfl _ (.tmp 6) _ rfl _ rfl _ rfl _ rfl kr3 ze ?_; intro w4 g4 m4)
   refine bodyPost_ret (z0a rfl rfl m4 Tryz.underlying27 rfl ze) rfl ⟨rfl, ?_⟩
   rw [← HC.out]
   have bb := zf gb hg (by omega) (by omega)
   have b2 := zf (B := C) ((zvb bb b1 (by omega)).alloc (by omega) _) g2 (by simp <;> omega) (by omega)
   have z2 := g2.size
   simp only [World.size_alloc] at z2
   have z3 := b3.size
   exact zf (zvb b2 b3 (by omega)) g4 (by omega) (by omega)
end Go.Proofs.YtcfepoopkfhojaaGreat
namespace Go.Proofs.YtcfepoopkfhojaaGreat
open Go.ChangeShapes Go.WideShapes Go.ChangeAt Go.RowKit
theorem montA_r {m r t : Nat} {n : Int} (j : Nat) (v : Value) (h : (numA r)[j]? = some v) : (z1a m r t n)[8 + j]? = some v := by
 have hj := (Array.getElem?_eq_some_iff.1 h).1
 rw [zic] at hj
 rw [← h]
 have : j = 0 ∨ j = 1 ∨ j = 2 ∨ j = 3 ∨ j = 4 ∨ j = 5 ∨ j = 6 ∨ j = 7 := by omega
 rcases this with rfl | rfl | rfl | rfl | rfl | rfl | rfl | rfl <;> rfl
theorem montA_t {m r t : Nat} {n : Int} (j : Nat) (v : Value) (h : (numA t)[j]? = some v) : (z1a m r t n)[16 + j]? = some v := by
 have hj := (Array.getElem?_eq_some_iff.1 h).1
 rw [zic] at hj
 rw [← h]
 have : j = 0 ∨ j = 1 ∨ j = 2 ∨ j = 3 ∨ j = 4 ∨ j = 5 ∨ j = 6 ∨ j = 7 := by omega
 rcases this with rfl | rfl | rfl | rfl | rfl | rfl | rfl | rfl <;> rfl
section
variable {P : Program}
theorem zjb {ops : Array Oper} {W : World} {Q : Act → Prop} {a : Act} {o : Oper} {rest : List Oper} (hw : Region.wanted o (yielded ops a.tmps) = true) (ty : TypeId) (y : Operand) (ho : o.op = .load ty y)
  (g : Nat) (hy : a.eval y = .pointer (some ⟨g, 0, none⟩)) (t : TypeId) (c : Array Value) (d : TypeDesc) (hg : Blk W g t c) (hu : P.underlying ty = some d)
  (hd : (match d with | .struct _ | .array _ _ => true | _ => false) = true) (hi : (P.info? ty).map (·.size) = some c.size)
  (h : wpQuiet P ops (fun w' => ∃ x : Later W, w' = x.w) Q rest (a.put o.dst (.agg c))) : wpQuiet P ops (fun w' => ∃ x : Later W, w' = x.w) Q (o :: rest) a :=
 BigFrame.wpQuiet_want hw fun K hK => ⟨.agg c, fun w ⟨x, e⟩ => by
  subst e
  unfold Oper.quietAt execOp
  simp only [ho, hy, Sem.run_bind, run_load_blk x.w ty g t c d (hg.below x.h hg.lt) hu hd hi, Result.andThen_ok, Sem.run_pure]
  exact ⟨rfl, rfl⟩, hK _ h⟩
theorem zab {ops : Array Oper} {W : World} {Q : Act → Prop} {a : Act} {o : Oper} {rest : List Oper} (hw : Region.wanted o (yielded ops a.tmps) = true) (ty : TypeId) (y : Operand) (ho : o.op = .load ty y)
  (g k : Nat) (hy : a.eval y = .pointer (some ⟨g, k, none⟩)) (t : TypeId) (c s : Array Value) (d : TypeDesc) (hg : Blk W g t c) (hs : ∀ (j : Nat) (v : Value), s[j]? = some v → c[k + j]? = some v) (hu : P.underlying ty = some d)
  (hd : (match d with | .struct _ | .array _ _ => true | _ => false) = true) (hi : (P.info? ty).map (·.size) = some s.size)
  (h : wpQuiet P ops (fun w' => ∃ x : Later W, w' = x.w) Q rest (a.put o.dst (.agg s))) : wpQuiet P ops (fun w' => ∃ x : Later W, w' = x.w) Q (o :: rest) a :=
 BigFrame.wpQuiet_want hw fun K hK => ⟨.agg s, fun w ⟨x, e⟩ => by
  subst e
  unfold Oper.quietAt execOp
  simp only [ho, hy, Sem.run_bind, run_load_sub x.w ty g k t c s d (hg.below x.h hg.lt) hs hu hd hi, Result.andThen_ok, Sem.run_pure]
  exact ⟨rfl, rfl⟩, hK _ h⟩
end
theorem mtin_any (m r t : Nat) (n : Int) (hm : m < 4294967296 ^ 8) (ho : m % 2 = 1) (hn : ∃ q, n * digI m 0 + 1 = 4294967296 * q) (hn0 : 0 ≤ n) (hn1 : n < 4294967296) (a : Nat) (ha : a < 4294967296 ^ 8) (ht : t < m) (w : World) :
  Calls Tryz.prog 104 #[.agg (z1a m r t n), numV a] w fun e w' => e = .returned (numV (mm m (a * t))) ∧ Below w.heap.size w w' := by
 have HN := hid hn
 clear hn
 go_enter Tryz.func104, Tryz.ntmps104
 go_upto_region 1 with fail
 obtain ⟨W, hW⟩ : ∃ W, W = ((w.alloc (.cells (z1a m r t n) 99)).alloc (.cells (numA a) 27)).alloc (.cells #[.int .u32 0, .int .u32 0, .int .u32 0, .int .u32 0, .int .u32 0, .int .u32 0, .int .u32 0, .int .u32 0] 27) := ⟨_, rfl⟩
 have qc : Blk W w.heap.size 99 (z1a m r t n) := by rw [hW]; exact ((Blk.new w _ _).alloc _).alloc _
 have qa : Num W (w.heap.size + 1) 27 a := by
  have := (Num.new (w.alloc (.cells (z1a m r t n) 99)) 27 a).alloc (.cells #[.int .u32 0, .int .u32 0, .int .u32 0, .int .u32 0, .int .u32 0, .int .u32 0, .int .u32 0, .int .u32 0] 27)
  rw [World.size_alloc] at this; rw [hW]; exact this
 have qr : Num W (w.heap.size + 1 + 1) 27 0 := by
  have := Num.new ((w.alloc (.cells (z1a m r t n) 99)).alloc (.cells (numA a) 27)) 27 0
  rw [World.size_alloc, World.size_alloc, ← zeroA] at this; rw [hW]; exact this
 have gb : Below w.heap.size w W := by rw [hW]; exact (((Below.refl _ _).alloc (Nat.le_refl _) _).alloc (by simp) _).alloc (by simp; omega) _
 rw [← hW]
 clear hW
 go_wp2_with (first | (refine zy rfl _ (.tmp 2) rfl _ rfl _ _ _ qc Tryz.underlying99 rfl z2b ?_) | (refine zd rfl _ (.tmp 3) rfl _ rfl _ _ _ qa Tryz.underlying27 rfl ze ?_) | (refine z3a rfl _ (.tmp 7) rfl _ _ rfl _ _ (numA t) _ qc montA_t Tryz.underlying27 rfl ze ?_))
 refine (mtmul_any m r t n hm ho HN.out hn0 hn1 a t ha ht _).mono ?_
 rintro e w1 ⟨rfl, b1⟩
 have qr1 := qr.step b1
 have z1 := gb.size
 have z2 := qr.lt
 go_wp2_with (refine zj rfl _ (.tmp 4) _ rfl _ rfl _ rfl _ rfl qr1 ze ?_; intro w2 g2 m2)
 refine bodyPost_ret (z0a rfl rfl m2 Tryz.underlying27 rfl ze) rfl ⟨rfl, ?_⟩
 have z3 := b1.size
 exact zf (zvb gb b1 z1) g2 (by omega) (by omega)
theorem mtout_any (m r t : Nat) (n : Int) (hm : m < 4294967296 ^ 8) (h1m : 1 < m) (ho : m % 2 = 1) (hn : ∃ q, n * digI m 0 + 1 = 4294967296 * q) (hn0 : 0 ≤ n) (hn1 : n < 4294967296) (a : Nat) (ha : a < 4294967296 ^ 8) (w : World) :
  Calls Tryz.prog 102 #[.agg (z1a m r t n), numV a] w fun e w' => e = .returned (numV (mm m a)) ∧ Below w.heap.size w w' := by
 have HN := hid hn
 clear hn
 go_enter Tryz.func102, Tryz.ntmps102
 go_upto_region 1 with fail
 obtain ⟨W, hW⟩ : ∃ W, W = ((w.alloc (.cells (z1a m r t n) 99)).alloc (.cells (numA a) 27)).alloc (.cells #[.int .u32 0, .int .u32 0, .int .u32 0, .int .u32 0, .int .u32 0, .int .u32 0, .int .u32 0, .int .u32 0] 27) := ⟨_, rfl⟩
 have qc : Blk W w.heap.size 99 (z1a m r t n) := by rw [hW]; exact ((Blk.new w _ _).alloc _).alloc _
 have qa : Num W (w.heap.size + 1) 27 a := by
  have := (Num.new (w.alloc (.cells (z1a m r t n) 99)) 27 a).alloc (.cells #[.int .u32 0, .int .u32 0, .int .u32 0, .int .u32 0, .int .u32 0, .int .u32 0, .int .u32 0, .int .u32 0] 27)
  rw [World.size_alloc] at this; rw [hW]; exact this
 have qr : Num W (w.heap.size + 1 + 1) 27 0 := by
  have := Num.new ((w.alloc (.cells (z1a m r t n) 99)).alloc (.cells (numA a) 27)) 27 0
  rw [World.size_alloc, World.size_alloc, ← zeroA] at this; rw [hW]; exact this
 have gb : Below w.heap.size w W := by rw [hW]; exact (((Below.refl _ _).alloc (Nat.le_refl _) _).alloc (by simp) _).alloc (by simp; omega) _
 have z1 := gb.size
 have z2 := qr.lt
 rw [← hW]
 clear hW
 refine wp_region_tail (by kernel_rfl) (by kernel_rfl) (by kernel_rfl) (by kernel_rfl) (by kernel_rfl) ?_
 simp only [calm, headOps, tailOps, List.length_cons, List.length_nil, List.drop_succ_cons, List.drop_zero, Nat.zero_add, Nat.reduceAdd]
 refine zjb rfl _ (.tmp 2) rfl _ rfl _ _ _ qc Tryz.underlying99 rfl z2b ?_
 simp only [Act.put, List.setIfInBounds_toArray, List.set_cons_zero, List.set_cons_succ]
 refine zt rfl _ (.tmp 3) rfl _ rfl _ _ _ qa Tryz.underlying27 rfl ze ?_
 simp only [Act.put, List.setIfInBounds_toArray, List.set_cons_zero, List.set_cons_succ]
 go_big_quiet_step (exact zzb (from_any 1 (by omega) (by omega) _))
 go_big_quiet_step (exact zzb (mtmul_any m r t n hm ho HN.out hn0 hn1 a 1 ha h1m _))
 refine wpQuiet_nil ?_
 intro X
 have qr1 := qr.step X.h
 rw [Nat.mul_one]
 go_wp2_with (refine zj rfl _ (.tmp 4) _ rfl _ rfl _ rfl _ rfl qr1 ze ?_; intro w2 g2 m2)
 refine bodyPost_ret (z0a rfl rfl m2 Tryz.underlying27 rfl ze) rfl ⟨rfl, ?_⟩
 have z3 := X.h.size
 exact zf (zvb gb X.h z1) g2 (by omega) (by omega)
end Go.Proofs.YtcfepoopkfhojaaGreat
namespace Go.Proofs.YtcfepoopkfhojaaGreat
open Go.ChangeShapes Go.WideShapes Go.ChangeAt Go.RowKit
end Go.Proofs.YtcfepoopkfhojaaGreat
namespace Go.Proofs.YtcfepoopkfhojaaGreat
open Go.ChangeShapes Go.WideShapes Go.ChangeAt Go.RowKit
end Go.Proofs.YtcfepoopkfhojaaGreat
namespace Go.Proofs.YtcfepoopkfhojaaGreat
open Go.ChangeShapes Go.WideShapes Go.ChangeAt Go.RowKit
theorem grown_below {w w' : World} {row : Option Nat} (h : Below w.heap.size w w') : w.grownBy w' row := ⟨h.os, h.tape, h.output, h.size, fun b hb _ => h.block b hb⟩
end Go.Proofs.YtcfepoopkfhojaaGreat
namespace Go.Proofs.YtcfepoopkfhojaaGreat
open Go.ChangeShapes Go.WideShapes Go.ChangeAt Go.RowKit
theorem numF_none (k : Nat) : numF 0 k = .int .u32 0 := by unfold numF digI dig; simp
theorem montA_zero : z1a 0 0 0 0 = #[Value.int .u32 0, .int .u32 0, .int .u32 0, .int .u32 0, .int .u32 0, .int .u32 0, .int .u32 0, .int .u32 0, .int .u32 0, .int .u32 0, .int .u32 0, .int .u32 0, .int .u32 0, .int .u32 0, .int .u32 0, .int .u32 0, .int .u32 0, .int .u32 0, .int .u32 0, .int .u32 0, .int .u32 0, .int .u32 0, .int .u32 0, .int .u32 0, .int .u32 0] := by unfold z1a; simp only [numF_none]
theorem z25_cells : (#[Value.int .u32 0, .int .u32 0, .int .u32 0, .int .u32 0, .int .u32 0, .int .u32 0, .int .u32 0, .int .u32 0, .int .u32 0, .int .u32 0, .int .u32 0, .int .u32 0, .int .u32 0, .int .u32 0, .int .u32 0, .int .u32 0, .int .u32 0, .int .u32 0, .int .u32 0, .int .u32 0, .int .u32 0, .int .u32 0, .int .u32 0, .int .u32 0, .int .u32 0] : Array Value).all (·.oneCell') = true := by simp [Value.oneCell']
section
variable {P : Program}
theorem wpQuiet_op {ops : Array Oper} {W : World} {Q : Act → Prop} {a : Act} {o : Oper} {rest : List Oper} (hw : Region.wanted o (yielded ops a.tmps) = true) (v : Value) (hr : ∀ w, (execOp a.eval o).run P w = .ok (.value v) w)
  (h : wpQuiet P ops (fun w' => ∃ x : Later W, w' = x.w) Q rest (a.put o.dst v)) : wpQuiet P ops (fun w' => ∃ x : Later W, w' = x.w) Q (o :: rest) a :=
 BigFrame.wpQuiet_want hw fun K hK => ⟨v, fun w ⟨x, e⟩ => by
  subst e
  unfold Oper.quietAt
  simp only [hr]
  exact ⟨rfl, rfl⟩, hK _ h⟩
theorem wpList_op {ops : Array Oper} {rest : List Oper} {o : Oper} {a : Act} {w : World} {Q : Exit → Act → World → Prop} (hw : Region.wanted o (yielded ops a.tmps) = true) (v : Value) (hr : (execOp a.eval o).run P w = .ok (.value v) w)
  (h : wpList P ops Q rest (a.put o.dst v) w) : wpList P ops Q (o :: rest) a w :=
 z6b hw fun K hK => by
  unfold Oper.wp
  simp only [hr]
  exact hK _ _ h
end
theorem run_buildM {a : Act} {w : World} {o : Oper} (x0 x1 x2 x3 : Operand) (ho : o.op = .build 99 #[(0, x0), (1, x1), (2, x2), (3, x3)]) {m r t : Nat} {n : Int} (h0 : a.eval x0 = numV m) (h1 : a.eval x1 = numV r) (h2 : a.eval x2 = numV t) (h3 : a.eval x3 = .int .u32 n) : (execOp a.eval o).run Tryz.prog w = .ok (.value (.agg (z1a m r t n))) w := by
 unfold execOp
 simp only [ho, List.map_toArray, List.map_cons, List.map_nil, h0, h1, h2, h3]
 kernel_rfl
theorem montA_cells (m r t : Nat) (n : Int) : (z1a m r t n).all (·.oneCell') = true := by simp [z1a, numF, Value.oneCell']
theorem mtmake_any (m : Nat) (hm : m < 4294967296 ^ 8) (w : World) :
  Calls Tryz.prog 67 #[numV m] w fun e w' => e = .returned (if m % 2 = 1 ∧ m ≠ 1 then .tuple #[.agg (z1a m (4294967296 ^ 8 % m) (4294967296 ^ 8 % m * (4294967296 ^ 8 % m) % m) (ngI (digI m 0))), .bool true] else .tuple #[.agg (z1a 0 0 0 0), .bool false]) ∧ Below w.heap.size w w' := by
 obtain ⟨RES, HR⟩ : ∃ RES, Hid ((if m % 2 = 1 ∧ m ≠ 1 then Value.tuple #[.agg (z1a m (4294967296 ^ 8 % m) (4294967296 ^ 8 % m * (4294967296 ^ 8 % m) % m) (ngI (digI m 0))), .bool true] else .tuple #[.agg (z1a 0 0 0 0), .bool false]) = RES) := ⟨_, hid rfl⟩
 rw [HR.out]
 have PAR : (m % 2 = 0 ∧ (digI m 0).tmod 2 = 0) ∨ (m % 2 = 1 ∧ (digI m 0).tmod 2 = 1) := by
  have h0 := zqa m 0
  have h1 : digI m 0 % 2 = ((m % 2 : Nat) : Int) := by unfold digI dig; rw [Nat.pow_zero, Nat.div_one]; omega
  rw [Int.tmod_eq_emod_of_nonneg h0, h1]
  omega
 have EQ1 : (m = 1 ∧ ∀ w, (Op.equalIn 10000 27 (.agg (numA m)) (.agg (numA 1))).run Tryz.prog w = .ok true w) ∨ (m ≠ 1 ∧ ∀ w, (Op.equalIn 10000 27 (.agg (numA m)) (.agg (numA 1))).run Tryz.prog w = .ok false w) := by
  by_cases h : m = 1
  ·exact .inl ⟨h, fun w => by rw [h]; exact eqn_same 1 w⟩
  ·exact .inr ⟨h, eqn_diff hm (by decide) h⟩
 go_enter Tryz.func67, Tryz.ntmps67
 go_upto_region 1 with fail
 obtain ⟨W, hW⟩ : ∃ W, W = ((w.alloc (.cells (numA m) 27))).alloc (.cells #[Value.int .u32 0, .int .u32 0, .int .u32 0, .int .u32 0, .int .u32 0, .int .u32 0, .int .u32 0, .int .u32 0, .int .u32 0, .int .u32 0, .int .u32 0, .int .u32 0, .int .u32 0, .int .u32 0, .int .u32 0, .int .u32 0, .int .u32 0, .int .u32 0, .int .u32 0, .int .u32 0, .int .u32 0, .int .u32 0, .int .u32 0, .int .u32 0, .int .u32 0] 99) := ⟨_, rfl⟩
 have q_m : Num W (w.heap.size) 27 (m) := by
  have := ((Num.new w 27 (m)).alloc (.cells #[Value.int .u32 0, .int .u32 0, .int .u32 0, .int .u32 0, .int .u32 0, .int .u32 0, .int .u32 0, .int .u32 0, .int .u32 0, .int .u32 0, .int .u32 0, .int .u32 0, .int .u32 0, .int .u32 0, .int .u32 0, .int .u32 0, .int .u32 0, .int .u32 0, .int .u32 0, .int .u32 0, .int .u32 0, .int .u32 0, .int .u32 0, .int .u32 0, .int .u32 0] 99))
  rw [hW]; exact this
 have q_c : Blk W (w.heap.size + 1) 99 #[Value.int .u32 0, .int .u32 0, .int .u32 0, .int .u32 0, .int .u32 0, .int .u32 0, .int .u32 0, .int .u32 0, .int .u32 0, .int .u32 0, .int .u32 0, .int .u32 0, .int .u32 0, .int .u32 0, .int .u32 0, .int .u32 0, .int .u32 0, .int .u32 0, .int .u32 0, .int .u32 0, .int .u32 0, .int .u32 0, .int .u32 0, .int .u32 0, .int .u32 0] := by
  have := (Blk.new (w.alloc (.cells (numA m) 27)) 99 (z1a 0 0 0 0))
  rw [World.size_alloc, montA_zero] at this
  rw [hW]; exact this
 have gb : Below w.heap.size w W := by rw [hW]; exact (((Below.refl _ _).alloc (by simp <;> omega) _).alloc (by simp <;> omega) _)
 rw [← hW]
 clear hW
 have loc := hid (show w.heap.size ≤ w.heap.size + 1 by omega)
 have nm_c := hid (show w.heap.size ≠ w.heap.size + 1 by omega)
 go_wp2_with (fail)
 refine (from_any 1 (by omega) (by omega) _).mono ?_
 rintro e w1 ⟨rfl, bw1⟩
 have m_1 := q_m.step bw1
 have c_1 := q_c.step bw1
 have c_2 := zr gb bw1
 clear q_m q_c gb bw1
 go_upto_region 2 with (first | (refine zj rfl _ (.tmp 4) _ rfl _ rfl _ rfl _ rfl (heap_alloc_new _ _) ze ?_; intro w2 gw2 mw2; have b_1 := zmb gw2; have nc_o := hid (show _ ≠ w1.heap.size from Nat.ne_of_lt (Nat.lt_of_lt_of_le c_1.lt (by omega))); have m_2 := m_1.step b_1; have c_3 := c_1.step b_1; have c_4 := zr c_2 b_1; clear m_1 c_1 c_2 b_1 gw2) | (refine zd rfl _ (.tmp 1) rfl _ rfl _ _ _ m_2 Tryz.underlying27 rfl ze ?_) | (refine zd rfl _ (.tmp 4) rfl _ rfl _ _ _ mw2 Tryz.underlying27 rfl ze ?_))
 have c0 := m_2.cell (k := 0) (by decide)
 have f0 := m_2.frozen 0
 rcases PAR with ⟨hp, hd0⟩ | ⟨hp, hd0⟩
 ·have hR := HR.out
  rw [if_neg (by omega)] at hR
  subst hR
  go_upto_region 3 with (first | (refine zd rfl _ (.tmp 1) rfl _ rfl _ _ _ m_2 Tryz.underlying27 rfl ze ?_) | (refine zd rfl _ (.tmp 4) rfl _ rfl _ _ _ mw2 Tryz.underlying27 rfl ze ?_))
  have bef := c_4
  go_wp2_with (first | (refine zd rfl _ (.tmp 1) rfl _ rfl _ _ _ m_2 Tryz.underlying27 rfl ze ?_) | (refine zd rfl _ (.tmp 4) rfl _ rfl _ _ _ mw2 Tryz.underlying27 rfl ze ?_) | (refine zq rfl _ (.tmp 2) _ rfl _ rfl (#[Value.int .u32 0, .int .u32 0, .int .u32 0, .int .u32 0, .int .u32 0, .int .u32 0, .int .u32 0, .int .u32 0, .int .u32 0, .int .u32 0, .int .u32 0, .int .u32 0, .int .u32 0, .int .u32 0, .int .u32 0, .int .u32 0, .int .u32 0, .int .u32 0, .int .u32 0, .int .u32 0, .int .u32 0, .int .u32 0, .int .u32 0, .int .u32 0, .int .u32 0]) rfl z25_cells _ c_3 rfl z2b ?_; intro wz gz mz))
  exact bodyPost_ret (z5b rfl rfl mz Tryz.underlying99 rfl z2b) rfl ⟨by rw [montA_zero]; rfl, zf bef gz bef.size loc.out⟩
 ·rcases EQ1 with ⟨h1, k1⟩ | ⟨h1, k1⟩
  ·have hR := HR.out
   rw [if_neg (by omega)] at hR
   subst hR
   clear h1
   go_upto_region 3 with (first | (refine zd rfl _ (.tmp 1) rfl _ rfl _ _ _ m_2 Tryz.underlying27 rfl ze ?_) | (refine zd rfl _ (.tmp 4) rfl _ rfl _ _ _ mw2 Tryz.underlying27 rfl ze ?_))
   have bef := c_4
   go_wp2_with (first | (refine zd rfl _ (.tmp 1) rfl _ rfl _ _ _ m_2 Tryz.underlying27 rfl ze ?_) | (refine zd rfl _ (.tmp 4) rfl _ rfl _ _ _ mw2 Tryz.underlying27 rfl ze ?_) | (refine zq rfl _ (.tmp 2) _ rfl _ rfl (#[Value.int .u32 0, .int .u32 0, .int .u32 0, .int .u32 0, .int .u32 0, .int .u32 0, .int .u32 0, .int .u32 0, .int .u32 0, .int .u32 0, .int .u32 0, .int .u32 0, .int .u32 0, .int .u32 0, .int .u32 0, .int .u32 0, .int .u32 0, .int .u32 0, .int .u32 0, .int .u32 0, .int .u32 0, .int .u32 0, .int .u32 0, .int .u32 0, .int .u32 0]) rfl z25_cells _ c_3 rfl z2b ?_; intro wz gz mz))
   exact bodyPost_ret (z5b rfl rfl mz Tryz.underlying99 rfl z2b) rfl ⟨by rw [montA_zero]; rfl, zf bef gz bef.size loc.out⟩
  ·have hR := HR.out
   rw [if_pos ⟨by omega, by omega⟩] at hR
   go_upto_region 4 with (first | (refine zd rfl _ (.tmp 1) rfl _ rfl _ _ _ m_2 Tryz.underlying27 rfl ze ?_) | (refine zd rfl _ (.tmp 4) rfl _ rfl _ _ _ mw2 Tryz.underlying27 rfl ze ?_))
   have h0 : 0 < m := by omega
   clear HR hp h1 k1
   have hr : ∀ w, Calls Tryz.prog 50 #[.agg #[.int .u32 0, .int .u32 0, .int .u32 0, .int .u32 0, .int .u32 0, .int .u32 0, .int .u32 0, .int .u32 0], numV 1, numV m] w fun e w' => e = .returned (.tuple #[numV (4294967296 ^ 8 % m), .bool (decide (m ≠ 0))]) ∧ Below w.heap.size w w' := fun w => by
    have := rest_any 0 1 m (by decide) (by decide) hm w
    rw [if_neg (by omega), Nat.zero_add, Nat.one_mul] at this
    rw [zeroA]; exact this
   have hRl : 4294967296 ^ 8 % m < m := Nat.mod_lt _ h0
   generalize 4294967296 ^ 8 % m = R at *
   have hRP : R < 4294967296 ^ 8 := by omega
   have hmu := mul_any R R hRP hRP
   have hr2 := fun w => rest_any (R * R % 4294967296 ^ 8) (R * R / 4294967296 ^ 8) m (Nat.mod_lt _ (by decide)) (Nat.div_lt_of_lt_mul (Nat.mul_lt_mul'' hRP hRP)) hm w
   rw [if_neg (by omega), show R * R % 4294967296 ^ 8 + R * R / 4294967296 ^ 8 * 4294967296 ^ 8 = R * R by rw [Nat.mul_comm (R * R / _)]; exact Nat.mod_add_div _ _] at hr2
   generalize R * R % 4294967296 ^ 8 = lo at *
   generalize R * R / 4294967296 ^ 8 = hi at *
   generalize R * R % m = T at *
   have hng := negated_any (digI m 0) (zqa _ _) (zpa _ _)
   generalize ngI (digI m 0) = N at *
   go_wp2_with (first | (refine zd rfl _ (.tmp 1) rfl _ rfl _ _ _ m_2 Tryz.underlying27 rfl ze ?_) | (refine zd rfl _ (.tmp 4) rfl _ rfl _ _ _ mw2 Tryz.underlying27 rfl ze ?_))
   refine (hr _).mono ?_
   rintro e w3 ⟨rfl, bw3⟩
   have m_3 := m_2.step bw3
   have c_5 := c_3.step bw3
   have o_1 := mw2.step bw3
   have c_6 := zr c_4 bw3
   clear m_2 c_3 mw2 c_4 bw3
   go_wp2_with (first | (refine zj rfl _ (.tmp 5) _ rfl _ rfl _ rfl _ rfl (heap_alloc_new _ _) ze ?_; intro w4 gw4 mw4; have b_2 := zmb gw4; have nc_R := hid (show _ ≠ w3.heap.size from Nat.ne_of_lt (Nat.lt_of_lt_of_le c_5.lt (by omega))); have m_4 := m_3.step b_2; have c_7 := c_5.step b_2; have o_2 := o_1.step b_2; have c_8 := zr c_6 b_2; clear m_3 c_5 o_1 c_6 b_2 gw4) | (refine zd rfl _ (.tmp 5) rfl _ rfl _ _ _ mw4 Tryz.underlying27 rfl ze ?_))
   refine (hmu _).mono ?_
   rintro e w5 ⟨rfl, bw5⟩
   have m_5 := m_4.step bw5
   have c_9 := c_7.step bw5
   have o_3 := o_2.step bw5
   have R_1 := mw4.step bw5
   have c_10 := zr c_8 bw5
   clear m_4 c_7 o_2 mw4 c_8 bw5
   go_wp2_with (first | (refine zj rfl _ (.tmp 7) _ rfl _ rfl _ rfl _ rfl (news2 w5 _).1 ze ?_; intro w6 gw6 mw6) | (refine zj rfl _ (.tmp 8) _ rfl _ rfl _ rfl _ rfl ((gw6.block _ (by simp) (by simp)).trans (news2 w5 _).2) ze ?_; intro w7 gw7 mw7; have b_3 := step_new2 gw6 gw7; have qw6 := (mw6.grown gw7 (by simp <;> omega)); have nc_lo := hid (show _ ≠ w5.heap.size from Nat.ne_of_lt (Nat.lt_of_lt_of_le c_9.lt (by omega))); have nc_hi := hid (show _ ≠ w5.heap.size + 1 from Nat.ne_of_lt (Nat.lt_of_lt_of_le c_9.lt (by omega))); have m_6 := m_5.step b_3; have c_11 := c_9.step b_3; have o_4 := o_3.step b_3; have R_2 := R_1.step b_3; have c_12 := zr c_10 b_3; clear m_5 c_9 o_3 R_1 c_10 b_3 gw6 gw7 mw6) | (refine zd rfl _ (.tmp 1) rfl _ rfl _ _ _ m_6 Tryz.underlying27 rfl ze ?_) | (refine zd rfl _ (.tmp 7) rfl _ rfl _ _ _ qw6 Tryz.underlying27 rfl ze ?_) | (refine zd rfl _ (.tmp 8) rfl _ rfl _ _ _ mw7 Tryz.underlying27 rfl ze ?_))
   refine (hr2 _).mono ?_
   rintro e w8 ⟨rfl, bw8⟩
   have m_7 := m_6.step bw8
   have c_13 := c_11.step bw8
   have o_5 := o_4.step bw8
   have R_3 := R_2.step bw8
   have lo_1 := qw6.step bw8
   have hi_1 := mw7.step bw8
   have c_14 := zr c_12 bw8
   clear m_6 c_11 o_4 R_2 qw6 mw7 c_12 bw8
   go_upto_region 7 with (first | (refine zj rfl _ (.tmp 9) _ rfl _ rfl _ rfl _ rfl (heap_alloc_new _ _) ze ?_; intro w9 gw9 mw9; have b_4 := zmb gw9; have nc_t := hid (show _ ≠ w8.heap.size from Nat.ne_of_lt (Nat.lt_of_lt_of_le c_13.lt (by omega))); have m_8 := m_7.step b_4; have c_15 := c_13.step b_4; have o_6 := o_5.step b_4; have R_4 := R_3.step b_4; have lo_2 := lo_1.step b_4; have hi_2 := hi_1.step b_4; have c_16 := zr c_14 b_4; clear m_7 c_13 o_5 R_3 lo_1 hi_1 c_14 b_4 gw9) | (refine zd rfl _ (.tmp 1) rfl _ rfl _ _ _ m_8 Tryz.underlying27 rfl ze ?_) | (refine zd rfl _ (.tmp 5) rfl _ rfl _ _ _ R_4 Tryz.underlying27 rfl ze ?_) | (refine zd rfl _ (.tmp 9) rfl _ rfl _ _ _ mw9 Tryz.underlying27 rfl ze ?_))
   refine wp_region_news 7 27 (.cells #[Value.int .u32 0, .int .u32 0, .int .u32 0, .int .u32 0, .int .u32 0, .int .u32 0, .int .u32 0, .int .u32 0] 27) (fun _ _ _ _ _ h => h) (by kernel_rfl) (by kernel_rfl) (by kernel_rfl) (by kernel_rfl) (by kernel_rfl) (by kernel_rfl) (by kernel_rfl) (by kernel_rfl) num_new ?_
   intro V_1
   simp only [calmN, isNew, hush, hushT, List.drop_succ_cons, List.drop_zero]
   have m_9 := m_8.step V_1.h
   have c_17 := c_15.step V_1.h
   have o_7 := o_6.step V_1.h
   have R_5 := R_4.step V_1.h
   have lo_3 := lo_2.step V_1.h
   have hi_3 := hi_2.step V_1.h
   have t_1 := mw9.step V_1.h
   have c_18 := zr c_16 V_1.h
   have c1 := fun X : Later V_1.w => ((m_9.later X).cell (k := 0) (by decide))
   have f1 := fun X : Later V_1.w => (m_9.later X).frozen 0
   (refine zt rfl _ (.tmp 1) rfl _ rfl _ _ _ m_9 Tryz.underlying27 rfl ze ?_; simp only [Act.put, List.setIfInBounds_toArray, List.set_cons_zero, List.set_cons_succ])
   (refine zt rfl _ (.tmp 5) rfl _ rfl _ _ _ R_5 Tryz.underlying27 rfl ze ?_; simp only [Act.put, List.setIfInBounds_toArray, List.set_cons_zero, List.set_cons_succ])
   (refine zt rfl _ (.tmp 9) rfl _ rfl _ _ _ t_1 Tryz.underlying27 rfl ze ?_; simp only [Act.put, List.setIfInBounds_toArray, List.set_cons_zero, List.set_cons_succ])
   go_big_quiet_step (fail)
   go_big_quiet_step (fail)
   go_big_quiet_step (exact later_same (hng _))
   (refine wpQuiet_op rfl _ (fun w => run_buildM _ _ _ _ rfl rfl rfl rfl rfl) ?_; simp only [Act.put, List.setIfInBounds_toArray, List.set_cons_zero, List.set_cons_succ])
   go_big_quiet_step (fail)
   go_big_quiet_step (fail)
   refine wpQuiet_nil ?_
   intro X_1 p_1 hp_1
   obtain ⟨hp_11, hp_12⟩ := hp_1
   have m_10 := m_9.step X_1.h
   have c_19 := c_17.step X_1.h
   have o_8 := o_7.step X_1.h
   have R_6 := R_5.step X_1.h
   have lo_4 := lo_3.step X_1.h
   have hi_4 := hi_3.step X_1.h
   have t_2 := t_1.step X_1.h
   have c_20 := zr c_18 X_1.h
   simp only [layN, isNew, Act.put, List.setIfInBounds_toArray, List.set_cons_zero, List.set_cons_succ, Nat.zero_add, Nat.reduceAdd]
   clear hp_11 hp_12
   clear m_8 c_15 o_6 R_4 lo_2 hi_2 mw9 c_16 m_9 c_17 o_7 R_5 lo_3 hi_3 t_1 c_18
   have bef := c_20
   go_wp2_with (first | (refine zq rfl _ (.tmp 2) _ rfl _ rfl (z1a m R T N) rfl (montA_cells _ _ _ _) _ c_19 rfl z2b ?_; intro wz gz mz))
   exact bodyPost_ret (z5b rfl rfl mz Tryz.underlying99 rfl z2b) rfl ⟨by rw [← hR]; rfl, zf bef gz bef.size loc.out⟩
end Go.Proofs.YtcfepoopkfhojaaGreat
namespace Go.Proofs.YtcfepoopkfhojaaGreat
open Go.ChangeShapes Go.WideShapes Go.ChangeAt Go.RowKit
theorem zfc (n : Nat) : (numA n).all (·.oneCell') = true := by simp [numA, numF, Value.oneCell']
end Go.Proofs.YtcfepoopkfhojaaGreat
namespace Go.Proofs.YtcfepoopkfhojaaGreat
open Go.ChangeShapes Go.WideShapes Go.ChangeAt Go.RowKit
theorem mm_mul {m : Nat} (ho : m % 2 = 1) (u v : Nat) : mm m (u * 4294967296 ^ 8 % m * (v * 4294967296 ^ 8 % m)) = u * v * 4294967296 ^ 8 % m := by
 have h0 : 0 < m := by omega
 have hu : ∀ r x : Nat, r < m → 4294967296 ^ 8 * r % m = x % m → r = mm m x := fun r x h k => mm_unique ho h k
 generalize 4294967296 ^ 8 = P at *
 refine (hu _ _ (Nat.mod_lt _ h0) ?_).symm
 rw [Nat.mul_mod_mod, ← Nat.mul_mod]
 congr 1
 grind
theorem pow_half (a e k : Nat) : a ^ (e / 2 ^ k) = a ^ (e / 2 ^ (k + 1)) * a ^ (e / 2 ^ (k + 1)) * (if e / 2 ^ k % 2 = 1 then a else 1) := by
 have h : e / 2 ^ (k + 1) = e / 2 ^ k / 2 := by rw [Nat.pow_succ, Nat.div_div_eq_div_mul]
 rw [h]
 generalize e / 2 ^ k = z
 obtain ⟨q, hq⟩ : ∃ q, q = z / 2 := ⟨_, rfl⟩
 rw [← hq, ← Nat.pow_add]
 rcases Nat.mod_two_eq_zero_or_one z with h0 | h0
 ·rw [if_neg (by omega), Nat.mul_one]; congr 1; omega
 ·rw [if_pos h0, ← Nat.pow_succ]; congr 1; omega
def pmN (m a e k : Nat) : Nat := a ^ (e / 2 ^ k) * 4294967296 ^ 8 % m
def prN (m a e k : Nat) : Nat := a ^ (e / 2 ^ k) % m
theorem pm_step {m : Nat} (ho : m % 2 = 1) (a e k : Nat) : ∃ Y Z, mm m (pmN m a e (k + 1) * pmN m a e (k + 1)) = Y ∧ mm m (Y * (a * 4294967296 ^ 8 % m)) = Z ∧ Y < m ∧ Z < m ∧ pickN (bitI e k) Z Y = pmN m a e k := by
 have h0 : 0 < m := by omega
 have e1 : mm m (pmN m a e (k + 1) * pmN m a e (k + 1)) = a ^ (e / 2 ^ (k + 1)) * a ^ (e / 2 ^ (k + 1)) * 4294967296 ^ 8 % m := mm_mul ho _ _
 refine ⟨_, _, rfl, rfl, mm_lt h0 _, mm_lt h0 _, ?_⟩
 rw [e1, mm_mul ho]
 unfold pickN bitI pmN
 rw [pow_half a e k]
 rcases Nat.mod_two_eq_zero_or_one (e / 2 ^ k) with h | h
 ·rw [h, if_pos (show ((0 : Nat) : Int) = 0 from rfl), if_neg (by omega), Nat.mul_one]
 ·rw [h, if_neg (show ¬ ((1 : Nat) : Int) = 0 by decide), if_pos rfl]
theorem pr_step (m a e k : Nat) : ∃ Y, prN m a e (k + 1) * prN m a e (k + 1) % m = Y ∧ (bitI e k = 0 ∧ Y = prN m a e k ∨ bitI e k = 1 ∧ Y * (a % m) % m = prN m a e k) := by
 refine ⟨_, rfl, ?_⟩
 unfold prN bitI
 rw [pow_half a e k, ← Nat.mul_mod]
 rcases Nat.mod_two_eq_zero_or_one (e / 2 ^ k) with h | h
 ·exact .inl ⟨by rw [h]; rfl, by rw [h, if_neg (by omega), Nat.mul_one]⟩
 ·exact .inr ⟨by rw [h]; rfl, by rw [h, if_pos rfl, ← Nat.mul_mod]⟩
theorem top_ends {e : Nat} (he : e < 4294967296 ^ 8) : ∃ K : Nat, topI e 8 = (K : Int) ∧ K ≤ 256 ∧ e / 2 ^ K = 0 := by
 rcases Nat.eq_zero_or_pos e with rfl | h0
 ·exact ⟨0, topI_none 8, by omega, by simp⟩
 ·obtain ⟨k, hk⟩ : ∃ k, e / 2 ^ k = 1 := by
   refine ⟨Nat.log2 e, ?_⟩
   have h1 := Nat.log2_self_le (n := e) (by omega)
   have h2 := Nat.lt_log2_self (n := e)
   rw [Nat.pow_succ] at h2
   exact Nat.div_eq_of_lt_le (by omega) (by omega)
  have h1 := top_one he hk
  refine ⟨k + 1, by rw [h1]; rfl, ?_, by rw [Nat.pow_succ, ← Nat.div_div_eq_div_mul, hk]⟩
  refine Nat.le_of_not_lt fun hge => ?_
  have : 2 ^ 256 ≤ 2 ^ k := Nat.pow_le_pow_right (by decide) (by omega)
  rw [Nat.div_eq_of_lt (by rw [big_eq] at he; omega)] at hk
  cases hk
theorem pm_first {m a e K : Nat} (h : e / 2 ^ K = 0) : pmN m a e K = 4294967296 ^ 8 % m := by unfold pmN; rw [h, Nat.pow_zero, Nat.one_mul]
theorem pm_last (m a e : Nat) : pmN m a e 0 = a ^ e * 4294967296 ^ 8 % m := by unfold pmN; rw [Nat.pow_zero, Nat.div_one]
theorem pr_first {m a e K : Nat} (h1 : 1 < m) (h : e / 2 ^ K = 0) : prN m a e K = 1 := by unfold prN; rw [h, Nat.pow_zero, Nat.mod_eq_of_lt h1]
theorem pr_last (m a e : Nat) : prN m a e 0 = a ^ e % m := by unfold prN; rw [Nat.pow_zero, Nat.div_one]
theorem pm_lt {m : Nat} (h0 : 0 < m) (a e k : Nat) : pmN m a e k < m := Nat.mod_lt _ h0
theorem pr_lt {m : Nat} (h0 : 0 < m) (a e k : Nat) : prN m a e k < m := Nat.mod_lt _ h0
attribute [irreducible] pmN prN
end Go.Proofs.YtcfepoopkfhojaaGreat
namespace Go.Proofs.YtcfepoopkfhojaaGreat
open Go.ChangeShapes Go.WideShapes Go.ChangeAt Go.RowKit
def prodA (R C : Nat) : Array Value := #[numF R 0, numF R 1, numF R 2, numF R 3, numF R 4, numF R 5, numF R 6, numF R 7, .func (.func 99) #[] #[.pointer (some ⟨C, 0, none⟩)], .func (.func 101) #[] #[]]
theorem size_prod : (Tryz.prog.info? 134).map (·.size) = some 10 := by kernel_rfl
theorem prodA_one {R C : Nat} (j : Nat) (v : Value) (h : (numA R)[j]? = some v) : (prodA R C)[0 + j]? = some v := by
 have hj := (Array.getElem?_eq_some_iff.1 h).1
 rw [zic] at hj
 rw [Nat.zero_add, ← h]
 have : j = 0 ∨ j = 1 ∨ j = 2 ∨ j = 3 ∨ j = 4 ∨ j = 5 ∨ j = 6 ∨ j = 7 := by omega
 rcases this with rfl | rfl | rfl | rfl | rfl | rfl | rfl | rfl <;> rfl
theorem pow1_any (m r t : Nat) (n : Int) (hm : m < 4294967296 ^ 8) (ho : m % 2 = 1) (hn : ∃ q, n * digI m 0 + 1 = 4294967296 * q) (hn0 : 0 ≤ n) (hn1 : n < 4294967296) (x y : Nat) (hx : x < 4294967296 ^ 8) (hy : y < m) (C : Nat) (w : World) (hC : Blk w C 99 (z1a m r t n))  :
  Calls Tryz.prog 99 #[numV x, numV y, .pointer (some ⟨C, 0, none⟩)] w fun e w' => e = .returned (numV (mm m (x * y))) ∧ Below w.heap.size w w' := by
 have HN := hid hn
 clear hn
 have hCl := hC.lt
 go_enter Tryz.func99, Tryz.ntmps99
 go_upto_region 1 with fail
 obtain ⟨W, hW⟩ : ∃ W, W = ((((w.alloc (.cells (numA x) 27))).alloc (.cells (numA y) 27))).alloc (.cells #[Value.int .u32 0, .int .u32 0, .int .u32 0, .int .u32 0, .int .u32 0, .int .u32 0, .int .u32 0, .int .u32 0] 27) := ⟨_, rfl⟩
 have q_x : Num W (w.heap.size) 27 (x) := by
  have := (((Num.new w 27 (x)).alloc (.cells (numA y) 27)).alloc (.cells #[Value.int .u32 0, .int .u32 0, .int .u32 0, .int .u32 0, .int .u32 0, .int .u32 0, .int .u32 0, .int .u32 0] 27))
  rw [hW]; exact this
 have q_y : Num W (w.heap.size + 1) 27 (y) := by
  have := ((Num.new (w.alloc (.cells (numA x) 27)) 27 (y)).alloc (.cells #[Value.int .u32 0, .int .u32 0, .int .u32 0, .int .u32 0, .int .u32 0, .int .u32 0, .int .u32 0, .int .u32 0] 27))
  rw [World.size_alloc] at this
  rw [hW]; exact this
 have q_r : Num W (w.heap.size + 1 + 1) 27 0 := by
  have := (Num.new (((w.alloc (.cells (numA x) 27))).alloc (.cells (numA y) 27)) 27 0)
  rw [World.size_alloc, World.size_alloc, ← zeroA] at this
  rw [hW]; exact this
 have gb : Below w.heap.size w W := by rw [hW]; exact ((((Below.refl _ _).alloc (by simp <;> omega) _).alloc (by simp <;> omega) _).alloc (by simp <;> omega) _)
 rw [← hW]
 clear hW
 have lor := hid (show w.heap.size ≤ w.heap.size + 1 + 1 by omega)
 have nx_r := hid (show w.heap.size ≠ w.heap.size + 1 + 1 by omega)
 have ny_r := hid (show w.heap.size + 1 ≠ w.heap.size + 1 + 1 by omega)
 have q_k := hC.below gb hCl
 have nr_k := hid (show w.heap.size + 1 + 1 ≠ C by omega)
 go_wp2_with (first | (refine zd rfl _ (.tmp 3) rfl _ rfl _ _ _ q_x Tryz.underlying27 rfl ze ?_) | (refine zd rfl _ (.tmp 4) rfl _ rfl _ _ _ q_y Tryz.underlying27 rfl ze ?_) | (refine zy rfl _ (.tmp 2) rfl _ rfl _ _ _ q_k Tryz.underlying99 rfl z2b ?_))
 refine (mtmul_any m r t n hm ho HN.out hn0 hn1 x y hx hy _).mono ?_
 rintro e w1 ⟨rfl, bw1⟩
 have x_1 := q_x.step bw1
 have y_1 := q_y.step bw1
 have r_1 := q_r.step bw1
 have k_1 := q_k.step bw1
 have c_1 := zr gb bw1
 clear q_x q_y q_r q_k gb bw1
 go_wp2_with (first | (refine zj rfl _ (.tmp 5) _ rfl _ rfl _ rfl _ rfl r_1 ze ?_; intro w2 gw2 mw2; have x_2 := x_1.grown gw2 (zbb nx_r.out); have y_2 := y_1.grown gw2 (zbb ny_r.out); have k_2 := k_1.grown gw2 (zbb nr_k.out.symm); have c_2 := zf c_1 gw2 c_1.size lor.out; clear r_1 x_1 y_1 k_1 c_1 gw2))
 exact bodyPost_ret (z0a rfl rfl mw2 Tryz.underlying27 rfl ze) rfl ⟨rfl, c_2⟩
theorem power_any (m r t : Nat) (n : Int) (hm : m < 4294967296 ^ 8) (ho : m % 2 = 1) (hn : ∃ q, n * digI m 0 + 1 = 4294967296 * q) (hn0 : 0 ≤ n) (hn1 : n < 4294967296) (a x R A : Nat) (hx : x < 4294967296 ^ 8) (hR : R = 4294967296 ^ 8 % m) (hA : A = a * 4294967296 ^ 8 % m) (C : Nat) (w : World) (hC : Blk w C 99 (z1a m r t n))  :
  Calls Tryz.prog 103 #[.agg (prodA R C), numV A, numV x] w fun e w' => e = .returned (numV (a ^ x * 4294967296 ^ 8 % m)) ∧ Below w.heap.size w w' := by
 have HN := hid hn
 clear hn
 rw [← pm_last m a x]
 have HA := hid hA
 have HR := hid hR
 clear hA hR
 go_enter Tryz.func103, Tryz.ntmps103
 go_upto_region 1 with fail
 obtain ⟨W, hW⟩ : ∃ W, W = ((((((w.alloc (.cells (prodA R C) 134))).alloc (.cells (numA A) 27))).alloc (.cells (numA x) 27))).alloc (.cells #[Value.int .u32 0, .int .u32 0, .int .u32 0, .int .u32 0, .int .u32 0, .int .u32 0, .int .u32 0, .int .u32 0] 27) := ⟨_, rfl⟩
 have q_p : Blk W (w.heap.size) 134 (prodA R C) := by
  have := ((((Blk.new w 134 (prodA R C)).alloc (.cells (numA A) 27)).alloc (.cells (numA x) 27)).alloc (.cells #[Value.int .u32 0, .int .u32 0, .int .u32 0, .int .u32 0, .int .u32 0, .int .u32 0, .int .u32 0, .int .u32 0] 27))
  rw [hW]; exact this
 have q_a : Num W (w.heap.size + 1) 27 (A) := by
  have := (((Num.new (w.alloc (.cells (prodA R C) 134)) 27 (A)).alloc (.cells (numA x) 27)).alloc (.cells #[Value.int .u32 0, .int .u32 0, .int .u32 0, .int .u32 0, .int .u32 0, .int .u32 0, .int .u32 0, .int .u32 0] 27))
  rw [World.size_alloc] at this
  rw [hW]; exact this
 have q_e : Num W (w.heap.size + 1 + 1) 27 (x) := by
  have := ((Num.new (((w.alloc (.cells (prodA R C) 134))).alloc (.cells (numA A) 27)) 27 (x)).alloc (.cells #[Value.int .u32 0, .int .u32 0, .int .u32 0, .int .u32 0, .int .u32 0, .int .u32 0, .int .u32 0, .int .u32 0] 27))
  rw [World.size_alloc, World.size_alloc] at this
  rw [hW]; exact this
 have q_r : Num W (w.heap.size + 1 + 1 + 1) 27 0 := by
  have := (Num.new (((((w.alloc (.cells (prodA R C) 134))).alloc (.cells (numA A) 27))).alloc (.cells (numA x) 27)) 27 0)
  rw [World.size_alloc, World.size_alloc, World.size_alloc, ← zeroA] at this
  rw [hW]; exact this
 have gb : Below w.heap.size w W := by rw [hW]; exact (((((Below.refl _ _).alloc (by simp <;> omega) _).alloc (by simp <;> omega) _).alloc (by simp <;> omega) _).alloc (by simp <;> omega) _)
 rw [← hW]
 clear hW
 have lor := hid (show w.heap.size ≤ w.heap.size + 1 + 1 + 1 by omega)
 have np_r := hid (show w.heap.size ≠ w.heap.size + 1 + 1 + 1 by omega)
 have na_r := hid (show w.heap.size + 1 ≠ w.heap.size + 1 + 1 + 1 by omega)
 have ne_r := hid (show w.heap.size + 1 + 1 ≠ w.heap.size + 1 + 1 + 1 by omega)
 have hCl := hC.lt
 have q_k := hC.below gb hCl
 have nr_k := hid (show w.heap.size + 1 + 1 + 1 ≠ C by omega)
 go_upto_region 2 with (first | (refine zd rfl _ (.tmp 5) rfl _ rfl _ _ _ q_e Tryz.underlying27 rfl ze ?_) | (refine z3a rfl _ (.tmp 9) rfl _ _ rfl _ _ (numA R) _ q_p prodA_one Tryz.underlying27 rfl ze ?_) | (refine zj rfl _ (.tmp 7) _ rfl _ rfl _ rfl _ rfl (heap_alloc_new _ _) ze ?_; intro w1 gw1 mw1; have b_1 := zmb gw1; have lox := hid (show _ ≤ W.heap.size from Nat.le_trans gb.size (by omega)); have np_x := hid (show _ ≠ W.heap.size from Nat.ne_of_lt (Nat.lt_of_lt_of_le q_p.lt (by omega))); have na_x := hid (show _ ≠ W.heap.size from Nat.ne_of_lt (Nat.lt_of_lt_of_le q_a.lt (by omega))); have ne_x := hid (show _ ≠ W.heap.size from Nat.ne_of_lt (Nat.lt_of_lt_of_le q_e.lt (by omega))); have nr_x := hid (show _ ≠ W.heap.size from Nat.ne_of_lt (Nat.lt_of_lt_of_le q_r.lt (by omega))); have nk_x := hid (show _ ≠ W.heap.size from Nat.ne_of_lt (Nat.lt_of_lt_of_le q_k.lt (by omega))); have p_1 := q_p.step b_1; have a_1 := q_a.step b_1; have e_1 := q_e.step b_1; have r_1 := q_r.step b_1; have k_1 := q_k.step b_1; have c_1 := zr gb b_1; clear q_p q_a q_e q_r q_k gb b_1 gw1) | (refine zd rfl _ (.tmp 5) rfl _ rfl _ _ _ e_1 Tryz.underlying27 rfl ze ?_) | (refine z3a rfl _ (.tmp 9) rfl _ _ rfl _ _ (numA R) _ p_1 prodA_one Tryz.underlying27 rfl ze ?_))
 go_wp2_with (first | (refine zd rfl _ (.tmp 5) rfl _ rfl _ _ _ e_1 Tryz.underlying27 rfl ze ?_) | (refine z3a rfl _ (.tmp 9) rfl _ _ rfl _ _ (numA R) _ p_1 prodA_one Tryz.underlying27 rfl ze ?_))
 refine (bits_any _ _).mono ?_
 rintro e w2 ⟨rfl, bw2⟩
 have p_2 := p_1.step bw2
 have a_2 := a_1.step bw2
 have e_2 := e_1.step bw2
 have r_2 := r_1.step bw2
 have k_2 := k_1.step bw2
 have x_1 := mw1.step bw2
 have c_2 := zr c_1 bw2
 clear p_1 a_1 e_1 r_1 k_1 mw1 c_1 bw2
 obtain ⟨K, hK, hK1, hK2⟩ := top_ends hx
 rw [hK]
 obtain ⟨B, HB⟩ : ∃ B, Hid (B = W.heap.size) := ⟨_, hid rfl⟩
 rw [← HB.out] at x_1 nr_x np_x na_x ne_x nk_x lox ⊢
 clear HB
 rw [HR.out, ← pm_first (m := m) (a := a) hK2] at x_1
 have xw := x_1
 obtain ⟨W0, rfl⟩ : ∃ W, W = w2 := ⟨_, rfl⟩
 go_wp2_with fail
 go_loopw [8] (fun i wr => ∃ k : Nat, k ≤ 256 ∧ i = .int .i64 ((k : Int) - 1) ∧ Num wr B 27 (pmN m a x k) ∧ W0.grownBy wr (some B)) (fun i _ => (intOf i + 1).toNat)
 case atStart => exact ⟨K, hK1, rfl, xw, World.grownBy.refl _ _⟩
 case round =>
  obtain ⟨k, hk, rfl, hX0, hg⟩ := hrel
  clear xw
  have hg0 := hg
  have p_3 := p_2.grown hg (zbb np_x.out)
  have a_3 := a_2.grown hg (zbb na_x.out)
  have e_3 := e_2.grown hg (zbb ne_x.out)
  have r_3 := r_2.grown hg (zbb nr_x.out)
  have k_3 := k_2.grown hg (zbb nk_x.out)
  have c_3 := zf c_2 hg c_2.size lox.out
  clear p_2 a_2 e_2 r_2 k_2 c_2 hg
  rcases Nat.eq_zero_or_pos k with rfl | hkp
  ·rw [show ((0 : Nat) : Int) - 1 = -1 from rfl]
   go_upto_region 7 with (first | (refine zd rfl _ (.tmp 7) rfl _ rfl _ _ _ hX0 Tryz.underlying27 rfl ze ?_))
   go_wp2_with (first | (refine zd rfl _ (.tmp 7) rfl _ rfl _ _ _ hX0 Tryz.underlying27 rfl ze ?_) | (refine zj rfl _ (.tmp 6) _ rfl _ rfl _ rfl _ rfl r_3 ze ?_; intro w3 gw3 mw3; have p_4 := p_3.grown gw3 (zbb np_r.out); have a_4 := a_3.grown gw3 (zbb na_r.out); have e_4 := e_3.grown gw3 (zbb ne_r.out); have k_4 := k_3.grown gw3 (zbb nr_k.out.symm); have x_2 := hX0.grown gw3 (zbb nr_x.out.symm); have c_4 := zf c_3 gw3 c_3.size lor.out; clear r_3 p_3 a_3 e_3 k_3 hX0 c_3 gw3) | (refine zd rfl _ (.tmp 7) rfl _ rfl _ _ _ x_2 Tryz.underlying27 rfl ze ?_))
   exact bodyPost_ret (z0a rfl rfl mw3 Tryz.underlying27 rfl ze) rfl ⟨rfl, c_4⟩
  ·obtain ⟨j, rfl⟩ : ∃ j, k = j + 1 := ⟨k - 1, by omega⟩
   rw [show ((j + 1 : Nat) : Int) - 1 = (j : Int) by omega]
   obtain ⟨Y, Z, e1, e2, hY, hZ, hpk⟩ := pm_step ho a x j
   have hXm := pm_lt (show 0 < m by omega) a x (j + 1)
   rw [← HA.out] at e2
   obtain ⟨X, hX⟩ : ∃ X, pmN m a x (j + 1) = X := ⟨_, rfl⟩
   rw [hX] at hX0 e1 hXm
   clear hX
   obtain ⟨V, hV⟩ : ∃ V, Hid (pmN m a x j = V) := ⟨_, hid rfl⟩
   rw [hV.out] at hpk
   have cp8 : wr.cell? ⟨w.heap.size, 8, none⟩ = some (.func (.func 99) #[] #[.pointer (some ⟨C, 0, none⟩)]) := p_3.cell (k := 8) rfl
   have fp8 := p_3.frozen 8
   go_upto_region 6 with (first | (refine zd rfl _ (.tmp 7) rfl _ rfl _ _ _ hX0 Tryz.underlying27 rfl ze ?_) | (go_at_call 99; refine (pow1_any m r t n hm ho HN.out hn0 hn1 X X (by omega) hXm C _ k_3).mono ?_; rintro e wq ⟨rfl, bq⟩; rw [e1]; have xq := hX0.step bq) | (refine zj rfl _ (.tmp 7) _ rfl _ rfl _ rfl _ rfl xq ze ?_; intro wy gy my))
   have hg1 := World.grownBy.trans (World.grownBy.trans hg0 (grown_below bq)) gy
   have p_4 := p_3.step bq
   have a_4 := a_3.step bq
   have e_4 := e_3.step bq
   have r_4 := r_3.step bq
   have k_4 := k_3.step bq
   have x_2 := hX0.step bq
   have c_4 := zr c_3 bq
   clear p_3 a_3 e_3 r_3 k_3 hX0 c_3
   have p_5 := p_4.grown gy (zbb np_x.out)
   have a_5 := a_4.grown gy (zbb na_x.out)
   have e_5 := e_4.grown gy (zbb ne_x.out)
   have r_5 := r_4.grown gy (zbb nr_x.out)
   have k_5 := k_4.grown gy (zbb nk_x.out)
   have c_5 := zf c_4 gy c_4.size lox.out
   clear p_4 a_4 e_4 r_4 k_4 x_2 c_4 gy
   clear cp8 fp8
   have hAm : A < m := by rw [HA.out]; exact Nat.mod_lt _ (by omega)
   have hb0 := bitI_bd x j
   have hpick : ∀ w, Calls Tryz.prog 101 #[.int .u32 (bits BinOp.and IntKind.u32 (digI x (j / 32) / 2 ^ (j % 32)) 1), numV Z, numV Y] w fun e w' => e = .returned (numV V) ∧ Below w.heap.size w w' := fun w => by
    rw [bit_dig, ← hpk]
    exact pick_any (bitI x j) (by omega) (by omega) Z Y w
   have cp8 := fun Q : Later wy => (show Q.w.cell? ⟨w.heap.size, 8, none⟩ = some (.func (.func 99) #[] #[.pointer (some ⟨C, 0, none⟩)]) from (p_5.below Q.h p_5.lt).cell (k := 8) rfl)
   have cp9 := fun Q : Later wy => (show Q.w.cell? ⟨w.heap.size, 9, none⟩ = some (.func (.func 101) #[] #[]) from (p_5.below Q.h p_5.lt).cell (k := 9) rfl)
   have fp8 := fun Q : Later wy => (p_5.below Q.h p_5.lt).frozen 8
   have fp9 := fun Q : Later wy => (p_5.below Q.h p_5.lt).frozen 9
   have ce := fun Q : Later wy => (show Q.w.cell? ⟨w.heap.size + 1 + 1, j / 32, none⟩ = some (.int .u32 (digI x (j / 32))) from (e_5.later Q).cell (k := j / 32) (by omega))
   have fe := fun Q : Later wy => (e_5.later Q).frozen (j / 32)
   have KK := fun Q : Later wy => k_5.below Q.h k_5.lt
   have hz : ∀ w, Blk w C 99 (z1a m r t n) → Calls Tryz.prog 99 #[numV Y, numV A, .pointer (some ⟨C, 0, none⟩)] w fun e w' => e = .returned (numV Z) ∧ Below w.heap.size w w' := fun w h => by
    rw [← e2]; exact pow1_any m r t n hm ho HN.out hn0 hn1 Y A (by omega) hAm C w h
   clear hpk
   try simp only [Act.put, List.setIfInBounds_toArray, List.set_cons_zero, List.set_cons_succ]
   refine wp_region_tail (by kernel_rfl) (by kernel_rfl) (by kernel_rfl) (by kernel_rfl) (by kernel_rfl) ?_
   simp only [calm, headOps, tailOps, List.length_cons, List.length_nil, List.drop_succ_cons, List.drop_zero, Nat.zero_add, Nat.reduceAdd]
   go_big_quiet_step (fail)
   go_big_quiet_step (fail)
   go_big_quiet_step (fail)
   go_big_quiet_step (fail)
   go_big_quiet_step (fail)
   go_big_quiet_step (fail)
   go_big_quiet_step (fail)
   go_big_quiet_step (fail)
   go_big_quiet_step (fail)
   go_big_quiet_step (fail)
   go_big_quiet_step (fail)
   go_big_quiet_step (fail)
   (refine zt rfl _ (.tmp 7) rfl _ rfl _ _ _ my Tryz.underlying27 rfl ze ?_; simp only [Act.put, List.setIfInBounds_toArray, List.set_cons_zero, List.set_cons_succ])
   (refine zt rfl _ (.tmp 4) rfl _ rfl _ _ _ a_5 Tryz.underlying27 rfl ze ?_; simp only [Act.put, List.setIfInBounds_toArray, List.set_cons_zero, List.set_cons_succ])
   go_big_quiet_step (exact zzb (hz _ (KK _)))
   (refine zt rfl _ (.tmp 7) rfl _ rfl _ _ _ my Tryz.underlying27 rfl ze ?_; simp only [Act.put, List.setIfInBounds_toArray, List.set_cons_zero, List.set_cons_succ])
   go_big_quiet_step (exact zzb (hpick _))
   refine wpQuiet_nil ?_
   intro XX
   have p_6 := p_5.step XX.h
   have a_6 := a_5.step XX.h
   have e_6 := e_5.step XX.h
   have r_6 := r_5.step XX.h
   have k_6 := k_5.step XX.h
   have x_3 := my.step XX.h
   have c_6 := zr c_5 XX.h
   clear p_5 a_5 e_5 r_5 k_5 my c_5
   go_wp2_with (first | (refine zd rfl _ (.tmp 7) rfl _ rfl _ _ _ x_3 Tryz.underlying27 rfl ze ?_) | (refine zj rfl _ (.tmp 7) _ rfl _ rfl _ rfl _ rfl x_3 ze ?_; intro wv gv mv))
   go_roundw
   case rel => exact ⟨j, by omega, rfl, by rw [hV.out]; exact mv, World.grownBy.trans (World.grownBy.trans hg1 (grown_below XX.h)) gv⟩
   case measure => simp [intOf] <;> omega
end Go.Proofs.YtcfepoopkfhojaaGreat
namespace Go.Proofs.YtcfepoopkfhojaaGreat
open Go.ChangeShapes Go.WideShapes Go.ChangeAt Go.RowKit
theorem prodA_cells (R C : Nat) : (prodA R C).all (·.oneCell') = true := by simp [prodA, numF, Value.oneCell']
theorem run_buildP {a : Act} {w : World} {o : Oper} (x0 x1 : Operand) (ho : o.op = .build 134 #[(0, x0), (1, x1), (2, .func 101)]) {R C : Nat} (h0 : a.eval x0 = numV R) (h1 : a.eval x1 = .func (.func 99) #[] #[.pointer (some ⟨C, 0, none⟩)]) : (execOp a.eval o).run Tryz.prog w = .ok (.value (.agg (prodA R C))) w := by
 unfold execOp
 simp only [ho, List.map_toArray, List.map_cons, List.map_nil, h0, h1]
 kernel_rfl
theorem mtpow_any (m R T : Nat) (n : Int) (hm : m < 4294967296 ^ 8) (ho : m % 2 = 1) (hn : ∃ q, n * digI m 0 + 1 = 4294967296 * q) (hn0 : 0 ≤ n) (hn1 : n < 4294967296) (h1m : 1 < m) (hR : R = 4294967296 ^ 8 % m) (hT : T = 4294967296 ^ 8 * 4294967296 ^ 8 % m) (a x : Nat) (ha : a < 4294967296 ^ 8) (hx : x < 4294967296 ^ 8) (w : World) :
  Calls Tryz.prog 68 #[.agg (z1a m R T n), numV a, numV x] w fun e w' => e = .returned (numV (a ^ x % m)) ∧ Below w.heap.size w w' := by
 have HN := hid hn
 have HR := hid hR
 have hTm : T < m := by rw [hT]; exact Nat.mod_lt _ (by omega)
 obtain ⟨A, HA⟩ : ∃ A, Hid (A = a * 4294967296 ^ 8 % m) := ⟨_, hid rfl⟩
 have hin : ∀ w, Calls Tryz.prog 104 #[.agg (z1a m R T n), numV a] w fun e w' => e = .returned (numV A) ∧ Below w.heap.size w w' := fun w => by
  rw [HA.out, ← mm_in ho a T hT]
  exact mtin_any m R T n hm ho HN.out hn0 hn1 a ha hTm w
 have hout : ∀ w, Calls Tryz.prog 102 #[.agg (z1a m R T n), numV (a ^ x * 4294967296 ^ 8 % m)] w fun e w' => e = .returned (numV (a ^ x % m)) ∧ Below w.heap.size w w' := fun w => by
  rw [← mm_out ho (a ^ x)]
  exact mtout_any m R T n hm h1m ho HN.out hn0 hn1 _ (Nat.lt_trans (Nat.mod_lt _ (by omega)) hm) w
 clear hn hR hT
 obtain ⟨V, hV⟩ : ∃ V, V = a ^ x % m := ⟨_, rfl⟩
 obtain ⟨U, hU⟩ : ∃ U, U = a ^ x * 4294967296 ^ 8 % m := ⟨_, rfl⟩
 have hpw := fun (C : Nat) (w : World) (hC : Blk w C 99 (z1a m R T n)) => power_any m R T n hm ho HN.out hn0 hn1 a x R A hx HR.out HA.out C w hC
 rw [← hV] at hout ⊢
 rw [← hU] at hout hpw
 clear hV hU
 go_enter Tryz.func68, Tryz.ntmps68
 go_upto_region 1 with fail
 obtain ⟨W, hW⟩ : ∃ W, W = ((((((w.alloc (.cells (z1a m R T n) 99))).alloc (.cells (numA a) 27))).alloc (.cells (numA x) 27))).alloc (.cells #[Value.int .u32 0, .int .u32 0, .int .u32 0, .int .u32 0, .int .u32 0, .int .u32 0, .int .u32 0, .int .u32 0] 27) := ⟨_, rfl⟩
 have q_c : Blk W (w.heap.size) 99 (z1a m R T n) := by
  have := ((((Blk.new w 99 (z1a m R T n)).alloc (.cells (numA a) 27)).alloc (.cells (numA x) 27)).alloc (.cells #[Value.int .u32 0, .int .u32 0, .int .u32 0, .int .u32 0, .int .u32 0, .int .u32 0, .int .u32 0, .int .u32 0] 27))
  rw [hW]; exact this
 have q_a : Num W (w.heap.size + 1) 27 (a) := by
  have := (((Num.new (w.alloc (.cells (z1a m R T n) 99)) 27 (a)).alloc (.cells (numA x) 27)).alloc (.cells #[Value.int .u32 0, .int .u32 0, .int .u32 0, .int .u32 0, .int .u32 0, .int .u32 0, .int .u32 0, .int .u32 0] 27))
  rw [World.size_alloc] at this
  rw [hW]; exact this
 have q_e : Num W (w.heap.size + 1 + 1) 27 (x) := by
  have := ((Num.new (((w.alloc (.cells (z1a m R T n) 99))).alloc (.cells (numA a) 27)) 27 (x)).alloc (.cells #[Value.int .u32 0, .int .u32 0, .int .u32 0, .int .u32 0, .int .u32 0, .int .u32 0, .int .u32 0, .int .u32 0] 27))
  rw [World.size_alloc, World.size_alloc] at this
  rw [hW]; exact this
 have q_r : Num W (w.heap.size + 1 + 1 + 1) 27 0 := by
  have := (Num.new (((((w.alloc (.cells (z1a m R T n) 99))).alloc (.cells (numA a) 27))).alloc (.cells (numA x) 27)) 27 0)
  rw [World.size_alloc, World.size_alloc, World.size_alloc, ← zeroA] at this
  rw [hW]; exact this
 have gb : Below w.heap.size w W := by rw [hW]; exact (((((Below.refl _ _).alloc (by simp <;> omega) _).alloc (by simp <;> omega) _).alloc (by simp <;> omega) _).alloc (by simp <;> omega) _)
 rw [← hW]
 clear hW
 have lor := hid (show w.heap.size ≤ w.heap.size + 1 + 1 + 1 by omega)
 have nc_r := hid (show w.heap.size ≠ w.heap.size + 1 + 1 + 1 by omega)
 have na_r := hid (show w.heap.size + 1 ≠ w.heap.size + 1 + 1 + 1 by omega)
 have ne_r := hid (show w.heap.size + 1 + 1 ≠ w.heap.size + 1 + 1 + 1 by omega)
 try simp only [Act.put, List.setIfInBounds_toArray, List.set_cons_zero, List.set_cons_succ]
 go_upto_region 2 with (first | (refine zy rfl _ (.tmp 3) rfl _ rfl _ _ _ q_c Tryz.underlying99 rfl z2b ?_) | (refine zd rfl _ (.tmp 4) rfl _ rfl _ _ _ q_a Tryz.underlying27 rfl ze ?_) | (refine z3a rfl _ (.tmp 8) rfl _ _ rfl _ _ (numA R) _ q_c montA_r Tryz.underlying27 rfl ze ?_) | (refine wpList_op rfl _ (run_buildP _ _ rfl rfl rfl) ?_) | (refine zq rfl _ (.tmp 7) _ rfl _ rfl (prodA R w.heap.size) rfl (prodA_cells _ _) _ (Blk.new _ _ _) rfl size_prod ?_; intro w1 g1 m1))
 try simp only [Act.put, List.setIfInBounds_toArray, List.set_cons_zero, List.set_cons_succ]
 have nc_p := hid (show _ ≠ W.heap.size from Nat.ne_of_lt q_c.lt)
 have na_p := hid (show _ ≠ W.heap.size from Nat.ne_of_lt q_a.lt)
 have ne_p := hid (show _ ≠ W.heap.size from Nat.ne_of_lt q_e.lt)
 have nr_p := hid (show _ ≠ W.heap.size from Nat.ne_of_lt q_r.lt)
 have lop := hid (show _ ≤ W.heap.size from gb.size)
 have b_1 := zmb g1
 have c_1 := q_c.step b_1
 have a_1 := q_a.step b_1
 have e_1 := q_e.step b_1
 have r_1 := q_r.step b_1
 have c_2 := zr gb b_1
 clear q_c q_a q_e q_r gb b_1
 clear g1
 have KK := fun Q : Later w1 => c_1.below Q.h c_1.lt
 refine wp_region_tail (by kernel_rfl) (by kernel_rfl) (by kernel_rfl) (by kernel_rfl) (by kernel_rfl) ?_
 simp only [calm, headOps, tailOps, List.length_cons, List.length_nil, List.drop_succ_cons, List.drop_zero, Nat.zero_add, Nat.reduceAdd]
 (refine zjb rfl _ (.tmp 3) rfl _ rfl _ _ _ c_1 Tryz.underlying99 rfl z2b ?_; simp only [Act.put, List.setIfInBounds_toArray, List.set_cons_zero, List.set_cons_succ])
 (refine zjb rfl _ (.tmp 7) rfl _ rfl _ _ _ m1 Tryz.underlying134 rfl size_prod ?_; simp only [Act.put, List.setIfInBounds_toArray, List.set_cons_zero, List.set_cons_succ])
 (refine zjb rfl _ (.tmp 3) rfl _ rfl _ _ _ c_1 Tryz.underlying99 rfl z2b ?_; simp only [Act.put, List.setIfInBounds_toArray, List.set_cons_zero, List.set_cons_succ])
 (refine zt rfl _ (.tmp 4) rfl _ rfl _ _ _ a_1 Tryz.underlying27 rfl ze ?_; simp only [Act.put, List.setIfInBounds_toArray, List.set_cons_zero, List.set_cons_succ])
 go_big_quiet_step (exact zzb (hin _))
 (refine zt rfl _ (.tmp 5) rfl _ rfl _ _ _ e_1 Tryz.underlying27 rfl ze ?_; simp only [Act.put, List.setIfInBounds_toArray, List.set_cons_zero, List.set_cons_succ])
 go_big_quiet_step (exact zzb (hpw _ _ (KK _)))
 go_big_quiet_step (exact zzb (hout _))
 refine wpQuiet_nil ?_
 intro X_1
 have c_3 := c_1.step X_1.h
 have a_2 := a_1.step X_1.h
 have e_2 := e_1.step X_1.h
 have r_2 := r_1.step X_1.h
 have p_1 := m1.step X_1.h
 have c_4 := zr c_2 X_1.h
 clear c_1 a_1 e_1 r_1 m1 c_2
 go_wp2_with (first | (refine zj rfl _ (.tmp 6) _ rfl _ rfl _ rfl _ rfl r_2 ze ?_; intro w1 gw1 mw1; have c_5 := c_3.grown gw1 (zbb nc_r.out); have a_3 := a_2.grown gw1 (zbb na_r.out); have e_3 := e_2.grown gw1 (zbb ne_r.out); have p_2 := p_1.grown gw1 (zbb nr_p.out.symm); have c_6 := zf c_4 gw1 c_4.size lor.out; clear r_2 c_3 a_2 e_2 p_1 c_4 gw1))
 exact bodyPost_ret (z0a rfl rfl mw1 Tryz.underlying27 rfl ze) rfl ⟨rfl, c_6⟩
end Go.Proofs.YtcfepoopkfhojaaGreat
namespace Go.Proofs.YtcfepoopkfhojaaGreat
open Go.ChangeShapes Go.WideShapes Go.ChangeAt Go.RowKit
end Go.Proofs.YtcfepoopkfhojaaGreat
namespace Go.Proofs.YtcfepoopkfhojaaGreat
open Go.ChangeShapes Go.WideShapes Go.ChangeAt Go.RowKit
structure MR (m : Nat) (C : Array Value) : Prop where
 odd : m % 2 = 1
 one : 1 < m
 lt : m < 4294967296 ^ 8
 eq : C = z1a m (4294967296 ^ 8 % m) (4294967296 ^ 8 * 4294967296 ^ 8 % m) (ngI (digI m 0))
section
variable {m : Nat} {C : Array Value}
theorem MR.size (h : MR m C) : C.size = 25 := by rw [h.eq]; rfl
theorem MR.cells (h : MR m C) : C.all (·.oneCell') = true := by rw [h.eq]; exact montA_cells _ _ _ _
theorem MR.info (h : MR m C) : (Tryz.prog.info? 99).map (·.size) = some C.size := by rw [h.size]; exact z2b
theorem MR.pr (h : MR m C) (j : Nat) (v : Value) (hv : (numA (4294967296 ^ 8 % m))[j]? = some v) : C[8 + j]? = some v := by rw [h.eq]; exact montA_r j v hv
theorem MR.pn (h : MR m C) : C[24]? = some (.int .u32 (ngI (digI m 0))) := by rw [h.eq]; rfl
theorem dig0_odd {m : Nat} (h : m % 2 = 1) : digI m 0 % 2 = 1 := by unfold digI dig; simp; omega
theorem MR.ng (h : MR m C) : ∃ q, ngI (digI m 0) * digI m 0 + 1 = 4294967296 * q := ng_spec (dig0_odd h.odd)
theorem ngI_bd (o : Int) : 0 ≤ ngI o ∧ ngI o < 4294967296 := by unfold ngI; omega
theorem MR.out (h : MR m C) {a : Nat} (ha : a < 4294967296 ^ 8) (w : World) : Calls Tryz.prog 102 #[.agg C, numV a] w fun e w' => e = .returned (numV (mm m a)) ∧ Below w.heap.size w w' := by
 rw [h.eq]; exact mtout_any m _ _ _ h.lt h.one h.odd h.ng (ngI_bd _).1 (ngI_bd _).2 a ha w
theorem MR.mul (h : MR m C) {a b : Nat} (ha : a < 4294967296 ^ 8) (hb : b < m) (w : World) : Calls Tryz.prog 100 #[.agg C, numV a, numV b] w fun e w' => e = .returned (numV (mm m (a * b))) ∧ Below w.heap.size w w' := by
 rw [h.eq]; exact mtmul_any m _ _ _ h.lt h.odd h.ng (ngI_bd _).1 (ngI_bd _).2 a b ha hb w
theorem MR.pow (h : MR m C) {a x : Nat} (ha : a < 4294967296 ^ 8) (hx : x < 4294967296 ^ 8) (w : World) : Calls Tryz.prog 68 #[.agg C, numV a, numV x] w fun e w' => e = .returned (numV (a ^ x % m)) ∧ Below w.heap.size w w' := by
 rw [h.eq]; exact mtpow_any m _ _ _ h.lt h.odd h.ng (ngI_bd _).1 (ngI_bd _).2 h.one rfl rfl a x ha hx w
end
theorem mr_make {m : Nat} (ho : m % 2 = 1) (h1 : 1 < m) (hm : m < 4294967296 ^ 8) : ∃ C, MR m C ∧ ∀ w, Calls Tryz.prog 67 #[numV m] w fun e w' => e = .returned (.tuple #[.agg C, .bool true]) ∧ Below w.heap.size w w' := by
 have e : 4294967296 ^ 8 % m * (4294967296 ^ 8 % m) % m = 4294967296 ^ 8 * 4294967296 ^ 8 % m := (Nat.mul_mod _ _ _).symm
 refine ⟨_, ⟨ho, h1, hm, rfl⟩, fun w => ?_⟩
 have := mtmake_any m hm w
 rw [if_pos ⟨ho, by omega⟩, e] at this
 exact this
end Go.Proofs.YtcfepoopkfhojaaGreat
namespace Go.Proofs.YtcfepoopkfhojaaGreat
open Go.ChangeShapes Go.WideShapes Go.ChangeAt Go.RowKit
noncomputable def safeB (p : Int) : Bool := primeB (p / 2) && primeB p
end Go.Proofs.YtcfepoopkfhojaaGreat
namespace Go.Proofs.YtcfepoopkfhojaaGreat
open Go.ChangeShapes Go.WideShapes Go.ChangeAt Go.RowKit
def zg (k : Int) (p q g : Nat) : Array Value := #[.int .i64 k, numF p 0, numF p 1, numF p 2, numF p 3, numF p 4, numF p 5, numF p 6, numF p 7, numF q 0, numF q 1, numF q 2, numF q 3, numF q 4, numF q 5, numF q 6, numF q 7, numF g 0, numF g 1, numF g 2, numF g 3, numF g 4, numF g 5, numF g 6, numF g 7]
theorem zcc : (Tryz.prog.info? 29).map (·.size) = some 25 := by kernel_rfl
theorem z1b : zg 0 0 0 0 = #[Value.int .i64 0, .int .u32 0, .int .u32 0, .int .u32 0, .int .u32 0, .int .u32 0, .int .u32 0, .int .u32 0, .int .u32 0, .int .u32 0, .int .u32 0, .int .u32 0, .int .u32 0, .int .u32 0, .int .u32 0, .int .u32 0, .int .u32 0, .int .u32 0, .int .u32 0, .int .u32 0, .int .u32 0, .int .u32 0, .int .u32 0, .int .u32 0, .int .u32 0] := by unfold zg; simp only [numF_none]
theorem z8b (k : Int) (p q g : Nat) : (zg k p q g).all (·.oneCell') = true := by simp [zg, numF, Value.oneCell']
theorem run_buildG {a : Act} {w : World} {o : Oper} (x0 x1 x2 x3 : Operand) (ho : o.op = .build 29 #[(0, x0), (1, x1), (2, x2), (3, x3)]) {k : Int} {p q g : Nat} (h0 : a.eval x0 = .int .i64 k) (h1 : a.eval x1 = numV p) (h2 : a.eval x2 = numV q) (h3 : a.eval x3 = numV g) : (execOp a.eval o).run Tryz.prog w = .ok (.value (.agg (zg k p q g))) w := by
 unfold execOp
 simp only [ho, List.map_toArray, List.map_cons, List.map_nil, h0, h1, h2, h3]
 kernel_rfl
theorem zG_cells : (#[Value.int .i64 0, .int .u32 0, .int .u32 0, .int .u32 0, .int .u32 0, .int .u32 0, .int .u32 0, .int .u32 0, .int .u32 0, .int .u32 0, .int .u32 0, .int .u32 0, .int .u32 0, .int .u32 0, .int .u32 0, .int .u32 0, .int .u32 0, .int .u32 0, .int .u32 0, .int .u32 0, .int .u32 0, .int .u32 0, .int .u32 0, .int .u32 0, .int .u32 0]).all (·.oneCell') = true := by rw [← z1b]; exact z8b _ _ _ _
theorem pow_k {k : Int} (h : 12 ≤ k ∧ k ≤ 31) : 0 ≤ (2 : Int) ^ k.toNat ∧ (2 : Int) ^ k.toNat ≤ 2147483648 := by
 obtain ⟨K, rfl⟩ := Int.eq_ofNat_of_zero_le (show 0 ≤ k by omega)
 have hl : 2 ^ K ≤ 2 ^ 31 := Nat.pow_le_pow_right (by decide) (by omega)
 have e : ((2 : Int) ^ K) = ((2 ^ K : Nat) : Int) := by simp
 rw [Int.toNat_natCast, e]
 generalize 2 ^ K = P at *
 have : P ≤ 2147483648 := hl
 omega
end Go.Proofs.YtcfepoopkfhojaaGreat
