/- What WireRecords stands on, part 2. -/
import Derived.Great.BuildSlice
import Derived.Deep.Upon
import Derived.Lib.Strings
import Derived.Test.YtlbkogdmojlpmaaWireRecordsP1
namespace Go.Proofs.Ytlbkogdmojlpmaa
set_option linter.unusedVariables false
set_option maxRecDepth 20000
set_option linter.unusedSimpArgs false
open Go.ChangeShapes Go.WideShapes Go.ChangeAt Go.RowKit Go.Shelf
structure Kc (B : Nat) (w w' : World) : Prop where
  below : Below B w w'
  kept : ∀ (g : Nat) (cs : Array Value) (t : TypeId) (fr : Nat × Nat), w.heap[g]? = some (Obj.cells cs t fr) → ∃ fr2 : Nat × Nat, w'.heap[g]? = some (Obj.cells cs t fr2) ∧ (t ≠ 5 → fr2 = fr)
theorem Kc.refl (B : Nat) (w : World) : Kc B w w := ⟨Below.refl _ _, fun _ _ _ fr h => ⟨fr, h, fun _ => rfl⟩⟩
theorem Kc.of_below {B : Nat} {w w' : World} (hB : B ≤ w.heap.size) (h : Below w.heap.size w w') : Kc B w w' := ⟨h.mono hB, fun g _ _ fr hg => ⟨fr, (h.block g (heap_lt hg)).trans hg, fun _ => rfl⟩⟩
theorem Kc.rd {B : Nat} {w w' : World} {A : Option Addr} {l : List UInt8} (k : Kc B w w') (h : Rd w A l) : Rd w' A l := fun hp => by
  obtain ⟨b, o, e, hb, hc⟩ := h.at hp
  refine ⟨_, e, Nat.lt_of_lt_of_le hb k.below.size, fun j x hx => ?_⟩
  have h1 := hc j x hx
  rw [addr_add]
  cases hw : w.heap[b]? with
  | none => simp [World.cell?, hw] at h1
  | some ob =>
    cases ob with
    | cells cs t fr =>
      obtain ⟨fr', h2, _⟩ := k.kept b cs t fr hw
      simp only [World.cell?, hw] at h1
      simp only [World.cell?, h2]
      exact h1
    | _ => simp [World.cell?, hw] at h1
theorem run_cv' {P : Program} {a : Act} {w w' : World} {o : Oper} (s d : TypeId) (x : Operand) (ho : o.op = .convert s d x) {u v : Value} (hx : a.eval x = u) (h : (convert s d u).run P w = .ok v w') : (execOp a.eval o).run P w = .ok (.value v) w' := by
  simp [execOp, ho, hx, h, Result.andThen]
structure StK where
  F : World → Value → Prop
  h : ∀ B w w' v, Kc B w w' → F w v → F w' v
def StK.any : StK := ⟨fun _ _ => True, fun _ _ _ _ _ _ => trivial⟩
def StK.eq (c : Value) : StK := ⟨fun _ v => v = c, fun _ _ _ _ _ h => h⟩
theorem IsB.kc {B : Nat} {w w' : World} {l : List UInt8} {v : Value} (h : IsB w l v) (hb : Kc B w w') : IsB w' l v := by
  obtain ⟨A, c, h1, h2, h3, h4, h5⟩ := h
  exact ⟨A, c, h1, h2, h3, h4, hb.rd h5⟩
def StK.bytes (l : List UInt8) : StK := ⟨fun w v => IsB w l v, fun _ _ _ _ hb h => h.kc hb⟩
def stYK (S : List StK) (i : Nat) (w : World) (v : Value) : Prop := ((S[i]?).getD StK.any).F w v
section
variable {P : Program} {Q : Exit → Act → World → Prop} {a : Act} {w : World} {o : Oper} {F : World → Value → Prop} {B : Nat}
theorem hop_runK {ops : Array Oper} (hw : Region.wanted o (yielded ops a.tmps) = true) (v : Value) (hr : (execOp a.eval o).run P w = .ok (.value v) w) (hF : F w v) :
    if Region.wanted o (yielded ops a.tmps) = true then o.wp P a w (fun a' w' => ∃ v, a' = a.put o.dst v ∧ Kc B w w' ∧ F w' v) Q else F w undef := by
  rw [if_pos hw]
  unfold Oper.wp
  rw [hr]
  exact ⟨v, rfl, Kc.refl _ _, hF⟩
end
def relOkT (L : List Oper) (m n : Nat) : Bool :=
  Region.noSelect L.toArray && backB L.toArray &&
  ((List.range m).all fun i => match (L.take m)[i]? with
    | none => true
    | some o => (match o.dst with
        | none => true
        | some d => decide (d < n) && depOf (L.take m) d == some i) &&
      (o.looksAt L.toArray).all fun t => match depOf (L.take m) t with
        | none => true
        | some j => o.after.any fun e => Region.binds .any e && e.on == j) &&
  ((L.drop m).all fun t => t.guard.isNone) && ((List.range L.length).all fun i => decide (i < m) || (List.range i).all fun j => Region.waitsFor .any L.toArray i j)
def HopT (P : Program) (L : List Oper) (m : Nat) (Q : Exit → Act → World → Prop) (Y : Nat → World → Value → Prop) (a0 : Act) (W : World) (k : Nat) (o : Oper) : Prop :=
  ∀ (a : Act) (w : World), Below W.heap.size W w → (∀ t ∈ o.looksAt L.toArray, SlotOk (L.take m) Y a0 a w t) →
    if Region.wanted o (yielded L.toArray a.tmps) = true then o.wp P a w (fun a' w' => ∃ v, a' = a.put o.dst v ∧ Kc W.heap.size w w' ∧ Y k w' v) Q else Y k w undef
def HopAllT (P : Program) (L : List Oper) (m : Nat) (Q : Exit → Act → World → Prop) (Y : Nat → World → Value → Prop) (a0 : Act) (W : World) : List Oper → Nat → Prop
  | [], _ => True
  | o :: l, k => HopT P L m Q Y a0 W k o ∧ HopAllT P L m Q Y a0 W l (k + 1)
theorem hop_atT {P : Program} {L : List Oper} {m : Nat} {Q : Exit → Act → World → Prop} {Y : Nat → World → Value → Prop} {a0 : Act} {W : World} : ∀ (l : List Oper) (k : Nat), HopAllT P L m Q Y a0 W l k → ∀ (i : Nat) (o : Oper), l[i]? = some o → HopT P L m Q Y a0 W (k + i) o
  | [], _, _, i, o, ho => by cases ho
  | q :: l, k, h, 0, o, ho => by
    simp only [List.getElem?_cons_zero, Option.some.injEq] at ho
    subst ho; exact h.1
  | q :: l, k, h, i + 1, o, ho => by
    have := hop_atT l (k + 1) h.2 i o (by simpa using ho)
    rwa [show k + 1 + i = k + (i + 1) by omega] at this
theorem wp_region_relT {P : Program} {id : Nat} {Q : Exit → Act → World → Prop} {a0 : Act} {W : World} {L : List Oper} (m n : Nat) (hn : a0.tmps.size = n) (hm : P.follows .mixedOrders = true) (hok : relOkT L m n = true) (Y : Nat → World → Value → Prop)
    (hY : ∀ i w w' v, Kc W.heap.size w w' → Y i w v → Y i w' v) (hop : HopAllT P L m Q Y a0 W (L.take m) 0)
    (hend : ∀ (p : Nat → Value) (w : World), Below W.heap.size W w → YAll Y p w (L.take m) 0 → wpList P L.toArray Q (L.drop m) (layAll p (L.take m) 0 a0) w) : (Code.region id L.toArray true).wp P Q a0 W := by
  unfold relOkT at hok
  simp only [Bool.and_eq_true, List.all_eq_true, Option.isNone_iff_eq_none, Bool.or_eq_true, decide_eq_true_eq] at hok
  obtain ⟨⟨⟨⟨hsel, hE⟩, hall⟩, hT1⟩, hT2⟩ := hok
  have htake : ∀ (i : Nat) (o : Oper), (L.take m)[i]? = some o → i < m ∧ L[i]? = some o := fun i o h => by
    rw [List.getElem?_take] at h
    split at h
    · exact ⟨by assumption, h⟩
    · cases h
  have hintake : ∀ (i : Nat) (o : Oper), i < m → L[i]? = some o → (L.take m)[i]? = some o := fun i o h1 h2 => by
    rw [List.getElem?_take, if_pos h1]; exact h2
  have hdst : ∀ (i : Nat) (o : Oper) (d : Tmp), (L.take m)[i]? = some o → o.dst = some d → d < n ∧ depOf (L.take m) d = some i := fun i o d ho hd => by
    have h1 := hall i (List.mem_range.2 (htake i o ho).1)
    simp only [ho, hd, Bool.and_eq_true, decide_eq_true_eq, beq_iff_eq] at h1
    exact h1.1
  have hread : ∀ (i : Nat) (o : Oper) (t : Tmp) (j : Nat), (L.take m)[i]? = some o → t ∈ o.looksAt L.toArray → depOf (L.take m) t = some j → ∃ e ∈ o.after, Region.binds .any e = true ∧ e.on = j := fun i o t j ho ht hj => by
    have h1 := hall i (List.mem_range.2 (htake i o ho).1)
    simp only [ho, Bool.and_eq_true, List.all_eq_true] at h1
    have h2 := h1.2 t ht
    simp only [hj, Array.any_eq_true, Bool.and_eq_true, beq_iff_eq] at h2
    obtain ⟨x, hx, hb, he⟩ := h2
    exact ⟨_, Array.getElem_mem hx, hb, he⟩
  have hdis : ∀ (i j : Nat) (oi oj : Oper) (d : Tmp), (L.take m)[i]? = some oi → (L.take m)[j]? = some oj → j ≠ i → oi.dst = some d → oj.dst ≠ some d := fun i j oi oj d hi hj hne hd e => by
    have h1 := (hdst i oi d hi hd).2
    have h2 := (hdst j oj d hj e).2
    rw [h1] at h2
    exact hne (Option.some.inj h2).symm
  -- a tail operation that is ready: all ahead of it is listed
  have htail : ∀ (listed : Array Bool) (i : Nat), listed.size = L.toArray.size → i ∈ Region.ready .any L.toArray listed → m ≤ i → ∀ j, j < i → listed.getD j true = true := by
    intro listed i hs hi hmi j hj
    obtain ⟨hiu, o, ho, hwait⟩ := mem_ready.1 hi
    have hil : i < L.length := by simpa using (Array.getElem?_eq_some_iff.1 ho).1
    have h3 := hT2 i (List.mem_range.2 hil)
    rcases h3 with h3 | h3
    · omega
    obtain ⟨o', ho', e, he, hb, hon⟩ := Region.waitsFor_spec (h3 j (List.mem_range.2 hj))
    have : o' = o := Option.some.inj (ho'.symm.trans ho)
    subst this
    have h5 := hwait e he hb
    rw [hon, ← getD_listed (by simp at hs; omega)] at h5
    exact h5
  have hI : ∀ (listed : Array Bool) (a : Act) (w : World), (Below W.heap.size W w ∧ a.tmps.size = n ∧ a.defers = a0.defers ∧
      (∀ t : Tmp, (∀ (j : Nat) (oj : Oper), (L.take m)[j]? = some oj → listed.getD j true = true → oj.dst ≠ some t) → a.eval (.tmp t) = a0.eval (.tmp t)) ∧
      (∀ (j : Nat) (oj : Oper) (d : Tmp), (L.take m)[j]? = some oj → listed.getD j true = true → oj.dst = some d → Y j w (a.eval (.tmp d)))) → (∀ j, j < m → j < L.length → listed.getD j true = true) → wpList P L.toArray Q (L.drop m) a w := by
    rintro listed a w ⟨hB, hz, hd, hbase, hYs⟩ hl
    have hlisted : ∀ (j : Nat) (oj : Oper), (L.take m)[j]? = some oj → listed.getD j true = true := fun j oj hoj => by
      obtain ⟨h1, h2⟩ := htake j oj hoj
      exact hl j h1 (List.getElem?_eq_some_iff.1 h2).1
    have hp : a = layAll (fun j => a.eval (match ((L.take m)[j]?).bind (·.dst) with | some d => .tmp d | none => .const undef)) (L.take m) 0 a0 := by
      obtain ⟨z1, z2⟩ := lay_size (fun j => a.eval (match ((L.take m)[j]?).bind (·.dst) with | some d => .tmp d | none => .const undef)) (L.take m) 0 a0
      refine act_ext (by rw [z1, hz, hn]) (by rw [z2, hd]) fun t ht => ?_
      cases hj : depOf (L.take m) t with
      | none => rw [lay_base _ (L.take m) 0 a0 (depOf_none hj)]; exact hbase t fun j oj hoj _ => depOf_none hj j oj hoj
      | some j =>
        obtain ⟨oj, hoj, hdj⟩ := depOf_some hj
        rw [lay_at _ (L.take m) 0 j a0 oj hoj hdj (by rw [hn, ← hz]; exact ht) fun i oi hi hne => hdis j i oj oi t hoj hi hne hdj]
        rw [Nat.zero_add]
        simp only [hoj, hdj, Option.bind_some]
    rw [hp]
    refine hend _ w hB (yall_of (L.take m) 0 fun i o ho hdn => ?_)
    rw [Nat.zero_add]
    cases hdo : o.dst with
    | none => exact absurd hdo hdn
    | some d =>
      simp only [ho, hdo, Option.bind_some]
      exact hYs i o d ho (hlisted i o ho) hdo
  refine wp_region_inv hm (fun listed a w => ((∀ j, m ≤ j → j < L.length → listed.getD j true = false) ∧ Below W.heap.size W w ∧ a.tmps.size = n ∧ a.defers = a0.defers ∧
    (∀ t : Tmp, (∀ (j : Nat) (oj : Oper), (L.take m)[j]? = some oj → listed.getD j true = true → oj.dst ≠ some t) → a.eval (.tmp t) = a0.eval (.tmp t)) ∧
    (∀ (j : Nat) (oj : Oper) (d : Tmp), (L.take m)[j]? = some oj → listed.getD j true = true → oj.dst = some d → Y j w (a.eval (.tmp d)))) ∨
    (∃ k, m ≤ k ∧ (∀ j, j < L.length → (listed.getD j true = true ↔ j < k)) ∧ wpList P L.toArray Q (L.drop k) a w)) ?_ ?_ ?_
  · refine .inl ⟨fun j _ hj => by simp [hj], step_drew W, hn, rfl, fun _ _ => rfl, fun j oj d hj hl _ => ?_⟩
    have hjl := (List.getElem?_eq_some_iff.1 (htake j oj hj).2).1
    simp [hjl] at hl
  · rintro listed a w i hs hinv hi
    obtain ⟨hiu, o, ho, hwait⟩ := mem_ready.1 hi
    have ho' : L[i]? = some o := by simpa using ho
    have hil := (List.getElem?_eq_some_iff.1 ho').1
    have hsl : listed.size = L.length := by simpa using hs
    by_cases him : i < m
    · rcases hinv with ⟨htl, hB, hz, hd, hbase, hYs⟩ | ⟨k, hmk, hlk, _⟩
      · have ht' := hintake i o him ho'
        have hh := hop_atT (L.take m) 0 hop i o ht'
        rw [Nat.zero_add] at hh
        have hslots : ∀ t ∈ o.looksAt L.toArray, SlotOk (L.take m) Y a0 a w t := fun t ht => by
          unfold SlotOk
          cases hj : depOf (L.take m) t with
          | none => exact hbase t fun j oj hoj _ => depOf_none hj j oj hoj
          | some j =>
            obtain ⟨oj, hoj, hdj⟩ := depOf_some hj
            obtain ⟨e, he, hb, hon⟩ := hread i o t j ht' ht hj
            have h1 := hwait e he hb
            rw [hon] at h1
            refine hYs j oj t hoj ?_ hdj
            have hjl : j < listed.size := by rw [hsl]; exact (List.getElem?_eq_some_iff.1 (htake j oj hoj).2).1
            simpa [hjl] using h1
        have hh := hh a w hB hslots
        have hset : ∀ (v : Value) (w' : World), Kc W.heap.size w w' → Y i w' v → ((∀ j, m ≤ j → j < L.length → (listed.setIfInBounds i true).getD j true = false) ∧ Below W.heap.size W w' ∧ (a.put o.dst v).tmps.size = n ∧ (a.put o.dst v).defers = a0.defers ∧
            (∀ t : Tmp, (∀ (j : Nat) (oj : Oper), (L.take m)[j]? = some oj → (listed.setIfInBounds i true).getD j true = true → oj.dst ≠ some t) → (a.put o.dst v).eval (.tmp t) = a0.eval (.tmp t)) ∧
            (∀ (j : Nat) (oj : Oper) (d : Tmp), (L.take m)[j]? = some oj → (listed.setIfInBounds i true).getD j true = true → oj.dst = some d → Y j w' ((a.put o.dst v).eval (.tmp d)))) := fun v w' hb hy => by
          refine ⟨fun j h1 h2 => by rw [getD_set_ne true (show i ≠ j by omega)]; exact htl j h1 h2, hB.trans hb.below, by rw [put_size]; exact hz, by rw [put_defers]; exact hd, fun t ht => ?_, fun j oj d hoj hl hdj => ?_⟩
          · rw [eval_put_ne (ht i o ht' (by rw [Array.getD_eq_getD_getElem?, Array.getElem?_setIfInBounds_self]; simp [hsl, hil]))]
            refine hbase t fun j oj hoj hl => ht j oj hoj ?_
            by_cases e : i = j
            · subst e; rw [hl] at hiu; cases hiu
            · rw [getD_set_ne true e]; exact hl
          · by_cases e : i = j
            · subst e
              obtain rfl : o = oj := Option.some.inj (ht'.symm.trans hoj)
              rw [hdj, eval_put_self (by rw [hz]; exact (hdst i o d ht' hdj).1)]
              exact hy
            · rw [eval_put_ne (hdis j i oj o d hoj ht' e hdj)]
              rw [getD_set_ne true e] at hl
              exact hY j w w' _ hb (hYs j oj d hoj hl hdj)
        unfold wpOp
        simp only [ho]
        by_cases hw : Region.wanted o (yielded L.toArray a.tmps) = true
        · rw [if_pos hw] at hh ⊢
          exact .inl (Oper.wp_mono (fun a' w' ⟨v, e, hb, hy⟩ => by rw [e]; exact .inl (hset v w' hb hy)) hh)
        · rw [if_neg hw] at hh ⊢
          exact .inl (hset undef w (Kc.refl _ _) hh)
      · have := (hlk i hil).2 (by omega)
        rw [this] at hiu; cases hiu
    · have hmi : m ≤ i := Nat.le_of_not_lt him
      have hahead := htail listed i hs hi hmi
      have hk : (∀ j, j < L.length → (listed.getD j true = true ↔ j < i)) ∧ wpList P L.toArray Q (L.drop i) a w := by
        rcases hinv with ⟨htl, hrest⟩ | ⟨k, hmk, hlk, hwp⟩
        · obtain rfl : i = m := by
            refine Nat.le_antisymm (Nat.le_of_not_lt fun hlt => ?_) hmi
            have h1 := hahead m hlt
            rw [htl m (Nat.le_refl _) (by omega)] at h1; cases h1
          refine ⟨fun j hj => ⟨fun h => Nat.lt_of_not_le fun h2 => ?_, hahead j⟩, hI listed a w hrest fun j h1 _ => hahead j h1⟩
          rw [htl j h2 hj] at h; cases h
        · obtain rfl : k = i := by
            refine Nat.le_antisymm (Nat.le_of_not_lt fun hlt => ?_) (Nat.le_of_not_lt fun hlt => ?_)
            · have := (hlk i hil).2 hlt
              rw [this] at hiu; cases hiu
            · have := (hlk k (by omega)).1 (hahead k hlt)
              omega
          exact ⟨hlk, hwp⟩
      obtain ⟨hlk, hwp⟩ := hk
      have hdr : L.drop i = L[i] :: L.drop (i + 1) := List.drop_eq_getElem_cons hil
      have hoe : L[i] = o := by rw [List.getElem?_eq_getElem hil] at ho'; exact Option.some.inj ho'
      rw [hoe] at hdr
      have hg := hT1 o (by
        have h6 : L.drop i = (L.drop m).drop (i - m) := by rw [List.drop_drop]; congr 1; omega
        have h7 : o ∈ L.drop i := by rw [hdr]; exact List.mem_cons_self
        rw [h6] at h7
        exact List.mem_of_mem_drop h7)
      have hset : ∀ j, j < L.length → ((listed.setIfInBounds i true).getD j true = true ↔ j < i + 1) := by
        intro j hj
        by_cases hji : j = i
        · subst hji; simp [hsl, hj]
        · rw [getD_set_ne true (fun e => hji e.symm), hlk j hj]; omega
      rw [hdr] at hwp
      unfold wpList at hwp
      unfold wpOp
      simp only [ho]
      have hw' : ∀ g, Region.wanted o g = true := fun g => by simp [Region.wanted, hg]
      simp only [hw', if_true] at hwp ⊢
      exact hwp.imp (Oper.wp_mono fun a' w' h' => .inr ⟨i + 1, by omega, hset, h'⟩) (fun h => h)
  · rintro listed a w hs hinv hr
    have hsl : listed.size = L.length := by simpa using hs
    have hlisted : ∀ j, j < L.length → listed.getD j true = true := fun j hj => by
      cases h : listed.getD j true with
      | true => rfl
      | false => exact absurd hr (ready_of_unlisted hE hs j (by simpa using hj) h)
    have hwp : ∃ k, L.length ≤ k ∧ wpList P L.toArray Q (L.drop k) a w := by
      rcases hinv with ⟨htl, hrest⟩ | ⟨k, hmk, hlk, hwp⟩
      · refine ⟨m, Nat.le_of_not_lt fun hlt => ?_, hI listed a w hrest fun j _ hj => hlisted j hj⟩
        have h1 := htl m (Nat.le_refl _) hlt
        rw [hlisted m hlt] at h1; cases h1
      · refine ⟨k, Nat.le_of_not_lt fun hlt => ?_, hwp⟩
        exact absurd ((hlk k hlt).1 (hlisted k hlt)) (Nat.lt_irrefl _)
    obtain ⟨k, h1, h2⟩ := hwp
    rw [List.drop_eq_nil_of_le h1] at h2
    exact h2
theorem wp_region_stT {P : Program} {id : Nat} {Q : Exit → Act → World → Prop} {a0 : Act} {W : World} {L : List Oper} (S : List StK) (m n : Nat) (hn : a0.tmps.size = n) (hm : P.follows .mixedOrders = true) (hok : relOkT L m n = true)
    (hop : HopAllT P L m Q (stYK S) a0 W (L.take m) 0)
    (hend : ∀ (p : Nat → Value) (w : World), Below W.heap.size W w → YAll (stYK S) p w (L.take m) 0 → wpList P L.toArray Q (L.drop m) (layAll p (L.take m) 0 a0) w) : (Code.region id L.toArray true).wp P Q a0 W :=
  wp_region_relT m n hn hm hok (stYK S) (fun i w w' v hb h => ((S[i]?).getD StK.any).h _ w w' v hb h) hop hend
def StK.new (B : Nat) (cs : Array Value) (t : TypeId) (ht : t ≠ 5) : StK := ⟨fun w v => ∃ g, v = .pointer (some ⟨g, 0, none⟩) ∧ B ≤ g ∧ w.heap[g]? = some (.cells cs t (0, 0)), fun _ _ _ _ hb h => by
  obtain ⟨g, h1, h2, h3⟩ := h
  obtain ⟨fr', h3', he⟩ := hb.kept _ _ _ _ h3
  rw [he ht] at h3'
  exact ⟨g, h1, h2, h3'⟩⟩
theorem Kc.isCells {B : Nat} {w w' : World} (k : Kc B w w') {b o : Nat} {v : Value} (h : w.cell? ⟨b, o, none⟩ = some v) : w'.cell? ⟨b, o, none⟩ = some v := by
  cases hw : w.heap[b]? with
  | none => simp [World.cell?, hw] at h
  | some ob =>
    cases ob with
    | cells cs t fr =>
      obtain ⟨fr', h2, _⟩ := k.kept b cs t fr hw
      simp only [World.cell?, hw] at h
      simp only [World.cell?, h2]
      exact h
    | _ => simp [World.cell?, hw] at h
end Go.Proofs.Ytlbkogdmojlpmaa
namespace Go.Proofs.Ytlbkogdmojlpmaa
set_option linter.unusedVariables false
set_option maxRecDepth 20000
set_option linter.unusedSimpArgs false
open Go.ChangeShapes Go.WideShapes Go.ChangeAt Go.RowKit Go.Shelf
variable {ds : List Deferred}
def look {α : Type} : List (Nat × α) → Nat → Option α
  | [], _ => none
  | p :: L, t => match Nat.beq p.1 t with
    | true => some p.2
    | false => look L t
theorem look_cons {α : Type} (k : Nat) (x : α) (L : List (Nat × α)) (t : Nat) : look ((k, x) :: L) t = if k = t then some x else look L t := by
  have e : look ((k, x) :: L) t = (match Nat.beq k t with
    | true => some x
    | false => look L t) := rfl
  rw [e]
  by_cases h : k = t
  · subst h
    rw [if_pos rfl, Nat.beq_refl]
  · have : Nat.beq k t = false := by cases hb : Nat.beq k t with
      | false => rfl
      | true => exact absurd (Nat.eq_of_beq_eq_true hb) h
    rw [if_neg h, this]
structure Fx (n : Nat) (a : Act) (V : List (Nat × Value)) (ds : List Deferred := []) : Prop where
  size : a.tmps.size = n
  defers : a.defers = ds
  at_ : ∀ t v, look V t = some v → a.eval (.tmp t) = v
theorem Fx.get {n : Nat} {a : Act} {V : List (Nat × Value)} (F : Fx n a V ds) {t : Nat} {v : Value} (h : look V t = some v) : a.eval (.tmp t) = v := F.at_ t v h
theorem Fx.put {n : Nat} {a : Act} {V : List (Nat × Value)} (F : Fx n a V ds) (d : Nat) (v : Value) (hd : Nat.blt d n = true) : Fx n (a.put (some d) v) ((d, v) :: V) ds :=
  ⟨by rw [put_size]; exact F.size, by rw [put_defers]; exact F.defers, fun t u h => by
    rw [look_cons] at h
    by_cases e : d = t
    · subst e
      rw [if_pos rfl] at h
      rw [eval_put_self (by rw [F.size]; exact Nat.le_of_ble_eq_true hd)]
      exact Option.some.inj h
    · rw [if_neg e] at h
      rw [eval_put_ne (fun e2 => e (Option.some.inj e2))]
      exact F.at_ t u h⟩
theorem Fx.eq {n : Nat} {a : Act} {V V' : List (Nat × Value)} (F : Fx n a V ds) (h : ∀ t v, look V' t = some v → look V t = some v) : Fx n a V' ds := ⟨F.size, F.defers, fun t v e => F.at_ t v (h t v e)⟩
theorem Fx.zero {vs : Array Value} {n m : Nat} (V : List (Nat × Value)) (hn : vs.size + m = n) (h : ∀ t v, look V t = some v → vs[t]? = some v) : Fx n { tmps := vs ++ Array.replicate m undef, defers := [] } V :=
  ⟨by simp [hn], rfl, fun t v e => by
    have h1 := h t v e
    have hl := (Array.getElem?_eq_some_iff.1 h1).1
    simp [Act.eval, Array.getD_eq_getD_getElem?, Array.getElem?_append_left hl, h1]⟩
def file : Nat → List Value → List (Nat × Value)
  | _, [] => []
  | k, v :: L => (k, v) :: file (k + 1) L
theorem look_file : ∀ (L : List Value) (k t : Nat) (v : Value), look (file k L) t = some v → k ≤ t ∧ L[t - k]? = some v
  | [], k, t, v, h => by cases h
  | u :: L, k, t, v, h => by
    unfold file at h
    rw [look_cons] at h
    by_cases e : k = t
    · subst e
      rw [if_pos rfl] at h
      exact ⟨Nat.le_refl _, by rw [Nat.sub_self]; simpa using h⟩
    · rw [if_neg e] at h
      obtain ⟨h1, h2⟩ := look_file L (k + 1) t v h
      exact ⟨by omega, by rw [show t - k = (t - (k + 1)) + 1 by omega]; simpa using h2⟩
section
variable {P : Program}
theorem calls_fx {f : FuncId} {fn : Func} {c : Code} {args : List Value} {w : World} {R : Ending → World → Prop} (n : Nat) (hf : P.funcs[f]? = some fn) (hb : fn.body = some c) (hn : fn.ntmps = n) (hl : Nat.ble args.length n = true)
    (h : ∀ a, Fx n a (file 0 args) → c.wp P (bodyPost P fn R) a w) : Calls P f args.toArray w R := by
  refine calls_of_wp hf hb (h _ ?_)
  have hl' : args.length ≤ n := Nat.le_of_ble_eq_true hl
  refine Fx.zero _ (by simp [hn]; omega) fun t v e => ?_
  have := (look_file args 0 t v e).2
  simpa using this
section
variable {ops : Array Oper} {Q : Exit → Act → World → Prop} {a : Act} {w w' : World} {rest : List Oper} {o : Oper} {n : Nat} {V : List (Nat × Value)}
theorem wl_run (hw : Region.wanted o (yielded ops a.tmps) = true) {d : Nat} (hd : o.dst = some d) (F : Fx n a V ds) (hn : Nat.blt d n = true) (v : Value) (hr : (execOp a.eval o).run P w = .ok (.value v) w')
    (h : ∀ a', Fx n a' ((d, v) :: V) ds → wpList P ops Q rest a' w') : wpList P ops Q (o :: rest) a w :=
  wpList_want hw fun K hK => by
    unfold Oper.wp
    rw [hr]
    have := F.put d v hn
    rw [← hd] at this
    exact hK _ _ (h _ this)
theorem wl_do (hw : Region.wanted o (yielded ops a.tmps) = true) (hd : o.dst = none) (F : Fx n a V ds) (hr : (execOp a.eval o).run P w = .ok .skip w')
    (h : wpList P ops Q rest a w') : wpList P ops Q (o :: rest) a w :=
  wpList_want hw fun K hK => by
    unfold Oper.wp
    rw [hr]
    have e : a.put o.dst undef = a := by rw [hd]; rfl
    show K (a.put o.dst undef) w'
    rw [e]
    exact hK _ _ h
theorem wl_skip (hw : Region.wanted o (yielded ops a.tmps) = false) {d : Nat} (hd : o.dst = some d) (F : Fx n a V ds) (hn : Nat.blt d n = true)
    (h : ∀ a', Fx n a' ((d, undef) :: V) ds → wpList P ops Q rest a' w) : wpList P ops Q (o :: rest) a w :=
  wpList_skip hw (by
    have := F.put d undef hn
    rw [← hd] at this
    exact h _ this)
theorem wanted_no {ops : Array Oper} {g : Nat} {b : Bool} {og : Oper} {d : Tmp} (hg : o.guard = some (g, b)) (ho : ops[g]? = some og) (hd : og.dst = some d) (hv : a.eval (.tmp d) = .bool (!b)) : Region.wanted o (yielded ops a.tmps) = false := by
  rw [wanted_by hg ho hd hv]; cases b <;> rfl
theorem wanted_un {ops : Array Oper} {g : Nat} {b : Bool} {og : Oper} {d : Tmp} (hg : o.guard = some (g, b)) (ho : ops[g]? = some og) (hd : og.dst = some d) (hv : a.eval (.tmp d) = undef) : Region.wanted o (yielded ops a.tmps) = false := by
  have h1 : yielded ops a.tmps g = none := by
    simp only [yielded, ho, Option.bind_some, hd]
    simp only [Act.eval, Array.getD_eq_getD_getElem?] at hv
    cases h : a.tmps[d]? with
    | none => simp [h]
    | some u => rw [h] at hv; simp at hv; subst hv; simp [h, undef]
  simp [Region.wanted, hg, h1]
theorem wl_call (hw : Region.wanted o (yielded ops a.tmps) = true) {d : Nat} (hd : o.dst = some d) (F : Fx n a V ds) (hn : Nat.blt d n = true) {f : FuncId} {args : Array Operand} {ts : Array TypeId} (ho : o.op = .call { callee := .value (.func f), args := args, argTypes := ts })
    (hr : ∀ args w, (callFunc f args).run P w = .ok (.enter f args) w) (vals : Array Value) (hv : args.map a.eval = vals) {G : Value → World → Prop}
    (hc : Calls P f vals w fun e w' => ∃ v, e = .returned v ∧ G v w')
    (h : ∀ v w' a', G v w' → Fx n a' ((d, v) :: V) ds → wpList P ops Q rest a' w') : wpList P ops Q (o :: rest) a w :=
  wpList_want hw fun K hK => by
    subst hv
    unfold Oper.wp
    have : (execOp a.eval o).run P w = .ok (.enter f (args.map a.eval)) w := by
      simp [execOp, ho, resolve, invoke, Act.eval, go_sem, hr]
    rw [this]
    refine hc.mono fun e w' ⟨v, he, hb⟩ => ?_
    subst he
    have := F.put d v hn
    rw [← hd] at this
    exact hK _ _ (h _ _ _ hb this)
end
theorem res1 {fn : Func} {t : Tmp} {a : Act} {v : Value} {w : World} (h : fn.results = #[.tmp t]) (e : a.eval (.tmp t) = v) : (results fn a.tmps).run P w = .ok v w := by
  rw [results_tmp h]; exact congrArg (fun v => Result.ok v w) e
theorem res0 {fn : Func} {a : Act} {w : World} (h : fn.results = #[]) : (results fn a.tmps).run P w = .ok (.tuple #[]) w := results_none h _ _ _
theorem res2 {fn : Func} {t u : Tmp} {a : Act} {v x : Value} {w : World} (h : fn.results = #[.tmp t, .tmp u]) (e : a.eval (.tmp t) = v) (e2 : a.eval (.tmp u) = x) : (results fn a.tmps).run P w = .ok (.tuple #[v, x]) w := by
  rw [results_tmp2 h, ← e, ← e2]; rfl
def layV (p : Nat → Value) : List Oper → Nat → List (Nat × Value) → List (Nat × Value)
  | [], _, V => V
  | o :: l, k, V => match o.dst with
    | some d => layV p l (k + 1) ((d, p k) :: V)
    | none => layV p l (k + 1) V
theorem Fx.lay (p : Nat → Value) {n : Nat} : ∀ (l : List Oper) (k : Nat) (a : Act) (V : List (Nat × Value)), Fx n a V ds → (∀ (i : Nat) (o : Oper) (d : Nat), l[i]? = some o → o.dst = some d → d < n) → Fx n (layAll p l k a) (layV p l k V) ds
  | [], _, _, _, F, _ => F
  | o :: l, k, a, V, F, h => by
    have h0 := h 0 o
    cases ho : o.dst with
    | none =>
      have e : layAll p (o :: l) k a = layAll p l (k + 1) a := by simp only [layAll, ho]; rfl
      rw [e]
      unfold layV
      rw [ho]
      exact Fx.lay p l (k + 1) a V F fun i o' d h1 h2 => h (i + 1) o' d (by simpa using h1) h2
    | some d =>
      have e : layAll p (o :: l) k a = layAll p l (k + 1) (a.put (some d) (p k)) := by simp only [layAll, ho]
      rw [e]
      unfold layV
      rw [ho]
      exact Fx.lay p l (k + 1) _ _ (F.put d (p k) (by have := h0 d rfl ho; simp [Nat.blt]; omega)) fun i o' d h1 h2 => h (i + 1) o' d (by simpa using h1) h2
theorem relOkT_dst {L : List Oper} {m n : Nat} (hok : relOkT L m n = true) : ∀ (i : Nat) (o : Oper) (d : Nat), (L.take m)[i]? = some o → o.dst = some d → d < n := by
  unfold relOkT at hok
  simp only [Bool.and_eq_true, List.all_eq_true] at hok
  obtain ⟨⟨⟨⟨-, -⟩, hall⟩, -⟩, -⟩ := hok
  intro i o d ho hd
  have hi : i < m := by
    rw [List.getElem?_take] at ho
    split at ho
    · assumption
    · cases ho
  have h1 := hall i (List.mem_range.2 hi)
  simp only [ho, hd, Bool.and_eq_true, decide_eq_true_eq] at h1
  exact h1.1.1
theorem region_fx {id : Nat} {Q : Exit → Act → World → Prop} {a0 : Act} {W : World} {L : List Oper} {n : Nat} {V : List (Nat × Value)} (F : Fx n a0 V ds) (S : List StK) (m : Nat) (hm : P.follows .mixedOrders = true) (hok : relOkT L m n = true)
    (hop : HopAllT P L m Q (stYK S) a0 W (L.take m) 0)
    (hend : ∀ (p : Nat → Value) (a : Act) (w : World), Kc W.heap.size W w → Fx n a (layV p (L.take m) 0 V) ds → YAll (stYK S) p w (L.take m) 0 → wpList P L.toArray Q (L.drop m) a w) : (Code.region id L.toArray true).wp P Q a0 W :=
  wp_region_stT S m n F.size hm hok hop fun p w hb hY => hend p _ w (by exact Kc.of_below (Nat.le_refl _) hb) (F.lay p (L.take m) 0 a0 V (relOkT_dst hok)) hY
end
structure Res where
  wr : Bool
  fp : Nat → Prop
  F : World → Prop
structure Same (fp : Nat → Prop) (w w' : World) : Prop where
  at_ : ∀ (g : Nat) (o : Obj), fp g → w.heap[g]? = some o → w'.heap[g]? = some o
  size : w.heap.size ≤ w'.heap.size
instance {fp : Nat → Prop} {w w' : World} : CoeFun (Same fp w w') fun _ => ∀ (g : Nat) (o : Obj), fp g → w.heap[g]? = some o → w'.heap[g]? = some o := ⟨Same.at_⟩
structure Mx (G : Option Nat) (w0 w : World) (R : List (Nat × Res)) : Prop where
  grown : w0.grownBy w G
  at_ : ∀ i r, look R i = some r → r.F w
  dep : ∀ i r, look R i = some r → ∀ u u', Same r.fp u u' → r.F u → r.F u'
  lt : ∀ i r, look R i = some r → ∀ g, r.fp g → g < w.heap.size
  own : ∀ i r, look R i = some r → r.wr = true → ∀ g, r.fp g → w0.heap.size ≤ g ∨ G = some g
  dis : ∀ i j r s, look R i = some r → look R j = some s → i ≠ j → r.wr = true → ∀ g, r.fp g → ¬ s.fp g
section
variable {G : Option Nat} {w0 w w' : World} {R : List (Nat × Res)}
theorem Same.of_below {fp : Nat → Prop} (h : Below w.heap.size w w') : Same fp w w' := ⟨fun g o _ hg => (h.block g (Array.getElem?_eq_some_iff.1 hg).1).trans hg, h.size⟩
theorem Same.of_grown {fp : Nat → Prop} {row : Option Nat} (h : w.grownBy w' row) (hn : ∀ g, fp g → row ≠ some g) : Same fp w w' := ⟨fun g o hf hg => (h.block g (Array.getElem?_eq_some_iff.1 hg).1 (fun e => hn g hf e.symm)).trans hg, h.size⟩
theorem Mx.start (w : World) : Mx none w w [] :=
  ⟨World.grownBy.refl _ _, fun _ _ h => (by cases h), fun _ _ h => (by cases h), fun _ _ h => (by cases h), fun _ _ h => (by cases h), fun _ _ _ _ h => (by cases h)⟩
theorem Mx.startG (w : World) (g : Nat) : Mx (some g) w w [] :=
  ⟨World.grownBy.refl _ _, fun _ _ h => (by cases h), fun _ _ h => (by cases h), fun _ _ h => (by cases h), fun _ _ h => (by cases h), fun _ _ _ _ h => (by cases h)⟩
theorem Mx.get (M : Mx G w0 w R) {i : Nat} {r : Res} (h : look R i = some r) : r.F w := M.at_ i r h
theorem Mx.le (M : Mx G w0 w R) : w0.heap.size ≤ w.heap.size := M.grown.size
theorem Mx.below (M : Mx none w0 w R) : Below w0.heap.size w0 w := ⟨M.grown.os, M.grown.tape, M.grown.output, M.grown.size, fun k hk => M.grown.block k hk (fun e => by cases e)⟩
theorem Mx.step (M : Mx G w0 w R) (h : Below w.heap.size w w') : Mx G w0 w' R :=
  ⟨World.grownBy.trans M.grown ⟨h.os, h.tape, h.output, h.size, fun k hk _ => h.block k hk⟩, fun i r e => M.dep i r e w w' (.of_below h) (M.at_ i r e), M.dep, fun i r e g hg => Nat.lt_of_lt_of_le (M.lt i r e g hg) h.size, M.own, M.dis⟩
theorem Mx.kc (M : Mx G w0 w R) (h : Kc w.heap.size w w') : Mx G w0 w' R := M.step h.below
theorem Mx.drop (M : Mx G w0 w R) {R' : List (Nat × Res)} (h : ∀ i r, look R' i = some r → look R i = some r) : Mx G w0 w R' :=
  ⟨M.grown, fun i r e => M.at_ i r (h i r e), fun i r e => M.dep i r (h i r e), fun i r e => M.lt i r (h i r e), fun i r e => M.own i r (h i r e), fun i j r s e1 e2 => M.dis i j r s (h i r e1) (h j s e2)⟩
theorem Mx.cons (M : Mx G w0 w R) (i : Nat) (r : Res) (hF : r.F w) (hdep : ∀ u u', Same r.fp u u' → r.F u → r.F u') (hlt : ∀ g, r.fp g → g < w.heap.size) (hown : r.wr = true → ∀ g, r.fp g → w0.heap.size ≤ g ∨ G = some g)
    (hdis : ∀ k s, look R k = some s → i ≠ k → (r.wr = true ∨ s.wr = true) → ∀ g, r.fp g → ¬ s.fp g) : Mx G w0 w ((i, r) :: R) := by
  refine ⟨M.grown, fun j s e => ?_, fun j s e => ?_, fun j s e => ?_, fun j s e => ?_, fun j k s t e1 e2 hjk hs g hg hg2 => ?_⟩
  · rw [look_cons] at e; split at e
    · cases e; exact hF
    · exact M.at_ j s e
  · rw [look_cons] at e; split at e
    · cases e; exact hdep
    · exact M.dep j s e
  · rw [look_cons] at e; split at e
    · cases e; exact hlt
    · exact M.lt j s e
  · rw [look_cons] at e; split at e
    · cases e; exact hown
    · exact M.own j s e
  · rw [look_cons] at e1 e2
    by_cases h1 : i = j
    · rw [if_pos h1] at e1; cases e1
      rw [if_neg (fun e => hjk (h1.symm.trans e))] at e2
      exact hdis k t e2 (fun e => hjk (h1.symm.trans e)) (.inl hs) g hg hg2
    · rw [if_neg h1] at e1
      by_cases h2 : i = k
      · rw [if_pos h2] at e2; cases e2
        exact hdis j s e1 h1 (.inr hs) g hg2 hg
      · rw [if_neg h2] at e2
        exact M.dis j k s t e1 e2 hjk hs g hg hg2
theorem Mx.fresh (M : Mx G w0 w R) (h : Below w.heap.size w w') (i : Nat) (r : Res) (hF : r.F w') (hdep : ∀ u u', Same r.fp u u' → r.F u → r.F u') (hlo : ∀ g, r.fp g → w.heap.size ≤ g ∧ g < w'.heap.size) : Mx G w0 w' ((i, r) :: R) :=
  (M.step h).cons i r hF hdep (fun g hg => (hlo g hg).2) (fun _ g hg => .inl (Nat.le_trans M.le (hlo g hg).1)) fun k s e _ _ g hg hg2 => by
    have := M.lt k s e g hg2
    have := (hlo g hg).1
    omega
theorem Mx.arg (M : Mx G w0 w R) (i : Nat) (r : Res) (hF : r.F w) (hdep : ∀ u u', Same r.fp u u' → r.F u → r.F u') (hw : r.wr = false) (hlo : ∀ g, r.fp g → g < w0.heap.size ∧ G ≠ some g) : Mx G w0 w ((i, r) :: R) :=
  M.cons i r hF hdep (fun g hg => Nat.lt_of_lt_of_le (hlo g hg).1 M.le) (fun e => by rw [hw] at e; cases e) fun k s e _ hh g hg hg2 => by
    rcases hh with hh | hh
    · rw [hw] at hh; cases hh
    · rcases M.own k s e hh g hg2 with h | h
      · have := (hlo g hg).1; omega
      · exact (hlo g hg).2 h
theorem Mx.part (M : Mx G w0 w R) (i : Nat) (r : Res) (hF : r.F w) (hdep : ∀ u u', Same r.fp u u' → r.F u → r.F u') (hw : r.wr = false) {k : Nat} {s : Res} (hk : look R k = some s) (hs : s.wr = false) (hlo : ∀ g, r.fp g → s.fp g) : Mx G w0 w ((i, r) :: R) :=
  M.cons i r hF hdep (fun g hg => M.lt k s hk g (hlo g hg)) (fun e => by rw [hw] at e; cases e) fun q t e _ hh g hg hg2 => by
    rcases hh with hh | hh
    · rw [hw] at hh; cases hh
    · exact M.dis q k t s e hk (fun e2 => by subst e2; rw [e] at hk; cases hk; rw [hs] at hh; cases hh) hh g hg2 (hlo g hg)
theorem Mx.write (M : Mx G w0 w R) {k : Nat} {s : Res} (hk : look R k = some s) (hs : s.wr = true) {row : Option Nat} (hb : w.grownBy w' row) (hrow : ∀ g, row = some g → s.fp g) (r : Res) (hF : r.F w') (hdep : ∀ u u', Same r.fp u u' → r.F u → r.F u')
    (hlo : ∀ g, r.fp g → g < w'.heap.size ∧ (s.fp g ∨ w.heap.size ≤ g)) : Mx G w0 w' ((k, r) :: R) := by
  have hG : w0.grownBy w' G := by
    refine ⟨hb.os.trans M.grown.os, hb.tape.trans M.grown.tape, hb.output.trans M.grown.output, Nat.le_trans M.grown.size hb.size, fun q hq hn => ?_⟩
    refine (hb.block q (Nat.lt_of_lt_of_le hq M.le) (fun e => ?_)).trans (M.grown.block q hq hn)
    rcases M.own k s hk hs q (hrow q e.symm) with h | h
    · omega
    · exact hn h.symm
  have keep : ∀ j t, look R j = some t → k ≠ j → Same t.fp w w' := fun j t e hkj => .of_grown hb fun g hg e2 => M.dis k j s t hk e hkj hs g (hrow g e2) hg
  refine ⟨hG, fun j t e => ?_, fun j t e => ?_, fun j t e => ?_, fun j t e ht g hg => ?_, fun j q t u e1 e2 hjq ht g hg hg2 => ?_⟩
  · rw [look_cons] at e; split at e
    · cases e; exact hF
    · rename_i hne; exact M.dep j t e w w' (keep j t e hne) (M.at_ j t e)
  · rw [look_cons] at e; split at e
    · cases e; exact hdep
    · exact M.dep j t e
  · rw [look_cons] at e; split at e
    · cases e; exact fun g hg => (hlo g hg).1
    · exact fun g hg => Nat.lt_of_lt_of_le (M.lt j t e g hg) hb.size
  · rw [look_cons] at e; split at e
    · cases e
      rcases (hlo g hg).2 with h | h
      · exact M.own k s hk hs g h
      · exact .inl (Nat.le_trans M.le h)
    · exact M.own j t e ht g hg
  · rw [look_cons] at e1 e2
    by_cases h1 : k = j
    · rw [if_pos h1] at e1; cases e1
      have hkq : k ≠ q := fun e => hjq (h1.symm.trans e)
      rw [if_neg hkq] at e2
      rcases (hlo g hg).2 with h | h
      · exact M.dis k q s u hk e2 hkq hs g h hg2
      · have := M.lt q u e2 g hg2; omega
    · rw [if_neg h1] at e1
      by_cases h2 : k = q
      · rw [if_pos h2] at e2; cases e2
        rcases (hlo g hg2).2 with h | h
        · exact M.dis k j s t hk e1 h1 hs g h hg
        · have := M.lt j t e1 g hg; omega
      · rw [if_neg h2] at e2
        exact M.dis j q t u e1 e2 hjq ht g hg hg2
end
def blkR (g : Nat) (t : TypeId) (c : Array Value) : Res := ⟨true, fun b => b = g, fun w => w.heap[g]? = some (.cells c t (0, 0))⟩
def blkO (g : Nat) (t : TypeId) (c : Array Value) : Res := ⟨false, fun b => b = g, fun w => w.heap[g]? = some (.cells c t (0, 0))⟩
theorem blkR_dep {g : Nat} {t : TypeId} {c : Array Value} : ∀ u u', Same (blkR g t c).fp u u' → (blkR g t c).F u → (blkR g t c).F u' := fun u u' hs h => hs g _ rfl h
section
variable {G : Option Nat} {w0 w w' : World} {R : List (Nat × Res)}
theorem Mx.alloc (M : Mx G w0 w R) (i : Nat) (t : TypeId) (c : Array Value) : Mx G w0 (w.alloc (.cells c t)) ((i, blkR w.heap.size t c) :: R) :=
  M.fresh (step_alloc w _) i _ (heap_alloc_new _ _) blkR_dep (fun g hg => by cases hg; exact ⟨Nat.le_refl _, by simp⟩)
theorem Mx.newb (M : Mx G w0 w R) (h : Below w.heap.size w w') (i : Nat) {g : Nat} {t : TypeId} {c : Array Value} (hg : w.heap.size ≤ g) (hc : w'.heap[g]? = some (.cells c t (0, 0))) : Mx G w0 w' ((i, blkR g t c) :: R) :=
  M.fresh h i _ hc blkR_dep (fun b hb => by cases hb; exact ⟨hg, heap_lt hc⟩)
theorem Mx.theG {g : Nat} {t : TypeId} {c : Array Value} (h : w.heap[g]? = some (.cells c t (0, 0))) (i : Nat) : Mx (some g) w w [(i, blkR g t c)] :=
  (Mx.startG w g).cons i _ h blkR_dep (fun b hb => by cases hb; exact heap_lt h) (fun _ b hb => by cases hb; exact .inr rfl) fun k s e => by cases e
theorem Mx.put (M : Mx G w0 w R) {k g : Nat} {t : TypeId} {c c' : Array Value} (hk : look R k = some (blkR g t c)) (hg : w.grownBy w' (some g)) (hc : w'.heap[g]? = some (.cells c' t (0, 0))) : Mx G w0 w' ((k, blkR g t c') :: R) :=
  M.write hk rfl hg (fun b hb => by cases hb; rfl) _ hc blkR_dep (fun b hb => by cases hb; exact ⟨heap_lt hc, .inl rfl⟩)
theorem Mx.blk (M : Mx G w0 w R) {k g : Nat} {t : TypeId} {c : Array Value} (hk : look R k = some (blkR g t c)) : w.heap[g]? = some (.cells c t (0, 0)) := M.at_ k _ hk
theorem Mx.roB (M : Mx G w0 w R) {k g : Nat} {t : TypeId} {c : Array Value} (hk : look R k = some (blkO g t c)) : w.heap[g]? = some (.cells c t (0, 0)) := M.at_ k _ hk
end
section
variable {P : Program} {a : Act} {w : World} {o : Oper}
theorem y_cell {g k : Nat} {t : TypeId} {c : Array Value} (h : w.heap[g]? = some (.cells c t (0, 0))) {v : Value} (hk : c[k]? = some v) : w.cell? ⟨g, k, none⟩ = some v := by simp [World.cell?, h, hk]
def yPlain : TypeDesc → Bool
  | .struct _ => false
  | .array _ _ => false
  | _ => true
theorem y_ld1 (ty : TypeId) (x : Operand) (ho : o.op = .load ty x) {g k : Nat} (hx : a.eval x = .pointer (some ⟨g, k, none⟩)) {t : TypeId} {c : Array Value} (hg : w.heap[g]? = some (.cells c t (0, 0))) {v : Value} (hv : c[k]? = some v) {d : TypeDesc} (hu : P.underlying ty = some d) (hd : yPlain d = true) : (execOp a.eval o).run P w = .ok (.value v) w := by
  have hc := y_cell hg hv
  have h1 : (isAgg ty).run P w = .ok false w := by
    unfold isAgg
    simp only [Sem.run_bind, run_underlying hu, Result.andThen_ok]
    cases d <;> first | rfl | cases hd
  unfold execOp
  simp only [ho, hx, Instr.loadAt, Instr.sureAddr, loadVar, Sem.run_bind, Sem.run_pure, Result.andThen_ok, h1, Bool.false_eq_true, if_false]
  simp [hc, Result.andThen]
theorem y_ldN (ty : TypeId) (x : Operand) (ho : o.op = .load ty x) {g k : Nat} (hx : a.eval x = .pointer (some ⟨g, k, none⟩)) {t : TypeId} {c : Array Value} (hg : w.heap[g]? = some (.cells c t (0, 0))) (s : Array Value) (hs : ∀ (j : Nat) (v : Value), s[j]? = some v → c[k + j]? = some v) {d : TypeDesc} (hu : P.underlying ty = some d)
    (hd : yPlain d = false) (hi : (P.info? ty).map (·.size) = some s.size) : (execOp a.eval o).run P w = .ok (.value (.agg s)) w := by
  have hl : (loadCells ⟨g, k, none⟩ s.toList.length).run P w = .ok s.toList.toArray w :=
    run_loadCells_list (P := P) w ⟨g, k, none⟩ s.toList (fun j v hv => by
      have hadd : (⟨g, k, none⟩ : Addr).add j = ⟨g, k + j, none⟩ := by unfold Addr.add; split <;> simp_all
      rw [hadd]
      exact y_cell hg (hs j v (by simpa using hv)))
  have hrun : (Instr.loadAt ty (.pointer (some ⟨g, k, none⟩))).run P w = .ok (.agg s) w := by
    simp only [Instr.loadAt, Instr.sureAddr, Sem.run_bind, Sem.run_pure, Result.andThen_ok]
    cases hq : P.info? ty with
    | none => simp [hq] at hi
    | some i =>
      have hz : i.size = s.size := by simpa [hq] using hi
      have hagg : (isAgg ty).run P w = .ok true w := by
        unfold isAgg
        rw [Sem.run_bind, run_underlying hu w]
        cases d <;> first | rfl | cases hd
      simp only [Array.length_toList, Array.toArray_toList] at hl
      simp [loadVar, Sem.run_bind, hagg, sizeOf, typeInfo, hq, hz, hl]
  unfold execOp
  simp only [ho, hx, Sem.run_bind, hrun, Result.andThen_ok, Sem.run_pure]
theorem y_all {s c : Array Value} (h : s = c) : ∀ (j : Nat) (v : Value), s[j]? = some v → c[0 + j]? = some v := fun j v e => by rw [Nat.zero_add, ← h]; exact e
theorem y_st (ty : TypeId) (x y : Operand) (ho : o.op = .store ty x y) {g k : Nat} (hx : a.eval x = .pointer (some ⟨g, k, none⟩)) {v : Value} (hy : a.eval y = v) {t : TypeId} {c : Array Value} (hg : w.heap[g]? = some (.cells c t (0, 0))) (s c' : Array Value) (hv : v.cells = s) (hos : k + s.size ≤ c.size) (h1 : s.all (·.oneCell') = true) (hc' : (c.toList.take k ++ s.toList ++ c.toList.drop (k + s.size)).toArray = c')
    (hi : (P.info? ty).map (·.size) = some s.size) : (execOp a.eval o).run P w = .ok .skip (w.setRow g c') := by
  have hrun : (Instr.storeAt ty (.pointer (some ⟨g, k, none⟩)) v).run P w = .ok () (w.setRow g c') := by
    simp only [Instr.storeAt, Instr.sureAddr, Sem.run_bind, Sem.run_pure, Result.andThen_ok]
    have := run_storeCells_at (P := P) g k t s.toList 0 c w hg (by simpa using hos) (fun v hv => (Array.all_eq_true_iff_forall_mem.1 h1) v (by simpa using hv))
    simp only [Nat.add_zero, Array.length_toList] at this
    rw [hc'] at this
    cases hq : P.info? ty with
    | none => simp [hq] at hi
    | some i =>
      have hz : i.size = s.size := by simpa [hq] using hi
      simp [storeVar, Sem.run_bind, sizeOf, typeInfo, hq, hz, hv, this]
  unfold execOp
  simp only [ho, hx, hy, Sem.run_bind, hrun, Result.andThen_ok, Sem.run_pure]
end
section
variable {P : Program} {ops : Array Oper} {Q : Exit → Act → World → Prop} {a : Act} {w w0 : World} {rest : List Oper} {o : Oper} {n : Nat} {G : Option Nat} {V : List (Nat × Value)} {R : List (Nat × Res)}
theorem wl_alloc (hw : Region.wanted o (yielded ops a.tmps) = true) {d : Nat} (hd : o.dst = some d) (F : Fx n a V ds) (hn : Nat.blt d n = true) (M : Mx G w0 w R) (i : Nat) {t : TypeId} {c : Array Value} (hr : (execOp a.eval o).run P w = .ok (.value (.pointer (some ⟨w.heap.size, 0, none⟩))) (w.alloc (.cells c t)))
    (h : ∀ g a' w', Fx n a' ((d, .pointer (some ⟨g, 0, none⟩)) :: V) ds → Mx G w0 w' ((i, blkR g t c) :: R) → wpList P ops Q rest a' w') : wpList P ops Q (o :: rest) a w :=
  wl_run hw hd F hn _ hr fun a' F' => h _ a' _ F' (M.alloc i t c)
theorem wl_st (hw : Region.wanted o (yielded ops a.tmps) = true) (hd : o.dst = none) (F : Fx n a V ds) (M : Mx G w0 w R) {k g off : Nat} {t : TypeId} {c : Array Value} (hk : look R k = some (blkR g t c)) (ty : TypeId) (x y : Operand) (ho : o.op = .store ty x y) (hx : a.eval x = .pointer (some ⟨g, off, none⟩)) {v : Value} (hy : a.eval y = v)
    (s c' : Array Value) (hv : v.cells = s) (hos : off + s.size ≤ c.size) (h1 : s.all (·.oneCell') = true) (hc' : (c.toList.take off ++ s.toList ++ c.toList.drop (off + s.size)).toArray = c') (hi : (P.info? ty).map (·.size) = some s.size)
    (h : ∀ w', Mx G w0 w' ((k, blkR g t c') :: R) → wpList P ops Q rest a w') : wpList P ops Q (o :: rest) a w :=
  wl_do hw hd F (y_st ty x y ho hx hy (M.blk hk) s c' hv hos h1 hc' hi) (h _ (M.put hk (grown_setRow _ _ _) (setRow_heap w g c c' t (0, 0) (M.blk hk))))
end
theorem y_put0 {c s : Array Value} (h : c.size = s.size) : (c.toList.take 0 ++ s.toList ++ c.toList.drop (0 + s.size)).toArray = s := by
  apply Array.ext'
  simp [h]
section
variable {a : Act} {w : World} {o : Oper}
theorem y_ext {P : Program} (x : Operand) (i : Nat) (ho : o.op = .extract x i) {vs : Array Value} (hx : a.eval x = .tuple vs) {v : Value} (hv : vs[i]? = some v) : (execOp a.eval o).run P w = .ok (.value v) w := by
  unfold execOp
  simp only [ho, hx, Instr.extract, hv]
  rfl
end
theorem args0 {f : Operand → Value} : (#[] : Array Operand).map f = #[] := by simp
theorem args1 {f : Operand → Value} {x1 : Operand} {v1 : Value} (h1 : f x1 = v1) : #[x1].map f = #[v1] := by subst h1; simp
theorem args2 {f : Operand → Value} {x1 x2 : Operand} {v1 v2 : Value} (h1 : f x1 = v1) (h2 : f x2 = v2) : #[x1, x2].map f = #[v1, v2] := by subst h1 h2; simp
theorem args3 {f : Operand → Value} {x1 x2 x3 : Operand} {v1 v2 v3 : Value} (h1 : f x1 = v1) (h2 : f x2 = v2) (h3 : f x3 = v3) : #[x1, x2, x3].map f = #[v1, v2, v3] := by subst h1 h2 h3; simp
theorem call_ex {P : Program} {f : FuncId} {args : Array Value} {w : World} {v : Value} {G : World → Prop} (h : Calls P f args w fun e w' => e = .returned v ∧ G w') : Calls P f args w fun e w' => ∃ u, e = .returned u ∧ (u = v ∧ G w') :=
  h.mono fun e w' h => ⟨v, h.1, rfl, h.2⟩
section
variable {a : Act} {w : World} {o : Oper} {k : IntKind} {p q : Int} {b : Bool} (ty tz : TypeId) (x y : Operand)
theorem y_lss (ho : o.op = .binOp .lss ty x y tz) (hx : a.eval x = .int k p) (hy : a.eval y = .int k q) (hb : decide (p < q) = b) : (execOp a.eval o).run Try.prog w = .ok (.value (.bool b)) w := by
  subst hb; unfold execOp; simp only [ho, hx, hy]; simp [go_sem]
theorem y_leq (ho : o.op = .binOp .leq ty x y tz) (hx : a.eval x = .int k p) (hy : a.eval y = .int k q) (hb : decide (p ≤ q) = b) : (execOp a.eval o).run Try.prog w = .ok (.value (.bool b)) w := by
  subst hb; unfold execOp; simp only [ho, hx, hy]; simp [go_sem]
theorem y_gtr (ho : o.op = .binOp .gtr ty x y tz) (hx : a.eval x = .int k p) (hy : a.eval y = .int k q) (hb : decide (q < p) = b) : (execOp a.eval o).run Try.prog w = .ok (.value (.bool b)) w := by
  subst hb; unfold execOp; simp only [ho, hx, hy]; simp [go_sem]
theorem y_geq (ho : o.op = .binOp .geq ty x y tz) (hx : a.eval x = .int k p) (hy : a.eval y = .int k q) (hb : decide (q ≤ p) = b) : (execOp a.eval o).run Try.prog w = .ok (.value (.bool b)) w := by
  subst hb; unfold execOp; simp only [ho, hx, hy]; simp [go_sem]
theorem y_neB {p q : Bool} (ho : o.op = .binOp .neq 4 x y 4) (hx : a.eval x = .bool p) (hy : a.eval y = .bool q) (hb : (p != q) = b) : (execOp a.eval o).run Try.prog w = .ok (.value (.bool b)) w := by
  subst hb; unfold execOp; simp only [ho, hx, hy]; simp [go_sem]; cases p <;> cases q <;> rfl
theorem y_eqI (ho : o.op = .binOp .eql ty x y tz) (hx : a.eval x = .int k p) (hy : a.eval y = .int k q) (hu : Try.prog.underlying ty = some (.int k)) (hb : (p == q) = b) : (execOp a.eval o).run Try.prog w = .ok (.value (.bool b)) w := by
  subst hb; unfold execOp; simp only [ho, hx, hy]; simp [go_sem, run_underlying hu]
theorem y_neI (ho : o.op = .binOp .neq ty x y tz) (hx : a.eval x = .int k p) (hy : a.eval y = .int k q) (hu : Try.prog.underlying ty = some (.int k)) (hb : (p != q) = b) : (execOp a.eval o).run Try.prog w = .ok (.value (.bool b)) w := by
  subst hb; unfold execOp; simp only [ho, hx, hy]; simp [go_sem, run_underlying hu]
theorem y_addI (ho : o.op = .binOp .add ty x y tz) (hx : a.eval x = .int .i64 p) (hy : a.eval y = .int .i64 q) {z : Int} (hz : p + q = z) (h0 : -9223372036854775808 ≤ z ∧ z < 9223372036854775808) : (execOp a.eval o).run Try.prog w = .ok (.value (.int .i64 z)) w := by
  subst hz; unfold execOp; simp only [ho, hx, hy]; simp [go_sem, Go.IntWalk.i64_in (p + q) (by omega)]
theorem y_subI (ho : o.op = .binOp .sub ty x y tz) (hx : a.eval x = .int .i64 p) (hy : a.eval y = .int .i64 q) {z : Int} (hz : p - q = z) (h0 : -9223372036854775808 ≤ z ∧ z < 9223372036854775808) : (execOp a.eval o).run Try.prog w = .ok (.value (.int .i64 z)) w := by
  subst hz; unfold execOp; simp only [ho, hx, hy]; simp [go_sem, Go.IntWalk.i64_in (p - q) (by omega)]
theorem y_mulI (ho : o.op = .binOp .mul ty x y tz) (hx : a.eval x = .int .i64 p) (hy : a.eval y = .int .i64 q) {z : Int} (hz : p * q = z) (h0 : -9223372036854775808 ≤ z ∧ z < 9223372036854775808) : (execOp a.eval o).run Try.prog w = .ok (.value (.int .i64 z)) w := by
  have e : IntKind.i64.wrap (p * q) = z := by rw [hz, IntKind.wrap_i64]; omega
  unfold execOp; simp only [ho, hx, hy]; simp [go_sem, e]
end
theorem y_eqV {a : Act} {w : World} {o : Oper} (ty tz : TypeId) (x y : Operand) {u v : Value} {b : Bool} (ho : o.op = .binOp .eql ty x y tz) (hx : a.eval x = u) (hy : a.eval y = v) (hg : (eqGuard .eql ty x y u v).run Try.prog w = .ok () w) (hr : (binOp .eql ty u v).run Try.prog w = .ok (.bool b) w) : (execOp a.eval o).run Try.prog w = .ok (.value (.bool b)) w := by
  unfold execOp; simp only [ho, hx, hy]; simp [hr, hg, Result.andThen]
theorem y_eqA {a : Act} {w : World} {o : Oper} (ty tz : TypeId) (x y : Operand) {c d : Array Value} {b : Bool} (ho : o.op = .binOp .eql ty x y tz) (hx : a.eval x = .agg c) (hy : a.eval y = .agg d) (hgt : Try.prog.eqGuardType Try.prog.depth ty = false) (h : (Op.equalIn 10000 ty (.agg c) (.agg d)).run Try.prog w = .ok b w) : (execOp a.eval o).run Try.prog w = .ok (.value (.bool b)) w := by
  refine y_eqV ty tz x y ho hx hy ?_ ?_
  · simp [eqGuard, go_sem, hgt]
  · simp [binOp, go_sem, h, Op.maxDepth, Op.equal]
theorem y_beqT {p q : Int} (h : p = q) : (p == q) = true := by subst h; exact beq_self_eq_true p
theorem y_beqF {p q : Int} (h : ¬ p = q) : (p == q) = false := beq_eq_false_iff_ne.2 h
theorem same_eq {P : Program} {f : FuncId} {args : Array Value} {w : World} {v : Value} (h : Calls P f args w fun e w' => e = .returned v ∧ w = w') : Calls P f args w fun e w' => e = .returned v ∧ Below w.heap.size w w' :=
  h.mono fun e w' ⟨h1, h2⟩ => ⟨h1, h2 ▸ Below.refl _ _⟩
end Go.Proofs.Ytlbkogdmojlpmaa
namespace Go.Proofs.Ytlbkogdmojlpmaa
set_option linter.unusedVariables false
set_option maxRecDepth 20000
set_option linter.unusedSimpArgs false
open Go.ChangeShapes Go.WideShapes Go.ChangeAt Go.RowKit Go.Shelf
variable {ds : List Deferred}
def bfp (v : Value) (g : Nat) : Prop := ∃ o s n c, v = .slice (some ⟨g, o, s⟩) n c ∧ 0 < n
def ofp (v : Value) (g : Nat) : Prop := v.ownBlock = some g
theorem bfp_ofp {v : Value} {g : Nat} (h : bfp v g) : ofp v g := by
  obtain ⟨o, s, n, c, rfl, _⟩ := h
  rfl
theorem IsB.same {l : List UInt8} {v : Value} {u u' : World} (hs : Same (bfp v) u u') (h : IsB u l v) : IsB u' l v := by
  obtain ⟨A, c, rfl, h1, h2, h3, h4⟩ := h
  refine ⟨A, c, rfl, h1, h2, h3, fun hp => ?_⟩
  obtain ⟨b, o, e, hb, hc⟩ := h4.at hp
  subst e
  have hw : u.heap[b]? = some u.heap[b] := Array.getElem?_eq_getElem hb
  have h5 := hs b _ ⟨o, none, _, _, rfl, hp⟩ hw
  refine ⟨_, rfl, (Array.getElem?_eq_some_iff.1 h5).1, fun j x hx => ?_⟩
  rw [addr_add]
  exact (World.cell?_of_block (a := ⟨b, o + j, none⟩) (h5.trans hw.symm)).trans (hc j x hx)
theorem IsB.lt {l : List UInt8} {v : Value} {u : World} (h : IsB u l v) {g : Nat} (hg : bfp v g) : g < u.heap.size := by
  obtain ⟨A, c, rfl, h1, h2, h3, h4⟩ := h
  obtain ⟨o, s, n, c', e, hn⟩ := hg
  injection e with e1 e2 e3
  subst e2
  obtain ⟨b, o', e4, hb, _⟩ := h4.at hn
  rw [e4] at e1
  injection e1 with e1
  injection e1 with e1
  subst e1
  exact hb
theorem Byt.same {l : List UInt8} {v : Value} {b : Nat} {u u' : World} (hs : Same (ofp v) u u') (h : Byt u b v l) : Byt u' b v l := by
  refine ⟨h.1, ?_⟩
  rcases h.2 with hn | ⟨g, c, cur, e, hbg, hg, rest⟩
  · exact .inl hn
  · exact .inr ⟨g, c, cur, e, hbg, hs g _ (by rw [ofp, e]; rfl) hg, rest⟩
theorem Byt.rebase {l : List UInt8} {v : Value} {b B : Nat} {u : World} (h : Byt u b v l) (hB : ∀ k, v.ownBlock = some k → B ≤ k) : Byt u B v l := by
  refine ⟨h.1, ?_⟩
  rcases h.2 with hn | ⟨g, c, cur, e, hbg, rest⟩
  · exact .inl hn
  · exact .inr ⟨g, c, cur, e, hB g (by rw [e]; rfl), rest⟩
theorem Byt.isb {w : World} {b : Nat} {v : Value} {l : List UInt8} (h : Byt w b v l) : IsB w l v := by
  obtain ⟨A, c, e, h1, h2, h3, h4⟩ := h.slice
  refine ⟨A, c, e, h1, h2, fun hA => ?_, h3⟩
  rcases h.2 with ⟨e2, h0⟩ | ⟨g, c', cur, e2, _⟩
  · rw [e] at e2; injection e2
  · rw [e] at e2; injection e2 with e2; rw [hA] at e2; cases e2
theorem isb_nil (w : World) : IsB w [] (.slice none 0 0) := ⟨none, 0, rfl, Nat.le_refl _, by unfold maxLen; omega, fun _ => rfl, fun h => absurd h (by simp)⟩
def bytR (l : List UInt8) (v : Value) : Res := ⟨false, bfp v, fun w => IsB w l v⟩
def ownR (l : List UInt8) (v : Value) : Res := ⟨true, ofp v, fun w => Byt w 0 v l⟩
section
variable {G : Option Nat} {w0 w w' : World} {R : List (Nat × Res)} {l r : List UInt8} {v u : Value} {i k : Nat}
theorem Mx.isb (M : Mx G w0 w R) (h : look R k = some (bytR l v)) : IsB w l v := M.at_ k _ h
theorem Mx.isO (M : Mx G w0 w R) (h : look R k = some (ownR l v)) : IsB w l v := Byt.isb (M.at_ k _ h)
theorem Mx.byt (M : Mx none w0 w R) (h : look R k = some (ownR l v)) : Byt w w0.heap.size v l :=
  Byt.rebase (b := 0) (M.at_ k _ h) fun g hg => by
    rcases M.own k _ h rfl g hg with h | h
    · exact h
    · cases h
theorem Mx.bytG (M : Mx G w0 w R) (h : look R k = some (ownR l v)) (hG : ∀ g, G = some g → v.ownBlock ≠ some g) : Byt w w0.heap.size v l :=
  Byt.rebase (b := 0) (M.at_ k _ h) fun g hg => by
    rcases M.own k _ h rfl g hg with h | h
    · exact h
    · exact absurd hg (hG g h)
theorem bytR_dep : ∀ u u', Same (bytR l v).fp u u' → (bytR l v).F u → (bytR l v).F u' := fun _ _ hs h => IsB.same hs h
theorem ownR_dep : ∀ u u', Same (ownR l v).fp u u' → (ownR l v).F u → (ownR l v).F u' := fun _ _ hs h => Byt.same hs h
theorem Mx.argB (M : Mx G w0 w R) (i : Nat) (h : IsB w0 l v) (hG : ∀ g, G = some g → ¬ bfp v g) : Mx G w0 w ((i, bytR l v) :: R) :=
  M.arg i _ (IsB.same (u := w0) ⟨fun g o hg ho => (M.grown.block g (Array.getElem?_eq_some_iff.1 ho).1 (fun e => hG g e.symm hg)).trans ho, M.grown.size⟩ h) bytR_dep rfl fun g hg => ⟨h.lt hg, fun e => hG g e hg⟩
theorem blkO_dep {g : Nat} {t : TypeId} {c : Array Value} : ∀ u u', Same (blkO g t c).fp u u' → (blkO g t c).F u → (blkO g t c).F u' := fun u u' hs h => hs g _ rfl h
theorem Mx.argO (M : Mx G w0 w R) (i : Nat) {g : Nat} {t : TypeId} {c : Array Value} (h : w0.heap[g]? = some (.cells c t (0, 0))) (hG : ∀ b, G = some b → ¬ g = b) : Mx G w0 w ((i, blkO g t c) :: R) :=
  M.arg i _ ((M.grown.block g (Array.getElem?_eq_some_iff.1 h).1 (fun e => hG g e.symm rfl)).trans h) blkO_dep rfl fun b hb => ⟨by rw [show b = g from hb]; exact (Array.getElem?_eq_some_iff.1 h).1, fun e => hG b e (show b = g from hb).symm⟩
theorem Mx.partB (M : Mx G w0 w R) (i : Nat) (hk : look R k = some (bytR r u)) (h : IsB w l v) (hlo : ∀ g, bfp v g → bfp u g) : Mx G w0 w ((i, bytR l v) :: R) :=
  M.part i _ h bytR_dep rfl hk rfl hlo
theorem Mx.newO (M : Mx G w0 w R) (h : Below w.heap.size w w') (i : Nat) (hv : Byt w' w.heap.size v l) : Mx G w0 w' ((i, ownR l v) :: R) :=
  M.fresh h i _ (hv.rebase fun _ _ => Nat.zero_le _) ownR_dep fun g hg => hv.lt g hg
theorem Mx.newB (M : Mx G w0 w R) (h : Below w.heap.size w w') (i : Nat) (hv : IsB w' l v) (hlo : ∀ g, bfp v g → w.heap.size ≤ g) : Mx G w0 w' ((i, bytR l v) :: R) :=
  M.fresh h i _ hv bytR_dep fun g hg => ⟨hlo g hg, hv.lt hg⟩
theorem Mx.owns (M : Mx none w0 w R) (h : look R k = some (ownR l v)) : ∀ g, ofp v g → w0.heap.size ≤ g := fun g hg => (M.own k _ h rfl g hg).resolve_right fun e => by cases e
theorem Mx.nilO (M : Mx G w0 w R) (i : Nat) : Mx G w0 w ((i, ownR [] (.slice none 0 0)) :: R) :=
  M.cons i _ (Byt.nil w 0) ownR_dep (fun g hg => by cases hg) (fun _ g hg => by cases hg) (fun _ _ _ _ _ g hg => by cases hg)
theorem Mx.tame (M : Mx G w0 w R) (hk : look R k = some (ownR l v)) : Mx G w0 w ((k, bytR l v) :: R) :=
  M.cons k _ (M.isO hk) bytR_dep (fun g hg => M.lt k _ hk g (bfp_ofp hg)) (fun e => by cases e) fun j s e hj _ g hg => M.dis k j _ s hk e hj rfl g (bfp_ofp hg)
end
def ixV (v : Value) (i : Nat) : Value := match v with
  | .slice (some ad) _ _ => .pointer (some (ad.add i))
  | _ => undef
section
variable {a : Act} {w : World} {o : Oper} {l r : List UInt8} {v u : Value}
theorem y_len (x : Operand) (ho : o.op = .call { callee := .builtin .len, args := #[x], argTypes := #[22] }) (hx : a.eval x = v) (hB : IsB w l v) {z : Int} (hz : (l.length : Int) = z) : (execOp a.eval o).run Try.prog w = .ok (.value (.int .i64 z)) w := by
  subst hz
  obtain ⟨A, c, h1, _⟩ := hB
  exact run_ln x _ ho (hx.trans h1) Try.underlying22
theorem y_ixB (x k : Operand) (ho : o.op = .indexAddr 22 x k) (hx : a.eval x = v) (hB : IsB w l v) {z : Int} {i : Nat} (hk : a.eval k = .int .i64 z) (hz : z = (i : Int)) (hi : i < l.length) : (execOp a.eval o).run Try.prog w = .ok (.value (ixV v i)) w := by
  subst hz
  obtain ⟨A, c, rfl, h1, h2, h3, h4⟩ := hB
  obtain ⟨b, q, rfl, hb, hc⟩ := h4.at (by omega)
  unfold execOp
  simp only [ho, hx, hk]
  have h0 : ¬ ((i : Int) < 0) := by omega
  have h5 : (i : Int) < (l.length : Int) := by omega
  simp [go_sem, h0, h5, hi, ixV, addr_add]
theorem y_ldB (x : Operand) (ho : o.op = .load 5 x) {i : Nat} (hx : a.eval x = ixV v i) (hB : IsB w l v) {b : UInt8} (hl : l[i]? = some b) {z : Int} (hz : ((b.toNat : Nat) : Int) = z) : (execOp a.eval o).run Try.prog w = .ok (.value (.int .u8 z)) w := by
  subst hz
  obtain ⟨A, c, rfl, h1, h2, h3, h4⟩ := hB
  obtain ⟨g, q, rfl, hb, hc⟩ := h4.at (by have := (List.getElem?_eq_some_iff.1 hl).1; omega)
  have hcell := hc i b hl
  have hx' : a.eval x = .pointer (some ⟨g, q + i, none⟩) := by rw [hx]; simp [ixV, addr_add]
  have h6 : (isAgg 5).run Try.prog w = .ok false w := by
    unfold isAgg
    simp only [Sem.run_bind, run_underlying Try.underlying5, Result.andThen_ok]
    rfl
  unfold execOp
  simp only [ho, hx', Instr.loadAt, Instr.sureAddr, loadVar, Sem.run_bind, Sem.run_pure, Result.andThen_ok, h6, Bool.false_eq_true, if_false]
  simp [hcell, Result.andThen]
theorem y_str (x : Operand) (ho : o.op = .convert 22 9 x) (hx : a.eval x = v) (hB : IsB w l v) : (execOp a.eval o).run Try.prog w = .ok (.value (.string ⟨l.toArray⟩)) w := by
  obtain ⟨A, c, rfl, h1, h2, h3, h4⟩ := hB
  exact run_cv' _ _ x ho hx (run_string_bytes w A l _ c rfl h4)
theorem elem_byt : Try.prog.elem 22 = 5 := by kernel_rfl
theorem size_byt (w : World) : (sizeOf 5).run Try.prog w = .ok 1 w := by
  obtain ⟨i, h1, h2, h3, _⟩ := info_u8
  simp [sizeOf, typeInfo, h1, h3]
def slV (A : Option Addr) (c i n : Nat) : Value := .slice (if c = i then A else A.map (·.add i)) n (c - i)
theorem slV_isB {A : Option Addr} {c i j : Nat} (h1 : l.length ≤ c) (h2 : c ≤ maxLen) (h3 : A = none → c = 0) (h4 : Rd w A l) (hi : i ≤ j) (hj : j ≤ l.length) : IsB w ((l.drop i).take (j - i)) (slV A c i (j - i)) := by
  have hn : ((l.drop i).take (j - i)).length = j - i := by simp; omega
  refine ⟨if c = i then A else A.map (·.add i), c - i, by unfold slV; rw [hn], by rw [hn]; omega, by omega, fun e => ?_, fun hp => ?_⟩
  · split at e
    · omega
    · rw [Option.map_eq_none_iff] at e; have := h3 e; omega
  · rw [hn] at hp
    obtain ⟨b, q, rfl, hb, hc⟩ := h4.at (by omega)
    rw [if_neg (by omega)]
    refine ⟨_, rfl, by simpa [addr_add] using hb, fun x y hy => ?_⟩
    have hy' : l[i + x]? = some y := by
      rw [List.getElem?_take] at hy
      split at hy
      · rwa [List.getElem?_drop] at hy
      · cases hy
    have := hc (i + x) y hy'
    simp only [addr_add]
    rwa [show q + i + x = q + (i + x) by omega]
theorem slV_fp {A : Option Addr} {c i n m k : Nat} (hn : n = 0 ∨ 0 < m) : ∀ g, bfp (slV A c i n) g → bfp (.slice A m k) g := fun g ⟨o, s, n', c', e, h⟩ => by
  unfold slV at e
  injection e with e1 e2 e3
  have hm : 0 < m := by omega
  split at e1
  · exact ⟨o, s, m, k, by rw [e1], hm⟩
  · cases A with
    | none => cases e1
    | some ad =>
      obtain ⟨b, q, t⟩ := ad
      simp only [Option.map_some, Option.some.injEq] at e1
      have : (⟨b, q, t⟩ : Addr).add i = ⟨g, o, s⟩ := e1
      have hb : ((⟨b, q, t⟩ : Addr).add i).block = b := by unfold Addr.add; split <;> rfl
      rw [this] at hb
      subst hb
      exact ⟨q, t, m, k, rfl, hm⟩
theorem under_byt : Try.prog.underlying 22 = some (.slice (Try.prog.elem 22)) := by rw [elem_byt]; exact Try.underlying22
theorem map_add0 (A : Option Addr) : A.map (·.add 0) = A := by
  cases A with
  | none => rfl
  | some a => simp [Addr.add]
theorem y_slFrom (x k : Operand) (ho : o.op = .slice 22 x (some k) none none) (hx : a.eval x = v) (hB : IsB w l v) {z : Int} {i : Nat} (hk : a.eval k = .int .i64 z) (hz : z = (i : Int)) (hi : i ≤ l.length) : ∃ u, (execOp a.eval o).run Try.prog w = .ok (.value u) w ∧ IsB w (l.drop i) u ∧ ∀ g, bfp u g → bfp v g := by
  subst hz
  obtain ⟨A, c, rfl, h1, h2, h3, h4⟩ := hB
  refine ⟨slV A c i (l.length - i), ?_, ?_, slV_fp (show l.length - i = 0 ∨ 0 < l.length by omega)⟩
  · unfold execOp
    simp only [ho, hx]
    simp only [Option.map_some, Option.map_none, hk]
    rw [Sem.run_bind, run_sliceAt_slice _ _ _ _ _ _ under_byt, run_slice_l _ _ _ _ _ under_byt .i64 i (by omega) (by omega), elem_byt, size_byt]
    simp only [Result.andThen_ok, sliced, Int.toNat_natCast, Nat.mul_one, slV, Sem.run_pure]
  · have := slV_isB (i := i) (j := l.length) h1 h2 h3 h4 hi (Nat.le_refl _)
    rwa [List.take_of_length_le (by simp)] at this
theorem y_slTo (x k : Operand) (ho : o.op = .slice 22 x none (some k) none) (hx : a.eval x = v) (hB : IsB w l v) {z : Int} {j : Nat} (hk : a.eval k = .int .i64 z) (hz : z = (j : Int)) (hj : j ≤ l.length) : ∃ u, (execOp a.eval o).run Try.prog w = .ok (.value u) w ∧ IsB w (l.take j) u ∧ ∀ g, bfp u g → bfp v g := by
  subst hz
  obtain ⟨A, c, rfl, h1, h2, h3, h4⟩ := hB
  have e0 : (if c = 0 then A else A.map (·.add 0)) = A := by split; · rfl
                                                             · exact map_add0 A
  refine ⟨slV A c 0 (j - 0), ?_, ?_, slV_fp (show j - 0 = 0 ∨ 0 < l.length by omega)⟩
  · unfold execOp
    simp only [ho, hx]
    simp only [Option.map_some, Option.map_none, hk]
    rw [Sem.run_bind, run_sliceAt_slice _ _ _ _ _ _ under_byt, run_slice_h _ _ _ _ _ under_byt .i64 j (by omega) (by omega), elem_byt, size_byt]
    simp only [Result.andThen_ok, sliced, Int.toNat_natCast, Nat.mul_one, slV, Sem.run_pure, Nat.sub_zero, e0, ite_self, map_add0]
  · have := slV_isB (i := 0) (j := j) h1 h2 h3 h4 (Nat.zero_le _) hj
    rwa [List.drop_zero] at this
theorem y_eqS {s t : ByteArray} {b : Bool} (x y : Operand) (tz : TypeId) (ho : o.op = .binOp .eql 9 x y tz) (hx : a.eval x = .string s) (hy : a.eval y = .string t) (hb : decide (s.toList = t.toList) = b) : (execOp a.eval o).run Try.prog w = .ok (.value (.bool b)) w := by
  subst hb
  unfold execOp
  simp only [ho, hx, hy]
  simp [go_sem]
  first | done | exact Bool.eq_iff_iff.2 (by simp)
theorem y_neS {s t : ByteArray} {b : Bool} (x y : Operand) (tz : TypeId) (ho : o.op = .binOp .neq 9 x y tz) (hx : a.eval x = .string s) (hy : a.eval y = .string t) (hb : (!decide (s.toList = t.toList)) = b) : (execOp a.eval o).run Try.prog w = .ok (.value (.bool b)) w := by
  subst hb
  unfold execOp
  simp only [ho, hx, hy]
  simp [go_sem]
  first | done | exact Bool.eq_iff_iff.2 (by simp)
theorem mk_toList (l : List UInt8) : (ByteArray.mk l.toArray).toList = l := by rw [ByteArray.toList_eq]
theorem str_eq {l r : List UInt8} (h : l = r) : decide ((⟨l.toArray⟩ : ByteArray).toList = (⟨r.toArray⟩ : ByteArray).toList) = true := by subst h; exact decide_eq_true rfl
theorem str_ne {l r : List UInt8} (h : ¬ l = r) : decide ((⟨l.toArray⟩ : ByteArray).toList = (⟨r.toArray⟩ : ByteArray).toList) = false := decide_eq_false (by rw [mk_toList, mk_toList]; exact h)
theorem str_neT {l r : List UInt8} (h : ¬ l = r) : (!decide ((⟨l.toArray⟩ : ByteArray).toList = (⟨r.toArray⟩ : ByteArray).toList)) = true := by rw [str_ne h]; rfl
theorem str_neF {l r : List UInt8} (h : l = r) : (!decide ((⟨l.toArray⟩ : ByteArray).toList = (⟨r.toArray⟩ : ByteArray).toList)) = false := by rw [str_eq h]; rfl
end
section
variable {P : Program} {ops : Array Oper} {Q : Exit → Act → World → Prop} {a : Act} {w w0 : World} {rest : List Oper} {o : Oper} {n : Nat} {G : Option Nat} {V : List (Nat × Value)} {R : List (Nat × Res)}
theorem wl_runE (hw : Region.wanted o (yielded ops a.tmps) = true) {d : Nat} (hd : o.dst = some d) (F : Fx n a V ds) (hn : Nat.blt d n = true) {Z : Value → Prop} (hr : ∃ v, (execOp a.eval o).run P w = .ok (.value v) w ∧ Z v)
    (h : ∀ v a', Z v → Fx n a' ((d, v) :: V) ds → wpList P ops Q rest a' w) : wpList P ops Q (o :: rest) a w := by
  obtain ⟨v, h1, h2⟩ := hr
  exact wl_run hw hd F hn v h1 fun a' F' => h v a' h2 F'
end
section
variable {P : Program} {ops : Array Oper} {Q : Exit → Act → World → Prop} {a : Act} {w w0 : World} {rest : List Oper} {o : Oper} {n : Nat} {V : List (Nat × Value)}
theorem wl_callV (hw : Region.wanted o (yielded ops a.tmps) = true) {d : Nat} (hd : o.dst = some d) (F : Fx n a V ds) (hn : Nat.blt d n = true) {f : FuncId} {args : Array Operand} {ts : Array TypeId} {t : Tmp} (ho : o.op = .call { callee := .value (.tmp t), args := args, argTypes := ts }) {lb : Array Value} (hf : a.eval (.tmp t) = .func (.func f) #[] lb)
    (hr : ∀ args w, (callFunc f args).run P w = .ok (.enter f args) w) (vals : Array Value) (hv : args.map a.eval ++ lb = vals) {Z : Value → World → Prop}
    (hc : Calls P f vals w fun e w' => ∃ v, e = .returned v ∧ Z v w')
    (h : ∀ v w' a', Z v w' → Fx n a' ((d, v) :: V) ds → wpList P ops Q rest a' w') : wpList P ops Q (o :: rest) a w :=
  wpList_want hw fun K hK => by
    subst hv
    unfold Oper.wp
    have : (execOp a.eval o).run P w = .ok (.enter f (args.map a.eval ++ lb)) w := by
      unfold execOp
      simp only [ho, resolve, hf]
      simp [invoke, go_sem, hr]
    rw [this]
    refine hc.mono fun e w' ⟨v, he, hb⟩ => ?_
    subst he
    have := F.put d v hn
    rw [← hd] at this
    exact hK _ _ (h _ _ _ hb this)
end
section
variable {ops : Array Oper} {Q : Exit → Act → World → Prop} {a : Act} {w w0 : World} {rest : List Oper} {o : Oper} {n : Nat} {G : Option Nat} {V : List (Nat × Value)} {R : List (Nat × Res)}
theorem run_app (M : Mx G w0 w R) {k : Nat} {l r : List UInt8} {v u : Value} (hk : look R k = some (ownR l v)) (s x : Operand)
    (ho : o.op = .call { callee := .builtin .append, args := #[s, x], argTypes := #[22, 22] }) (hs : a.eval s = v) (hx : a.eval x = u) (hu : IsB w r u) (hle : l.length + r.length ≤ 1000000) :
    ∃ v' w', (execOp a.eval o).run Try.prog w = .ok (.value v') w' ∧ Mx G w0 w' ((k, ownR (l ++ r) v') :: R) := by
  have hown : Byt w 0 v l := M.at_ k _ hk
  obtain ⟨v', w', hrun, hM⟩ : ∃ v' w', (Builtin.append_ #[22, 22] o.type #[v, u]).run Try.prog w = .ok v' w' ∧ Mx G w0 w' ((k, ownR (l ++ r) v') :: R) := by
    obtain ⟨i, hi1, hi2, hi3, hi4⟩ := info_u8
    obtain ⟨A, c, rfl, h1, h2, h3, hR⟩ := hu
    by_cases hm : 0 < r.length
    · cases A with
      | none => obtain ⟨ad, e, _⟩ := hR hm; cases e
      | some ad =>
        obtain ⟨g, cap, w', q1, q2, q3, q4, q5⟩ := run_append_lies (P := Try.prog) w 22 o.type 0 5 i (.int .u8 0) 1 1 Try.underlying22 hi1 hi2 hi3 hi4 rfl (by decide) v l.length (l.map bv) hown ad r.length c (r.map bv) (by simp) (fun j u hj => by
          rw [List.getElem?_map] at hj
          cases hb : r[j]? with
          | none => rw [hb] at hj; cases hj
          | some b =>
            rw [hb] at hj
            obtain rfl := Option.some.inj hj
            obtain ⟨ad', e, _, hcl⟩ := hR hm
            cases e
            exact hcl j b hb) (fun u hu => by obtain ⟨b, _, rfl⟩ := List.mem_map.1 hu; rfl) hm (by unfold maxLen; omega) (by omega) (Nat.zero_le _) _ rfl
        refine ⟨_, w', q1, M.write hk rfl q3 (fun _ e => e) _ ?_ ownR_dep fun b hb => ?_⟩
        · show Byt _ _ _ _
          unfold Byt
          rw [List.length_append, List.map_append]
          exact q2
        · obtain rfl : g = b := by simpa [ownR, ofp, Value.ownBlock] using hb
          exact ⟨q5, q4.imp id fun e => by rw [e]; exact Nat.le_refl _⟩
    · obtain rfl : r = [] := List.eq_nil_of_length_eq_zero (by omega)
      obtain ⟨A2, c2, e2, k1, k2, _⟩ := id hown.slice
      have hsrc : Go.Src Try.prog i.size 22 (.slice A 0 c) 0 [] w := by
        cases A with
        | none => exact Go.Src.ofNil w Try.underlying22 c
        | some ad => exact Go.Src.ofSlice w Try.underlying22 ad 0 c [] (by simp) (fun j u hu => by simp at hu) (fun u hu => by cases hu)
      have hrun := run_append_nothing (P := Try.prog) w 22 22 o.type 5 i Try.underlying22 hi1 A2 l.length c2 k1 (.slice A 0 c) hsrc
      refine ⟨v, w, by rw [e2]; exact hrun, ?_⟩
      rw [List.append_nil]
      exact M.drop fun j t e => by
        rw [look_cons] at e; split at e
        · rename_i hj; cases e; subst hj; exact hk
        · exact e
  refine ⟨v', w', ?_, hM⟩
  unfold execOp
  simp only [ho, resolve, invoke, builtin, Sem.run_bind, Sem.run_pure, Result.andThen_ok, List.map_toArray, List.map_cons, List.map_nil, hs, hx, hrun]
theorem run_litO (M : Mx G w0 w R) (i : Nat) (zs : List UInt8) (m : Nat) (hm : zs.length = m) (h00 : 0 < m) (h1 : m ≤ 1000) {ps : Array (Nat × Operand)} (ho : o.op = .buildSlice 22 m ps)
    (hf : Instr.fill (fun i => some (i * 1, 1)) ((Array.range (m * 1)).map ((Value.int .u8 0).cells[· % (Value.int .u8 0).cells.size]!)) (ps.map fun (i, x) => (i, a.eval x)).toList = some (bvs zs)) :
    ∃ v w', (execOp a.eval o).run Try.prog w = .ok (.value v) w' ∧ Mx G w0 w' ((i, ownR zs v) :: R) := by
  obtain ⟨f, f1, f2, f3, _⟩ := info_u8
  subst hm
  have h0 : ¬ zs.length * f.size = 0 := by rw [f3]; omega
  refine ⟨.slice (some ⟨w.heap.size, 0, none⟩) zs.length zs.length, w.alloc (.cells (bvs zs) 5), ?_, M.newO (step_alloc w _) i ?_⟩
  · unfold execOp
    simp only [ho, Sem.run_bind, run_buildSlice w 22 5 zs.length _ (bvs zs) f (.int .u8 0) Try.underlying22 f1 f2 (by rw [f3]; omega) h0 (by rw [f3]; exact hf), Result.andThen_ok, Sem.run_pure]
  · refine ⟨by simp, .inr ⟨w.heap.size, zs.length, bvs zs, rfl, Nat.le_refl _, heap_alloc_new w _, Nat.le_refl _, by unfold maxLen; omega, by simp [bvs], ?_⟩⟩
    simp only [bvs, Nat.mul_one]
    exact List.take_of_length_le (by simp)
theorem run_lit0 (M : Mx G w0 w R) (i : Nat) (ho : o.op = .buildSlice 22 0 #[]) :
    ∃ v w', (execOp a.eval o).run Try.prog w = .ok (.value v) w' ∧ Mx G w0 w' ((i, ownR [] v) :: R) := by
  refine ⟨.slice (some ⟨w.heap.size, 0, none⟩) 0 0, w.alloc (.cells #[] 5), ?_, M.newO (step_alloc w _) i ⟨by simp, .inr ⟨w.heap.size, 0, #[], rfl, Nat.le_refl _, heap_alloc_new w _, Nat.le_refl _, by unfold maxLen; omega, by simp, by simp⟩⟩⟩
  unfold execOp
  simp only [ho, List.map_toArray, List.map_nil]
  kernel_rfl
end
theorem resCT {P : Program} {fn : Func} {p q : Tmp} {ty : TypeId} (h : fn.results = #[.cell p ty, .tmp q]) {a : Act} {w : World} {g : Nat} {t : TypeId} {c : Array Value} {x : Value} {d : TypeDesc}
    (hp : a.eval (.tmp p) = .pointer (some ⟨g, 0, none⟩)) (hg : w.heap[g]? = some (.cells c t (0, 0))) (hq : a.eval (.tmp q) = x) (hu : P.underlying ty = some d) (hd : yPlain d = false) (hi : (P.info? ty).map (·.size) = some c.size) : (results fn a.tmps).run P w = .ok (.tuple #[.agg c, x]) w := by
  have hp' : a.tmps[p]?.getD undef = .pointer (some ⟨g, 0, none⟩) := by simpa [Act.eval] using hp
  have hq' : a.tmps[q]?.getD undef = x := by simpa [Act.eval] using hq
  cases d with
  | struct fs => simp [results, h, hp', hq', asAddr, run_loadVar_row w g t ty c (0, 0) _ hg hu rfl hi]
  | array n e => simp [results, h, hp', hq', asAddr, run_loadVar_row w g t ty c (0, 0) _ hg hu rfl hi]
  | _ => cases hd
end Go.Proofs.Ytlbkogdmojlpmaa
namespace Go.Proofs.Ytlbkogdmojlpmaa
set_option linter.unusedVariables false
set_option maxRecDepth 20000
set_option linter.unusedSimpArgs false
open Go.ChangeShapes Go.WideShapes Go.ChangeAt Go.RowKit Go.Shelf
variable {ds : List Deferred}
theorem IsB.shape {w : World} {l : List UInt8} {v : Value} (h : IsB w l v) : ∃ A c, v = .slice A l.length c := by
  obtain ⟨A, c, e, _⟩ := h
  exact ⟨A, c, e⟩
theorem IsB.cap {w : World} {l : List UInt8} {A : Option Addr} {n c : Nat} (h : IsB w l (.slice A n c)) : l.length ≤ c ∧ c ≤ maxLen ∧ (A = none → c = 0) ∧ Rd w A l ∧ n = l.length := by
  obtain ⟨A', c', e, h1, h2, h3, h4⟩ := h
  injection e with e1 e2 e3
  subst e1 e2 e3
  exact ⟨h1, h2, h3, h4, rfl⟩
section
variable {G : Option Nat} {w0 w w' : World} {R : List (Nat × Res)} {l r : List UInt8} {v u : Value} {i k : Nat} {a : Act} {o : Oper}
theorem run_makeO (M : Mx G w0 w R) (i : Nat) (x y : Operand) (ho : o.op = .makeSlice 22 x y) {z : Int} (n : Nat) (hx : a.eval x = .int .i64 z) (hy : a.eval y = .int .i64 z) (hz : z = (n : Int)) (hn : n ≤ 1000) :
    ∃ v w', (execOp a.eval o).run Try.prog w = .ok (.value v) w' ∧ Mx G w0 w' ((i, ownR (List.replicate n 0) v) :: R) := by
  subst hz
  obtain ⟨f, f1, f2, f3, f4⟩ := info_u8
  refine ⟨.slice (some ⟨w.heap.size, 0, none⟩) n n, w.alloc (.cells (madeCells #[.int .u8 0] n) 5), ?_, M.newO (step_alloc w _) i ?_⟩
  · have h := run_make_row (w := w) 22 5 f (.int .u8 0) Try.underlying22 f1 f2 f3 rfl .i64 .i64 n (by rw [f4]; omega) (by omega)
    unfold execOp
    simp only [ho, hx, hy, Sem.run_bind, h, Result.andThen_ok, Sem.run_pure]
  · obtain ⟨c, hb, hs, hc⟩ := World.rowIs_made w (.int .u8 0) n 5
    refine ⟨by simp, .inr ⟨w.heap.size, n, c, by rw [List.length_replicate], Nat.le_refl _, hb, by rw [List.length_replicate]; exact Nat.le_refl _, by unfold maxLen; omega, by omega, ?_⟩⟩
    apply List.ext_getElem?
    intro i
    rw [List.length_replicate, Nat.mul_one, List.getElem?_take, List.map_replicate]
    by_cases hi : i < n
    · rw [if_pos hi, List.getElem?_replicate, if_pos hi]
      have := hc i hi
      rw [← Array.getElem?_toList] at this
      exact this
    · rw [if_neg hi, List.getElem?_replicate, if_neg hi]
theorem run_setO (M : Mx G w0 w R) (hk : look R k = some (ownR l v)) (x y : Operand) (ho : o.op = .store 5 x y) {j : Nat} (hx : a.eval x = ixV v j) {z : Int} (b : UInt8) (hy : a.eval y = .int .u8 z) (hz : z = (b.toNat : Int)) (hj : j < l.length) :
    ∃ w', (execOp a.eval o).run Try.prog w = .ok .skip w' ∧ Mx G w0 w' ((k, ownR (l.set j b) v) :: R) := by
  subst hz
  have hown : Byt w 0 v l := M.at_ k _ hk
  rcases id hown.2 with ⟨e, h0⟩ | ⟨g, c, cur, e, hbg, hg, hn, hc, hs, ht⟩
  · omega
  · subst e
    have hi : (Try.prog.info? 5).map (·.size) = some 1 := by kernel_rfl
    refine ⟨w.setRow g (cur.toList.take j ++ [bv b] ++ cur.toList.drop (j + 1)).toArray, ?_, ?_⟩
    · refine y_st 5 x y ho (g := g) (k := j) (by rw [hx]; simp [ixV, addr_add]) hy hg #[.int .u8 (b.toNat : Int)] _ (by rfl) (by simp; omega) (by simp [Value.oneCell']) ?_ hi
      simp [bv]
    · refine M.write hk rfl (grown_setRow _ _ _) (fun _ e => e) _ ?_ ownR_dep fun q hq => ?_
      · refine ⟨by simp, .inr ⟨g, c, _, by rw [List.length_set], Nat.zero_le _, setRow_heap w g cur _ 5 (0, 0) hg, by rw [List.length_set]; exact hn, hc, ?_, ?_⟩⟩
        · simp; omega
        · have hlc : l.length ≤ cur.toList.length := by simp; omega
          apply List.ext_getElem?
          intro q
          rw [List.length_set, Nat.mul_one]
          have ht' : ∀ q : Nat, (cur.toList.take (l.length * 1))[q]? = (l.map bv)[q]? := fun q => by rw [ht]
          simp only [List.getElem?_take, List.getElem?_map, List.getElem?_set, Nat.mul_one] at ht' ⊢
          have := ht' q
          by_cases h1 : q < l.length
          · rw [if_pos h1] at this ⊢
            by_cases h2 : j = q
            · subst h2
              rw [if_pos rfl, if_pos hj]
              have h3 : (cur.toList.take j).length = j := by rw [List.length_take]; omega
              rw [List.append_assoc, List.getElem?_append_right (by omega), h3]
              simp
            · rw [if_neg h2, ← this]
              have h3 : (cur.toList.take j).length = j := by rw [List.length_take]; omega
              by_cases h4 : q < j
              · rw [List.append_assoc, List.getElem?_append_left (by omega), List.getElem?_take, if_pos h4]
              · rw [List.getElem?_append_right (by rw [List.length_append, h3]; simp; omega), List.length_append, h3]
                simp only [List.length_cons, List.length_nil, List.getElem?_drop]
                congr 1
                omega
          · rw [if_neg h1, if_neg (by omega), List.getElem?_eq_none (by omega)]; rfl
      · obtain rfl : g = q := by simpa [ownR, ofp, Value.ownBlock] using hq
        refine ⟨?_, .inl rfl⟩
        have : (w.setRow g (cur.toList.take j ++ [bv b] ++ cur.toList.drop (j + 1)).toArray).heap[g]? = some (.cells _ 5 (0, 0)) := setRow_heap w g cur _ 5 (0, 0) hg
        exact heap_lt this
end
section
variable {a : Act} {w : World} {o : Oper} {s : ByteArray} {z : Int}
theorem y_lenS (x : Operand) (ho : o.op = .call { callee := .builtin .len, args := #[x], argTypes := #[9] }) (hx : a.eval x = .string s) (hz : (s.size : Int) = z) : (execOp a.eval o).run Try.prog w = .ok (.value (.int .i64 z)) w := by
  subst hz
  simp only [execOp, ho, resolve, Sem.run_bind, Sem.run_pure, Result.andThen_ok, invoke, List.map_toArray, List.map_cons, List.map_nil, hx]
  simp [builtin, go_sem, Builtin.len_, run_underlying Try.underlying9, Result.andThen, goInt]
theorem y_nilB (x : Operand) (tz : TypeId) (ho : o.op = .binOp .eql 22 x (.const (.slice none 0 0)) tz) {A : Option Addr} {n c : Nat} (hx : a.eval x = .slice A n c) {b : Bool} (hb : A.isNone = b) : (execOp a.eval o).run Try.prog w = .ok (.value (.bool b)) w := by
  subst hb
  have h1 : (binOp .eql 22 (.slice A n c) (.slice none 0 0)).run Try.prog w = .ok (.bool A.isNone) w := by
    simp only [binOp]
    simp [run_equal_slice_nil w _ _ _ _ _ Try.underlying22]
  unfold execOp
  simp only [ho, hx, Sem.run_bind]
  rw [show a.eval (.const (.slice none 0 0)) = .slice none 0 0 from rfl]
  have h2 : (eqGuard .eql 22 x (.const (.slice none 0 0)) (.slice A n c) (.slice none 0 0)).run Try.prog w = .ok () w := by
    have hgt : Try.prog.eqGuardType Try.prog.depth 22 = false := by kernel_rfl
    simp [eqGuard, go_sem, hgt]
  rw [h2]
  simp only [Result.andThen_ok, h1]
  rfl
end
section
variable {P : Program} {ops : Array Oper} {Q : Exit → Act → World → Prop} {a : Act} {w w0 : World} {rest : List Oper} {o : Oper} {n : Nat} {G : Option Nat} {V : List (Nat × Value)}
theorem wl_runM (hw : Region.wanted o (yielded ops a.tmps) = true) {d : Nat} (hd : o.dst = some d) (F : Fx n a V ds) (hn : Nat.blt d n = true) {Rf : Value → List (Nat × Res)} (hr : ∃ v w', (execOp a.eval o).run P w = .ok (.value v) w' ∧ Mx G w0 w' (Rf v))
    (h : ∀ v a' w', Fx n a' ((d, v) :: V) ds → Mx G w0 w' (Rf v) → wpList P ops Q rest a' w') : wpList P ops Q (o :: rest) a w := by
  obtain ⟨v, w', h1, h2⟩ := hr
  exact wl_run hw hd F hn v h1 fun a' F' => h v a' w' F' h2
theorem wl_doM (hw : Region.wanted o (yielded ops a.tmps) = true) (hd : o.dst = none) (F : Fx n a V ds) {R' : List (Nat × Res)} (hr : ∃ w', (execOp a.eval o).run P w = .ok .skip w' ∧ Mx G w0 w' R')
    (h : ∀ w', Mx G w0 w' R' → wpList P ops Q rest a w') : wpList P ops Q (o :: rest) a w := by
  obtain ⟨w', h1, h2⟩ := hr
  exact wl_do hw hd F h1 (h w' h2)
end
def byteI (z : Int) : UInt8 := UInt8.ofNat (z % 256).toNat
theorem byteI_val (z : Int) : (((byteI z).toNat : Nat) : Int) = z % 256 := by
  have h : (byteI z).toNat = (z % 256).toNat := by unfold byteI; simp; omega
  rw [h]; omega
theorem byteI_wrap (z : Int) : IntKind.u8.wrap z = (((byteI z).toNat : Nat) : Int) := by rw [byteI_val, IntKind.wrap_u8]
theorem byte_i64 (b : UInt8) : IntKind.i64.wrap ((b.toNat : Nat) : Int) = ((b.toNat : Nat) : Int) := by
  have hb := b.toNat_lt
  rw [IntKind.wrap_i64]; omega
section
variable {G : Option Nat} {w0 w : World} {R : List (Nat × Res)} {a : Act} {o : Oper}
def bytN (N : Nat) (l : List UInt8) (v : Value) : Res := ⟨false, bfp v, fun w => IsB w l v ∧ ∀ g, bfp v g → N ≤ g⟩
theorem Mx.frN (M : Mx G w0 w R) {k N : Nat} {l : List UInt8} {v : Value} (h : look R k = some (bytN N l v)) : ∀ g, bfp v g → N ≤ g := (M.at_ k _ h).2
theorem Mx.unN (M : Mx G w0 w R) {k N : Nat} {l : List UInt8} {v : Value} (h : look R k = some (bytN N l v)) : Mx G w0 w ((k, bytR l v) :: R) :=
  M.cons k _ (M.at_ k _ h).1 bytR_dep (fun g hg => M.lt k _ h g hg) (fun e => by cases e) fun j s e hj hh g hg hg2 => by
    rcases hh with hh | hh
    · cases hh
    · exact M.dis j k s _ e h (fun e2 => hj e2.symm) hh g hg2 hg
def sBy (s : ByteArray) : List UInt8 := s.data.toList
theorem sBy_len (s : ByteArray) : (sBy s).length = s.size := by unfold sBy; rw [Array.length_toList]; rfl
theorem run_cvS (M : Mx G w0 w R) (i : Nat) (x : Operand) (ho : o.op = .convert 9 22 x) {s : ByteArray} (hx : a.eval x = .string s) (hs : s.size ≤ 1000000) :
    ∃ v w', (execOp a.eval o).run Try.prog w = .ok (.value v) w' ∧ Mx G w0 w' ((i, bytN w0.heap.size (sBy s) v) :: R) := by
  have hc := grownCap_ge w s.size 0 5
  have hm := grownCap_le_maxLen w s.size 0 5 (by unfold maxLen; omega)
  obtain ⟨w', hw'⟩ : ∃ w', w' = w.drew.alloc (.cells (bytesRow s (grownCap w s.size 0 5)) 5 ((bytesRow s (grownCap w s.size 0 5)).size, (bytesRow s (grownCap w s.size 0 5)).size + 1)) := ⟨_, rfl⟩
  have hh : w'.heap[w.heap.size]? = some (.cells (bytesRow s (grownCap w s.size 0 5)) 5 ((bytesRow s (grownCap w s.size 0 5)).size, (bytesRow s (grownCap w s.size 0 5)).size + 1)) := by
    rw [hw']; exact heap_alloc_new w.drew _
  refine ⟨.slice (some ⟨w.heap.size, 0, none⟩) s.size (grownCap w s.size 0 5), w', ?_, M.fresh (by rw [hw']; exact (step_drew w).trans (step_alloc w.drew _)) i _ ⟨?_, ?_⟩ (fun u u' hs h => ⟨IsB.same hs h.1, h.2⟩) ?_⟩
  · have h := run_bytes_of_string w 9 22 5 s Try.underlying9 Try.underlying22 Try.underlying5
    rw [hw']
    exact run_cv' _ _ x ho hx h
  · refine ⟨_, _, by rw [sBy_len], by rw [sBy_len]; exact hc, hm, (fun e => by cases e), fun _ => ⟨_, rfl, heap_lt hh, fun j b hj => ?_⟩⟩
    rw [addr_add, Nat.zero_add]
    have hl := (List.getElem?_eq_some_iff.1 hj).1
    rw [sBy_len] at hl
    have hcell : (bytesRow s (grownCap w s.size 0 5))[j]? = some (bv b) := by
      unfold bytesRow sBy at *
      rw [Array.getElem?_append]
      rw [if_pos (by simpa using hl)]
      rw [Array.getElem?_toList] at hj
      simp [hj, bv]
    simp [World.cell?, hh, hcell]
  · rintro g ⟨q, s', n, c, e, _⟩
    injection e with e
    injection e with e
    injection e with e
    have := M.le
    omega
  · rintro g ⟨q, s', n, c, e, _⟩
    injection e with e
    injection e with e
    injection e with e
    subst e
    exact ⟨Nat.le_refl _, heap_lt hh⟩
end
end Go.Proofs.Ytlbkogdmojlpmaa
