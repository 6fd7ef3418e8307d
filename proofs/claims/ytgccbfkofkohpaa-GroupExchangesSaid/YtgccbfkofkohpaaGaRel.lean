/- Slices of bytes that the call itself made: what they hold; appended to. -/
import Derived.Test.YtgccbfkofkohpaaGaKn
import Derived.Laws.AppendOwn
import Derived.Laws.AppendOwnNone
import Derived.Laws.IdiomStrings
import Derived.Deep.AppendLies
import Derived.Deep.RegionHeld3
import Derived.OpenShut
import Derived.Test.YtgccbfkofkohpaaGaInv
import Derived.Shelf.Abstract
import Derived.ScopeJumps
import Derived.Tactics
namespace Go.Proofs.Ytgccbfkofkohpaa
set_option linter.unusedVariables false
set_option maxRecDepth 20000
set_option linter.unusedSimpArgs false
open Go.ChangeShapes Go.WideShapes Go.ChangeAt Go.RowKit

theorem info_u8 : ∃ i, Try.prog.info? 5 = some i ∧ i.zero = some (.int .u8 0) ∧ i.size = 1 ∧ i.bytes = 1 := by
  have h0 : (Try.prog.info? 5).isSome = true := by kernel_rfl
  have h1 : (Try.prog.info? 5).map (·.size) = some 1 := by kernel_rfl
  have h2 : (Try.prog.info? 5).bind (·.zero) = some (.int .u8 0) := by kernel_rfl
  have h3 : (Try.prog.info? 5).map (·.bytes) = some 1 := by kernel_rfl
  cases h : Try.prog.info? 5 with
  | none => rw [h] at h0; cases h0
  | some i =>
    rw [h] at h1 h2 h3
    exact ⟨i, rfl, h2, Option.some.inj h1, Option.some.inj h3⟩
/-- The slice v, nil or in a block of the call's own (from base on), holds the bytes l. -/
def Byt (w : World) (base : Nat) (v : Value) (l : List UInt8) : Prop := w.ownsRow base 5 1 v l.length (l.map bv)
section
variable {w w' : World} {base : Nat} {v : Value} {l : List UInt8}
theorem Byt.nil (w : World) (base : Nat) : Byt w base (.slice none 0 0) [] := World.ownsRow_nil w base _ _
theorem Byt.slice (h : Byt w base v l) : ∃ A c, v = .slice A l.length c ∧ l.length ≤ c ∧ c ≤ maxLen ∧ Rd w A l ∧ ∀ k, v.ownBlock = some k → base ≤ k ∧ k < w.heap.size := by
  have hl := h.lt
  rcases h.2 with ⟨e, h0⟩ | ⟨g, c, cur, e, hb, hg, hn, hc, hs, ht⟩
  · refine ⟨none, 0, by rw [e, h0], by omega, by unfold maxLen; omega, fun hp => absurd hp (by omega), hl⟩
  · refine ⟨some ⟨g, 0, none⟩, c, e, hn, hc, fun _ => ⟨_, rfl, ?_, fun j b hj => ?_⟩, hl⟩
    · exact (hl g (by rw [e]; rfl)).2
    · exact h.cells (g := g) (by rw [e]; rfl) j (bv b) (by rw [List.getElem?_map, hj]; rfl)
theorem Byt.below (h : Byt w base v l) {B : Nat} (hb : Below B w w') (hB : ∀ k, v.ownBlock = some k → k < B) : Byt w' base v l := by
  refine ⟨h.1, ?_⟩
  rcases h.2 with hn | ⟨g, c, cur, e, hbg, hg, rest⟩
  · exact .inl hn
  · exact .inr ⟨g, c, cur, e, hbg, (hb.block g (hB g (by rw [e]; rfl))).trans hg, rest⟩
theorem Byt.step (h : Byt w base v l) (hb : Below w.heap.size w w') : Byt w' base v l := h.below hb fun k e => (h.lt k e).2
theorem Byt.alloc (h : Byt w base v l) (o : Obj) : Byt (w.alloc o) base v l := World.ownsRow.alloc h o
end
/-- A slice that leads to these bytes is appended to one of the call's own. -/
theorem wpList_append_bytes {ops : Array Oper} {rest : List Oper} {o : Oper} {a : Act} {w : World} {Q : Exit → Act → World → Prop} (hgd : o.guard = none) (s x : Operand)
    (ho : o.op = .call { callee := .builtin .append, args := #[s, x], argTypes := #[43, 43] })
    (base : Nat) (v : Value) (l r : List UInt8) (hs : a.eval s = v) (hown : Byt w base v l) (A : Option Addr) (m c : Nat) (hx : a.eval x = .slice A m c) (hr : r.length = m) (hc : A = none → c = 0) (hR : Rd w A r)
    (hle : l.length + r.length ≤ 1000000) (hbase : base ≤ w.heap.size)
    (h : ∀ v' w', Byt w' base v' (l ++ r) → Below base w w' → w.grownBy w' v.ownBlock → wpList Try.prog ops Q rest (a.put o.dst v') w') : wpList Try.prog ops Q (o :: rest) a w := by
  obtain ⟨i, hi1, hi2, hi3, hi4⟩ := info_u8
  subst hr
  cases A with
  | none =>
    have h0 : r = [] := by
      cases r with
      | nil => rfl
      | cons b r => obtain ⟨ad, e, _⟩ := hR (by simp); cases e
    subst h0
    rw [hc rfl] at hx
    refine wpList_append_own_none hgd s x _ ho base _ i 1 Try.underlying43 hi1 v l.length (l.map bv) hs hown hx ?_
    refine h v w ?_ (Below.refl _ _) (World.grownBy.refl _ _)
    rw [List.append_nil]; exact hown
  | some ad =>
    refine wpList_append_own _ hgd s x _ ho base _ i (.int .u8 0) 1 1 Try.underlying43 hi1 hi2 hi3 hi4 rfl (by decide) v l.length (l.map bv) hs hown ad r.length c (r.map bv) hx (by simp) (fun j u hj => ?_) (fun u hu => ?_) (by unfold maxLen; omega) (by omega) hbase ?_
    · rw [List.getElem?_map] at hj
      cases hb : r[j]? with
      | none => rw [hb] at hj; cases hj
      | some b =>
        rw [hb] at hj
        obtain rfl := Option.some.inj hj
        obtain ⟨ad', e, _, hcl⟩ := hR (by have := (List.getElem?_eq_some_iff.1 hb).1; omega)
        cases e
        exact hcl j b hb
    · obtain ⟨b, _, rfl⟩ := List.mem_map.1 hu
      rfl
    · intro v' w' h1 h2 _
      refine h v' w' ?_ ((Below.refl _ _).grown h2 hbase (fun k e => (hown.lt k e).1)) h2
      unfold Byt
      rw [List.length_append, List.map_append]
      exact h1
/-- .. at a step of a region that draws its order. -/
theorem step_append_bytes {ops : Array Oper} {o : Oper} {a : Act} {w : World} {K : Act → World → Prop} {Q : Exit → Act → World → Prop} {E : Prop} (hgd : o.guard = none) (s x : Operand)
    (ho : o.op = .call { callee := .builtin .append, args := #[s, x], argTypes := #[43, 43] })
    (base : Nat) (v : Value) (l r : List UInt8) (hs : a.eval s = v) (hown : Byt w base v l) (ad : Addr) (m c : Nat) (hx : a.eval x = .slice (some ad) m c) (hr : r.length = m) (hm : 0 < m) (hR : Rd w (some ad) r)
    (hle : l.length + r.length ≤ 1000000) (hbase : base ≤ w.heap.size)
    (h : ∀ g cap w', Byt w' base (.slice (some ⟨g, 0, none⟩) (l.length + m) cap) (l ++ r) → Below base w w' → w.grownBy w' v.ownBlock → (v.ownBlock = some g ∨ g = w.heap.size) → g < w'.heap.size → K (a.put o.dst (.slice (some ⟨g, 0, none⟩) (l.length + m) cap)) w') :
    if Region.wanted o (yielded ops a.tmps) = true then Oper.wp Try.prog o a w K Q else E := by
  obtain ⟨i, hi1, hi2, hi3, hi4⟩ := info_u8
  subst hr
  refine step_append_lies w hgd s x _ ho base _ i (.int .u8 0) 1 1 Try.underlying43 hi1 hi2 hi3 hi4 rfl (by decide) v l.length (l.map bv) hs hown ad r.length c (r.map bv) hx (by simp) (fun j u hj => ?_) (fun u hu => ?_) hm (by unfold maxLen; omega) (by omega) hbase _ rfl ?_
  · rw [List.getElem?_map] at hj
    cases hb : r[j]? with
    | none => rw [hb] at hj; cases hj
    | some b =>
      rw [hb] at hj
      obtain rfl := Option.some.inj hj
      obtain ⟨ad', e, _, hcl⟩ := hR (by have := (List.getElem?_eq_some_iff.1 hb).1; omega)
      cases e
      exact hcl j b hb
  · obtain ⟨b, _, rfl⟩ := List.mem_map.1 hu
    rfl
  · intro g cap w' h1 h2 h3 h4
    refine h g cap w' ?_ ((Below.refl _ _).grown h2 hbase (fun k e => (hown.lt k e).1)) h2 h3 h4
    unfold Byt
    rw [List.length_append, List.map_append]
    exact h1
/-- A slice of bytes as a string. -/
theorem run_string_bytes (w : World) (A : Option Addr) (l : List UInt8) (n c : Nat) (hn : l.length = n) (hR : Rd w A l) : (convert 43 9 (.slice A n c)).run Try.prog w = .ok (.string ⟨l.toArray⟩) w := by
  subst hn
  cases A with
  | none =>
    have h0 : l = [] := by
      cases l with
      | nil => rfl
      | cons b r => obtain ⟨ad, e, _⟩ := hR (by simp); cases e
    subst h0
    rw [run_convert_bytes_string w 43 9 5 none _ _ Try.underlying43 Try.underlying5 Try.underlying9]; rfl
  | some ad =>
    refine run_convert_bytes_back w _ _ 5 ad c l Try.underlying43 Try.underlying5 Try.underlying9 (fun j hj => ?_)
    obtain ⟨ad', e, _, hcl⟩ := hR (by omega)
    cases e
    exact hcl j l[j] (List.getElem?_eq_getElem hj)
/-- Where such a slice leads to: a block and a place in it. -/
theorem Rd.at {w : World} {A : Option Addr} {l : List UInt8} (h : Rd w A l) (hp : 0 < l.length) : ∃ b o, A = some ⟨b, o, none⟩ ∧ b < w.heap.size ∧ ∀ j x, l[j]? = some x → w.cell? ⟨b, o + j, none⟩ = some (.int .u8 (x.toNat : Int)) := by
  obtain ⟨⟨b, o, s⟩, e, hb, hc⟩ := h hp
  have h0 := hc 0 l[0] (List.getElem?_eq_getElem hp)
  have h1 : (⟨b, o, s⟩ : Addr).add 0 = ⟨b, o, s⟩ := by simp [Addr.add]
  rw [h1] at h0
  cases s with
  | some t =>
    exfalso
    unfold World.cell? at h0
    split at h0 <;> simp_all
  | none =>
    refine ⟨b, o, e, hb, fun j x hx => ?_⟩
    have := hc j x hx
    rwa [addr_add] at this
theorem rd_of {w : World} {a : Option Addr} {len cap : Nat} {zs : List Int} (h : (a = none ∧ len = 0 ∧ cap = 0 ∧ zs = []) ∨
    ∃ x, a = some x ∧ len ≤ cap ∧ cap ≤ maxLen ∧ zs.length = cap ∧ (∀ i, i < zs.length → w.cell? (x.add i) = some (.int .u8 (zs.getD i 0))) ∧ ∀ n ∈ zs, (Lit.int .u8 n).wf = true) :
    ∃ l : List UInt8, l.length = len ∧ len ≤ cap ∧ cap ≤ maxLen ∧ (a = none → cap = 0) ∧ Rd w a l := by
  rcases h with ⟨rfl, rfl, rfl, rfl⟩ | ⟨x, rfl, hl, hm, hz, hc, hw⟩
  · exact ⟨[], rfl, Nat.le_refl _, by unfold maxLen; omega, fun _ => rfl, fun h => absurd h (by simp)⟩
  · refine ⟨(zs.take len).map fun z => UInt8.ofNat z.toNat, by simp; omega, hl, hm, (fun h => by cases h), fun hp => ?_⟩
    have hp' : 0 < len := by simpa using (by simp at hp; omega : 0 < len)
    refine ⟨x, rfl, ?_, fun j b hj => ?_⟩
    · have := World.block_lt_of_cell? w _ (hc 0 (by omega))
      have e : (x.add 0).block = x.block := by unfold Addr.add; split <;> rfl
      rwa [e] at this
    · rw [List.getElem?_map] at hj
      obtain ⟨z, hz1, rfl⟩ := Option.map_eq_some_iff.1 hj
      rw [List.getElem?_take] at hz1
      have hjl : j < len := by
        refine Nat.lt_of_not_le fun h => ?_
        rw [if_neg (by omega)] at hz1; cases hz1
      rw [if_pos hjl] at hz1
      have hjz := (List.getElem?_eq_some_iff.1 hz1)
      obtain ⟨hj1, hj2⟩ := hjz
      have hwz := bounds_u8 (hw z (by rw [← hj2]; exact List.getElem_mem hj1))
      rw [hc j hj1]
      have e : zs.getD j 0 = z := by simp [hz1]
      rw [e]
      unfold bv
      have : (UInt8.ofNat z.toNat).toNat = z.toNat := by simp; omega
      rw [this]
      congr 2
      omega
end Go.Proofs.Ytgccbfkofkohpaa
namespace Go.Proofs.Ytgccbfkofkohpaa
set_option linter.unusedVariables false
set_option maxRecDepth 20000
set_option linter.unusedSimpArgs false
open Go.ChangeShapes Go.WideShapes Go.ChangeAt Go.RowKit

/-- The operation that writes slot t. -/
def depOf (L : List Oper) (t : Tmp) : Option Nat := L.findIdx? fun o => o.dst == some t
def relOk (L : List Oper) (n : Nat) : Bool :=
  Region.noSelect L.toArray && backB L.toArray &&
  ((List.range L.length).all fun i => match L[i]? with
    | none => true
    | some o => (match o.dst with
        | none => true
        | some d => decide (d < n) && depOf L d == some i) &&
      (o.looksAt L.toArray).all fun t => match depOf L t with
        | none => true
        | some j => o.after.any fun e => Region.binds .any e && e.on == j)
/-- What is known of slot t where operation o reads it. -/
def SlotOk (L : List Oper) (Y : Nat → World → Value → Prop) (a0 a : Act) (w : World) (t : Tmp) : Prop :=
  match depOf L t with
  | none => a.eval (.tmp t) = a0.eval (.tmp t)
  | some j => Y j w (a.eval (.tmp t))
def Hop (P : Program) (L : List Oper) (Q : Exit → Act → World → Prop) (Y : Nat → World → Value → Prop) (a0 : Act) (W : World) (k : Nat) (o : Oper) : Prop :=
  ∀ (a : Act) (w : World), Below W.heap.size W w → (∀ t ∈ o.looksAt L.toArray, SlotOk L Y a0 a w t) →
    if Region.wanted o (yielded L.toArray a.tmps) = true then o.wp P a w (fun a' w' => ∃ v, a' = a.put o.dst v ∧ Below w.heap.size w w' ∧ Y k w' v) Q else Y k w undef
def HopAll (P : Program) (L : List Oper) (Q : Exit → Act → World → Prop) (Y : Nat → World → Value → Prop) (a0 : Act) (W : World) : List Oper → Nat → Prop
  | [], _ => True
  | o :: l, k => Hop P L Q Y a0 W k o ∧ HopAll P L Q Y a0 W l (k + 1)
def layAll (p : Nat → Value) : List Oper → Nat → Act → Act
  | [], _, a => a
  | o :: l, k, a => layAll p l (k + 1) (a.put o.dst (p k))
def YAll (Y : Nat → World → Value → Prop) (p : Nat → Value) (w : World) : List Oper → Nat → Prop
  | [], _ => True
  | o :: l, k => (o.dst ≠ none → Y k w (p k)) ∧ YAll Y p w l (k + 1)

theorem hop_at {P : Program} {L : List Oper} {Q : Exit → Act → World → Prop} {Y : Nat → World → Value → Prop} {a0 : Act} {W : World} : ∀ (l : List Oper) (k : Nat), HopAll P L Q Y a0 W l k → ∀ (i : Nat) (o : Oper), l[i]? = some o → Hop P L Q Y a0 W (k + i) o
  | [], _, _, i, o, ho => by cases ho
  | q :: l, k, h, 0, o, ho => by
    simp only [List.getElem?_cons_zero, Option.some.injEq] at ho
    subst ho; exact h.1
  | q :: l, k, h, i + 1, o, ho => by
    have := hop_at l (k + 1) h.2 i o (by simpa using ho)
    rwa [show k + 1 + i = k + (i + 1) by omega] at this
theorem yall_of {Y : Nat → World → Value → Prop} {p : Nat → Value} {w : World} : ∀ (l : List Oper) (k : Nat), (∀ (i : Nat) (o : Oper), l[i]? = some o → o.dst ≠ none → Y (k + i) w (p (k + i))) → YAll Y p w l k
  | [], _, _ => trivial
  | q :: l, k, h => ⟨fun hd => h 0 q rfl hd, yall_of l (k + 1) fun i o ho hd => by
    have := h (i + 1) o (by simpa using ho) hd
    rwa [show k + (i + 1) = k + 1 + i by omega] at this⟩
theorem eval_put_ne {a : Act} {dst : Option Tmp} {v : Value} {t : Tmp} (h : dst ≠ some t) : (a.put dst v).eval (.tmp t) = a.eval (.tmp t) :=
  Act.eval_put fun d hd e => by cases e; exact h hd
theorem eval_put_self {a : Act} {d : Tmp} {v : Value} (h : d < a.tmps.size) : (a.put (some d) v).eval (.tmp d) = v := by
  simp [Act.put, Act.eval, h]
theorem put_size (a : Act) (dst : Option Tmp) (v : Value) : (a.put dst v).tmps.size = a.tmps.size := by cases dst <;> simp [Act.put]
theorem put_defers (a : Act) (dst : Option Tmp) (v : Value) : (a.put dst v).defers = a.defers := by cases dst <;> rfl
theorem lay_size (p : Nat → Value) : ∀ (l : List Oper) (k : Nat) (a : Act), (layAll p l k a).tmps.size = a.tmps.size ∧ (layAll p l k a).defers = a.defers
  | [], _, _ => ⟨rfl, rfl⟩
  | o :: l, k, a => by
    obtain ⟨h1, h2⟩ := lay_size p l (k + 1) (a.put o.dst (p k))
    exact ⟨h1.trans (put_size _ _ _), h2.trans (put_defers _ _ _)⟩
theorem lay_base (p : Nat → Value) {t : Tmp} : ∀ (l : List Oper) (k : Nat) (a : Act), (∀ (j : Nat) (oj : Oper), l[j]? = some oj → oj.dst ≠ some t) → (layAll p l k a).eval (.tmp t) = a.eval (.tmp t)
  | [], _, _, _ => rfl
  | o :: l, k, a, h => (lay_base p l (k + 1) _ fun j oj hj => h (j + 1) oj (by simpa using hj)).trans (eval_put_ne (h 0 o rfl))
theorem lay_at (p : Nat → Value) {t : Tmp} : ∀ (l : List Oper) (k i : Nat) (a : Act) (o : Oper), l[i]? = some o → o.dst = some t → t < a.tmps.size → (∀ (j : Nat) (oj : Oper), l[j]? = some oj → j ≠ i → oj.dst ≠ some t) → (layAll p l k a).eval (.tmp t) = p (k + i)
  | [], _, _, _, _, h, _, _, _ => by cases h
  | q :: l, k, 0, a, o, h, hd, hs, hn => by
    simp only [List.getElem?_cons_zero, Option.some.injEq] at h
    subst h
    refine (lay_base p l (k + 1) _ fun j oj hj => hn (j + 1) oj (by simpa using hj) (by omega)).trans ?_
    rw [hd]; exact eval_put_self hs
  | q :: l, k, i + 1, a, o, h, hd, hs, hn => by
    have := lay_at p l (k + 1) i (a.put q.dst (p k)) o (by simpa using h) hd (by rw [put_size]; exact hs) fun j oj hj hji => hn (j + 1) oj (by simpa using hj) (by omega)
    rw [show k + 1 + i = k + (i + 1) by omega] at this
    exact this
theorem act_ext {a b : Act} (hs : a.tmps.size = b.tmps.size) (hd : a.defers = b.defers) (h : ∀ t, t < a.tmps.size → a.eval (.tmp t) = b.eval (.tmp t)) : a = b := by
  obtain ⟨ta, da⟩ := a
  obtain ⟨tb, db⟩ := b
  simp only at hs hd h
  subst hd
  congr 1
  refine Array.ext hs fun i h1 h2 => ?_
  have := h i h1
  simpa [Act.eval, h1, h2] using this
theorem depOf_some {L : List Oper} {t : Tmp} {j : Nat} (h : depOf L t = some j) : ∃ o, L[j]? = some o ∧ o.dst = some t := by
  unfold depOf at h
  obtain ⟨hl, h1, _⟩ := List.findIdx?_eq_some_iff_getElem.1 h
  exact ⟨L[j], List.getElem?_eq_getElem hl, by simpa using h1⟩
theorem depOf_none {L : List Oper} {t : Tmp} (h : depOf L t = none) : ∀ (j : Nat) (o : Oper), L[j]? = some o → o.dst ≠ some t := by
  intro j o ho e
  unfold depOf at h
  rw [List.findIdx?_eq_none_iff] at h
  have := h o (List.mem_of_getElem? ho)
  simp [e] at this
/-- **A region's orders, by what each operation leaves behind.** -/
theorem wp_region_rel {P : Program} {id : Nat} {Q : Exit → Act → World → Prop} {a0 : Act} {W : World} {L : List Oper} (n : Nat) (hn : a0.tmps.size = n) (hm : P.follows .mixedOrders = true) (hok : relOk L n = true) (Y : Nat → World → Value → Prop)
    (hY : ∀ i w w' v, Below w.heap.size w w' → Y i w v → Y i w' v) (hop : HopAll P L Q Y a0 W L 0)
    (hend : ∀ (p : Nat → Value) (w : World), Below W.heap.size W w → YAll Y p w L 0 → Q .normal (layAll p L 0 a0) w) : (Code.region id L.toArray true).wp P Q a0 W := by
  unfold relOk at hok
  simp only [Bool.and_eq_true, List.all_eq_true] at hok
  obtain ⟨⟨hsel, hE⟩, hall⟩ := hok
  have hdst : ∀ (i : Nat) (o : Oper) (d : Tmp), L[i]? = some o → o.dst = some d → d < n ∧ depOf L d = some i := fun i o d ho hd => by
    have h1 := hall i (List.mem_range.2 (List.getElem?_eq_some_iff.1 ho).1)
    simp only [ho, hd, Bool.and_eq_true, decide_eq_true_eq, beq_iff_eq] at h1
    exact h1.1
  have hread : ∀ (i : Nat) (o : Oper) (t : Tmp) (j : Nat), L[i]? = some o → t ∈ o.looksAt L.toArray → depOf L t = some j → ∃ e ∈ o.after, Region.binds .any e = true ∧ e.on = j := fun i o t j ho ht hj => by
    have h1 := hall i (List.mem_range.2 (List.getElem?_eq_some_iff.1 ho).1)
    simp only [ho, Bool.and_eq_true, List.all_eq_true] at h1
    have h2 := h1.2 t ht
    simp only [hj, Array.any_eq_true, Bool.and_eq_true, beq_iff_eq] at h2
    obtain ⟨x, hx, hb, he⟩ := h2
    exact ⟨_, Array.getElem_mem hx, hb, he⟩
  have hdis : ∀ (i j : Nat) (oi oj : Oper) (d : Tmp), L[i]? = some oi → L[j]? = some oj → j ≠ i → oi.dst = some d → oj.dst ≠ some d := fun i j oi oj d hi hj hne hd e => by
    have h1 := (hdst i oi d hi hd).2
    have h2 := (hdst j oj d hj e).2
    rw [h1] at h2
    exact hne (Option.some.inj h2).symm
  refine wp_region_inv hm (fun listed a w => Below W.heap.size W w ∧ a.tmps.size = n ∧ a.defers = a0.defers ∧
    (∀ t : Tmp, (∀ (j : Nat) (oj : Oper), L[j]? = some oj → listed.getD j true = true → oj.dst ≠ some t) → a.eval (.tmp t) = a0.eval (.tmp t)) ∧
    (∀ (j : Nat) (oj : Oper) (d : Tmp), L[j]? = some oj → listed.getD j true = true → oj.dst = some d → Y j w (a.eval (.tmp d)))) ?_ ?_ ?_
  · refine ⟨step_drew W, hn, rfl, fun _ _ => rfl, fun j oj d hj hl _ => ?_⟩
    have hjl := (List.getElem?_eq_some_iff.1 hj).1
    simp [hjl] at hl
  · rintro listed a w i hs ⟨hB, hz, hd, hbase, hYs⟩ hi
    obtain ⟨hiu, o, ho, hwait⟩ := mem_ready.1 hi
    have ho' : L[i]? = some o := by simpa using ho
    have hil := (List.getElem?_eq_some_iff.1 ho').1
    have hh := hop_at L 0 hop i o ho'
    rw [Nat.zero_add] at hh
    have hslots : ∀ t ∈ o.looksAt L.toArray, SlotOk L Y a0 a w t := fun t ht => by
      unfold SlotOk
      cases hj : depOf L t with
      | none => exact hbase t fun j oj hoj _ => depOf_none hj j oj hoj
      | some j =>
        obtain ⟨oj, hoj, hdj⟩ := depOf_some hj
        obtain ⟨e, he, hb, hon⟩ := hread i o t j ho' ht hj
        have h1 := hwait e he hb
        rw [hon] at h1
        refine hYs j oj t hoj ?_ hdj
        have hjl : j < listed.size := by rw [hs]; simpa using (List.getElem?_eq_some_iff.1 hoj).1
        simpa [hjl] using h1
    have hh := hh a w hB hslots
    have hset : ∀ (v : Value) (w' : World), Below w.heap.size w w' → Y i w' v → (Below W.heap.size W w' ∧ (a.put o.dst v).tmps.size = n ∧ (a.put o.dst v).defers = a0.defers ∧
        (∀ t : Tmp, (∀ (j : Nat) (oj : Oper), L[j]? = some oj → (listed.setIfInBounds i true).getD j true = true → oj.dst ≠ some t) → (a.put o.dst v).eval (.tmp t) = a0.eval (.tmp t)) ∧
        (∀ (j : Nat) (oj : Oper) (d : Tmp), L[j]? = some oj → (listed.setIfInBounds i true).getD j true = true → oj.dst = some d → Y j w' ((a.put o.dst v).eval (.tmp d)))) := fun v w' hb hy => by
      refine ⟨hB.trans (hb.mono hB.size), by rw [put_size]; exact hz, by rw [put_defers]; exact hd, fun t ht => ?_, fun j oj d hoj hl hdj => ?_⟩
      · rw [eval_put_ne (ht i o ho' (by rw [Array.getD_eq_getD_getElem?, Array.getElem?_setIfInBounds_self]; simp [hs, hil]))]
        refine hbase t fun j oj hoj hl => ht j oj hoj ?_
        by_cases e : i = j
        · subst e; rw [hl] at hiu; cases hiu
        · rw [getD_set_ne true e]; exact hl
      · by_cases e : i = j
        · subst e
          obtain rfl : o = oj := Option.some.inj (ho'.symm.trans hoj)
          rw [hdj, eval_put_self (by rw [hz]; exact (hdst i o d ho' hdj).1)]
          exact hy
        · rw [eval_put_ne (hdis j i oj o d hoj ho' e hdj)]
          rw [getD_set_ne true e] at hl
          exact hY j w w' _ hb (hYs j oj d hoj hl hdj)
    unfold wpOp
    simp only [ho]
    by_cases hw : Region.wanted o (yielded L.toArray a.tmps) = true
    · rw [if_pos hw] at hh ⊢
      exact .inl (Oper.wp_mono (fun a' w' ⟨v, e, hb, hy⟩ => by rw [e]; exact hset v w' hb hy) hh)
    · rw [if_neg hw] at hh ⊢
      exact hset undef w (Below.refl _ _) hh
  · rintro listed a w hs ⟨hB, hz, hd, hbase, hYs⟩ hr
    have hlisted : ∀ (j : Nat) (oj : Oper), L[j]? = some oj → listed.getD j true = true := fun j oj hoj => by
      have hjl := (List.getElem?_eq_some_iff.1 hoj).1
      cases h : listed.getD j true with
      | true => rfl
      | false => exact absurd hr (ready_of_unlisted hE hs j (by simpa using hjl) h)
    have hp : a = layAll (fun j => a.eval (match (L[j]?).bind (·.dst) with | some d => .tmp d | none => .const undef)) L 0 a0 := by
      obtain ⟨z1, z2⟩ := lay_size (fun j => a.eval (match (L[j]?).bind (·.dst) with | some d => .tmp d | none => .const undef)) L 0 a0
      refine act_ext (by rw [z1, hz, hn]) (by rw [z2, hd]) fun t ht => ?_
      cases hj : depOf L t with
      | none => rw [lay_base _ L 0 a0 (depOf_none hj)]; exact hbase t fun j oj hoj _ => depOf_none hj j oj hoj
      | some j =>
        obtain ⟨oj, hoj, hdj⟩ := depOf_some hj
        rw [lay_at _ L 0 j a0 oj hoj hdj (by rw [hn, ← hz]; exact ht) fun i oi hi hne => hdis j i oj oi t hoj hi hne hdj]
        simp [hoj, hdj]
    rw [hp]
    refine hend _ w hB (yall_of L 0 fun i o ho hdn => ?_)
    rw [Nat.zero_add]
    cases hdo : o.dst with
    | none => exact absurd hdo hdn
    | some d =>
      simp only [ho, hdo, Option.bind_some]
      exact hYs i o d ho (hlisted i o ho) hdo

/-- What is known of a value, and stays so. -/
structure St where
  F : World → Value → Prop
  h : ∀ w w' v, Below w.heap.size w w' → F w v → F w' v
def St.any : St := ⟨fun _ _ => True, fun _ _ _ _ _ => trivial⟩
def St.eq (c : Value) : St := ⟨fun _ v => v = c, fun _ _ _ _ h => h⟩
/-- A slice that leads to these bytes. -/
def IsB (w : World) (l : List UInt8) (v : Value) : Prop := ∃ A c, v = .slice A l.length c ∧ l.length ≤ c ∧ c ≤ maxLen ∧ (A = none → c = 0) ∧ Rd w A l
theorem IsB.step {w w' : World} {l : List UInt8} {v : Value} (h : IsB w l v) (hb : Below w.heap.size w w') : IsB w' l v := by
  obtain ⟨A, c, h1, h2, h3, h4, h5⟩ := h
  exact ⟨A, c, h1, h2, h3, h4, h5.step hb⟩
def St.bytes (l : List UInt8) : St := ⟨fun w v => IsB w l v, fun _ _ _ hb h => h.step hb⟩
def stY (S : List St) (i : Nat) (w : World) (v : Value) : Prop := ((S[i]?).getD St.any).F w v
theorem wp_region_st {P : Program} {id : Nat} {Q : Exit → Act → World → Prop} {a0 : Act} {W : World} {L : List Oper} (S : List St) (n : Nat) (hn : a0.tmps.size = n) (hm : P.follows .mixedOrders = true) (hok : relOk L n = true)
    (hop : HopAll P L Q (stY S) a0 W L 0)
    (hend : ∀ (p : Nat → Value) (w : World), Below W.heap.size W w → YAll (stY S) p w L 0 → Q .normal (layAll p L 0 a0) w) : (Code.region id L.toArray true).wp P Q a0 W :=
  wp_region_rel n hn hm hok (stY S) (fun i w w' v hb h => ((S[i]?).getD St.any).h w w' v hb h) hop hend
section
variable {P : Program} {L : List Oper} {Q : Exit → Act → World → Prop} {a : Act} {w : World} {o : Oper} {F : World → Value → Prop}
theorem wanted_none {ops : Array Oper} (hg : o.guard = none) : Region.wanted o (yielded ops a.tmps) = true := by simp [Region.wanted, hg]
theorem wanted_by {ops : Array Oper} {g : Nat} {b c : Bool} {og : Oper} {d : Tmp} (hg : o.guard = some (g, b)) (ho : ops[g]? = some og) (hd : og.dst = some d) (hv : a.eval (.tmp d) = .bool c) : Region.wanted o (yielded ops a.tmps) = (c == b) := by
  have h1 : a.tmps[d]? = some (.bool c) := by
    simp only [Act.eval, Array.getD_eq_getD_getElem?] at hv
    cases h : a.tmps[d]? with
    | none => rw [h] at hv; cases hv
    | some u => rw [h] at hv; simp at hv; rw [hv]
  simp [Region.wanted, hg, yielded, ho, hd, h1]
theorem wanted_yes {ops : Array Oper} {g : Nat} {b : Bool} {og : Oper} {d : Tmp} (hg : o.guard = some (g, b)) (ho : ops[g]? = some og) (hd : og.dst = some d) (hv : a.eval (.tmp d) = .bool b) : Region.wanted o (yielded ops a.tmps) = true := by
  rw [wanted_by hg ho hd hv]; simp
/-- An operation that yields, in the world that it got. -/
theorem hop_run {ops : Array Oper} (hw : Region.wanted o (yielded ops a.tmps) = true) (v : Value) (hr : (execOp a.eval o).run P w = .ok (.value v) w) (hF : F w v) :
    if Region.wanted o (yielded ops a.tmps) = true then o.wp P a w (fun a' w' => ∃ v, a' = a.put o.dst v ∧ Below w.heap.size w w' ∧ F w' v) Q else F w undef := by
  rw [if_pos hw]
  unfold Oper.wp
  rw [hr]
  exact ⟨v, rfl, Below.refl _ _, hF⟩
theorem hop_skip {ops : Array Oper} {g : Nat} {b : Bool} {og : Oper} {d : Tmp} (hg : o.guard = some (g, b)) (ho : ops[g]? = some og) (hd : og.dst = some d) (hv' : a.eval (.tmp d) = .bool (!b)) (hF : F w undef) {X : Prop} :
    if Region.wanted o (yielded ops a.tmps) = true then X else F w undef := by
  rw [wanted_by hg ho hd hv', if_neg (by cases b <;> simp)]
  exact hF
theorem hop_call {ops : Array Oper} (hw : Region.wanted o (yielded ops a.tmps) = true) {f : FuncId} {args : Array Operand} {ts : Array TypeId} (ho : o.op = .call { callee := .value (.func f), args := args, argTypes := ts }) (vals : Array Value) (hv : args.map a.eval = vals) (hr : ∀ args w, (callFunc f args).run P w = .ok (.enter f args) w)
    (hc : Calls P f vals w fun e w' => ∃ v, e = .returned v ∧ Below w.heap.size w w' ∧ F w' v) :
    if Region.wanted o (yielded ops a.tmps) = true then o.wp P a w (fun a' w' => ∃ v, a' = a.put o.dst v ∧ Below w.heap.size w w' ∧ F w' v) Q else F w undef := by
  rw [if_pos hw]
  subst hv
  unfold Oper.wp
  have : (execOp a.eval o).run P w = .ok (.enter f (args.map a.eval)) w := by
    simp [execOp, ho, resolve, invoke, Act.eval, go_sem, hr]
  rw [this]
  exact hc.mono fun e w' ⟨v, he, hb, hF⟩ => by subst he; exact ⟨v, rfl, hb, hF⟩
theorem run_mv (x : Operand) (ho : o.op = .move x ∨ o.op = .assign x) {v : Value} (hx : a.eval x = v) : (execOp a.eval o).run P w = .ok (.value v) w := by
  rcases ho with ho | ho <;> simp [execOp, ho, hx]
theorem run_cv (s d : TypeId) (x : Operand) (ho : o.op = .convert s d x) {u v : Value} (hx : a.eval x = u) (h : (convert s d u).run P w = .ok v w) : (execOp a.eval o).run P w = .ok (.value v) w := by
  simp [execOp, ho, hx, h, Result.andThen]
theorem run_pick {x y z : Operand} (ho : o.op = .pick x y z) {b : Bool} (hx : a.eval x = .bool b) {v : Value} (hy : (if b then a.eval y else a.eval z) = v) : (execOp a.eval o).run P w = .ok (.value v) w := by
  subst hy
  simp [execOp, ho, hx, asBool, Result.andThen]
theorem run_pick_t {x y z : Operand} (ho : o.op = .pick x y z) (hx : a.eval x = .bool true) {v : Value} (hy : a.eval y = v) : (execOp a.eval o).run P w = .ok (.value v) w :=
  run_pick ho hx (by rw [if_pos rfl]; exact hy)
theorem run_pick_f {x y z : Operand} (ho : o.op = .pick x y z) (hx : a.eval x = .bool false) {v : Value} (hy : a.eval z = v) : (execOp a.eval o).run P w = .ok (.value v) w :=
  run_pick ho hx (by rw [if_neg (by simp)]; exact hy)
theorem run_ln (x : Operand) (t : TypeId) (ho : o.op = .call { callee := .builtin .len, args := #[x], argTypes := #[t] }) {A : Option Addr} {n c : Nat} (hx : a.eval x = .slice A n c) (ht : P.underlying t = some (.slice (P.elem t))) : (execOp a.eval o).run P w = .ok (.value (.int .i64 (n : Int))) w := by
  simp only [execOp, ho, resolve, Sem.run_bind, Sem.run_pure, Result.andThen_ok, invoke, List.map_toArray, List.map_cons, List.map_nil, hx]
  simp [builtin, go_sem, run_len_slice w t o.type A n c ht, Result.andThen, goInt]
theorem run_ld (ty : TypeId) (x : Operand) (ho : o.op = .load ty x) {g : Nat} (hx : a.eval x = .pointer (some ⟨g, 0, none⟩)) {t : TypeId} {n : Nat} {d : TypeDesc} (hg : Num w g t n) (hu : P.underlying ty = some d)
    (hd : (match d with | .struct _ | .array _ _ => true | _ => false) = true) (hi : (P.info? ty).map (·.size) = some 8) : (execOp a.eval o).run P w = .ok (.value (numV n)) w := by
  simp [execOp, ho, hx, run_load_num w ty g t n d hg hu hd hi, Result.andThen]
theorem run_not (t : TypeId) (x : Operand) (ho : o.op = .unOp .not t x) {b : Bool} (hx : a.eval x = .bool b) : (execOp a.eval o).run P w = .ok (.value (.bool (!b))) w := by
  unfold execOp
  simp only [ho, hx]
  rfl
end
theorem run_ldN {o : Oper} {a : Act} {w : World} (x : Operand) (ho : o.op = .load 26 x) {g : Nat} (hx : a.eval x = .pointer (some ⟨g, 0, none⟩)) {t : TypeId} {n : Nat} (hg : Num w g t n) : (execOp a.eval o).run Try.prog w = .ok (.value (numV n)) w :=
  run_ld _ x ho hx hg Try.underlying26 rfl size26
theorem run_str {o : Oper} {a : Act} {w : World} (x : Operand) (ho : o.op = .convert 43 9 x) {l : List UInt8} (hx : IsB w l (a.eval x)) : (execOp a.eval o).run Try.prog w = .ok (.value (.string ⟨l.toArray⟩)) w := by
  obtain ⟨A, c, h1, h2, h3, h4, h5⟩ := hx
  exact run_cv _ _ x ho h1 (run_string_bytes w A l l.length c rfl h5)
end Go.Proofs.Ytgccbfkofkohpaa
namespace Go.Proofs.Ytgccbfkofkohpaa
set_option linter.unusedVariables false
set_option maxRecDepth 20000
set_option linter.unusedSimpArgs false
open Go.ChangeShapes Go.WideShapes Go.ChangeAt Go.RowKit
/-- A new block: the operation that lays it, the one that stores into it, its slot, what it holds ahead and behind. -/
structure Lay where
  j : Nat
  k : Nat
  d : Tmp
  O : Obj
  O' : Obj
def LayAt (W : World) (S : Nat → Lay) (m : Nat) (listed : Array Bool) (a : Act) (w : World) : Prop :=
  (∀ q, q < m → listed.getD (S q).j true = true → ∃ g, a.eval (.tmp (S q).d) = .pointer (some ⟨g, 0, none⟩) ∧ W.heap.size ≤ g ∧ w.heap[g]? = some (if listed.getD (S q).k true = true then (S q).O' else (S q).O)) ∧
  (∀ q r, q < m → r < m → q ≠ r → listed.getD (S q).j true = true → listed.getD (S r).j true = true → a.eval (.tmp (S q).d) ≠ a.eval (.tmp (S r).d)) ∧
  (∀ q, q < m → listed.getD (S q).k true = true → listed.getD (S q).j true = true)
def isLay (S : Nat → Lay) (m k : Nat) : Bool := (List.range m).any fun q => (S q).j == k || (S q).k == k
def layTest (L : List Oper) (S : Nat → Lay) (m : Nat) : Bool := (List.range m).all fun q =>
  (match L[(S q).j]? with | some o => o.guard.isNone && o.dst == some (S q).d | none => false) &&
  (match L[(S q).k]? with | some o => o.guard.isNone && o.dst == none && (o.looksAt L.toArray).contains (S q).d | none => false) &&
  (S q).j != (S q).k && (List.range m).all fun r => q == r || ((S q).j != (S r).j && (S q).k != (S r).k && (S q).j != (S r).k)
def HopAllR (P : Program) (L : List Oper) (Q : Exit → Act → World → Prop) (Y : Nat → World → Value → Prop) (S : Nat → Lay) (m : Nat) (a0 : Act) (W : World) : List Oper → Nat → Prop
  | [], _ => True
  | o :: l, k => (isLay S m k = false → Hop P L Q Y a0 W k o) ∧ HopAllR P L Q Y S m a0 W l (k + 1)
theorem hop_atR {P : Program} {L : List Oper} {Q : Exit → Act → World → Prop} {Y : Nat → World → Value → Prop} {S : Nat → Lay} {m : Nat} {a0 : Act} {W : World} : ∀ (l : List Oper) (k : Nat), HopAllR P L Q Y S m a0 W l k → ∀ (i : Nat) (o : Oper), l[i]? = some o → isLay S m (k + i) = false → Hop P L Q Y a0 W (k + i) o
  | [], _, _, i, o, ho, _ => by cases ho
  | q :: l, k, h, 0, o, ho, hi => by
    simp only [List.getElem?_cons_zero, Option.some.injEq] at ho
    subst ho
    exact h.1 hi
  | q :: l, k, h, i + 1, o, ho, hi => by
    have := hop_atR l (k + 1) h.2 i o (by simpa using ho) (by rwa [show k + 1 + i = k + (i + 1) by omega])
    rwa [show k + 1 + i = k + (i + 1) by omega] at this
theorem run_store_op {P : Program} {o : Oper} {a : Act} {w : World} (ty : TypeId) (x y : Operand) (ho : o.op = .store ty x y) (g : Nat) (hx : a.eval x = .pointer (some ⟨g, 0, none⟩)) (c : Array Value) (hy : a.eval y = .agg c) (h : (Instr.storeAt ty (.pointer (some ⟨g, 0, none⟩)) (.agg c)).run P w = .ok () (w.setRow g c)) : (execOp a.eval o).run P w = .ok .skip (w.setRow g c) := by
  unfold execOp
  simp only [ho, hx, hy, Sem.run_bind, h, Result.andThen_ok, Sem.run_pure]
theorem eval_put_slot {a : Act} {dst : Option Tmp} {v : Value} {t : Tmp} (h : dst ≠ some t) : (a.put dst v).eval (.tmp t) = a.eval (.tmp t) := eval_put_ne h
/-- **A region that lays blocks and stores them whole, in any order.** -/
theorem wp_region_rows {P : Program} {id : Nat} {Q : Exit → Act → World → Prop} {a0 : Act} {W : World} {L : List Oper} (S : Nat → Lay) (m n : Nat) (hn : a0.tmps.size = n) (hm : P.follows .mixedOrders = true) (hok : relOk L n = true) (hlt : layTest L S m = true) (Y : Nat → Value → Prop)
    (hYS : ∀ i v, isLay S m i = true → Y i v)
    (hnew : ∀ q, q < m → ∀ (o : Oper) (a : Act) (w : World), L[(S q).j]? = some o → (execOp a.eval o).run P w = .ok (.value (.pointer (some ⟨w.heap.size, 0, none⟩))) (w.alloc (S q).O))
    (hput : ∀ q, q < m → ∀ (o : Oper) (a : Act) (w : World) (g : Nat), L[(S q).k]? = some o → (∀ t ∈ o.looksAt L.toArray, SlotOk L (fun i _ v => Y i v) a0 a w t) → a.eval (.tmp (S q).d) = .pointer (some ⟨g, 0, none⟩) → w.heap[g]? = some (S q).O →
      ∃ w', (execOp a.eval o).run P w = .ok .skip w' ∧ w'.heap[g]? = some (S q).O' ∧ w.grownBy w' (some g))
    (hop : HopAllR P L Q (fun i _ v => Y i v) S m a0 W L 0)
    (hend : ∀ (p : Nat → Value) (w : World) (g : Nat → Nat), Below W.heap.size W w → (∀ q, q < m → p (S q).j = .pointer (some ⟨g q, 0, none⟩) ∧ W.heap.size ≤ g q ∧ w.heap[g q]? = some (S q).O') → (∀ q r, q < m → r < m → q ≠ r → g q ≠ g r) → YAll (fun i _ v => Y i v) p w L 0 → Q .normal (layAll p L 0 a0) w) : (Code.region id L.toArray true).wp P Q a0 W := by
  unfold relOk at hok
  simp only [Bool.and_eq_true, List.all_eq_true] at hok
  obtain ⟨⟨hsel, hE⟩, hall⟩ := hok
  unfold layTest at hlt
  simp only [Bool.and_eq_true, List.all_eq_true, bne_iff_ne, ne_eq] at hlt
  have hJ : ∀ q, q < m → ∃ o, L[(S q).j]? = some o ∧ o.guard = none ∧ o.dst = some (S q).d := fun q hq => by
    have h1 := (hlt q (List.mem_range.2 hq)).1.1.1
    cases ho : L[(S q).j]? with
    | none => rw [ho] at h1; cases h1
    | some o => rw [ho] at h1; simp at h1; exact ⟨o, rfl, h1⟩
  have hK : ∀ q, q < m → ∃ o, L[(S q).k]? = some o ∧ o.guard = none ∧ o.dst = none ∧ (S q).d ∈ o.looksAt L.toArray := fun q hq => by
    have h1 := (hlt q (List.mem_range.2 hq)).1.1.2
    cases ho : L[(S q).k]? with
    | none => rw [ho] at h1; cases h1
    | some o => rw [ho] at h1; simp at h1; exact ⟨o, rfl, h1.1.1, h1.1.2, h1.2⟩
  have hjk : ∀ q, q < m → (S q).j ≠ (S q).k := fun q hq => (hlt q (List.mem_range.2 hq)).1.2
  have hqr : ∀ q r, q < m → r < m → q ≠ r → (S q).j ≠ (S r).j ∧ (S q).k ≠ (S r).k ∧ (S q).j ≠ (S r).k := fun q r hq hr hne => by
    have h1 := (hlt q (List.mem_range.2 hq)).2 r (List.mem_range.2 hr)
    simp only [Bool.or_eq_true, beq_iff_eq, Bool.and_eq_true, bne_iff_ne, ne_eq] at h1
    rcases h1 with h1 | ⟨⟨h1, h2⟩, h3⟩
    · exact absurd h1 hne
    · exact ⟨h1, h2, h3⟩
  clear hlt
  have hdst : ∀ (i : Nat) (o : Oper) (d : Tmp), L[i]? = some o → o.dst = some d → d < n ∧ depOf L d = some i := fun i o d ho hd => by
    have h1 := hall i (List.mem_range.2 (List.getElem?_eq_some_iff.1 ho).1)
    simp only [ho, hd, Bool.and_eq_true, decide_eq_true_eq, beq_iff_eq] at h1
    exact h1.1
  have hread : ∀ (i : Nat) (o : Oper) (t : Tmp) (j : Nat), L[i]? = some o → t ∈ o.looksAt L.toArray → depOf L t = some j → ∃ e ∈ o.after, Region.binds .any e = true ∧ e.on = j := fun i o t j ho ht hj => by
    have h1 := hall i (List.mem_range.2 (List.getElem?_eq_some_iff.1 ho).1)
    simp only [ho, Bool.and_eq_true, List.all_eq_true] at h1
    have h2 := h1.2 t ht
    simp only [hj, Array.any_eq_true, Bool.and_eq_true, beq_iff_eq] at h2
    obtain ⟨x, hx, hb, he⟩ := h2
    exact ⟨_, Array.getElem_mem hx, hb, he⟩
  have hdis : ∀ (i j : Nat) (oi oj : Oper) (d : Tmp), L[i]? = some oi → L[j]? = some oj → j ≠ i → oi.dst = some d → oj.dst ≠ some d := fun i j oi oj d hi hj hne hd e => by
    have h1 := (hdst i oi d hi hd).2
    have h2 := (hdst j oj d hj e).2
    rw [h1] at h2
    exact hne (Option.some.inj h2).symm
  have hdj : ∀ q, q < m → ∀ i o, L[i]? = some o → i ≠ (S q).j → o.dst ≠ some (S q).d := fun q hq i o ho hi => by
    obtain ⟨oj, h1, -, h2⟩ := hJ q hq
    exact hdis _ i oj o _ h1 ho hi h2
  refine wp_region_inv hm (fun listed a w => Below W.heap.size W w ∧ a.tmps.size = n ∧ a.defers = a0.defers ∧
    (∀ t : Tmp, (∀ (j : Nat) (oj : Oper), L[j]? = some oj → listed.getD j true = true → oj.dst ≠ some t) → a.eval (.tmp t) = a0.eval (.tmp t)) ∧
    (∀ (j : Nat) (oj : Oper) (d : Tmp), L[j]? = some oj → listed.getD j true = true → oj.dst = some d → Y j (a.eval (.tmp d))) ∧ LayAt W S m listed a w) ?_ ?_ ?_
  · refine ⟨step_drew W, hn, rfl, fun _ _ => rfl, fun j oj d hj hl _ => ?_, fun q hq hl => ?_, fun q r hq _ _ hl => ?_, fun q hq hl => ?_⟩
    · have hjl := (List.getElem?_eq_some_iff.1 hj).1
      simp [hjl] at hl
    · obtain ⟨o, ho, -⟩ := hJ q hq
      have hjl := (List.getElem?_eq_some_iff.1 ho).1
      simp [hjl] at hl
    · obtain ⟨o, ho, -⟩ := hJ q hq
      have hjl := (List.getElem?_eq_some_iff.1 ho).1
      simp [hjl] at hl
    · obtain ⟨o, ho, -⟩ := hK q hq
      have hjl := (List.getElem?_eq_some_iff.1 ho).1
      simp [hjl] at hl
  · rintro listed a w i hs ⟨hB, hz, hd, hbase, hYs, hLay, hLn, hLk⟩ hi
    obtain ⟨hiu, o, ho, hwait⟩ := mem_ready.1 hi
    have ho' : L[i]? = some o := by simpa using ho
    have hil := (List.getElem?_eq_some_iff.1 ho').1
    have hslots : ∀ t ∈ o.looksAt L.toArray, SlotOk L (fun i _ v => Y i v) a0 a w t := fun t ht => by
      unfold SlotOk
      cases hj : depOf L t with
      | none => exact hbase t fun j oj hoj _ => depOf_none hj j oj hoj
      | some j =>
        obtain ⟨oj, hoj, hdj⟩ := depOf_some hj
        obtain ⟨e, he, hb, hon⟩ := hread i o t j ho' ht hj
        have h1 := hwait e he hb
        rw [hon] at h1
        refine hYs j oj t hoj ?_ hdj
        have hjl : j < listed.size := by rw [hs]; simpa using (List.getElem?_eq_some_iff.1 hoj).1
        simpa [hjl] using h1
    have hlen : i < listed.size := by rw [hs]; simpa using hil
    have hself : (listed.setIfInBounds i true).getD i true = true := by rw [Array.getD_eq_getD_getElem?, Array.getElem?_setIfInBounds_self]; simp [hlen]
    have hset : ∀ (v : Value) (w' : World), Below W.heap.size W w' → Y i v → LayAt W S m (listed.setIfInBounds i true) (a.put o.dst v) w' → (Below W.heap.size W w' ∧ (a.put o.dst v).tmps.size = n ∧ (a.put o.dst v).defers = a0.defers ∧
        (∀ t : Tmp, (∀ (j : Nat) (oj : Oper), L[j]? = some oj → (listed.setIfInBounds i true).getD j true = true → oj.dst ≠ some t) → (a.put o.dst v).eval (.tmp t) = a0.eval (.tmp t)) ∧
        (∀ (j : Nat) (oj : Oper) (d : Tmp), L[j]? = some oj → (listed.setIfInBounds i true).getD j true = true → oj.dst = some d → Y j ((a.put o.dst v).eval (.tmp d))) ∧ LayAt W S m (listed.setIfInBounds i true) (a.put o.dst v) w') := fun v w' hb hy hL => by
      refine ⟨hb, by rw [put_size]; exact hz, by rw [put_defers]; exact hd, fun t ht => ?_, fun j oj d hoj hl hdj => ?_, hL⟩
      · rw [eval_put_ne (ht i o ho' hself)]
        refine hbase t fun j oj hoj hl => ht j oj hoj ?_
        by_cases e : i = j
        · subst e; rw [hl] at hiu; cases hiu
        · rw [getD_set_ne true e]; exact hl
      · by_cases e : i = j
        · subst e
          obtain rfl : o = oj := Option.some.inj (ho'.symm.trans hoj)
          rw [hdj, eval_put_self (by rw [hz]; exact (hdst i o d ho' hdj).1)]
          exact hy
        · rw [eval_put_ne (hdis j i oj o d hoj ho' e hdj)]
          rw [getD_set_ne true e] at hl
          exact hYs j oj d hoj hl hdj
    unfold wpOp
    simp only [ho]
    by_cases hNew : ∃ q, q < m ∧ (S q).j = i
    · obtain ⟨q, hq, rfl⟩ := hNew
      obtain ⟨o2, e1, hg, hdo⟩ := hJ q hq
      obtain rfl : o = o2 := Option.some.inj (ho'.symm.trans e1)
      have hw : Region.wanted o (yielded L.toArray a.tmps) = true := by simp [Region.wanted, hg]
      rw [if_pos hw]
      left
      unfold Oper.wp
      rw [hnew q hq o a w ho']
      simp only [Oper.upon]
      have hb : Below w.heap.size w (w.alloc (S q).O) := (Below.refl _ w).alloc (Nat.le_refl _) _
      refine hset _ _ (hB.trans (hb.mono hB.size)) (hYS _ _ (by unfold isLay; rw [List.any_eq_true]; exact ⟨q, List.mem_range.2 hq, by simp⟩)) ?_
      refine ⟨fun r hr hl => ?_, fun r u hr hu hne h1 h2 => ?_, fun r hr hl => ?_⟩
      · by_cases hrq : r = q
        · subst hrq
          have hku : (listed.setIfInBounds (S r).j true).getD (S r).k true ≠ true := fun h => by
            rw [getD_set_ne true (hjk r hr)] at h
            rw [hLk r hr h] at hiu; cases hiu
          rw [if_neg hku, hdo, eval_put_self (by rw [hz]; exact (hdst _ o _ ho' hdo).1)]
          exact ⟨_, rfl, hB.size, heap_alloc_new _ _⟩
        · obtain ⟨n1, n2, n3⟩ := hqr q r hq hr (Ne.symm hrq)
          rw [getD_set_ne true n1] at hl
          rw [getD_set_ne true n3, eval_put_ne (hdj r hr _ o ho' n1)]
          obtain ⟨g, g1, g2, g3⟩ := hLay r hr hl
          exact ⟨g, g1, g2, (hb.block g (heap_lt g3)).trans g3⟩
      · have key : ∀ x, x < m → x ≠ q → (listed.setIfInBounds (S q).j true).getD (S x).j true = true → (a.put o.dst (.pointer (some ⟨w.heap.size, 0, none⟩))).eval (.tmp (S q).d) ≠ (a.put o.dst (.pointer (some ⟨w.heap.size, 0, none⟩))).eval (.tmp (S x).d) := fun x hx hxq hl => by
          obtain ⟨n1, n2, n3⟩ := hqr q x hq hx (Ne.symm hxq)
          rw [getD_set_ne true n1] at hl
          rw [eval_put_ne (hdj x hx _ o ho' n1)]
          obtain ⟨g, g1, g2, g3⟩ := hLay x hx hl
          rw [g1, hdo, eval_put_self (by rw [hz]; exact (hdst _ o _ ho' hdo).1)]
          intro e
          have hlt := heap_lt g3
          injection e with e
          injection e with e
          injection e with e
          omega
        by_cases hrq : r = q
        · subst hrq
          exact key u hu (Ne.symm hne) h2
        · by_cases huq : u = q
          · subst huq
            exact (key r hr hrq h1).symm
          · obtain ⟨n1, -, -⟩ := hqr q r hq hr (Ne.symm hrq)
            obtain ⟨n2, -, -⟩ := hqr q u hq hu (Ne.symm huq)
            rw [getD_set_ne true n1] at h1
            rw [getD_set_ne true n2] at h2
            rw [eval_put_ne (hdj r hr _ o ho' n1), eval_put_ne (hdj u hu _ o ho' n2)]
            exact hLn r u hr hu hne h1 h2
      · by_cases hrq : r = q
        · subst hrq; exact hself
        · obtain ⟨n1, n2, n3⟩ := hqr q r hq hr (Ne.symm hrq)
          rw [getD_set_ne true n3] at hl
          rw [getD_set_ne true n1]
          exact hLk r hr hl
    · by_cases hPut : ∃ q, q < m ∧ (S q).k = i
      · obtain ⟨q, hq, rfl⟩ := hPut
        obtain ⟨o2, e1, hg, hdo, hdl⟩ := hK q hq
        obtain rfl : o = o2 := Option.some.inj (ho'.symm.trans e1)
        have hw : Region.wanted o (yielded L.toArray a.tmps) = true := by simp [Region.wanted, hg]
        rw [if_pos hw]
        left
        obtain ⟨oj, j1, -, j2⟩ := hJ q hq
        have hjl : listed.getD (S q).j true = true := by
          obtain ⟨e, he, hb, hon⟩ := hread _ o _ _ ho' hdl (hdst _ oj _ j1 j2).2
          have h1 := hwait e he hb
          rw [hon] at h1
          have hjl : (S q).j < listed.size := by rw [hs]; simpa using (List.getElem?_eq_some_iff.1 j1).1
          simpa [hjl] using h1
        obtain ⟨g, g1, g2, g3⟩ := hLay q hq hjl
        rw [if_neg (by rw [hiu]; decide)] at g3
        obtain ⟨w', r1, r2, r3⟩ := hput q hq o a w g ho' hslots g1 g3
        unfold Oper.wp
        rw [r1]
        simp only [Oper.upon]
        have hgl := heap_lt g3
        refine hset _ w' (below_of_grown hB r3 hB.size g2) (hYS _ _ (by unfold isLay; rw [List.any_eq_true]; exact ⟨q, List.mem_range.2 hq, by simp⟩)) ?_
        have hpe : a.put o.dst undef = a := by rw [hdo]; rfl
        rw [hpe]
        refine ⟨fun r hr hl => ?_, fun r u hr hu hne h1 h2 => ?_, fun r hr hl => ?_⟩
        · by_cases hrq : r = q
          · subst hrq
            exact ⟨g, g1, g2, by rw [if_pos hself]; exact r2⟩
          · obtain ⟨n1, n2, n3⟩ := hqr q r hq hr (Ne.symm hrq)
            obtain ⟨-, -, n4⟩ := hqr r q hr hq hrq
            rw [getD_set_ne true (Ne.symm n4)] at hl
            obtain ⟨g', k1, k2, k3⟩ := hLay r hr hl
            have hne : a.eval (.tmp (S q).d) ≠ a.eval (.tmp (S r).d) := hLn q r hq hr (Ne.symm hrq) hjl hl
            rw [g1, k1] at hne
            refine ⟨g', k1, k2, ?_⟩
            rw [getD_set_ne true n2]
            exact (r3.block g' (heap_lt k3) (fun e => hne (by injection e with e; rw [e]))).trans k3
        · obtain ⟨n1, n2, n3⟩ := hqr r u hr hu hne
          have e1 : (S q).k ≠ (S r).j := by
            by_cases hrq : r = q
            · subst hrq; exact (hjk _ hr).symm
            · exact ((hqr r q hr hq hrq).2.2).symm
          have e2 : (S q).k ≠ (S u).j := by
            by_cases hrq : u = q
            · subst hrq; exact (hjk _ hu).symm
            · exact ((hqr u q hu hq hrq).2.2).symm
          rw [getD_set_ne true e1] at h1
          rw [getD_set_ne true e2] at h2
          exact hLn r u hr hu hne h1 h2
        · have e1 : (S q).k ≠ (S r).j := by
            by_cases hrq : r = q
            · subst hrq; exact (hjk _ hr).symm
            · exact ((hqr r q hr hq hrq).2.2).symm
          rw [getD_set_ne true e1]
          by_cases hrq : r = q
          · subst hrq; exact hjl
          · obtain ⟨n1, n2, n3⟩ := hqr q r hq hr (Ne.symm hrq)
            rw [getD_set_ne true n2] at hl
            exact hLk r hr hl
      · have hnl : isLay S m i = false := by
          cases h : isLay S m i with
          | false => rfl
          | true =>
            unfold isLay at h
            rw [List.any_eq_true] at h
            obtain ⟨q, hq, h⟩ := h
            simp only [Bool.or_eq_true, beq_iff_eq] at h
            rcases h with h | h
            · exact absurd ⟨q, List.mem_range.1 hq, h⟩ hNew
            · exact absurd ⟨q, List.mem_range.1 hq, h⟩ hPut
        have hni : ∀ q, q < m → i ≠ (S q).j ∧ i ≠ (S q).k := fun q hq => ⟨fun e => hNew ⟨q, hq, e.symm⟩, fun e => hPut ⟨q, hq, e.symm⟩⟩
        have hh := hop_atR L 0 hop i o ho' (by rw [Nat.zero_add]; exact hnl)
        rw [Nat.zero_add] at hh
        have hh := hh a w hB hslots
        have hL2 : ∀ v w', Below w.heap.size w w' → LayAt W S m (listed.setIfInBounds i true) (a.put o.dst v) w' := fun v w' hb => by
          refine ⟨fun r hr hl => ?_, fun r u hr hu hne h1 h2 => ?_, fun r hr hl => ?_⟩
          · rw [getD_set_ne true (hni r hr).1] at hl
            rw [getD_set_ne true (hni r hr).2, eval_put_ne (hdj r hr _ o ho' (hni r hr).1)]
            obtain ⟨g, g1, g2, g3⟩ := hLay r hr hl
            exact ⟨g, g1, g2, (hb.block g (heap_lt g3)).trans g3⟩
          · rw [getD_set_ne true (hni r hr).1] at h1
            rw [getD_set_ne true (hni u hu).1] at h2
            rw [eval_put_ne (hdj r hr _ o ho' (hni r hr).1), eval_put_ne (hdj u hu _ o ho' (hni u hu).1)]
            exact hLn r u hr hu hne h1 h2
          · rw [getD_set_ne true (hni r hr).2] at hl
            rw [getD_set_ne true (hni r hr).1]
            exact hLk r hr hl
        by_cases hw : Region.wanted o (yielded L.toArray a.tmps) = true
        · rw [if_pos hw] at hh ⊢
          exact .inl (Oper.wp_mono (fun a' w' ⟨v, e, hb, hy⟩ => by rw [e]; exact hset v w' (hB.trans (hb.mono hB.size)) hy (hL2 v w' hb)) hh)
        · rw [if_neg hw] at hh ⊢
          exact hset undef w hB hh (hL2 _ _ (Below.refl _ _))
  · rintro listed a w hs ⟨hB, hz, hd, hbase, hYs, hLay, hLn, hLk⟩ hr
    have hlisted : ∀ (j : Nat) (oj : Oper), L[j]? = some oj → listed.getD j true = true := fun j oj hoj => by
      have hjl := (List.getElem?_eq_some_iff.1 hoj).1
      cases h : listed.getD j true with
      | true => rfl
      | false => exact absurd hr (ready_of_unlisted hE hs j (by simpa using hjl) h)
    obtain ⟨p0, hp0⟩ : ∃ p0 : Nat → Value, p0 = (fun j => a.eval (match (L[j]?).bind (·.dst) with | some d => .tmp d | none => .const undef)) := ⟨_, rfl⟩
    have hp : a = layAll p0 L 0 a0 := by
      obtain ⟨z1, z2⟩ := lay_size p0 L 0 a0
      refine act_ext (by rw [z1, hz, hn]) (by rw [z2, hd]) fun t ht => ?_
      cases hj : depOf L t with
      | none => rw [lay_base _ L 0 a0 (depOf_none hj)]; exact hbase t fun j oj hoj _ => depOf_none hj j oj hoj
      | some j =>
        obtain ⟨oj, hoj, hdj⟩ := depOf_some hj
        rw [lay_at _ L 0 j a0 oj hoj hdj (by rw [hn, ← hz]; exact ht) fun i oi hi hne => hdis j i oj oi t hoj hi hne hdj, hp0]
        simp [hoj, hdj]
    have hpj : ∀ q, q < m → p0 (S q).j = a.eval (.tmp (S q).d) := fun q hq => by
      obtain ⟨oj, j1, -, j2⟩ := hJ q hq
      rw [hp0]
      simp [j1, j2]
    have hg : ∀ q, ∃ g, q < m → a.eval (.tmp (S q).d) = .pointer (some ⟨g, 0, none⟩) ∧ W.heap.size ≤ g ∧ w.heap[g]? = some (S q).O' := fun q => by
      by_cases hq : q < m
      · obtain ⟨oj, j1, -⟩ := hJ q hq
        obtain ⟨ok, k1, -⟩ := hK q hq
        obtain ⟨g, g1, g2, g3⟩ := hLay q hq (hlisted _ _ j1)
        rw [if_pos (hlisted _ _ k1)] at g3
        exact ⟨g, fun _ => ⟨g1, g2, g3⟩⟩
      · exact ⟨0, fun h => absurd h hq⟩
    obtain ⟨g, hg⟩ := Classical.axiomOfChoice hg
    rw [hp]
    refine hend p0 w g hB (fun q hq => by rw [hpj q hq]; exact hg q hq) (fun q r hq hr' hne e => ?_) (yall_of L 0 fun i o ho hdn => ?_)
    · obtain ⟨oq, q1, -⟩ := hJ q hq
      obtain ⟨or_, r1, -⟩ := hJ r hr'
      exact hLn q r hq hr' hne (hlisted _ _ q1) (hlisted _ _ r1) (by rw [(hg q hq).1, (hg r hr').1, e])
    · rw [Nat.zero_add, hp0]
      cases hdo : o.dst with
      | none => exact absurd hdo hdn
      | some d =>
        simp only [ho, hdo, Option.bind_some]
        exact hYs i o d ho (hlisted i o ho) hdo
end Go.Proofs.Ytgccbfkofkohpaa
namespace Go.Proofs.Ytgccbfkofkohpaa
set_option linter.unusedVariables false
set_option maxRecDepth 20000
set_option linter.unusedSimpArgs false
open Go.ChangeShapes Go.WideShapes Go.ChangeAt Go.RowKit
theorem getD_ft {listed : Array Bool} {i : Nat} (h : listed.getD i false = true) : listed.getD i true = true := by
  rw [Array.getD_eq_getD_getElem?] at h ⊢
  cases hq : listed[i]? with
  | none => rfl
  | some b => rw [hq] at h; exact h
/-- Operation j waits for k, by way of others too. -/
def aftB (L : List Oper) : Nat → Nat → Nat → Bool
  | 0, _, _ => false
  | f + 1, j, k => match L[j]? with
    | none => false
    | some o => o.after.any fun e => Region.binds .any e && (e.on == k || aftB L f e.on k)
theorem aft_listed {L : List Oper} {listed : Array Bool} (hc : ∀ (j : Nat) (oj : Oper), L[j]? = some oj → listed.getD j true = true → ∀ e ∈ oj.after, Region.binds .any e = true → listed.getD e.on true = true) : ∀ (f j : Nat) (oj : Oper) (k : Nat), L[j]? = some oj → listed.getD j true = true → aftB L f j k = true → listed.getD k true = true
  | 0, _, _, _, _, _, h => by cases h
  | f + 1, j, oj, k, ho, hl, h => by
    unfold aftB at h
    simp only [ho, Array.any_eq_true, Bool.and_eq_true, Bool.or_eq_true, beq_iff_eq] at h
    obtain ⟨x, hx, hb, h⟩ := h
    have h1 := hc j oj ho hl _ (Array.getElem_mem hx) hb
    rcases h with h | h
    · rw [h] at h1; exact h1
    · cases hq : L[oj.after[x].on]? with
      | none => cases f with
        | zero => cases h
        | succ f => unfold aftB at h; rw [hq] at h; cases h
      | some oq => exact aft_listed hc f _ oq k hq h1 h
def relOkC (L : List Oper) (m n : Nat) : Bool :=
  Region.noSelect L.toArray && backB L.toArray &&
  ((List.range m).all fun i => match (L.take m)[i]? with
    | none => true
    | some o => (match o.dst with
        | none => true
        | some d => decide (d < n) && depOf (L.take m) d == some i) &&
      (o.looksAt L.toArray).all fun t => match depOf (L.take m) t with
        | none => true
        | some j => o.after.any fun e => Region.binds .any e && e.on == j) &&
  ((L.drop m).all fun t => t.guard.isNone) && ((List.range L.length).all fun i => decide (i < m) || (List.range i).all fun j => aftB L 40 i j)
def HopC (P : Program) (L : List Oper) (m : Nat) (Q : Exit → Act → World → Prop) (Y : Nat → World → Value → Prop) (a0 : Act) (W : World) (k : Nat) (o : Oper) : Prop :=
  ∀ (a : Act) (w : World), Below W.heap.size W w → (∀ t ∈ o.looksAt L.toArray, SlotOk (L.take m) Y a0 a w t) →
    if Region.wanted o (yielded L.toArray a.tmps) = true then o.wp P a w (fun a' w' => ∃ v, a' = a.put o.dst v ∧ Below w.heap.size w w' ∧ Y k w' v) Q else Y k w undef
def HopAllC (P : Program) (L : List Oper) (m : Nat) (Q : Exit → Act → World → Prop) (Y : Nat → World → Value → Prop) (a0 : Act) (W : World) : List Oper → Nat → Prop
  | [], _ => True
  | o :: l, k => HopC P L m Q Y a0 W k o ∧ HopAllC P L m Q Y a0 W l (k + 1)
theorem hop_atC {P : Program} {L : List Oper} {m : Nat} {Q : Exit → Act → World → Prop} {Y : Nat → World → Value → Prop} {a0 : Act} {W : World} : ∀ (l : List Oper) (k : Nat), HopAllC P L m Q Y a0 W l k → ∀ (i : Nat) (o : Oper), l[i]? = some o → HopC P L m Q Y a0 W (k + i) o
  | [], _, _, i, o, ho => by cases ho
  | q :: l, k, h, 0, o, ho => by
    simp only [List.getElem?_cons_zero, Option.some.injEq] at ho
    subst ho
    exact h.1
  | q :: l, k, h, i + 1, o, ho => by
    have := hop_atC l (k + 1) h.2 i o (by simpa using ho)
    rwa [show k + 1 + i = k + (i + 1) by omega] at this
/-- **A region's orders, by what each operation of its head leaves behind; its tail in the text's order.** -/
theorem wp_region_relC {P : Program} {id : Nat} {Q : Exit → Act → World → Prop} {a0 : Act} {W : World} {L : List Oper} (m n : Nat) (hn : a0.tmps.size = n) (hm : P.follows .mixedOrders = true) (hok : relOkC L m n = true) (Y : Nat → World → Value → Prop)
    (hY : ∀ i w w' v, Below w.heap.size w w' → Y i w v → Y i w' v) (hop : HopAllC P L m Q Y a0 W (L.take m) 0)
    (hend : ∀ (p : Nat → Value) (w : World), Below W.heap.size W w → YAll Y p w (L.take m) 0 → wpList P L.toArray Q (L.drop m) (layAll p (L.take m) 0 a0) w) : (Code.region id L.toArray true).wp P Q a0 W := by
  unfold relOkC at hok
  simp only [Bool.and_eq_true, List.all_eq_true, Option.isNone_iff_eq_none, Bool.or_eq_true, decide_eq_true_eq] at hok
  obtain ⟨⟨⟨⟨hsel, hE⟩, hall⟩, hT1⟩, hT2⟩ := hok
  have htake : ∀ (i : Nat) (o : Oper), (L.take m)[i]? = some o → i < m ∧ L[i]? = some o := fun i o h => by
    rw [List.getElem?_take] at h
    split at h
    · exact ⟨by assumption, h⟩
    · cases h
  have hintake : ∀ (i : Nat) (o : Oper), i < m → L[i]? = some o → (L.take m)[i]? = some o := fun i o h1 h2 => by
    rw [List.getElem?_take, if_pos h1]; exact h2
  have hdst : ∀ (i : Nat) (o : Oper) (d : Tmp), (L.take m)[i]? = some o → o.dst = some d → d < n ∧ depOf (L.take m) d = some i := fun i o d ho hd => by
    have h1 := hall i (List.mem_range.2 (htake i o ho).1)
    simp only [ho, hd, Bool.and_eq_true, decide_eq_true_eq, beq_iff_eq] at h1
    exact h1.1
  have hread : ∀ (i : Nat) (o : Oper) (t : Tmp) (j : Nat), (L.take m)[i]? = some o → t ∈ o.looksAt L.toArray → depOf (L.take m) t = some j → ∃ e ∈ o.after, Region.binds .any e = true ∧ e.on = j := fun i o t j ho ht hj => by
    have h1 := hall i (List.mem_range.2 (htake i o ho).1)
    simp only [ho, Bool.and_eq_true, List.all_eq_true] at h1
    have h2 := h1.2 t ht
    simp only [hj, Array.any_eq_true, Bool.and_eq_true, beq_iff_eq] at h2
    obtain ⟨x, hx, hb, he⟩ := h2
    exact ⟨_, Array.getElem_mem hx, hb, he⟩
  have hdis : ∀ (i j : Nat) (oi oj : Oper) (d : Tmp), (L.take m)[i]? = some oi → (L.take m)[j]? = some oj → j ≠ i → oi.dst = some d → oj.dst ≠ some d := fun i j oi oj d hi hj hne hd e => by
    have h1 := (hdst i oi d hi hd).2
    have h2 := (hdst j oj d hj e).2
    rw [h1] at h2
    exact hne (Option.some.inj h2).symm
  -- a tail operation that is ready: all ahead of it is listed
  have htail : ∀ (listed : Array Bool) (i : Nat), listed.size = L.toArray.size → (∀ (j : Nat) (oj : Oper), L[j]? = some oj → listed.getD j true = true → ∀ e ∈ oj.after, Region.binds .any e = true → listed.getD e.on true = true) → i ∈ Region.ready .any L.toArray listed → m ≤ i → ∀ j, j < i → listed.getD j true = true := by
    intro listed i hs hc hi hmi j hj
    obtain ⟨hiu, o, ho, hwait⟩ := mem_ready.1 hi
    have ho' : L[i]? = some o := by simpa using ho
    have hil : i < L.length := by simpa using (Array.getElem?_eq_some_iff.1 ho).1
    have h3 := hT2 i (List.mem_range.2 hil)
    rcases h3 with h3 | h3
    · omega
    have h4 := h3 j (List.mem_range.2 hj)
    unfold aftB at h4
    simp only [ho', Array.any_eq_true, Bool.and_eq_true, Bool.or_eq_true, beq_iff_eq] at h4
    obtain ⟨x, hx, hb, h4⟩ := h4
    have h5 := getD_ft (hwait _ (Array.getElem_mem hx) hb)
    rcases h4 with h4 | h4
    · rw [h4] at h5; exact h5
    · cases hq : L[o.after[x].on]? with
      | none => unfold aftB at h4; rw [hq] at h4; cases h4
      | some oq => exact aft_listed hc 39 _ oq j hq h5 h4
  have hI : ∀ (listed : Array Bool) (a : Act) (w : World), (Below W.heap.size W w ∧ a.tmps.size = n ∧ a.defers = a0.defers ∧
      (∀ t : Tmp, (∀ (j : Nat) (oj : Oper), (L.take m)[j]? = some oj → listed.getD j true = true → oj.dst ≠ some t) → a.eval (.tmp t) = a0.eval (.tmp t)) ∧
      (∀ (j : Nat) (oj : Oper) (d : Tmp), (L.take m)[j]? = some oj → listed.getD j true = true → oj.dst = some d → Y j w (a.eval (.tmp d))) ∧ (∀ (j : Nat) (oj : Oper), (L.take m)[j]? = some oj → listed.getD j true = true → ∀ e ∈ oj.after, Region.binds .any e = true → listed.getD e.on true = true)) → (∀ j, j < m → j < L.length → listed.getD j true = true) → wpList P L.toArray Q (L.drop m) a w := by
    rintro listed a w ⟨hB, hz, hd, hbase, hYs, hcl⟩ hl
    have hlisted : ∀ (j : Nat) (oj : Oper), (L.take m)[j]? = some oj → listed.getD j true = true := fun j oj hoj => by
      obtain ⟨h1, h2⟩ := htake j oj hoj
      exact hl j h1 (List.getElem?_eq_some_iff.1 h2).1
    have hp : a = layAll (fun j => a.eval (match ((L.take m)[j]?).bind (·.dst) with | some d => .tmp d | none => .const undef)) (L.take m) 0 a0 := by
      obtain ⟨z1, z2⟩ := lay_size (fun j => a.eval (match ((L.take m)[j]?).bind (·.dst) with | some d => .tmp d | none => .const undef)) (L.take m) 0 a0
      refine act_ext (by rw [z1, hz, hn]) (by rw [z2, hd]) fun t ht => ?_
      cases hj : depOf (L.take m) t with
      | none => rw [lay_base _ (L.take m) 0 a0 (depOf_none hj)]; exact hbase t fun j oj hoj _ => depOf_none hj j oj hoj
      | some j =>
        obtain ⟨oj, hoj, hdj⟩ := depOf_some hj
        rw [lay_at _ (L.take m) 0 j a0 oj hoj hdj (by rw [hn, ← hz]; exact ht) fun i oi hi hne => hdis j i oj oi t hoj hi hne hdj]
        rw [Nat.zero_add]
        simp only [hoj, hdj, Option.bind_some]
    rw [hp]
    refine hend _ w hB (yall_of (L.take m) 0 fun i o ho hdn => ?_)
    rw [Nat.zero_add]
    cases hdo : o.dst with
    | none => exact absurd hdo hdn
    | some d =>
      simp only [ho, hdo, Option.bind_some]
      exact hYs i o d ho (hlisted i o ho) hdo
  refine wp_region_inv hm (fun listed a w => ((∀ j, m ≤ j → j < L.length → listed.getD j true = false) ∧ Below W.heap.size W w ∧ a.tmps.size = n ∧ a.defers = a0.defers ∧
    (∀ t : Tmp, (∀ (j : Nat) (oj : Oper), (L.take m)[j]? = some oj → listed.getD j true = true → oj.dst ≠ some t) → a.eval (.tmp t) = a0.eval (.tmp t)) ∧
    (∀ (j : Nat) (oj : Oper) (d : Tmp), (L.take m)[j]? = some oj → listed.getD j true = true → oj.dst = some d → Y j w (a.eval (.tmp d))) ∧ (∀ (j : Nat) (oj : Oper), (L.take m)[j]? = some oj → listed.getD j true = true → ∀ e ∈ oj.after, Region.binds .any e = true → listed.getD e.on true = true)) ∨
    (∃ k, m ≤ k ∧ (∀ j, j < L.length → (listed.getD j true = true ↔ j < k)) ∧ wpList P L.toArray Q (L.drop k) a w)) ?_ ?_ ?_
  · refine .inl ⟨fun j _ hj => by simp [hj], step_drew W, hn, rfl, fun _ _ => rfl, fun j oj d hj hl _ => ?_, fun j oj hj hl => ?_⟩
    all_goals
      have hjl := (List.getElem?_eq_some_iff.1 (htake j oj hj).2).1
      simp [hjl] at hl
  · rintro listed a w i hs hinv hi
    obtain ⟨hiu, o, ho, hwait⟩ := mem_ready.1 hi
    have ho' : L[i]? = some o := by simpa using ho
    have hil := (List.getElem?_eq_some_iff.1 ho').1
    have hsl : listed.size = L.length := by simpa using hs
    by_cases him : i < m
    · rcases hinv with ⟨htl, hB, hz, hd, hbase, hYs, hcl⟩ | ⟨k, hmk, hlk, _⟩
      · have ht' := hintake i o him ho'
        have hh := hop_atC (L.take m) 0 hop i o ht'
        rw [Nat.zero_add] at hh
        have hslots : ∀ t ∈ o.looksAt L.toArray, SlotOk (L.take m) Y a0 a w t := fun t ht => by
          unfold SlotOk
          cases hj : depOf (L.take m) t with
          | none => exact hbase t fun j oj hoj _ => depOf_none hj j oj hoj
          | some j =>
            obtain ⟨oj, hoj, hdj⟩ := depOf_some hj
            obtain ⟨e, he, hb, hon⟩ := hread i o t j ht' ht hj
            have h1 := hwait e he hb
            rw [hon] at h1
            refine hYs j oj t hoj ?_ hdj
            have hjl : j < listed.size := by rw [hsl]; exact (List.getElem?_eq_some_iff.1 (htake j oj hoj).2).1
            simpa [hjl] using h1
        have hh := hh a w hB hslots
        have hset : ∀ (v : Value) (w' : World), Below w.heap.size w w' → Y i w' v → ((∀ j, m ≤ j → j < L.length → (listed.setIfInBounds i true).getD j true = false) ∧ Below W.heap.size W w' ∧ (a.put o.dst v).tmps.size = n ∧ (a.put o.dst v).defers = a0.defers ∧
            (∀ t : Tmp, (∀ (j : Nat) (oj : Oper), (L.take m)[j]? = some oj → (listed.setIfInBounds i true).getD j true = true → oj.dst ≠ some t) → (a.put o.dst v).eval (.tmp t) = a0.eval (.tmp t)) ∧
            (∀ (j : Nat) (oj : Oper) (d : Tmp), (L.take m)[j]? = some oj → (listed.setIfInBounds i true).getD j true = true → oj.dst = some d → Y j w' ((a.put o.dst v).eval (.tmp d))) ∧ (∀ (j : Nat) (oj : Oper), (L.take m)[j]? = some oj → (listed.setIfInBounds i true).getD j true = true → ∀ e ∈ oj.after, Region.binds .any e = true → (listed.setIfInBounds i true).getD e.on true = true)) := fun v w' hb hy => by
          refine ⟨fun j h1 h2 => by rw [getD_set_ne true (show i ≠ j by omega)]; exact htl j h1 h2, hB.trans (hb.mono hB.size), by rw [put_size]; exact hz, by rw [put_defers]; exact hd, fun t ht => ?_, fun j oj d hoj hl hdj => ?_, fun j oj hoj hl e he hb2 => ?_⟩
          · rw [eval_put_ne (ht i o ht' (by rw [Array.getD_eq_getD_getElem?, Array.getElem?_setIfInBounds_self]; simp [hsl, hil]))]
            refine hbase t fun j oj hoj hl => ht j oj hoj ?_
            by_cases e : i = j
            · subst e; rw [hl] at hiu; cases hiu
            · rw [getD_set_ne true e]; exact hl
          · by_cases e : i = j
            · subst e
              obtain rfl : o = oj := Option.some.inj (ht'.symm.trans hoj)
              rw [hdj, eval_put_self (by rw [hz]; exact (hdst i o d ht' hdj).1)]
              exact hy
            · rw [eval_put_ne (hdis j i oj o d hoj ht' e hdj)]
              rw [getD_set_ne true e] at hl
              exact hY j w w' _ hb (hYs j oj d hoj hl hdj)
          · have h0 : listed.getD e.on true = true := by
              by_cases e3 : i = j
              · subst e3
                obtain rfl : o = oj := Option.some.inj (ht'.symm.trans hoj)
                exact getD_ft (hwait e he hb2)
              · rw [getD_set_ne true e3] at hl
                exact hcl j oj hoj hl e he hb2
            by_cases e4 : i = e.on
            · rw [← e4, Array.getD_eq_getD_getElem?, Array.getElem?_setIfInBounds_self]; simp [hsl, hil]
            · rw [getD_set_ne true e4]; exact h0
        unfold wpOp
        simp only [ho]
        by_cases hw : Region.wanted o (yielded L.toArray a.tmps) = true
        · rw [if_pos hw] at hh ⊢
          exact .inl (Oper.wp_mono (fun a' w' ⟨v, e, hb, hy⟩ => by rw [e]; exact .inl (hset v w' hb hy)) hh)
        · rw [if_neg hw] at hh ⊢
          exact .inl (hset undef w (Below.refl _ _) hh)
      · have := (hlk i hil).2 (by omega)
        rw [this] at hiu; cases hiu
    · have hmi : m ≤ i := Nat.le_of_not_lt him
      have hcl2 : ∀ (j : Nat) (oj : Oper), L[j]? = some oj → listed.getD j true = true → ∀ e ∈ oj.after, Region.binds .any e = true → listed.getD e.on true = true := by
        intro j oj hoj hlj e he hb
        have hjl := (List.getElem?_eq_some_iff.1 hoj).1
        rcases hinv with ⟨htl, -, -, -, -, -, hcl⟩ | ⟨k, hmk, hlk, -⟩
        · have hjm : j < m := Nat.lt_of_not_le fun h => by rw [htl j h hjl] at hlj; cases hlj
          exact hcl j oj (hintake j oj hjm hoj) hlj e he hb
        · have h1 := (hlk j hjl).1 hlj
          have h2 := backB_spec hE (i := j) (o := oj) (by simpa using hoj) e he hb
          exact (hlk e.on (by omega)).2 (by omega)
      have hahead := htail listed i hs hcl2 hi hmi
      have hk : (∀ j, j < L.length → (listed.getD j true = true ↔ j < i)) ∧ wpList P L.toArray Q (L.drop i) a w := by
        rcases hinv with ⟨htl, hrest⟩ | ⟨k, hmk, hlk, hwp⟩
        · obtain rfl : i = m := by
            refine Nat.le_antisymm (Nat.le_of_not_lt fun hlt => ?_) hmi
            have h1 := hahead m hlt
            rw [htl m (Nat.le_refl _) (by omega)] at h1; cases h1
          refine ⟨fun j hj => ⟨fun h => Nat.lt_of_not_le fun h2 => ?_, hahead j⟩, hI listed a w hrest fun j h1 _ => hahead j h1⟩
          rw [htl j h2 hj] at h; cases h
        · obtain rfl : k = i := by
            refine Nat.le_antisymm (Nat.le_of_not_lt fun hlt => ?_) (Nat.le_of_not_lt fun hlt => ?_)
            · have := (hlk i hil).2 hlt
              rw [this] at hiu; cases hiu
            · have := (hlk k (by omega)).1 (hahead k hlt)
              omega
          exact ⟨hlk, hwp⟩
      obtain ⟨hlk, hwp⟩ := hk
      have hdr : L.drop i = L[i] :: L.drop (i + 1) := List.drop_eq_getElem_cons hil
      have hoe : L[i] = o := by rw [List.getElem?_eq_getElem hil] at ho'; exact Option.some.inj ho'
      rw [hoe] at hdr
      have hg := hT1 o (by
        have h6 : L.drop i = (L.drop m).drop (i - m) := by rw [List.drop_drop]; congr 1; omega
        have h7 : o ∈ L.drop i := by rw [hdr]; exact List.mem_cons_self
        rw [h6] at h7
        exact List.mem_of_mem_drop h7)
      have hset : ∀ j, j < L.length → ((listed.setIfInBounds i true).getD j true = true ↔ j < i + 1) := by
        intro j hj
        by_cases hji : j = i
        · subst hji; simp [hsl, hj]
        · rw [getD_set_ne true (fun e => hji e.symm), hlk j hj]; omega
      rw [hdr] at hwp
      unfold wpList at hwp
      unfold wpOp
      simp only [ho]
      have hw' : ∀ g, Region.wanted o g = true := fun g => by simp [Region.wanted, hg]
      simp only [hw', if_true] at hwp ⊢
      exact hwp.imp (Oper.wp_mono fun a' w' h' => .inr ⟨i + 1, by omega, hset, h'⟩) (fun h => h)
  · rintro listed a w hs hinv hr
    have hsl : listed.size = L.length := by simpa using hs
    have hlisted : ∀ j, j < L.length → listed.getD j true = true := fun j hj => by
      cases h : listed.getD j true with
      | true => rfl
      | false => exact absurd hr (ready_of_unlisted hE hs j (by simpa using hj) h)
    have hwp : ∃ k, L.length ≤ k ∧ wpList P L.toArray Q (L.drop k) a w := by
      rcases hinv with ⟨htl, hrest⟩ | ⟨k, hmk, hlk, hwp⟩
      · refine ⟨m, Nat.le_of_not_lt fun hlt => ?_, hI listed a w hrest fun j _ hj => hlisted j hj⟩
        have h1 := htl m (Nat.le_refl _) hlt
        rw [hlisted m hlt] at h1; cases h1
      · refine ⟨k, Nat.le_of_not_lt fun hlt => ?_, hwp⟩
        exact absurd ((hlk k hlt).1 (hlisted k hlt)) (Nat.lt_irrefl _)
    obtain ⟨k, h1, h2⟩ := hwp
    rw [List.drop_eq_nil_of_le h1] at h2
    exact h2
theorem wp_region_stC {P : Program} {id : Nat} {Q : Exit → Act → World → Prop} {a0 : Act} {W : World} {L : List Oper} (S : List St) (m n : Nat) (hn : a0.tmps.size = n) (hm : P.follows .mixedOrders = true) (hok : relOkC L m n = true)
    (hop : HopAllC P L m Q (stY S) a0 W (L.take m) 0)
    (hend : ∀ (p : Nat → Value) (w : World), Below W.heap.size W w → YAll (stY S) p w (L.take m) 0 → wpList P L.toArray Q (L.drop m) (layAll p (L.take m) 0 a0) w) : (Code.region id L.toArray true).wp P Q a0 W :=
  wp_region_relC m n hn hm hok (stY S) (fun i w w' v hb h => ((S[i]?).getD St.any).h w w' v hb h) hop hend
end Go.Proofs.Ytgccbfkofkohpaa
namespace Go.Proofs.Ytgccbfkofkohpaa
set_option linter.unusedVariables false
set_option maxRecDepth 20000
/-- What is to be shown ahead of the label. -/
def headWp (P : Program) : Code → Nat → (Act → World → Prop) → (Exit → Act → World → Prop) → Act → World → Prop
  | .seq x y, l, K, Q => match findLabel x l with
    | some _ => headWp P x l K Q
    | none => x.wp P (Exit.then (headWp P y l K Q) Q)
  | _, _, K, _ => K
/-- What is to be shown at the label. -/
def restWp (P : Program) : Code → Nat → (Exit → Act → World → Prop) → Act → World → Prop
  | .seq x y, l, Q => match findLabel x l with
    | some _ => restWp P x l (Exit.then (y.wp P Q) Q)
    | none => restWp P y l Q
  | _, _, Q => Q .normal
theorem then_mono {K K' : Act → World → Prop} {Q Q' : Exit → Act → World → Prop} (hk : ∀ a w, K a w → K' a w) (hq : ∀ e a w, e ≠ .normal → Q e a w → Q' e a w) (e : Exit) (a : Act) (w : World) (h : Exit.then K Q e a w) : Exit.then K' Q' e a w := by
  cases e <;> first | exact hk a w h | exact hq _ a w (fun e => by cases e) h
theorem restWp_mono {P : Program} (c : Code) (l : Nat) : ∀ {Q Q' : Exit → Act → World → Prop} (_ : ∀ e a w, Q e a w → Q' e a w) (a : Act) (w : World), restWp P c l Q a w → restWp P c l Q' a w := by
  induction c with
  | seq x y ihx ihy =>
    intro Q Q' hq a w h
    unfold restWp at h ⊢
    cases hx : findLabel x l with
    | some r =>
      rw [hx] at h
      exact ihx (fun e a w => then_mono (fun a w h => Code.wp_mono hq h) (fun e a w _ => hq e a w) e a w) a w h
    | none =>
      rw [hx] at h
      exact ihy hq a w h
  | _ => intro Q Q' hq a w h; exact hq _ a w h
theorem restWp_rest {P : Program} (c : Code) (l : Nat) : ∀ (r : Code), findLabel c l = some r → ∀ (Q : Exit → Act → World → Prop) (a : Act) (w : World), restWp P c l Q a w → r.wp P Q a w := by
  induction c with
  | seq x y ihx ihy =>
    intro r hf Q a w h
    unfold restWp at h
    unfold findLabel at hf
    cases hx : findLabel x l with
    | some rx =>
      rw [hx] at h hf
      cases hf
      exact wp_seq (ihx rx hx _ a w h)
    | none =>
      rw [hx] at h hf
      exact ihy r hf Q a w h
  | label l' =>
    intro r hf Q a w h
    unfold findLabel at hf
    split at hf
    · cases hf; exact wp_skip h
    · cases hf
  | _ => intro r hf; cases hf
theorem headWp_mono {P : Program} (c : Code) (l : Nat) : ∀ {K K' : Act → World → Prop} {Q Q' : Exit → Act → World → Prop} (_ : ∀ a w, K a w → K' a w) (_ : ∀ e a w, e ≠ .normal → Q e a w → Q' e a w) (a : Act) (w : World), headWp P c l K Q a w → headWp P c l K' Q' a w := by
  induction c with
  | seq x y ihx ihy =>
    intro K K' Q Q' hk hq a w h
    unfold headWp at h ⊢
    cases hx : findLabel x l with
    | some r => rw [hx] at h; exact ihx hk hq a w h
    | none =>
      rw [hx] at h
      exact Code.wp_mono (fun e a w => then_mono (fun a w h => ihy hk hq a w h) hq e a w) h
  | _ => intro K K' Q Q' hk hq a w h; exact hk a w h
theorem wp_head {P : Program} (c : Code) (l : Nat) : ∀ (r : Code), findLabel c l = some r → ∀ (Q : Exit → Act → World → Prop) (a : Act) (w : World), headWp P c l (restWp P c l Q) Q a w → c.wp P Q a w := by
  induction c with
  | seq x y ihx ihy =>
    intro r hf Q a w h
    unfold headWp at h
    unfold findLabel at hf
    unfold restWp at h
    cases hx : findLabel x l with
    | some rx =>
      rw [hx] at hf h
      refine wp_seq (ihx rx hx _ a w (headWp_mono x l (fun a w h => h) (fun e a w hne he => ?_) a w h))
      cases e <;> first | exact absurd rfl hne | exact he
    | none =>
      rw [hx] at hf h
      refine wp_seq (Code.wp_mono (fun e a w => then_mono (fun a w h => ihy r hf Q a w h) (fun e a w _ h => h) e a w) h)
  | label l' =>
    intro r hf Q a w h
    exact wp_label h
  | _ => intro r hf; cases hf
/-- **A scope with a goto: once to the label, once from it.** -/
theorem wp_scope_jumps2 {P : Program} {a : Act} {w : World} {Q : Exit → Act → World → Prop} {c rest : Code} (l : Nat) (J : Act → World → Prop) (μ : Act → World → Nat) (hf : findLabel c l = some rest)
    (first : headWp P c l J (Exit.jump l J Q) a w)
    (pass : ∀ a w, J a w → restWp P c l (Exit.jump l (fun a' w' => J a' w' ∧ μ a' w' < μ a w) Q) a w) : (Code.scope c).wp P Q a w := by
  refine wp_scope_jumps l J μ hf ?_ fun a w h => restWp_rest c l rest hf _ a w (pass a w h)
  refine wp_head c l rest hf _ a w (headWp_mono c l (fun a w h => ?_) (fun e a w _ h => h) a w first)
  refine restWp_mono c l (fun e a w h => ?_) a w (pass a w h)
  cases e <;> first | exact h | exact ⟨h.1, h.2.1⟩
end Go.Proofs.Ytgccbfkofkohpaa
