/- Bytes in memory; slices of bytes that the call itself made. -/
import Derived.Test.YtajombnckgehbaaGen
import Derived.Laws.AppendOwn
import Derived.Laws.AppendOwnNone
import Derived.Laws.IdiomStrings
import Derived.Deep.AppendLies
import Derived.Deep.RegionHeld3
import Derived.OpenShut
namespace Go.Proofs.Ytajombnckgehbaa
set_option linter.unusedVariables false
set_option linter.unusedSimpArgs false
open Go.ChangeShapes Go.WideShapes Go.ChangeAt Go.RowKit
def bv (b : UInt8) : Value := .int .u8 (b.toNat : Int)
def bvs (l : List UInt8) : Array Value := (l.map bv).toArray
/-- A block that holds a row of bytes. -/
def Bts (w : World) (g : Nat) (t : TypeId) (l : List UInt8) : Prop := w.heap[g]? = some (.cells (bvs l) t (0, 0))
section
variable {w w' : World} {g : Nat} {t : TypeId} {l : List UInt8}
theorem Bts.lt (h : Bts w g t l) : g < w.heap.size := by
  obtain ⟨hlt, _⟩ := Array.getElem?_eq_some_iff.1 h
  exact hlt
theorem Bts.cell (h : Bts w g t l) {k : Nat} {b : UInt8} (hk : l[k]? = some b) : w.cell? ⟨g, k, none⟩ = some (.int .u8 (b.toNat : Int)) := by
  unfold Bts at h
  simp [World.cell?, h, bvs, hk, bv]
theorem Bts.frozen (h : Bts w g t l) (k : Nat) : w.frozen? ⟨g, k, none⟩ = false := by
  unfold Bts at h
  simp [World.frozen?, h]
theorem Bts.below {B : Nat} (h : Bts w g t l) (hb : Below B w w') (hl : g < B) : Bts w' g t l := (hb.block g hl).trans h
theorem Bts.alloc (h : Bts w g t l) (o : Obj) : Bts (w.alloc o) g t l := (Below.heap_alloc w o g h.lt).trans h
theorem Bts.drewN (h : Bts w g t l) (k : Nat) : Bts (w.drewN k) g t l := h
theorem Bts.drew (h : Bts w g t l) : Bts w.drew g t l := h
theorem Bts.far (h : Bts w g t l) {a : Addr} (ha : g ≠ a.block) (v : Value) : Bts (w.setCell a v) g t l := (Below.heap_setCell w a v g ha).trans h
theorem bts_of_row {f : Nat → Value} {n : Nat} (h : w.rowIs g t n f) (hn : l.length = n) (e : ∀ j b, l[j]? = some b → f j = bv b) : Bts w g t l := by
  obtain ⟨c, hb, hs, hc⟩ := h
  have : c = bvs l := by
    apply Array.ext_getElem?
    intro i
    by_cases hi : i < n
    · have hl : i < l.length := by omega
      rw [hc i hi, e i l[i] (List.getElem?_eq_getElem hl)]
      simp [bvs, hl]
    · rw [Array.getElem?_eq_none (by omega), Array.getElem?_eq_none (by simp [bvs]; omega)]
  unfold Bts
  rw [hb, this]
theorem Bts.row (h : Bts w g t l) : w.rowIs g t l.length (fun j => bv (l.getD j 0)) :=
  ⟨bvs l, h, by simp [bvs], fun i hi => by simp [bvs, hi]⟩
end
/-- What a slice of bytes reads as, wherever it lies. -/
def Rd (w : World) (A : Option Addr) (l : List UInt8) : Prop :=
  0 < l.length → ∃ ad, A = some ad ∧ ad.block < w.heap.size ∧ ∀ j b, l[j]? = some b → w.cell? (ad.add j) = some (bv b)
theorem addr_add (g o j : Nat) : (⟨g, o, none⟩ : Addr).add j = ⟨g, o + j, none⟩ := by unfold Addr.add; split <;> simp_all
theorem Bts.rd {w : World} {g : Nat} {t : TypeId} {l : List UInt8} (h : Bts w g t l) : Rd w (some ⟨g, 0, none⟩) l :=
  fun _ => ⟨_, rfl, h.lt, fun j b hj => by rw [addr_add, Nat.zero_add]; exact h.cell hj⟩
theorem Rd.below {w w' : World} {A : Option Addr} {l : List UInt8} (h : Rd w A l) {B : Nat} (hb : Below B w w') (hB : w.heap.size ≤ B) : Rd w' A l :=
  fun hl => by
    obtain ⟨ad, e, h1, h2⟩ := h hl
    have hs : ∀ j, (ad.add j).block = ad.block := fun j => by unfold Addr.add; split <;> rfl
    exact ⟨ad, e, Nat.lt_of_lt_of_le h1 hb.size, fun j b hj => by rw [hb.cell (by rw [hs]; omega)]; exact h2 j b hj⟩
theorem Bts.step {w w' : World} {b : Nat} {t : TypeId} {l : List UInt8} (h : Bts w b t l) (hb : Below w.heap.size w w') : Bts w' b t l := h.below hb h.lt
theorem Rd.step {w w' : World} {A : Option Addr} {l : List UInt8} (h : Rd w A l) (hb : Below w.heap.size w w') : Rd w' A l := h.below hb (Nat.le_refl _)

theorem info_u8 : ∃ i, Try.prog.info? 5 = some i ∧ i.zero = some (.int .u8 0) ∧ i.size = 1 ∧ i.bytes = 1 := by
  have h0 : (Try.prog.info? 5).isSome = true := by kernel_rfl
  have h1 : (Try.prog.info? 5).map (·.size) = some 1 := by kernel_rfl
  have h2 : (Try.prog.info? 5).bind (·.zero) = some (.int .u8 0) := by kernel_rfl
  have h3 : (Try.prog.info? 5).map (·.bytes) = some 1 := by kernel_rfl
  cases h : Try.prog.info? 5 with
  | none => rw [h] at h0; cases h0
  | some i =>
    rw [h] at h1 h2 h3
    exact ⟨i, rfl, h2, Option.some.inj h1, Option.some.inj h3⟩
/-- The slice v, nil or in a block of the call's own (from base on), holds the bytes l. -/
def Byt (w : World) (base : Nat) (v : Value) (l : List UInt8) : Prop := w.ownsRow base 5 1 v l.length (l.map bv)
section
variable {w w' : World} {base : Nat} {v : Value} {l : List UInt8}
theorem Byt.nil (w : World) (base : Nat) : Byt w base (.slice none 0 0) [] := World.ownsRow_nil w base _ _
theorem Byt.slice (h : Byt w base v l) : ∃ A c, v = .slice A l.length c ∧ l.length ≤ c ∧ c ≤ maxLen ∧ Rd w A l ∧ ∀ k, v.ownBlock = some k → base ≤ k ∧ k < w.heap.size := by
  have hl := h.lt
  rcases h.2 with ⟨e, h0⟩ | ⟨g, c, cur, e, hb, hg, hn, hc, hs, ht⟩
  · refine ⟨none, 0, by rw [e, h0], by omega, by unfold maxLen; omega, fun hp => absurd hp (by omega), hl⟩
  · refine ⟨some ⟨g, 0, none⟩, c, e, hn, hc, fun _ => ⟨_, rfl, ?_, fun j b hj => ?_⟩, hl⟩
    · exact (hl g (by rw [e]; rfl)).2
    · exact h.cells (g := g) (by rw [e]; rfl) j (bv b) (by rw [List.getElem?_map, hj]; rfl)
theorem Byt.below (h : Byt w base v l) {B : Nat} (hb : Below B w w') (hB : ∀ k, v.ownBlock = some k → k < B) : Byt w' base v l := by
  refine ⟨h.1, ?_⟩
  rcases h.2 with hn | ⟨g, c, cur, e, hbg, hg, rest⟩
  · exact .inl hn
  · exact .inr ⟨g, c, cur, e, hbg, (hb.block g (hB g (by rw [e]; rfl))).trans hg, rest⟩
theorem Byt.step (h : Byt w base v l) (hb : Below w.heap.size w w') : Byt w' base v l := h.below hb fun k e => (h.lt k e).2
theorem Byt.alloc (h : Byt w base v l) (o : Obj) : Byt (w.alloc o) base v l := World.ownsRow.alloc h o
end
/-- A slice that leads to these bytes is appended to one of the call's own. -/
theorem wpList_append_bytes {ops : Array Oper} {rest : List Oper} {o : Oper} {a : Act} {w : World} {Q : Exit → Act → World → Prop} (hgd : o.guard = none) (s x : Operand)
    (ho : o.op = .call { callee := .builtin .append, args := #[s, x], argTypes := #[29, 29] })
    (base : Nat) (v : Value) (l r : List UInt8) (hs : a.eval s = v) (hown : Byt w base v l) (A : Option Addr) (m c : Nat) (hx : a.eval x = .slice A m c) (hr : r.length = m) (hc : A = none → c = 0) (hR : Rd w A r)
    (hle : l.length + r.length ≤ 1000000) (hbase : base ≤ w.heap.size)
    (h : ∀ v' w', Byt w' base v' (l ++ r) → Below base w w' → w.grownBy w' v.ownBlock → wpList Try.prog ops Q rest (a.put o.dst v') w') : wpList Try.prog ops Q (o :: rest) a w := by
  obtain ⟨i, hi1, hi2, hi3, hi4⟩ := info_u8
  subst hr
  cases A with
  | none =>
    have h0 : r = [] := by
      cases r with
      | nil => rfl
      | cons b r => obtain ⟨ad, e, _⟩ := hR (by simp); cases e
    subst h0
    rw [hc rfl] at hx
    refine wpList_append_own_none hgd s x _ ho base _ i 1 Try.underlying29 hi1 v l.length (l.map bv) hs hown hx ?_
    refine h v w ?_ (Below.refl _ _) (World.grownBy.refl _ _)
    rw [List.append_nil]; exact hown
  | some ad =>
    refine wpList_append_own _ hgd s x _ ho base _ i (.int .u8 0) 1 1 Try.underlying29 hi1 hi2 hi3 hi4 rfl (by decide) v l.length (l.map bv) hs hown ad r.length c (r.map bv) hx (by simp) (fun j u hj => ?_) (fun u hu => ?_) (by unfold maxLen; omega) (by omega) hbase ?_
    · rw [List.getElem?_map] at hj
      cases hb : r[j]? with
      | none => rw [hb] at hj; cases hj
      | some b =>
        rw [hb] at hj
        obtain rfl := Option.some.inj hj
        obtain ⟨ad', e, _, hcl⟩ := hR (by have := (List.getElem?_eq_some_iff.1 hb).1; omega)
        cases e
        exact hcl j b hb
    · obtain ⟨b, _, rfl⟩ := List.mem_map.1 hu
      rfl
    · intro v' w' h1 h2 _
      refine h v' w' ?_ ((Below.refl _ _).grown h2 hbase (fun k e => (hown.lt k e).1)) h2
      unfold Byt
      rw [List.length_append, List.map_append]
      exact h1
/-- .. at a step of a region that draws its order. -/
theorem step_append_bytes {ops : Array Oper} {o : Oper} {a : Act} {w : World} {K : Act → World → Prop} {Q : Exit → Act → World → Prop} {E : Prop} (hgd : o.guard = none) (s x : Operand)
    (ho : o.op = .call { callee := .builtin .append, args := #[s, x], argTypes := #[29, 29] })
    (base : Nat) (v : Value) (l r : List UInt8) (hs : a.eval s = v) (hown : Byt w base v l) (ad : Addr) (m c : Nat) (hx : a.eval x = .slice (some ad) m c) (hr : r.length = m) (hm : 0 < m) (hR : Rd w (some ad) r)
    (hle : l.length + r.length ≤ 1000000) (hbase : base ≤ w.heap.size)
    (h : ∀ g cap w', Byt w' base (.slice (some ⟨g, 0, none⟩) (l.length + m) cap) (l ++ r) → Below base w w' → w.grownBy w' v.ownBlock → (v.ownBlock = some g ∨ g = w.heap.size) → g < w'.heap.size → K (a.put o.dst (.slice (some ⟨g, 0, none⟩) (l.length + m) cap)) w') :
    if Region.wanted o (yielded ops a.tmps) = true then Oper.wp Try.prog o a w K Q else E := by
  obtain ⟨i, hi1, hi2, hi3, hi4⟩ := info_u8
  subst hr
  refine step_append_lies w hgd s x _ ho base _ i (.int .u8 0) 1 1 Try.underlying29 hi1 hi2 hi3 hi4 rfl (by decide) v l.length (l.map bv) hs hown ad r.length c (r.map bv) hx (by simp) (fun j u hj => ?_) (fun u hu => ?_) hm (by unfold maxLen; omega) (by omega) hbase _ rfl ?_
  · rw [List.getElem?_map] at hj
    cases hb : r[j]? with
    | none => rw [hb] at hj; cases hj
    | some b =>
      rw [hb] at hj
      obtain rfl := Option.some.inj hj
      obtain ⟨ad', e, _, hcl⟩ := hR (by have := (List.getElem?_eq_some_iff.1 hb).1; omega)
      cases e
      exact hcl j b hb
  · obtain ⟨b, _, rfl⟩ := List.mem_map.1 hu
    rfl
  · intro g cap w' h1 h2 h3 h4
    refine h g cap w' ?_ ((Below.refl _ _).grown h2 hbase (fun k e => (hown.lt k e).1)) h2 h3 h4
    unfold Byt
    rw [List.length_append, List.map_append]
    exact h1
/-- A slice of bytes as a string. -/
theorem run_string_bytes (w : World) (A : Option Addr) (l : List UInt8) (n c : Nat) (hn : l.length = n) (hR : Rd w A l) : (convert 29 9 (.slice A n c)).run Try.prog w = .ok (.string ⟨l.toArray⟩) w := by
  subst hn
  cases A with
  | none =>
    have h0 : l = [] := by
      cases l with
      | nil => rfl
      | cons b r => obtain ⟨ad, e, _⟩ := hR (by simp); cases e
    subst h0
    rw [run_convert_bytes_string w 29 9 5 none _ _ Try.underlying29 Try.underlying5 Try.underlying9]; rfl
  | some ad =>
    refine run_convert_bytes_back w _ _ 5 ad c l Try.underlying29 Try.underlying5 Try.underlying9 (fun j hj => ?_)
    obtain ⟨ad', e, _, hcl⟩ := hR (by omega)
    cases e
    exact hcl j l[j] (List.getElem?_eq_getElem hj)
/-- Where such a slice leads to: a block and a place in it. -/
theorem Rd.at {w : World} {A : Option Addr} {l : List UInt8} (h : Rd w A l) (hp : 0 < l.length) : ∃ b o, A = some ⟨b, o, none⟩ ∧ b < w.heap.size ∧ ∀ j x, l[j]? = some x → w.cell? ⟨b, o + j, none⟩ = some (.int .u8 (x.toNat : Int)) := by
  obtain ⟨⟨b, o, s⟩, e, hb, hc⟩ := h hp
  have h0 := hc 0 l[0] (List.getElem?_eq_getElem hp)
  have h1 : (⟨b, o, s⟩ : Addr).add 0 = ⟨b, o, s⟩ := by simp [Addr.add]
  rw [h1] at h0
  cases s with
  | some t =>
    exfalso
    unfold World.cell? at h0
    split at h0 <;> simp_all
  | none =>
    refine ⟨b, o, e, hb, fun j x hx => ?_⟩
    have := hc j x hx
    rwa [addr_add] at this
theorem rd_of {w : World} {a : Option Addr} {len cap : Nat} {zs : List Int} (h : (a = none ∧ len = 0 ∧ cap = 0 ∧ zs = []) ∨
    ∃ x, a = some x ∧ len ≤ cap ∧ cap ≤ maxLen ∧ zs.length = cap ∧ (∀ i, i < zs.length → w.cell? (x.add i) = some (.int .u8 (zs.getD i 0))) ∧ ∀ n ∈ zs, (Lit.int .u8 n).wf = true) :
    ∃ l : List UInt8, l.length = len ∧ len ≤ cap ∧ cap ≤ maxLen ∧ (a = none → cap = 0) ∧ Rd w a l := by
  rcases h with ⟨rfl, rfl, rfl, rfl⟩ | ⟨x, rfl, hl, hm, hz, hc, hw⟩
  · exact ⟨[], rfl, Nat.le_refl _, by unfold maxLen; omega, fun _ => rfl, fun h => absurd h (by simp)⟩
  · refine ⟨(zs.take len).map fun z => UInt8.ofNat z.toNat, by simp; omega, hl, hm, (fun h => by cases h), fun hp => ?_⟩
    have hp' : 0 < len := by simpa using (by simp at hp; omega : 0 < len)
    refine ⟨x, rfl, ?_, fun j b hj => ?_⟩
    · have := World.block_lt_of_cell? w _ (hc 0 (by omega))
      have e : (x.add 0).block = x.block := by unfold Addr.add; split <;> rfl
      rwa [e] at this
    · rw [List.getElem?_map] at hj
      obtain ⟨z, hz1, rfl⟩ := Option.map_eq_some_iff.1 hj
      rw [List.getElem?_take] at hz1
      have hjl : j < len := by
        refine Nat.lt_of_not_le fun h => ?_
        rw [if_neg (by omega)] at hz1; cases hz1
      rw [if_pos hjl] at hz1
      have hjz := (List.getElem?_eq_some_iff.1 hz1)
      obtain ⟨hj1, hj2⟩ := hjz
      have hwz := bounds_u8 (hw z (by rw [← hj2]; exact List.getElem_mem hj1))
      rw [hc j hj1]
      have e : zs.getD j 0 = z := by simp [hz1]
      rw [e]
      unfold bv
      have : (UInt8.ofNat z.toNat).toNat = z.toNat := by simp; omega
      rw [this]
      congr 2
      omega
end Go.Proofs.Ytajombnckgehbaa
