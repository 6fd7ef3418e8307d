/- Bytes of one's own that are written; appends where a guard stands; what stays where one row is written. -/
import Derived.Test.YtajombnckgehbaaSReg
import Derived.Lib.AppendZerosOnto
namespace Go.Proofs.Ytajombnckgehbaa
set_option linter.unusedVariables false
set_option linter.unusedSimpArgs false
open Go.ChangeShapes Go.WideShapes Go.ChangeAt Go.RowKit Go.Shelf
/-- A row of bytes of one's own at block g: these. -/
def OwnZ (w : World) (g : Nat) (l : List UInt8) : Prop := g < w.heap.size ∧ (∀ k, w.frozen? ⟨g, k, none⟩ = false) ∧ ∀ (j : Nat) (x : UInt8), l[j]? = some x → w.cell? ⟨g, j, none⟩ = some (bv x)
theorem OwnZ.step {w w' : World} {g : Nat} {l : List UInt8} (h : OwnZ w g l) (hb : Below w.heap.size w w') : OwnZ w' g l :=
  ⟨Nat.lt_of_lt_of_le h.1 hb.size, fun k => by rw [← h.2.1 k]; exact World.frozen?_of_block (hb.block g h.1), fun j x hj => by rw [← h.2.2 j x hj]; exact World.cell?_of_block (hb.block g h.1)⟩
theorem OwnZ.rd {w : World} {g : Nat} {l : List UInt8} (h : OwnZ w g l) : Rd w (some ⟨g, 0, none⟩) l := fun _ => ⟨_, rfl, h.1, fun j x hj => by rw [addr_add, Nat.zero_add]; exact h.2.2 j x hj⟩
theorem OwnZ.set {w : World} {g : Nat} {l : List UInt8} (h : OwnZ w g l) {k : Nat} (hk : k < l.length) (x : UInt8) {v : Value} (hv : v = bv x) : OwnZ (w.setCell ⟨g, k, none⟩ v) g (l.set k x) := by
  subst hv
  refine ⟨by simpa using h.1, fun j => ?_, fun j y hj => ?_⟩
  · rw [World.frozen?_setCell]; exact h.2.1 j
  · rw [List.getElem?_set] at hj
    by_cases e : k = j
    · subst e
      rw [if_pos rfl, if_pos hk] at hj
      obtain rfl := Option.some.inj hj
      exact World.cell?_setCell_same _ _ _ (h.2.2 k l[k] (List.getElem?_eq_getElem hk))
    · rw [if_neg e] at hj
      rw [World.cell?_setCell_other _ _ _ _ (fun h => e (by injection h))]
      exact h.2.2 j y hj
theorem Byt.ownZ {w : World} {base : Nat} {v : Value} {l : List UInt8} (h : Byt w base v l) (hl : 0 < l.length) : ∃ g c, v = .slice (some ⟨g, 0, none⟩) l.length c ∧ base ≤ g ∧ l.length ≤ c ∧ c ≤ maxLen ∧ OwnZ w g l := by
  obtain ⟨g, c, e, h1, h2, h3, h4, h5, h6⟩ := h.own hl
  exact ⟨g, c, e, h1, h3, h4, h2, h5, h6⟩
theorem Byt.far {w w' : World} {base : Nat} {v : Value} {l : List UInt8} (h : Byt w base v l) {r : Option Nat} (hg : w.grownBy w' r) (hne : ∀ k, v.ownBlock = some k → some k ≠ r) : Byt w' base v l := by
  refine World.ownsRow.kept h hg ?_
  cases e : v.ownBlock with
  | none => exact .inl rfl
  | some k => exact .inr (hne k e)
theorem Rd.far {w w' : World} {A : Option Addr} {l : List UInt8} (h : Rd w A l) {r : Option Nat} (hg : w.grownBy w' r) (hne : ∀ b o, A = some ⟨b, o, none⟩ → some b ≠ r) : Rd w' A l := fun hp => by
  obtain ⟨b, o, e, hb, hc⟩ := h.at hp
  refine ⟨_, e, Nat.lt_of_lt_of_le hb hg.size, fun j x hx => ?_⟩
  have h1 := hc j x hx
  rw [addr_add]
  show _ = some (Value.int .u8 (x.toNat : Int))
  rw [← h1]
  exact World.cell?_of_block (hg.block b hb (hne b o e))
theorem run_append_byt {w : World} {base : Nat} {v : Value} {l r : List UInt8} (hown : Byt w base v l) {A : Option Addr} {m c : Nat} (hr : r.length = m) (hA : A = none → c = 0) (hR : Rd w A r) (ty : TypeId) (hle : l.length + r.length ≤ 1000000) (hbase : base ≤ w.heap.size) :
    ∃ v' w', (Builtin.append_ #[29, 29] ty #[v, .slice A m c]).run Try.prog w = .ok v' w' ∧ Byt w' base v' (l ++ r) ∧ Below base w w' := by
  obtain ⟨i, hi1, hi2, hi3, hi4⟩ := info_u8
  subst hr
  by_cases hm : 0 < r.length
  · cases A with
    | none => obtain ⟨ad, e, _⟩ := hR hm; cases e
    | some ad =>
      obtain ⟨v', w', h1, h2, h3, -⟩ := run_append_own (P := Try.prog) w base 29 ty 5 i (.int .u8 0) 1 1 Try.underlying29 hi1 hi2 hi3 hi4 rfl (by decide) v l.length (l.map bv) hown ad r.length c (r.map bv) (by simp) (fun j u hj => by
        rw [List.getElem?_map] at hj
        cases hb : r[j]? with
        | none => rw [hb] at hj; cases hj
        | some b =>
          rw [hb] at hj
          obtain rfl := Option.some.inj hj
          obtain ⟨ad', e, _, hcl⟩ := hR hm
          cases e
          exact hcl j b hb) (fun u hu => by obtain ⟨b, _, rfl⟩ := List.mem_map.1 hu; rfl) (by unfold maxLen; omega) (by omega) hbase
      refine ⟨v', w', h1, ?_, (Below.refl _ _).grown h3 hbase (fun k e => (hown.lt k e).1)⟩
      unfold Byt
      rw [List.length_append, List.map_append]
      exact h2
  · obtain rfl : r = [] := List.eq_nil_of_length_eq_zero (by omega)
    obtain ⟨A2, c2, e2, h1, h2, _⟩ := id hown.slice
    have hsrc : Go.Src Try.prog i.size 29 (.slice A 0 c) 0 [] w := by
      cases A with
      | none => exact Go.Src.ofNil w Try.underlying29 c
      | some ad => exact Go.Src.ofSlice w Try.underlying29 ad 0 c [] (by simp) (fun j u hu => by simp at hu) (fun u hu => by cases hu)
    have hrun := run_append_nothing (P := Try.prog) w 29 29 ty 5 i Try.underlying29 hi1 A2 l.length c2 h1 (.slice A 0 c) hsrc
    exact ⟨_, w, by rw [e2]; exact hrun, by rw [List.append_nil, ← e2]; exact hown, Below.refl _ _⟩
theorem wpList_append_G {ops : Array Oper} {rest : List Oper} {o : Oper} {a : Act} {w : World} {Q : Exit → Act → World → Prop} (hw : Region.wanted o (yielded ops a.tmps) = true) (s x : Operand)
    (ho : o.op = .call { callee := .builtin .append, args := #[s, x], argTypes := #[29, 29] })
    (base : Nat) (v : Value) (l r : List UInt8) (hs : a.eval s = v) (hown : Byt w base v l) (A : Option Addr) (m c : Nat) (hx : a.eval x = .slice A m c) (hr : r.length = m) (hA : A = none → c = 0) (hR : Rd w A r)
    (hle : l.length + r.length ≤ 1000000) (hbase : base ≤ w.heap.size)
    (h : ∀ v' w', Byt w' base v' (l ++ r) → Below base w w' → wpList Try.prog ops Q rest (a.put o.dst v') w') : wpList Try.prog ops Q (o :: rest) a w := by
  obtain ⟨v', w', hrun, h1, h2⟩ := run_append_byt hown hr hA hR o.type hle hbase
  unfold wpList
  rw [if_pos hw]
  exact .inl (Lib.wp_append_run w s x _ _ ho v _ hs hx v' w' hrun (h v' w' h1 h2))
end Go.Proofs.Ytajombnckgehbaa
