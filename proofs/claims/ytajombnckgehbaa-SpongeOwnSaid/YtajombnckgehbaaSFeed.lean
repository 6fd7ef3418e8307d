/- What a sponge that takes bytes comes to: plain lists. -/
import Derived.Test.YtajombnckgehbaaSSame
import Derived.Test.YtajombnckgehbaaGenF
namespace Go.Proofs.Ytajombnckgehbaa
set_option linter.unusedVariables false
set_option linter.unusedSimpArgs false
open Go.ChangeShapes Go.WideShapes Go.ChangeAt Go.RowKit

def byI (L : List UInt8) (k : Nat) : Int := ((L.getD k 0).toNat : Int)
theorem byI_bd (L : List UInt8) (k : Nat) : 0 ≤ byI L k ∧ byI L k < 256 := by
  unfold byI
  have := (L.getD k 0).toNat_lt
  omega
theorem absN_congr {z z' : Nat → Int} (s : W8) : ∀ k, (∀ j, j < k → z j = z' j) → absN z s k = absN z' s k
  | 0, _ => rfl
  | k + 1, h => by rw [absN, absN, absN_congr s k fun j hj => h j (by omega), h k (by omega)]
theorem takeW_congr {z z' : Nat → Int} (s : W8) (h : ∀ k, k < 16 → z k = z' k) : takeW z s = takeW z' s := by
  unfold takeW; rw [absN_congr s 16 h]
def feed (s : W8) (L : List UInt8) : W8 × List UInt8 := if L.length < 16 then (s, L) else feed (takeW (byI L) s) (L.drop 16)
termination_by L.length
decreasing_by simp only [List.length_drop]; omega
theorem feed_lt {s : W8} {L : List UInt8} (h : L.length < 16) : feed s L = (s, L) := by rw [feed, if_pos h]
theorem feed_ge {s : W8} {L : List UInt8} (h : 16 ≤ L.length) : feed s L = feed (takeW (byI L) s) (L.drop 16) := by
  conv => lhs; rw [feed]
  rw [if_neg (by omega)]
theorem feed_block {s : W8} {B L : List UInt8} (h : B.length = 16) : feed s (B ++ L) = feed (takeW (byI B) s) L := by
  have e : takeW (byI (B ++ L)) s = takeW (byI B) s := takeW_congr s fun k hk => by
    unfold byI
    simp only [List.getD_eq_getElem?_getD]
    rw [List.getElem?_append_left (by omega)]
  rw [feed_ge (by rw [List.length_append]; omega), List.drop_append_of_le_length (by omega), List.drop_of_length_le (by omega), List.nil_append, e]
theorem feed_len (s : W8) (L : List UInt8) : (feed s L).2.length < 16 := by
  induction h : L.length using Nat.strongRecOn generalizing s L with
  | _ n ih =>
    by_cases h16 : L.length < 16
    · rw [feed_lt h16]; exact h16
    · rw [feed_ge (by omega)]
      exact ih (L.drop 16).length (by rw [List.length_drop]; omega) _ _ rfl
theorem feed_append (s : W8) (L R : List UInt8) : feed s (L ++ R) = feed (feed s L).1 ((feed s L).2 ++ R) := by
  induction h : L.length using Nat.strongRecOn generalizing s L with
  | _ n ih =>
    by_cases h16 : L.length < 16
    · rw [feed_lt h16]
    · rw [feed_ge (s := s) (L := L) (by omega)]
      have e : L ++ R = L.take 16 ++ (L.drop 16 ++ R) := by rw [← List.append_assoc, List.take_append_drop]
      have e2 : takeW (byI (L.take 16)) s = takeW (byI L) s := takeW_congr s fun k hk => by
        unfold byI; simp only [List.getD_eq_getElem?_getD, List.getElem?_take]; rw [if_pos hk]
      rw [e, feed_block (by rw [List.length_take]; omega), e2]
      exact ih (L.drop 16).length (by rw [List.length_drop]; omega) _ _ rfl
theorem feed_ok {s : W8} (hs : s.ok) (L : List UInt8) : (feed s L).1.ok := by
  induction h : L.length using Nat.strongRecOn generalizing s L with
  | _ n ih =>
    by_cases h16 : L.length < 16
    · rw [feed_lt h16]; exact hs
    · rw [feed_ge (by omega)]
      exact ih (L.drop 16).length (by rw [List.length_drop]; omega) (ok_takeW hs) _ rfl
attribute [irreducible] byI

/-! Worlds of which one block below N may have turned. -/
structure Kp (N p : Nat) (a b : World) : Prop where
  os : b.os = a.os
  tape : b.tape = a.tape
  output : b.output = a.output
  size : a.heap.size ≤ b.heap.size
  block : ∀ i, i < N → i ≠ p → b.heap[i]? = a.heap[i]?
theorem Kp.refl (N p : Nat) (a : World) : Kp N p a a := ⟨rfl, rfl, rfl, Nat.le_refl _, fun _ _ _ => rfl⟩
theorem Kp.trans {N p : Nat} {a b c : World} (h : Kp N p a b) (k : Kp N p b c) : Kp N p a c :=
  ⟨k.os.trans h.os, k.tape.trans h.tape, k.output.trans h.output, Nat.le_trans h.size k.size, fun i hi hp => (k.block i hi hp).trans (h.block i hi hp)⟩
theorem Kp.grown {N p : Nat} {a b : World} {r : Nat} (h : a.grownBy b (some r)) (hN : N ≤ a.heap.size) (hr : r = p ∨ N ≤ r) : Kp N p a b :=
  ⟨h.os, h.tape, h.output, h.size, fun i hi hp => h.block i (by omega) (fun e => by cases e; omega)⟩
theorem Kp.below {N p : Nat} {a b : World} (h : Below N a b) : Kp N p a b := ⟨h.os, h.tape, h.output, h.size, fun i hi _ => h.block i hi⟩
theorem Kp.grownBy {p : Nat} {a b : World} (h : Kp a.heap.size p a b) : a.grownBy b (some p) := ⟨h.os, h.tape, h.output, h.size, fun i hi hp => h.block i hi fun e => hp (by rw [e])⟩
theorem Kp.mono {N M p : Nat} {a b : World} (h : Kp N p a b) (hM : M ≤ N) : Kp M p a b := ⟨h.os, h.tape, h.output, h.size, fun i hi hp => h.block i (by omega) hp⟩
/-- Bytes that lie below N, not in block p. -/
def Src (N p : Nat) (w : World) (A : Option Addr) (l : List UInt8) : Prop :=
  0 < l.length → ∃ b o, A = some ⟨b, o, none⟩ ∧ b < N ∧ b ≠ p ∧ ∀ j x, l[j]? = some x → w.cell? ⟨b, o + j, none⟩ = some (.int .u8 (x.toNat : Int))
theorem cell_same {w w' : World} {b k : Nat} (e : w'.heap[b]? = w.heap[b]?) : w'.cell? ⟨b, k, none⟩ = w.cell? ⟨b, k, none⟩ := by simp only [World.cell?, e]
theorem Src.kp {N p : Nat} {w w' : World} {A : Option Addr} {l : List UInt8} (h : Src N p w A l) (k : Kp N p w w') : Src N p w' A l := fun hl => by
  obtain ⟨b, o, e, h1, h2, h3⟩ := h hl
  exact ⟨b, o, e, h1, h2, fun j x hx => (cell_same (k.block b h1 h2)).trans (h3 j x hx)⟩
theorem Src.of_rd {p : Nat} {w : World} {A : Option Addr} {l : List UInt8} (h : Rd w A l) (hp : ∀ b o, A = some ⟨b, o, none⟩ → b ≠ p) : Src w.heap.size p w A l := fun hl => by
  obtain ⟨b, o, e, h1, h2⟩ := h.at hl
  exact ⟨b, o, e, h1, hp b o e, h2⟩
/-- A sponge in memory: its words, what waits. -/
def SpAt (w : World) (p : Nat) (s : W8) (l : List UInt8) : Prop :=
  ∃ y : Nat → Int, (∀ k, 0 ≤ y k ∧ y k < 256) ∧ (∀ k, k < l.length → y k = byI l k) ∧ Blk w p 62 (arrS s y (l.length : Int)) ∧ s.ok ∧ l.length < 16
theorem SpAt.lt {w : World} {p : Nat} {s : W8} {l : List UInt8} (h : SpAt w p s l) : p < w.heap.size := by
  obtain ⟨y, _, _, h, _⟩ := h
  exact h.lt
theorem SpAt.of_block {w w' : World} {p : Nat} {s : W8} {l : List UInt8} (h : SpAt w p s l) (e : w'.heap[p]? = w.heap[p]?) : SpAt w' p s l := by
  obtain ⟨y, h1, h2, h3, h4⟩ := h
  exact ⟨y, h1, h2, e.trans h3, h4⟩
/-- What copy leaves of a sponge's block. -/
def laid (y : Nat → Int) (h : Nat) (L : List UInt8) (k : Nat) : Int := if h ≤ k ∧ k < h + L.length then byI L (k - h) else y k
theorem laid_bd {y : Nat → Int} (hy : ∀ k, 0 ≤ y k ∧ y k < 256) (h : Nat) (L : List UInt8) (k : Nat) : 0 ≤ laid y h L k ∧ laid y h L k < 256 := by
  unfold laid; split
  · exact byI_bd _ _
  · exact hy k
theorem byI_append {l L : List UInt8} {k : Nat} : byI (l ++ L) k = if k < l.length then byI l k else byI L (k - l.length) := by
  unfold byI
  simp only [List.getD_eq_getElem?_getD]
  by_cases h : k < l.length
  · rw [if_pos h, List.getElem?_append_left h]
  · rw [if_neg h, List.getElem?_append_right (by omega)]
theorem laid_at {y : Nat → Int} {l L : List UInt8} (h : ∀ k, k < l.length → y k = byI l k) : ∀ k, k < (l ++ L).length → laid y l.length L k = byI (l ++ L) k := by
  intro k hk
  rw [List.length_append] at hk
  rw [byI_append]
  unfold laid
  by_cases h1 : k < l.length
  · rw [if_neg (by omega), if_pos h1, h k h1]
  · rw [if_pos (by omega), if_neg h1]
theorem arrS_get (s : W8) (y : Nat → Int) (h : Int) {k : Nat} (hk : k < 16) : (arrS s y h)[8 + k]? = some (.int .u8 (y k)) := by
  have : k = 0 ∨ k = 1 ∨ k = 2 ∨ k = 3 ∨ k = 4 ∨ k = 5 ∨ k = 6 ∨ k = 7 ∨ k = 8 ∨ k = 9 ∨ k = 10 ∨ k = 11 ∨ k = 12 ∨ k = 13 ∨ k = 14 ∨ k = 15 := by omega
  rcases this with rfl | rfl | rfl | rfl | rfl | rfl | rfl | rfl | rfl | rfl | rfl | rfl | rfl | rfl | rfl | rfl <;> rfl
theorem arrS_out (s : W8) (y z : Nat → Int) (h : Int) {i : Nat} (hi : i < 8 ∨ 24 ≤ i) : (arrS s y h)[i]? = (arrS s z h)[i]? := by
  rcases hi with hi | hi
  · have : i = 0 ∨ i = 1 ∨ i = 2 ∨ i = 3 ∨ i = 4 ∨ i = 5 ∨ i = 6 ∨ i = 7 := by omega
    rcases this with rfl | rfl | rfl | rfl | rfl | rfl | rfl | rfl <;> rfl
  · by_cases e : i = 24
    · subst e; rfl
    · have hs : ∀ y, (arrS s y h).size = 25 := fun y => rfl
      rw [Array.getElem?_eq_none (by rw [hs]; omega), Array.getElem?_eq_none (by rw [hs]; omega)]
theorem byI_get {L : List UInt8} {j : Nat} {b : UInt8} (h : L[j]? = some b) : byI L j = (b.toNat : Int) := by
  unfold byI; rw [List.getD_eq_getElem?_getD, h]; rfl
theorem arrS_copy (s : W8) (y : Nat → Int) (h : Int) (q : Nat) (L : List UInt8) (hq : q + L.length ≤ 16) :
    ((arrS s y h).toList.take (8 + q) ++ L.map bv ++ (arrS s y h).toList.drop (8 + q + (L.map bv).length)).toArray = arrS s (laid y q L) h := by
  apply Array.ext_getElem?
  intro i
  have hs : (arrS s y h).toList.length = 25 := rfl
  rw [List.getElem?_toArray, List.length_map]
  by_cases h1 : i < 8 + q
  · rw [List.append_assoc, List.getElem?_append_left (by rw [List.length_take]; omega), List.getElem?_take, if_pos h1, Array.getElem?_toList]
    by_cases h8 : i < 8
    · exact arrS_out _ _ _ _ (.inl h8)
    · obtain ⟨k, rfl⟩ : ∃ k, i = 8 + k := ⟨i - 8, by omega⟩
      rw [arrS_get s y h (by omega), arrS_get s _ h (by omega)]
      unfold laid; rw [if_neg (by omega)]
  · have hl1 : ((arrS s y h).toList.take (8 + q)).length = 8 + q := by rw [List.length_take]; omega
    by_cases h2 : i < 8 + q + L.length
    · rw [List.append_assoc, List.getElem?_append_right (by omega), hl1, List.getElem?_append_left (by rw [List.length_map]; omega), List.getElem?_map]
      obtain ⟨k, rfl⟩ : ∃ k, i = 8 + k := ⟨i - 8, by omega⟩
      rw [arrS_get s _ h (by omega)]
      have hk : 8 + k - (8 + q) = k - q := by omega
      rw [hk, List.getElem?_eq_getElem (by omega : k - q < L.length), Option.map_some]
      unfold laid bv
      rw [if_pos (by omega), byI_get (List.getElem?_eq_getElem (by omega : k - q < L.length))]
    · rw [List.getElem?_append_right (by rw [List.length_append, hl1, List.length_map]; omega), List.length_append, hl1, List.length_map, List.getElem?_drop, show 8 + q + L.length + (i - (8 + q + L.length)) = i by omega, Array.getElem?_toList]
      by_cases h24 : 24 ≤ i
      · exact arrS_out _ _ _ _ (.inr h24)
      · obtain ⟨k, rfl⟩ : ∃ k, i = 8 + k := ⟨i - 8, by omega⟩
        rw [arrS_get s y h (by omega), arrS_get s _ h (by omega)]
        unfold laid; rw [if_neg (by omega)]
theorem arrS_have (s : W8) (y : Nat → Int) (h h' : Int) : (arrS s y h).setIfInBounds 24 (.int .i64 h') = arrS s y h' := rfl
/-- copy, at a step of a region that draws its order. -/
theorem step_copy {P : Program} {ops : Array Oper} {o : Oper} {a : Act} {w w' : World} {K : Act → World → Prop} {Q : Exit → Act → World → Prop} {E : Prop} (hgd : o.guard = none) (x y : Operand) (t1 t2 : TypeId)
    (ho : o.op = .call { callee := .builtin .copy, args := #[x, y], argTypes := #[t1, t2] }) {u v r : Value} (hx : a.eval x = u) (hy : a.eval y = v) (hr : (Builtin.copy_ #[t1, t2] o.type #[u, v]).run P w = .ok r w') (h : K (a.put o.dst r) w') :
    if Region.wanted o (yielded ops a.tmps) = true then Oper.wp P o a w K Q else E := by
  rw [if_pos (by simp [Region.wanted, hgd])]
  unfold Oper.wp
  have : (execOp a.eval o).run P w = .ok (.value r) w' := by
    simp only [execOp, ho, resolve, Sem.run_bind, Sem.run_pure, Result.andThen_ok, invoke, List.map_toArray, List.map_cons, List.map_nil, hx, hy]
    simp [builtin, hr, Result.andThen]
  rw [this]
  exact h
end Go.Proofs.Ytajombnckgehbaa
