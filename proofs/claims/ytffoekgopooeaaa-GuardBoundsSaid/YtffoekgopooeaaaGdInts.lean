/- Slices of ints that a call makes; the bucket's level; sums of rows. -/
import Derived.Test.YtffoekgopooeaaaGdEq
namespace Go.Proofs.Ytffoekgopooeaaa
set_option linter.unusedVariables false
set_option linter.unusedSimpArgs false
open Go.ChangeShapes Go.WideShapes Go.ChangeAt Go.RowKit Go.Shelf
def iv (z : Int) : Value := .int .i64 z
theorem info_i64 : ∃ i, Try.prog.info? 3 = some i ∧ i.zero = some (.int .i64 0) ∧ i.size = 1 ∧ i.bytes = 8 := by
  have h0 : (Try.prog.info? 3).isSome = true := by kernel_rfl
  have h1 : (Try.prog.info? 3).map (·.size) = some 1 := by kernel_rfl
  have h2 : (Try.prog.info? 3).bind (·.zero) = some (.int .i64 0) := by kernel_rfl
  have h3 : (Try.prog.info? 3).map (·.bytes) = some 8 := by kernel_rfl
  cases h : Try.prog.info? 3 with
  | none => rw [h] at h0; cases h0
  | some i =>
    rw [h] at h1 h2 h3
    exact ⟨i, rfl, h2, Option.some.inj h1, Option.some.inj h3⟩
/-- The slice v, nil or in a block of the call's own (from base on), holds these ints. -/
def Row (w : World) (base : Nat) (v : Value) (l : List Int) : Prop := w.ownsRow base 3 1 v l.length (l.map iv)
theorem Row.nil (w : World) (base : Nat) : Row w base (.slice none 0 0) [] := World.ownsRow_nil w base _ _
theorem Row.below {w w' : World} {base : Nat} {v : Value} {l : List Int} (h : Row w base v l) {B : Nat} (hb : Below B w w') (hB : ∀ k, v.ownBlock = some k → k < B) : Row w' base v l := by
  refine ⟨h.1, ?_⟩
  rcases h.2 with hn | ⟨g, c, cur, e, hbg, hg, rest⟩
  · exact .inl hn
  · exact .inr ⟨g, c, cur, e, hbg, (hb.block g (hB g (by rw [e]; rfl))).trans hg, rest⟩
theorem Row.step {w w' : World} {base : Nat} {v : Value} {l : List Int} (h : Row w base v l) (hb : Below w.heap.size w w') : Row w' base v l := h.below hb fun k e => (h.lt k e).2
theorem Row.far {w w' : World} {base : Nat} {v : Value} {l : List Int} (h : Row w base v l) {r : Option Nat} (hg : w.grownBy w' r) (hne : ∀ k, v.ownBlock = some k → some k ≠ r) : Row w' base v l := by
  refine ⟨h.1, ?_⟩
  rcases h.2 with hn | ⟨g, c, cur, e, hbg, hgg, rest⟩
  · exact .inl hn
  · exact .inr ⟨g, c, cur, e, hbg, (hg.block g (heap_lt hgg) (hne g (by rw [e]; rfl))).trans hgg, rest⟩
theorem Row.at {w : World} {base : Nat} {v : Value} {l : List Int} (h : Row w base v l) : ∃ A c, v = .slice A l.length c ∧ l.length ≤ c ∧ c ≤ maxLen ∧ (0 < l.length → ∃ g, A = some ⟨g, 0, none⟩ ∧ g < w.heap.size ∧ ∀ j z, l[j]? = some z → w.cell? ⟨g, j, none⟩ = some (iv z)) := by
  have hl := h.lt
  rcases h.2 with ⟨e, h0⟩ | ⟨g, c, cur, e, hb, hg, hn, hc, hs, ht⟩
  · exact ⟨none, 0, by rw [e, h0], by omega, by unfold maxLen; omega, fun hp => by omega⟩
  · refine ⟨some ⟨g, 0, none⟩, c, e, hn, hc, fun _ => ⟨g, rfl, heap_lt hg, fun j z hj => ?_⟩⟩
    have := h.cells (g := g) (by rw [e]; rfl) j (iv z) (by rw [List.getElem?_map, hj]; rfl)
    rwa [addr_add, Nat.zero_add] at this
/-- One int is appended. -/
theorem wpList_append_int {ops : Array Oper} {rest : List Oper} {o : Oper} {a : Act} {w : World} {Q : Exit → Act → World → Prop} (hgd : o.guard = none) (s x : Operand)
    (ho : o.op = .call { callee := .builtin .append, args := #[s, x], argTypes := #[31, 31] })
    (base : Nat) (v : Value) (l : List Int) (z : Int) (hs : a.eval s = v) (hown : Row w base v l) (g : Nat) (hx : a.eval x = .slice (some ⟨g, 0, none⟩) 1 1) (hR : w.cell? ⟨g, 0, none⟩ = some (.int .i64 z))
    (hle : l.length ≤ 1000000) (hbase : base ≤ w.heap.size)
    (h : ∀ g' c' w', Row w' base (.slice (some ⟨g', 0, none⟩) (l.length + 1) c') (l ++ [z]) → Below base w w' → w.grownBy w' v.ownBlock → (v.ownBlock = some g' ∨ g' = w.heap.size) → g' < w'.heap.size → wpList Try.prog ops Q rest (a.put o.dst (.slice (some ⟨g', 0, none⟩) (l.length + 1) c')) w') : wpList Try.prog ops Q (o :: rest) a w := by
  obtain ⟨i, hi1, hi2, hi3, hi4⟩ := info_i64
  refine wpList_plain hgd fun K hK => wp_append_lies w s x _ ho base _ i (.int .i64 0) 1 8 Try.underlying31 hi1 hi2 hi3 hi4 rfl (by decide) v l.length (l.map iv) hs hown ⟨g, 0, none⟩ 1 1 [iv z] hx (by simp) (fun j u hj => ?_) (fun u hu => ?_) (by decide) (by unfold maxLen; omega) (by omega) hbase _ rfl fun g' c' w' h1 h2 h3 h4 => hK _ _ (h g' c' w' ?_ ((Below.refl _ _).grown h2 hbase (fun k e => (hown.lt k e).1)) h2 h3 h4)
  · cases j with
    | zero => simp at hj; subst hj; exact hR
    | succ j => simp at hj
  · rw [List.mem_singleton.1 hu]; rfl
  · unfold Row
    rw [List.length_append, List.map_append]
    exact h1
theorem Row.lt {w : World} {base : Nat} {v : Value} {l : List Int} (h : Row w base v l) : ∀ k, v.ownBlock = some k → base ≤ k ∧ k < w.heap.size := World.ownsRow.lt h
/-- The sum of the first k. -/
def preS (l : List Int) (k : Nat) : Int := (l.take k).sum
theorem preS_zero (l : List Int) : preS l 0 = 0 := by simp [preS]
theorem preS_succ {l : List Int} {k : Nat} {z : Int} (h : l[k]? = some z) : preS l (k + 1) = preS l k + z := by
  obtain ⟨hk, hz⟩ := List.getElem?_eq_some_iff.1 h
  unfold preS
  rw [List.take_succ_eq_append_getElem hk, List.sum_append, hz]
  simp
theorem preS_snoc {l : List Int} {z : Int} {k : Nat} (hk : k ≤ l.length) : preS (l ++ [z]) k = preS l k := by
  unfold preS
  rw [List.take_append_of_le_length hk]
theorem preS_full (l : List Int) (z : Int) : preS (l ++ [z]) (l.length + 1) = preS l l.length + z := by
  rw [preS_succ (z := z) (by simp), preS_snoc (Nat.le_refl _)]
theorem preS_bd {l : List Int} (h : ∀ z ∈ l, -1 ≤ z ∧ z ≤ 1) : ∀ k, k ≤ l.length → -(k : Int) ≤ preS l k ∧ preS l k ≤ (k : Int)
  | 0, _ => by rw [preS_zero]; omega
  | k + 1, hk => by
    have ih := preS_bd h k (by omega)
    have hz := h _ (List.getElem_mem (show k < l.length by omega))
    rw [preS_succ (List.getElem?_eq_getElem (by omega))]
    omega
/-- How full a bucket is, in tenths. -/
def lev (n a T : Int) : Int := min 50 (10 * n + (T - a))
theorem lev_later {n a T T' : Int} (h : T ≤ T') : lev n a T' ≤ lev n a T + (T' - T) := by unfold lev; omega
theorem lev_charge {n a T : Int} (h0 : 0 ≤ n) (h5 : n ≤ 5) (ha : a ≤ T) (hz : tokN n a T ≠ 0) : lev (tokN n a T - 1) (tokA n a T) T ≤ lev n a T - 10 := by
  have w1 := tok_ways n a T
  unfold lev
  omega
theorem lev_refund {n a T : Int} (h0 : 0 ≤ n) (h5 : n ≤ 5) (ha : a ≤ T) : lev (min (tokN n a T + 1) 5) (tokA n a T) T ≤ lev n a T + 10 := by
  have w1 := tok_ways n a T
  unfold lev
  omega
theorem lev_bd {n a T : Int} (h0 : 0 ≤ n) (ha : a ≤ T) : 0 ≤ lev n a T ∧ lev n a T ≤ 50 := by unfold lev; omega
/-- What is held of the charges so far: when, and how many. -/
structure Held (P S : List Int) (T L : Int) : Prop where
  len : P.length = S.length
  one : ∀ z ∈ S, -1 ≤ z ∧ z ≤ 1
  up : ∀ (i k : Nat) (p q : Int), i ≤ k → P[i]? = some p → P[k]? = some q → 0 ≤ p ∧ p ≤ q ∧ q ≤ T
  old : ∀ (i k : Nat) (p q : Int), i ≤ k → P[i]? = some p → P[k]? = some q → 10 * (preS S (k + 1) - preS S i) ≤ 50 + (q - p)
  now : ∀ (i : Nat) (p : Int), P[i]? = some p → 10 * (preS S S.length - preS S i) + L ≤ 50 + (T - p)
theorem Held.nil (T L : Int) : Held [] [] T L := ⟨rfl, fun _ h => (by cases h), fun _ _ _ _ _ h => (by simp at h), fun _ _ _ _ _ h => (by simp at h), fun _ _ h => (by simp at h)⟩
theorem Held.later {P S : List Int} {T L T' L' : Int} (h : Held P S T L) (hT : T ≤ T') (hL : L' ≤ L + (T' - T)) : Held P S T' L' :=
  ⟨h.len, h.one, fun i k p q h1 h2 h3 => by have := h.up i k p q h1 h2 h3; omega, h.old, fun i p h1 => by have := h.now i p h1; omega⟩
theorem Held.snoc {P S : List Int} {T L z L' : Int} (h : Held P S T L) (hz : -1 ≤ z ∧ z ≤ 1) (hT : 0 ≤ T) (hL : L' ≤ L - 10 * z) (h0 : 0 ≤ L') (h50 : L ≤ 50) : Held (P ++ [T]) (S ++ [z]) T L' := by
  have hn : preS (S ++ [z]) (S.length + 1) = preS S S.length + z := preS_full S z
  have hlen := h.len
  have at' : ∀ (i : Nat) (p : Int), (P ++ [T])[i]? = some p → (P[i]? = some p ∧ i < P.length) ∨ (i = P.length ∧ p = T) := fun i p hp => by
    by_cases hi : i < P.length
    · rw [List.getElem?_append_left hi] at hp; exact .inl ⟨hp, hi⟩
    · rw [List.getElem?_append_right (by omega)] at hp
      have : i - P.length = 0 := by
        cases hq : i - P.length with
        | zero => rfl
        | succ m => rw [hq] at hp; simp at hp
      rw [this] at hp
      simp at hp
      exact .inr ⟨by omega, hp.symm⟩
  refine ⟨by simp [hlen], fun y hy => ?_, fun i k p q hik hp hq => ?_, fun i k p q hik hp hq => ?_, fun i p hp => ?_⟩
  · rcases List.mem_append.1 hy with hy | hy
    · exact h.one y hy
    · rw [List.mem_singleton.1 hy]; exact hz
  · rcases at' i p hp with ⟨hp1, hi⟩ | ⟨hi, rfl⟩
    · rcases at' k q hq with ⟨hq1, hk⟩ | ⟨hk, rfl⟩
      · exact h.up i k p q hik hp1 hq1
      · have := h.up i i p p (Nat.le_refl _) hp1 hp1; omega
    · rcases at' k q hq with ⟨hq1, hk⟩ | ⟨hk, rfl⟩
      · omega
      · omega
  · rcases at' k q hq with ⟨hq1, hk⟩ | ⟨hk, rfl⟩
    · rcases at' i p hp with ⟨hp1, hi⟩ | ⟨hi, rfl⟩
      · rw [preS_snoc (by omega), preS_snoc (by omega)]
        exact h.old i k p q hik hp1 hq1
      · omega
    · rw [hk, hlen, hn]
      rcases at' i p hp with ⟨hp1, hi⟩ | ⟨hi, rfl⟩
      · rw [preS_snoc (by omega)]
        have := h.now i p hp1
        omega
      · rw [hi, hlen, preS_snoc (Nat.le_refl _)]
        omega
  · rw [List.length_append, List.length_singleton, hn]
    rcases at' i p hp with ⟨hp1, hi⟩ | ⟨hi, rfl⟩
    · rw [preS_snoc (by omega)]
      have := h.now i p hp1
      omega
    · rw [hi, hlen, preS_snoc (Nat.le_refl _)]
      omega
end Go.Proofs.Ytffoekgopooeaaa
