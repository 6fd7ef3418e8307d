/- Both Reads, of any bytes, at once; cells of slices; bytes that are written. -/
import Derived.Test.YtffoekgopooeaaaGdRRead
namespace Go.Proofs.Ytffoekgopooeaaa
set_option linter.unusedVariables false
set_option linter.unusedSimpArgs false
open Go.ChangeShapes Go.WideShapes Go.ChangeAt Go.RowKit Go.Shelf
theorem reads_pack (key l : List UInt8) (hk : key.length ≤ 2000) (hl : l.length ≤ 1000) : ∃ (s : ByteArray) (a b c d : Int) (ok : Bool), RdRes key l (.tuple #[.agg (tokA4 s a b c d), .bool ok]) ∧
    Hid (∀ (kv bv : Value) (w : World), IsB w key kv → IsB w l bv → Calls Try.prog 28 #[kv, bv] w fun e w' => e = .returned (.tuple #[.agg (tokA4 s a b c d), .bool ok]) ∧ Below w.heap.size w w') ∧
    Hid (∀ (kv bv : Value) (w : World), IsB w key kv → IsB w l bv → Calls Try.prog 30 #[kv, bv] w fun e w' => e = .returned (.tuple #[.agg (tokA4 s a b c d), .bool ok]) ∧ Below w.heap.size w w') := by
  have key1 : ∀ s (a b c d : Int) ok, RdRes key l (.tuple #[.agg (tokA4 s a b c d), .bool ok]) →
      (RdRes key l (.tuple #[.agg (tokA4 s a b c d), .bool ok]) ∧ Hid (∀ (kv bv : Value) (w : World), IsB w key kv → IsB w l bv → Calls Try.prog 28 #[kv, bv] w fun e w' => e = .returned (.tuple #[.agg (tokA4 s a b c d), .bool ok]) ∧ Below w.heap.size w w') ∧
    Hid (∀ (kv bv : Value) (w : World), IsB w key kv → IsB w l bv → Calls Try.prog 30 #[kv, bv] w fun e w' => e = .returned (.tuple #[.agg (tokA4 s a b c d), .bool ok]) ∧ Below w.heap.size w w')) := fun s a b c d ok h =>
    ⟨h, hid fun kv bv w h1 h2 => (read_any kv bv key l hl w h1 h2).mono fun e w' ⟨v, e1, h3, h4⟩ => ⟨by rw [e1, h3.same h], h4⟩,
      hid fun kv bv w h1 h2 => (rread_any kv bv key l hl hk w h1 h2).mono fun e w' ⟨v, e1, h3, h4⟩ => ⟨by rw [e1, h3.same h], h4⟩⟩
  by_cases h : NoTok key l
  · exact ⟨_, _, _, _, _, _, key1 _ _ _ _ _ _ (.inr ⟨h, rfl⟩)⟩
  · obtain ⟨s, n0, n1, n2, n3, h⟩ : ∃ s n0 n1 n2 n3, IsTok key l s n0 n1 n2 n3 := Classical.byContradiction fun h2 => h fun s n0 n1 n2 n3 h3 => h2 ⟨s, n0, n1, n2, n3, h3⟩
    exact ⟨_, _, _, _, _, _, key1 _ _ _ _ _ _ (.inl ⟨s, n0, n1, n2, n3, h, rfl⟩)⟩
section
variable {a : Act} {w : World} {o : Oper}
theorem run_ixB (x k : Operand) (ho : o.op = .indexAddr 23 x k) {b q n c i : Nat} {z : Int} (hx : a.eval x = .slice (some ⟨b, q, none⟩) n c) (hk : a.eval k = .int .i64 z) (hz : z = (i : Int)) (hi : i < n) : (execOp a.eval o).run Try.prog w = .ok (.value (.pointer (some ⟨b, q + i, none⟩))) w := by
  subst hz
  unfold execOp
  simp only [ho, hx, hk]
  have h0 : ¬ ((i : Int) < 0) := by omega
  have h1 : (i : Int) < (n : Int) := by omega
  simp [go_sem, h0, h1, hi]
theorem run_ixI (x k : Operand) (ho : o.op = .indexAddr 31 x k) {b q n c i : Nat} {z : Int} (hx : a.eval x = .slice (some ⟨b, q, none⟩) n c) (hk : a.eval k = .int .i64 z) (hz : z = (i : Int)) (hi : i < n) : (execOp a.eval o).run Try.prog w = .ok (.value (.pointer (some ⟨b, q + i, none⟩))) w := by
  subst hz
  unfold execOp
  simp only [ho, hx, hk]
  have h0 : ¬ ((i : Int) < 0) := by omega
  have h1 : (i : Int) < (n : Int) := by omega
  simp [go_sem, h0, h1, hi]
theorem run_add8 (x y : Operand) (ho : o.op = .binOp .add 5 x y 5) {p q z : Int} (hx : a.eval x = .int .u8 p) (hy : a.eval y = .int .u8 q) (hz : IntKind.u8.wrap (p + q) = z) : (execOp a.eval o).run Try.prog w = .ok (.value (.int .u8 z)) w := by
  subst hz
  unfold execOp
  simp only [ho, hx, hy]
  simp [go_sem]
theorem run_neTok (x y : Operand) (ho : o.op = .binOp .neq 41 x y 41) {s : ByteArray} {p q r t : Int} (hx : a.eval x = .agg (tokA4 s p q r t)) (hy : a.eval y = .agg (tokA4 s p q r t)) : (execOp a.eval o).run Try.prog w = .ok (.value (.bool false)) w := by
  unfold execOp
  simp only [ho, hx, hy]
  simp [go_sem]
end
/-- A row of bytes of one's own at block g: these. -/
def OwnZ (w : World) (g : Nat) (l : List UInt8) : Prop := g < w.heap.size ∧ (∀ k, w.frozen? ⟨g, k, none⟩ = false) ∧ ∀ (j : Nat) (x : UInt8), l[j]? = some x → w.cell? ⟨g, j, none⟩ = some (bv x)
theorem OwnZ.step {w w' : World} {g : Nat} {l : List UInt8} (h : OwnZ w g l) (hb : Below w.heap.size w w') : OwnZ w' g l :=
  ⟨Nat.lt_of_lt_of_le h.1 hb.size, fun k => by rw [← h.2.1 k]; exact World.frozen?_of_block (hb.block g h.1), fun j x hj => by rw [← h.2.2 j x hj]; exact World.cell?_of_block (hb.block g h.1)⟩
theorem OwnZ.rd {w : World} {g : Nat} {l : List UInt8} (h : OwnZ w g l) : Rd w (some ⟨g, 0, none⟩) l := fun _ => ⟨_, rfl, h.1, fun j x hj => by rw [addr_add, Nat.zero_add]; exact h.2.2 j x hj⟩
theorem OwnZ.set {w : World} {g : Nat} {l : List UInt8} (h : OwnZ w g l) {k : Nat} (hk : k < l.length) (x : UInt8) {v : Value} (hv : v = bv x) : OwnZ (w.setCell ⟨g, k, none⟩ v) g (l.set k x) := by
  subst hv
  refine ⟨by simpa using h.1, fun j => ?_, fun j y hj => ?_⟩
  · rw [World.frozen?_setCell]; exact h.2.1 j
  · rw [List.getElem?_set] at hj
    by_cases e : k = j
    · subst e
      rw [if_pos rfl, if_pos hk] at hj
      obtain rfl := Option.some.inj hj
      exact World.cell?_setCell_same _ _ _ (h.2.2 k l[k] (List.getElem?_eq_getElem hk))
    · rw [if_neg e] at hj
      rw [World.cell?_setCell_other _ _ _ _ (fun h => e (by injection h))]
      exact h.2.2 j y hj
theorem Byt.ownZ {w : World} {base : Nat} {v : Value} {l : List UInt8} (h : Byt w base v l) (hl : 0 < l.length) : ∃ g c, v = .slice (some ⟨g, 0, none⟩) l.length c ∧ base ≤ g ∧ l.length ≤ c ∧ c ≤ maxLen ∧ OwnZ w g l := by
  obtain ⟨g, c, e, h1, h2, h3, h4, h5, h6⟩ := h.own hl
  exact ⟨g, c, e, h1, h3, h4, h2, h5, h6⟩
end Go.Proofs.Ytffoekgopooeaaa
