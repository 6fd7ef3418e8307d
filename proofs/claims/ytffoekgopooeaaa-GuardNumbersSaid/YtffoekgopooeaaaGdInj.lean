/- What is written says what was. -/
import Derived.Test.YtffoekgopooeaaaGdRead4
namespace Go.Proofs.Ytffoekgopooeaaa
set_option linter.unusedVariables false
set_option linter.unusedSimpArgs false
open Go.ChangeShapes Go.WideShapes Go.ChangeAt Go.RowKit Go.Shelf
theorem eightL_inj {m n : Nat} (hm : (m : Int) < 9223372036854775808) (hn : (n : Int) < 9223372036854775808) (h : eightL m = eightL n) : m = n := by
  obtain ⟨a0, a8, aq⟩ := up_pack hm
  obtain ⟨b0, b8, bs⟩ := up_pack hn
  have : ∀ k, k ≤ 8 → upI m k = upI n k := fun k => by
    induction k with
    | zero => intro _; rw [a0, b0]
    | succ k ih =>
      intro hk
      obtain ⟨x, c, e1, e2, -, -, -, -, e3, -⟩ := aq k (by omega)
      obtain ⟨y, d, f1, f2, -, -, -, -, f3, -⟩ := bs k (by omega)
      rw [h] at e1
      have : x = y := Option.some.inj (e1.symm.trans f1)
      subst this
      rw [← e3, ← f3, ih (by omega), ← e2, ← f2]
  have h8 := this 8 (Nat.le_refl _)
  rw [a8, b8] at h8
  omega
theorem bodyN_inj {s t : ByteArray} (hs : s.size ≤ 255) (ht : t.size ≤ 255) {n0 n1 n2 n3 k0 k1 k2 k3 : Nat}
    (h0 : (n0 : Int) < 9223372036854775808) (h1 : (n1 : Int) < 9223372036854775808) (h2 : (n2 : Int) < 9223372036854775808) (h3 : (n3 : Int) < 9223372036854775808)
    (g0 : (k0 : Int) < 9223372036854775808) (g1 : (k1 : Int) < 9223372036854775808) (g2 : (k2 : Int) < 9223372036854775808) (g3 : (k3 : Int) < 9223372036854775808)
    {r q : List UInt8} (h : bodyN s [n0, n1, n2, n3] ++ r = bodyN t [k0, k1, k2, k3] ++ q) : s = t ∧ n0 = k0 ∧ n1 = k1 ∧ n2 = k2 ∧ n3 = k3 := by
  unfold bodyN at h
  simp only [List.cons_append, List.append_assoc, List.map_cons, List.map_nil, List.flatten_cons, List.flatten_nil, List.nil_append] at h
  obtain ⟨e, h⟩ := List.cons.inj h
  have es : s.size = t.size := by
    have := congrArg UInt8.toNat e
    simp at this; omega
  obtain ⟨e1, h⟩ := List.append_inj h (by rw [sB_len, sB_len, es])
  obtain ⟨e2, h⟩ := List.append_inj h (by rw [eightL_len, eightL_len])
  obtain ⟨e3, h⟩ := List.append_inj h (by rw [eightL_len, eightL_len])
  obtain ⟨e4, h⟩ := List.append_inj h (by rw [eightL_len, eightL_len])
  obtain ⟨e5, h⟩ := List.append_inj h (by rw [eightL_len, eightL_len])
  refine ⟨?_, eightL_inj h0 g0 e2, eightL_inj h1 g1 e3, eightL_inj h2 g2 e4, eightL_inj h3 g3 e5⟩
  unfold sB at e1
  cases s; cases t
  simp only [Array.toList_inj] at e1
  rw [e1]
end Go.Proofs.Ytffoekgopooeaaa
