/- Drawn regions with a late extract, for walks by program. -/
import Derived.Test.YtgccbfkofkohpaaSym
import Derived.Test.YtgccbfkofkohpaaGenL
namespace Go.Proofs.Ytgccbfkofkohpaa
set_option linter.unusedVariables false
set_option maxRecDepth 20000
set_option linter.unusedSimpArgs false
open Go.ChangeShapes Go.WideShapes Go.ChangeAt Go.RowKit Go.Shelf
section
variable {P : Program}
theorem relOkL_dst {L : List Oper} {m n : Nat} {late : List Nat} (hok : relOkL L m n late = true) : ∀ (i : Nat) (o : Oper) (d : Nat), (L.take m)[i]? = some o → o.dst = some d → d < n := by
  unfold relOkL at hok
  simp only [Bool.and_eq_true, List.all_eq_true] at hok
  obtain ⟨⟨⟨⟨⟨⟨-, -⟩, hall⟩, -⟩, -⟩, -⟩, -⟩ := hok
  intro i o d ho hd
  have hi : i < m := by
    rw [List.getElem?_take] at ho
    split at ho
    · assumption
    · cases ho
  have h1 := hall i (List.mem_range.2 hi)
  simp only [ho, hd, Bool.and_eq_true, decide_eq_true_eq] at h1
  exact h1.1.1
theorem region_fxL {id : Nat} {Q : Exit → Act → World → Prop} {a0 : Act} {W : World} {L : List Oper} {n : Nat} {V : List (Nat × Value)} (F : Fx n a0 V) (S : List StK) (m e t i k : Nat) (vs : Array Value) (v : Value) (hm : P.follows .mixedOrders = true) (hok : relOkL L m n [e] = true)
    (h1 : (L[e]?).map (·.op) = some (.extract (.tmp t) i)) (h2 : depOf (L.take m) t = some k) (h3 : ∀ w u, stYK S k w u → u = .tuple vs) (h4 : vs[i]? = some v) (h5 : ∀ w u, stYK S e w u ↔ u = v)
    {om : Oper} (h0 : L[m]? = some om) (hop : HopAllT P L m Q (stYK S) a0 W (L.take m) 0)
    (hend : ∀ (p : Nat → Value) (a : Act) (w : World), Kc W.heap.size W w → Fx n a (layV p (L.take m) 0 V) → YAll (stYK S) p w (L.take m) 0 → ∃ w', (execOp a.eval om).run P w = .ok .skip w' ∧ wpList P L.toArray Q (L.drop (m + 1)) a w') : (Code.region id L.toArray true).wp P Q a0 W :=
  wp_region_stL S m n e t i k vs v F.size hm hok h1 h2 h3 h4 h5 h0 hop fun p w hb hY => hend p _ w (Kc.of_below (Nat.le_refl _) hb) (F.lay p (L.take m) 0 a0 V (relOkL_dst hok)) hY
theorem st_ex {ops : Array Oper} {Q : Exit → Act → World → Prop} {a : Act} {w w0 : World} {rest : List Oper} {o : Oper} {B : Nat} {R : List (Nat × Res)} (M : Mx B w0 w R) {k g off : Nat} {t : TypeId} {c : Array Value} (hk : look R k = some (blkR g t c)) (ht : t ≠ 5) (ty : TypeId) (x y : Operand) (ho : o.op = .store ty x y) (hx : a.eval x = .pointer (some ⟨g, off, none⟩)) {v : Value} (hy : a.eval y = v)
    (s c' : Array Value) (hv : v.cells = s) (hos : off + s.size ≤ c.size) (h1 : s.all (·.oneCell') = true) (hc' : (c.toList.take off ++ s.toList ++ c.toList.drop (off + s.size)).toArray = c') (hi : (P.info? ty).map (·.size) = some s.size)
    (h : ∀ w', Mx B w0 w' ((k, blkR g t c') :: R) → wpList P ops Q rest a w') : ∃ w', (execOp a.eval o).run P w = .ok .skip w' ∧ wpList P ops Q rest a w' :=
  ⟨_, y_st ty x y ho hx hy (M.blk hk) s c' hv hos h1 hc' hi, h _ (M.put hk ht (grown_setRow _ _ _) (setRow_heap w g c c' t (0, 0) (M.blk hk)))⟩
end
end Go.Proofs.Ytgccbfkofkohpaa
