/- Slices of ints: literals, places; for walks by program. -/
import Derived.Test.YtgccbfkofkohpaaSym
import Derived.Great.BuildSlice
import Derived.Test.YtgccbfkofkohpaaMtEq
import Derived.Test.YtgccbfkofkohpaaGenL
import Derived.Deep.LoopGhost
import Derived.Test.YtgccbfkofkohpaaGaRel
namespace Go.Proofs.Ytgccbfkofkohpaa
set_option linter.unusedVariables false
set_option maxRecDepth 20000
set_option linter.unusedSimpArgs false
open Go.ChangeShapes Go.WideShapes Go.ChangeAt Go.RowKit Go.Shelf
section
variable {a : Act} {w : World} {o : Oper}
theorem y_ixI (x k : Operand) (ho : o.op = .indexAddr 35 x k) {b q n c i : Nat} {z : Int} (hx : a.eval x = .slice (some ⟨b, q, none⟩) n c) (hk : a.eval k = .int .i64 z) (hz : z = (i : Int)) (hi : i < n) {j : Nat} (hj : q + i = j) : (execOp a.eval o).run Try.prog w = .ok (.value (.pointer (some ⟨b, j, none⟩))) w := by
  subst hz hj
  unfold execOp
  simp only [ho, hx, hk]
  have h0 : ¬ ((i : Int) < 0) := by omega
  have h1 : (i : Int) < (n : Int) := by omega
  simp [go_sem, h0, h1, hi]
end
theorem infoInt : ∃ i, Try.prog.info? 3 = some i ∧ i.zero = some (.int .i64 0) ∧ i.size = 1 := by
  have h0 : (Try.prog.info? 3).isSome = true := by kernel_rfl
  have h1 : (Try.prog.info? 3).map (·.size) = some 1 := by kernel_rfl
  have h2 : (Try.prog.info? 3).bind (·.zero) = some (.int .i64 0) := by kernel_rfl
  cases h : Try.prog.info? 3 with
  | none => rw [h] at h0; cases h0
  | some i =>
    rw [h] at h1 h2
    exact ⟨i, rfl, h2, Option.some.inj h1⟩
theorem y_litI {a : Act} {w : World} {o : Oper} {n : Nat} {ps : Array (Nat × Operand)} (ho : o.op = .buildSlice 35 n ps) (vs : Array Value) (hn : vs.size = n) (h0 : 0 < n) (hm : n ≤ 1000)
    (hf : Instr.fill (fun i => some (i * 1, 1)) ((Array.range (n * 1)).map ((Value.int .i64 0).cells[· % (Value.int .i64 0).cells.size]!)) (ps.map fun (i, x) => (i, a.eval x)).toList = some vs) :
    (execOp a.eval o).run Try.prog w = .ok (.value (.slice (some ⟨w.heap.size, 0, none⟩) n n)) (w.alloc (.cells vs 3)) := by
  obtain ⟨i, i1, i2, i3⟩ := infoInt
  unfold execOp
  simp only [ho, Sem.run_bind, run_buildSlice w 35 3 n _ vs i (.int .i64 0) Try.underlying35 i1 i2 (by rw [i3]; omega) (by rw [i3]; omega) (by rw [i3]; exact hf), Result.andThen_ok, Sem.run_pure]
section
variable {P : Program} {ops : Array Oper} {Q : Exit → Act → World → Prop} {a : Act} {w w0 : World} {rest : List Oper} {o : Oper} {n : Nat} {G : Option Nat} {V : List (Nat × Value)} {R : List (Nat × Res)}
theorem wl_allocS (hw : Region.wanted o (yielded ops a.tmps) = true) {d : Nat} (hd : o.dst = some d) (F : Fx n a V) (hn : Nat.blt d n = true) (M : Mx G w0 w R) (i : Nat) {t : TypeId} {c : Array Value} {k m : Nat} (hr : (execOp a.eval o).run P w = .ok (.value (.slice (some ⟨w.heap.size, 0, none⟩) k m)) (w.alloc (.cells c t)))
    (h : ∀ g a' w', Fx n a' ((d, .slice (some ⟨g, 0, none⟩) k m) :: V) → Mx G w0 w' ((i, blkR g t c) :: R) → wpList P ops Q rest a' w') : wpList P ops Q (o :: rest) a w :=
  wl_run hw hd F hn _ hr fun a' F' => h _ a' _ F' (M.alloc i t c)
end
end Go.Proofs.Ytgccbfkofkohpaa
namespace Go.Proofs.Ytgccbfkofkohpaa
set_option linter.unusedVariables false
set_option maxRecDepth 20000
set_option linter.unusedSimpArgs false
open Go.ChangeShapes Go.WideShapes Go.ChangeAt Go.RowKit
theorem y_new_num {o : Oper} {a : Act} {w : World} (h : o.op = .alloc 26) : (execOp a.eval o).run Try.prog w = .ok (.value (.pointer (some ⟨w.heap.size, 0, none⟩))) (w.alloc (.cells (numA 0) 26)) := by
  rw [← zeroA]
  unfold execOp
  simp only [h]
  kernel_rfl
theorem y_part8 {c : Array Value} {k n : Nat} (h0 : c[k + 0]? = some (numF n 0)) (h1 : c[k + 1]? = some (numF n 1)) (h2 : c[k + 2]? = some (numF n 2)) (h3 : c[k + 3]? = some (numF n 3)) (h4 : c[k + 4]? = some (numF n 4)) (h5 : c[k + 5]? = some (numF n 5)) (h6 : c[k + 6]? = some (numF n 6)) (h7 : c[k + 7]? = some (numF n 7)) :
    ∀ (j : Nat) (v : Value), (numA n)[j]? = some v → c[k + j]? = some v := fun j v h => by
  have hj := (Array.getElem?_eq_some_iff.1 h).1
  rw [numA_size] at hj
  have : j = 0 ∨ j = 1 ∨ j = 2 ∨ j = 3 ∨ j = 4 ∨ j = 5 ∨ j = 6 ∨ j = 7 := by omega
  rcases this with rfl | rfl | rfl | rfl | rfl | rfl | rfl | rfl <;> (rw [← h]; first | exact h0 | exact h1 | exact h2 | exact h3 | exact h4 | exact h5 | exact h6 | exact h7)
theorem y_zbuild {o : Oper} {a : Act} {w : World} (h : o.op = .build 26 #[]) : (execOp a.eval o).run Try.prog w = .ok (.value (numV 0)) w := by
  have e : (execOp a.eval o).run Try.prog w = .ok (.value (.agg #[Value.int .u32 0, .int .u32 0, .int .u32 0, .int .u32 0, .int .u32 0, .int .u32 0, .int .u32 0, .int .u32 0])) w := by
    unfold execOp
    simp only [h, List.map_toArray, List.map_nil]
    kernel_rfl
  rw [e, zeroA]
end Go.Proofs.Ytgccbfkofkohpaa
namespace Go.Proofs.Ytgccbfkofkohpaa
set_option linter.unusedVariables false
set_option maxRecDepth 20000
set_option linter.unusedSimpArgs false
open Go.ChangeShapes Go.WideShapes Go.ChangeAt Go.RowKit Go.Shelf
section
variable {P : Program}
theorem relOkL_dst {L : List Oper} {m n : Nat} {late : List Nat} (hok : relOkL L m n late = true) : ∀ (i : Nat) (o : Oper) (d : Nat), (L.take m)[i]? = some o → o.dst = some d → d < n := by
  unfold relOkL at hok
  simp only [Bool.and_eq_true, List.all_eq_true] at hok
  obtain ⟨⟨⟨⟨⟨⟨-, -⟩, hall⟩, -⟩, -⟩, -⟩, -⟩ := hok
  intro i o d ho hd
  have hi : i < m := by
    rw [List.getElem?_take] at ho
    split at ho
    · assumption
    · cases ho
  have h1 := hall i (List.mem_range.2 hi)
  simp only [ho, hd, Bool.and_eq_true, decide_eq_true_eq] at h1
  exact h1.1.1
theorem region_fxL {id : Nat} {Q : Exit → Act → World → Prop} {a0 : Act} {W : World} {L : List Oper} {n : Nat} {V : List (Nat × Value)} (F : Fx n a0 V) (S : List StK) (m e t i k : Nat) (vs : Array Value) (v : Value) (hm : P.follows .mixedOrders = true) (hok : relOkL L m n [e] = true)
    (h1 : (L[e]?).map (·.op) = some (.extract (.tmp t) i)) (h2 : depOf (L.take m) t = some k) (h3 : ∀ w u, stYK S k w u → u = .tuple vs) (h4 : vs[i]? = some v) (h5 : ∀ w u, stYK S e w u ↔ u = v)
    {om : Oper} (h0 : L[m]? = some om) (hop : HopAllT P L m Q (stYK S) a0 W (L.take m) 0)
    (hend : ∀ (p : Nat → Value) (a : Act) (w : World), Kc W.heap.size W w → Fx n a (layV p (L.take m) 0 V) → YAll (stYK S) p w (L.take m) 0 → ∃ w', (execOp a.eval om).run P w = .ok .skip w' ∧ wpList P L.toArray Q (L.drop (m + 1)) a w') : (Code.region id L.toArray true).wp P Q a0 W :=
  wp_region_stL S m n e t i k vs v F.size hm hok h1 h2 h3 h4 h5 h0 hop fun p w hb hY => hend p _ w (Kc.of_below (Nat.le_refl _) hb) (F.lay p (L.take m) 0 a0 V (relOkL_dst hok)) hY
theorem st_ex {ops : Array Oper} {Q : Exit → Act → World → Prop} {a : Act} {w w0 : World} {rest : List Oper} {o : Oper} {G : Option Nat} {R : List (Nat × Res)} (M : Mx G w0 w R) {k g off : Nat} {t : TypeId} {c : Array Value} (hk : look R k = some (blkR g t c)) (ty : TypeId) (x y : Operand) (ho : o.op = .store ty x y) (hx : a.eval x = .pointer (some ⟨g, off, none⟩)) {v : Value} (hy : a.eval y = v)
    (s c' : Array Value) (hv : v.cells = s) (hos : off + s.size ≤ c.size) (h1 : s.all (·.oneCell') = true) (hc' : (c.toList.take off ++ s.toList ++ c.toList.drop (off + s.size)).toArray = c') (hi : (P.info? ty).map (·.size) = some s.size)
    (h : ∀ w', Mx G w0 w' ((k, blkR g t c') :: R) → wpList P ops Q rest a w') : ∃ w', (execOp a.eval o).run P w = .ok .skip w' ∧ wpList P ops Q rest a w' :=
  ⟨_, y_st ty x y ho hx hy (M.blk hk) s c' hv hos h1 hc' hi, h _ (M.put hk (grown_setRow _ _ _) (setRow_heap w g c c' t (0, 0) (M.blk hk)))⟩
theorem relOkU_dst {L : List Oper} {m n : Nat} (hok : relOkU L m n = true) : ∀ (i : Nat) (o : Oper) (d : Nat), (L.take m)[i]? = some o → o.dst = some d → d < n := by
  unfold relOkU at hok
  simp only [Bool.and_eq_true, List.all_eq_true] at hok
  intro i o d ho hd
  have hi : i < m := by
    rw [List.getElem?_take] at ho
    split at ho
    · assumption
    · cases ho
  have hall := hok.2
  have h1 := hall i (List.mem_range.2 hi)
  simp only [ho, hd, Bool.and_eq_true, decide_eq_true_eq] at h1
  exact h1.1.1
/-- A region that keeps the text's order, walked likewise. -/
theorem region_fxU {id : Nat} {Q : Exit → Act → World → Prop} {a0 : Act} {W : World} {L : List Oper} {n : Nat} {V : List (Nat × Value)} (F : Fx n a0 V) (S : List StK) (m : Nat) (hok : relOkU L m n = true) (hml : (decide (m ≤ L.length)) = true)
    (hop : HopAllT P L m Q (stYK S) a0 W (L.take m) 0)
    (hend : ∀ (p : Nat → Value) (a : Act) (w : World), Kc W.heap.size W w → Fx n a (layV p (L.take m) 0 V) → YAll (stYK S) p w (L.take m) 0 → wpList P L.toArray Q (L.drop m) a w) : (Code.region id L.toArray false).wp P Q a0 W :=
  wp_region_stU S m n F.size hok hml hop fun p w hb hY => hend p _ w (Kc.of_below (Nat.le_refl _) hb) (F.lay p (L.take m) 0 a0 V (relOkU_dst hok)) hY
end
end Go.Proofs.Ytgccbfkofkohpaa
namespace Go.Proofs.Ytgccbfkofkohpaa
set_option linter.unusedVariables false
set_option maxRecDepth 20000
set_option linter.unusedSimpArgs false
open Go.ChangeShapes Go.WideShapes Go.ChangeAt Go.RowKit Go.Shelf
/-- Each of these is filed there. -/
def AllIn {α : Type} (V : List (Nat × α)) : List (Nat × α) → Prop
  | [] => True
  | p :: L => look V p.1 = some p.2 ∧ AllIn V L
theorem AllIn.look {α : Type} {V : List (Nat × α)} : ∀ {L : List (Nat × α)}, AllIn V L → ∀ t v, look L t = some v → look V t = some v
  | [], _, t, v, e => by cases e
  | (k, x) :: L, h, t, v, e => by
    rw [look_cons] at e
    by_cases c : k = t
    · rw [if_pos c] at e
      subst c
      exact h.1.trans e
    · rw [if_neg c] at e
      exact AllIn.look h.2 t v e
theorem Fx.sub {n : Nat} {a : Act} {V V' : List (Nat × Value)} (F : Fx n a V) (h : AllIn V V') : Fx n a V' := F.eq h.look
theorem Mx.sub {G : Option Nat} {w0 w : World} {R R' : List (Nat × Res)} (M : Mx G w0 w R) (h : AllIn R R') : Mx G w0 w R' := M.drop h.look
/-- A loop: what a round takes up (x), how many are to come (k). -/
theorem loop_fx {α : Type} {P : Program} {Q : Exit → Act → World → Prop} {a : Act} {w w0 : World} {c : Code} {n : Nat} {G : Option Nat} (V : α → List (Nat × Value)) (R : α → List (Nat × Res)) (X : Nat → α → Prop) (k0 : Nat) (x0 : α) (h0 : X k0 x0) (F : Fx n a (V x0)) (M : Mx G w0 w (R x0))
    (round : ∀ k x a w (K : Act → World → Prop), X k x → Fx n a (V x) → Mx G w0 w (R x) → (∀ k' x' a' w', k' < k → X k' x' → Fx n a' (V x') → Mx G w0 w' (R x') → K a' w') → c.wp P (Exit.then K Q) a w) : (Code.loop c).wp P Q a w :=
  wp_loop_ghost (fun k a w => ∃ x, X k x ∧ Fx n a (V x) ∧ Mx G w0 w (R x)) k0 ⟨x0, h0, F, M⟩ fun k a w ⟨x, hx, F, M⟩ =>
    round k x a w _ hx F M fun k' x' a' w' hk hx' F' M' => ⟨k', hk, x', hx', F', M'⟩
/-- A scope with a goto back: what a round takes up (x); slot t counts up to B. -/
theorem scope_fx {α : Type} {P : Program} {Q : Exit → Act → World → Prop} {a : Act} {w w0 : World} {c rest : Code} {n : Nat} {G : Option Nat} (l t : Nat) (B : Int) (iv : α → Int) (V : α → List (Nat × Value)) (R : α → List (Nat × Res)) (X : α → Prop) (hf : findLabel c l = some rest) (hV : ∀ x, look (V x) t = some (.int .i64 (iv x)))
    (first : ∀ K : Act → World → Prop, (∀ x a w, X x → Fx n a (V x) → Mx G w0 w (R x) → K a w) → headWp P c l K (Exit.jump l K Q) a w)
    (pass : ∀ x a w (K : Act → World → Prop), X x → Fx n a (V x) → Mx G w0 w (R x) → (∀ x' a' w', (B - iv x').toNat < (B - iv x).toNat → X x' → Fx n a' (V x') → Mx G w0 w' (R x') → K a' w') → restWp P c l (Exit.jump l K Q) a w) : (Code.scope c).wp P Q a w := by
  refine wp_scope_jumps2 l (fun a w => ∃ x, X x ∧ Fx n a (V x) ∧ Mx G w0 w (R x)) (fun a _ => (B - intOf (a.eval (.tmp t))).toNat) hf (first _ fun x a w h1 h2 h3 => ⟨x, h1, h2, h3⟩) ?_
  rintro a w ⟨x, h1, h2, h3⟩
  refine pass x a w _ h1 h2 h3 fun x' a' w' hm h1' h2' h3' => ⟨⟨x', h1', h2', h3'⟩, ?_⟩
  rw [h2'.get (hV x'), h2.get (hV x)]
  exact hm
end Go.Proofs.Ytgccbfkofkohpaa
