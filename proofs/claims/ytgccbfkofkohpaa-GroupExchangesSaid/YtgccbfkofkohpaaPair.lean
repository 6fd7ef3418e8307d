/- A region that draws its order: two whole numbers read, then stored where the results lie. -/
import Derived.Test.YtgccbfkofkohpaaGaInv
namespace Go.Proofs.Ytgccbfkofkohpaa
set_option linter.unusedVariables false
set_option maxRecDepth 20000
set_option linter.unusedSimpArgs false
open Go.ChangeShapes Go.WideShapes Go.ChangeAt Go.RowKit
section
variable {P : Program} {ops : Array Oper} {Q : Exit → Act → World → Prop}
theorem wpOp_load {i : Nat} {o : Oper} (ho : ops[i]? = some o) (hg : o.guard = none) (ty : TypeId) (x : Operand) (hop : o.op = .load ty x) {K : Act → World → Prop} {a : Act} {w : World}
    (g : Nat) (hx : a.eval x = .pointer (some ⟨g, 0, none⟩)) (t : TypeId) (n : Nat) (d : TypeDesc) (hn : Num w g t n) (hu : P.underlying ty = some d)
    (hd : (match d with | .struct _ | .array _ _ => true | _ => false) = true) (hi : (P.info? ty).map (·.size) = some 8) (h : K (a.put o.dst (.agg (numA n))) w) : wpOp P ops Q i K a w := by
  unfold wpOp
  rw [ho]
  dsimp only
  rw [if_pos (by simp [Region.wanted, hg])]
  exact .inl (wp_load_row ty x hop g hx t (numA n) (0, 0) d hn hu hd hi h)
theorem wpOp_store {i : Nat} {o : Oper} (ho : ops[i]? = some o) (hg : o.guard = none) (ty : TypeId) (x y : Operand) (hop : o.op = .store ty x y) {K : Act → World → Prop} {a : Act} {w : World}
    (g : Nat) (hx : a.eval x = .pointer (some ⟨g, 0, none⟩)) (n : Nat) (hy : a.eval y = .agg (numA n)) (cs : Array Value) (hb : w.heap[g]? = some (.cells cs ty (0, 0))) (hcs : cs.size = 8)
    (hi : (P.info? ty).map (·.size) = some 8) (h : ∀ w', w.grownBy w' (some g) → Num w' g ty n → K (a.put o.dst undef) w') : wpOp P ops Q i K a w := by
  unfold wpOp
  rw [ho]
  dsimp only
  rw [if_pos (by simp [Region.wanted, hg])]
  left
  unfold Oper.wp execOp
  simp only [hop, hx, hy, Sem.run_bind, run_store_num w ty g n cs hcs hb hi, Result.andThen_ok, Sem.run_pure]
  exact h _ (grown_setRow _ _ _) (num_setRow n hb)
theorem wpAny_at {f : Nat} {listed : Array Bool} {a : Act} {w : World} {l : List Nat} (hr : Region.ready .any ops listed = l) (hl : l ≠ []) (h : ∀ i ∈ l, wpOp P ops Q i (wpAny P .any ops Q f (listed.setIfInBounds i true)) a w) :
    wpAny P .any ops Q (f + 1) listed a w := by
  refine ⟨fun e => absurd (hr.symm.trans e) hl, ?_⟩
  rw [hr]; exact h
theorem wpAny_over {f : Nat} {listed : Array Bool} {a : Act} {w : World} (hr : Region.ready .any ops listed = []) (h : Q .normal a w) : wpAny P .any ops Q f listed a w := by
  cases f with
  | zero => exact ⟨hr, h⟩
  | succ f => exact ⟨fun _ => h, fun i hi => by rw [hr] at hi; cases hi⟩
theorem eval_put_neP {a : Act} {d k : Nat} {v : Value} (h : k ≠ d) : (a.put (some d) v).eval (.tmp k) = a.eval (.tmp k) := by
  simp only [Act.put, Act.eval, Array.getD_eq_getD_getElem?, Array.getElem?_setIfInBounds_ne (Ne.symm h)]
theorem eval_put_selfP {a : Act} {d : Nat} {v : Value} (h : d < a.tmps.size) : (a.put (some d) v).eval (.tmp d) = v := by
  simp [Act.put, Act.eval, h]
end
theorem wp_two_rows {P : Program} {id : Nat} {Q : Exit → Act → World → Prop} {a : Act} {W : World} {o0 o1 o2 o3 : Oper} (hm : P.follows .mixedOrders = true) (ty : TypeId) (d : TypeDesc) (hu : P.underlying ty = some d)
    (hd : (match d with | .struct _ | .array _ _ => true | _ => false) = true) (hi : (P.info? ty).map (·.size) = some 8) (p0 p1 q0 q1 d0 d1 : Nat)
    (e0 : o0.op = .load ty (.tmp p0)) (e1 : o1.op = .load ty (.tmp p1)) (e2 : o2.op = .store ty (.tmp q0) (.tmp d0)) (e3 : o3.op = .store ty (.tmp q1) (.tmp d1))
    (s0 : o0.dst = some d0) (s1 : o1.dst = some d1) (s2 : o2.dst = none) (s3 : o3.dst = none) (g0 : o0.guard = none) (g1 : o1.guard = none) (g2 : o2.guard = none) (g3 : o3.guard = none)
    (r0 : Region.ready .any #[o0, o1, o2, o3] #[false, false, false, false] = [0, 1]) (r1 : Region.ready .any #[o0, o1, o2, o3] #[true, false, false, false] = [1, 2]) (r2 : Region.ready .any #[o0, o1, o2, o3] #[false, true, false, false] = [0])
    (r3 : Region.ready .any #[o0, o1, o2, o3] #[true, true, false, false] = [2]) (r4 : Region.ready .any #[o0, o1, o2, o3] #[true, false, true, false] = [1]) (r5 : Region.ready .any #[o0, o1, o2, o3] #[true, true, true, false] = [3])
    (r6 : Region.ready .any #[o0, o1, o2, o3] #[true, true, true, true] = [])
    (hne : p0 ≠ d0 ∧ p0 ≠ d1 ∧ p1 ≠ d0 ∧ p1 ≠ d1 ∧ q0 ≠ d0 ∧ q0 ≠ d1 ∧ q1 ≠ d0 ∧ q1 ≠ d1 ∧ d0 ≠ d1) (hs0 : d0 < a.tmps.size) (hs1 : d1 < a.tmps.size)
    (b0 b1 c0 c1 : Nat) (v0 : a.eval (.tmp p0) = .pointer (some ⟨b0, 0, none⟩)) (v1 : a.eval (.tmp p1) = .pointer (some ⟨b1, 0, none⟩)) (v2 : a.eval (.tmp q0) = .pointer (some ⟨c0, 0, none⟩)) (v3 : a.eval (.tmp q1) = .pointer (some ⟨c1, 0, none⟩))
    (t0 t1 : TypeId) (x y : Nat) (n0 : Num W b0 t0 x) (n1 : Num W b1 t1 y) (z0 z1 : Array Value) (m0 : W.heap[c0]? = some (.cells z0 ty (0, 0))) (m1 : W.heap[c1]? = some (.cells z1 ty (0, 0))) (k0 : z0.size = 8) (k1 : z1.size = 8)
    (hbc : b0 ≠ c0 ∧ b1 ≠ c0 ∧ c0 ≠ c1) (h : ∀ w' : World, (∀ B, B ≤ c0 → B ≤ c1 → Below B W w') → Num w' c0 ty x → Num w' c1 ty y → Q .normal ((a.put (some d0) (.agg (numA x))).put (some d1) (.agg (numA y))) w') :
    (Code.region id #[o0, o1, o2, o3] true).wp P Q a W := by
  obtain ⟨i1, i2, i3, i4, i5, i6, i7, i8, i9⟩ := hne
  obtain ⟨j1, j2, j3⟩ := hbc
  refine wp_region_any hm ?_
  have n0' : Num W.drew b0 t0 x := n0
  have n1' : Num W.drew b1 t1 y := n1
  have m0' : W.drew.heap[c0]? = some (.cells z0 ty (0, 0)) := m0
  have m1' : W.drew.heap[c1]? = some (.cells z1 ty (0, 0)) := m1
  change wpAny P .any #[o0, o1, o2, o3] Q 4 #[false, false, false, false] a W.drew
  have fin : ∀ (a' : Act) (w3 : World), a' = (a.put (some d0) (.agg (numA x))).put (some d1) (.agg (numA y)) → W.drew.grownBy w3 (some c0) → Num w3 c0 ty x → wpAny P .any #[o0, o1, o2, o3] Q 1 #[true, true, true, false] a' w3 := by
    intro a' w3 ha hg hn
    subst ha
    refine wpAny_at r5 (by simp) fun i hi' => ?_
    simp only [List.mem_singleton] at hi'; subst hi'
    refine wpOp_store (o := o3) rfl g3 ty _ _ e3 c1 (by rw [eval_put_neP i8, eval_put_neP i7]; exact v3) y (by rw [eval_put_selfP (by simp [Act.put]; exact hs1)]) z1 ((hg.block _ (heap_lt m1') (by simp; exact fun e => j3 e.symm)).trans m1') k1 hi fun w4 hg4 hn4 => ?_
    rw [s3]
    refine wpAny_over r6 (h w4 (fun B hB0 hB1 => ?_) (hn.grown hg4 (by simp; exact j3)) hn4)
    have B1 : Below B W W.drew := (Below.refl _ _).drew
    have hB : B ≤ W.drew.heap.size := Nat.le_trans hB0 (Nat.le_of_lt (heap_lt m0'))
    exact below_of_grown (below_of_grown B1 hg hB hB0) hg4 (Nat.le_trans hB hg.size) hB1
  have st2 : ∀ (a' : Act), a' = (a.put (some d0) (.agg (numA x))).put (some d1) (.agg (numA y)) → wpAny P .any #[o0, o1, o2, o3] Q 2 #[true, true, false, false] a' W.drew := by
    intro a' ha
    subst ha
    refine wpAny_at r3 (by simp) fun i hi' => ?_
    simp only [List.mem_singleton] at hi'; subst hi'
    refine wpOp_store (o := o2) rfl g2 ty _ _ e2 c0 (by rw [eval_put_neP i6, eval_put_neP i5]; exact v2) x (by rw [eval_put_neP i9, eval_put_selfP hs0]) z0 m0' k0 hi fun w3 hg3 hn3 => ?_
    rw [s2]
    exact fin _ _ rfl hg3 hn3
  refine wpAny_at r0 (by simp) fun i hi' => ?_
  simp only [List.mem_cons, List.not_mem_nil, or_false] at hi'
  rcases hi' with rfl | rfl
  · refine wpOp_load (o := o0) rfl g0 ty _ e0 b0 v0 t0 x d n0' hu hd hi ?_
    rw [s0]
    change wpAny P .any #[o0, o1, o2, o3] Q 3 #[true, false, false, false] _ _
    refine wpAny_at r1 (by simp) fun i hi' => ?_
    simp only [List.mem_cons, List.not_mem_nil, or_false] at hi'
    rcases hi' with rfl | rfl
    · refine wpOp_load (o := o1) rfl g1 ty _ e1 b1 (by rw [eval_put_neP i3]; exact v1) t1 y d n1' hu hd hi ?_
      rw [s1]
      exact st2 _ rfl
    · refine wpOp_store (o := o2) rfl g2 ty _ _ e2 c0 (by rw [eval_put_neP i5]; exact v2) x (by rw [eval_put_selfP hs0]) z0 m0' k0 hi fun w3 hg3 hn3 => ?_
      rw [s2]
      change wpAny P .any #[o0, o1, o2, o3] Q 2 #[true, false, true, false] _ _
      refine wpAny_at r4 (by simp) fun i hi' => ?_
      simp only [List.mem_singleton] at hi'; subst hi'
      refine wpOp_load (o := o1) rfl g1 ty _ e1 b1 (by show (a.put (some d0) _).eval _ = _; rw [eval_put_neP i3]; exact v1) t1 y d (n1'.grown hg3 (by simp; exact j2)) hu hd hi ?_
      rw [s1]
      exact fin _ _ rfl hg3 hn3
  · refine wpOp_load (o := o1) rfl g1 ty _ e1 b1 v1 t1 y d n1' hu hd hi ?_
    rw [s1]
    change wpAny P .any #[o0, o1, o2, o3] Q 3 #[false, true, false, false] _ _
    refine wpAny_at r2 (by simp) fun i hi' => ?_
    simp only [List.mem_singleton] at hi'; subst hi'
    refine wpOp_load (o := o0) rfl g0 ty _ e0 b0 (by rw [eval_put_neP i2]; exact v0) t0 x d n0' hu hd hi ?_
    rw [s0]
    exact st2 _ (Act.put_comm a _ _ (fun d e => by cases e; simp; exact i9))
end Go.Proofs.Ytgccbfkofkohpaa
