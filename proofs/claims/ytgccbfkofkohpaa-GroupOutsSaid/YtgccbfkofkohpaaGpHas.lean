/- group.Has. -/
import Derived.Test.YtgccbfkofkohpaaGpRaise
import Derived.Test.YtgccbfkofkohpaaGaKn
namespace Go.Proofs.Ytgccbfkofkohpaa
set_option linter.unusedVariables false
set_option maxRecDepth 20000
set_option linter.unusedSimpArgs false
open Go.ChangeShapes Go.WideShapes Go.ChangeAt Go.RowKit
/-- What Has answers. -/
def hasB (a P Q : Nat) : Bool := decide (1 < a ∧ a < P ∧ a ^ Q % P = 1)
theorem has_pack {k : Int} {a P Q g : Nat} (ho : P % 2 = 1) (h1 : 1 < P) (hP : P < 4294967296 ^ 8) (ha : a < 4294967296 ^ 8) (hQ : Q < 4294967296 ^ 8) : ∃ (V : Nat) (d e : Int), RunsTo 55 #[numV a, numV 1] (.int .i64 d) ∧ RunsTo 55 #[numV a, numV P] (.int .i64 e) ∧ RunsTo 23 #[.agg (groupA k P Q g), numV a, numV Q] (numV V) ∧
    ((¬ 0 < d ∧ hasB a P Q = false) ∨ (0 < d ∧ ¬ e < 0 ∧ hasB a P Q = false) ∨ (0 < d ∧ e < 0 ∧ V = 1 ∧ hasB a P Q = true) ∨ (0 < d ∧ e < 0 ∧ (∀ w, (Op.equalIn 10000 26 (.agg (numA V)) (.agg (numA 1))).run Try.prog w = .ok false w) ∧ hasB a P Q = false)) := by
  refine ⟨a ^ Q % P, cmpI a 1, cmpI a P, cmp_any a 1 ha (by decide), cmp_any a P ha hP, graise_any k P Q g ho h1 hP a Q ha hQ, ?_⟩
  unfold hasB cmpI
  by_cases c1 : 1 < a
  · by_cases c2 : a < P
    · by_cases c3 : a ^ Q % P = 1
      · exact .inr (.inr (.inl ⟨by rw [if_neg (by omega), if_pos c1]; decide, by rw [if_pos c2]; decide, c3, decide_eq_true ⟨c1, c2, c3⟩⟩))
      · exact .inr (.inr (.inr ⟨by rw [if_neg (by omega), if_pos c1]; decide, by rw [if_pos c2]; decide, eqn_diff (Nat.lt_trans (Nat.mod_lt _ (by omega)) hP) (by decide) c3, decide_eq_false (fun h => c3 h.2.2)⟩))
    · exact .inr (.inl ⟨by rw [if_neg (by omega), if_pos c1]; decide, by rw [if_neg c2]; split <;> decide, decide_eq_false (fun h => c2 h.2.1)⟩)
  · exact .inl ⟨by (rw [if_neg c1]; split <;> decide), decide_eq_false (fun h => c1 h.1)⟩
set_option maxRecDepth 100000 in
set_option maxHeartbeats 8000000 in
theorem ghas_any (k : Int) (P Q g : Nat) (ho : P % 2 = 1) (h1 : 1 < P) (hP : P < 4294967296 ^ 8) (a : Nat) (ha : a < 4294967296 ^ 8) (hQ : Q < 4294967296 ^ 8) (w : World) :
    Calls Try.prog 27 #[.agg (groupA k P Q g), numV a] w fun e w' => e = .returned (.bool (hasB a P Q)) ∧ Below w.heap.size w w' := by
  obtain ⟨V, dd, ee, k1, k2, k3, hw⟩ := has_pack (k := k) (g := g) ho h1 hP ha hQ
  have HW := hid hw
  obtain ⟨RB, HB⟩ : ∃ b, Hid (hasB a P Q = b) := ⟨_, hid rfl⟩
  rw [HB.out]
  clear hw ho h1 hP ha hQ
  have ng := noGuard
  go_enter Try.func27, Try.ntmps27
  go_upto_region 1 with fail
  obtain ⟨W, hW⟩ : ∃ W, W = ((w.alloc (.cells (groupA k P Q g) 28))).alloc (.cells (numA a) 26) := ⟨_, rfl⟩
  have q_gr : Blk W (w.heap.size) 28 (groupA k P Q g) := by
    have := ((Blk.new w 28 (groupA k P Q g)).alloc (.cells (numA a) 26))
    rw [hW]; exact this
  have q_a : Num W (w.heap.size + 1) 26 (a) := by
    have := (Num.new (w.alloc (.cells (groupA k P Q g) 28)) 26 (a))
    rw [World.size_alloc] at this
    rw [hW]; exact this
  have gb : Below w.heap.size w W := by rw [hW]; exact (((Below.refl _ _).alloc (by simp <;> omega) _).alloc (by simp <;> omega) _)
  rw [← hW]
  clear hW
  go_wp2_with (fail)
  refine (from_any 1 (by omega) (by omega) _).mono ?_
  rintro e w1 ⟨rfl, bw1⟩
  have gr_1 := q_gr.step bw1
  have a_1 := q_a.step bw1
  have c_1 := step_trans gb bw1
  clear q_gr q_a gb bw1
  go_upto_region 2 with (first | (refine wpList_store_num rfl _ (.tmp 5) _ rfl _ rfl _ rfl _ rfl (heap_alloc_new _ _) size26 ?_; intro w2 gw2 mw2; have b_1 := step_new gw2; have gr_2 := gr_1.step b_1; have a_2 := a_1.step b_1; have c_2 := step_trans c_1 b_1; clear gr_1 a_1 c_1 b_1 gw2) | (refine wpList_load_num rfl _ (.tmp 3) rfl _ rfl _ _ _ a_2 Try.underlying26 rfl size26 ?_) | (refine wpList_load_num rfl _ (.tmp 5) rfl _ rfl _ _ _ mw2 Try.underlying26 rfl size26 ?_))
  try simp only [Act.put, List.setIfInBounds_toArray, List.set_cons_zero, List.set_cons_succ]
  rcases HW.out with ⟨c1, c4⟩ | ⟨c1, c2, c4⟩ | ⟨c1, c2, rfl, c4⟩ | ⟨c1, c2, c3, c4⟩
  · obtain rfl : RB = false := by rw [← HB.out]; exact c4
    have f1 : decide (0 < dd) = false := decide_eq_false (by omega)
    refine wp_region_later (by kernel_rfl) (by kernel_rfl) ?_
    (refine wpQuiet_load_num rfl _ (.tmp 3) rfl _ rfl _ _ _ a_2 Try.underlying26 rfl size26 ?_; simp only [Act.put, List.setIfInBounds_toArray, List.set_cons_zero, List.set_cons_succ])
    (refine wpQuiet_load_num rfl _ (.tmp 5) rfl _ rfl _ _ _ mw2 Try.underlying26 rfl size26 ?_; simp only [Act.put, List.setIfInBounds_toArray, List.set_cons_zero, List.set_cons_succ])
    go_big_quiet_step (exact later_of (k1 _))
    go_big_quiet_step (fail)
    go_big_quiet_step (fail)
    first | (refine wpQuiet_load_num rfl _ (.tmp 3) rfl _ rfl _ _ _ a_2 Try.underlying26 rfl size26 ?_; simp only [Act.put, List.setIfInBounds_toArray, List.set_cons_zero, List.set_cons_succ]) | go_big_quiet_step (fail)
    go_big_quiet_step (fail)
    first | (refine wpQuiet_load_part rfl _ (.tmp 13) rfl _ _ rfl _ _ (numA P) _ gr_2 groupA_p Try.underlying26 rfl size26 ?_; simp only [Act.put, List.setIfInBounds_toArray, List.set_cons_zero, List.set_cons_succ]) | go_big_quiet_step (fail)
    go_big_quiet_step (fail)
    go_big_quiet_step (fail)
    go_big_quiet_step (fail)
    go_big_quiet_step (fail)
    first | (refine wpQuiet_load_blk rfl _ (.tmp 2) rfl _ rfl _ _ _ gr_2 Try.underlying28 rfl size_group ?_; simp only [Act.put, List.setIfInBounds_toArray, List.set_cons_zero, List.set_cons_succ]) | go_big_quiet_step (fail)
    first | (refine wpQuiet_load_num rfl _ (.tmp 3) rfl _ rfl _ _ _ a_2 Try.underlying26 rfl size26 ?_; simp only [Act.put, List.setIfInBounds_toArray, List.set_cons_zero, List.set_cons_succ]) | go_big_quiet_step (fail)
    go_big_quiet_step (fail)
    first | (refine wpQuiet_load_part rfl _ (.tmp 21) rfl _ _ rfl _ _ (numA Q) _ gr_2 groupA_q Try.underlying26 rfl size26 ?_; simp only [Act.put, List.setIfInBounds_toArray, List.set_cons_zero, List.set_cons_succ]) | go_big_quiet_step (fail)
    go_big_quiet_step (fail)
    first | (refine wpQuiet_load_num rfl _ (.tmp 5) rfl _ rfl _ _ _ mw2 Try.underlying26 rfl size26 ?_; simp only [Act.put, List.setIfInBounds_toArray, List.set_cons_zero, List.set_cons_succ]) | go_big_quiet_step (fail)
    go_big_quiet_step (fail)
    go_big_quiet_step (fail)
    go_big_quiet_step (fail)
    refine wpQuiet_nil ?_
    intro X_1
    have gr_3 := gr_2.step X_1.h
    have a_3 := a_2.step X_1.h
    have o_1 := mw2.step X_1.h
    have c_3 := step_trans c_2 X_1.h
    clear gr_2 a_2 mw2 c_2
    go_wp2
    go_ret
    exact ⟨rfl, c_3⟩
  · obtain rfl : RB = false := by rw [← HB.out]; exact c4
    have f2 : decide (ee < 0) = false := decide_eq_false (by omega)
    refine wp_region_later (by kernel_rfl) (by kernel_rfl) ?_
    (refine wpQuiet_load_num rfl _ (.tmp 3) rfl _ rfl _ _ _ a_2 Try.underlying26 rfl size26 ?_; simp only [Act.put, List.setIfInBounds_toArray, List.set_cons_zero, List.set_cons_succ])
    (refine wpQuiet_load_num rfl _ (.tmp 5) rfl _ rfl _ _ _ mw2 Try.underlying26 rfl size26 ?_; simp only [Act.put, List.setIfInBounds_toArray, List.set_cons_zero, List.set_cons_succ])
    go_big_quiet_step (exact later_of (k1 _))
    go_big_quiet_step (fail)
    go_big_quiet_step (fail)
    first | (refine wpQuiet_load_num rfl _ (.tmp 3) rfl _ rfl _ _ _ a_2 Try.underlying26 rfl size26 ?_; simp only [Act.put, List.setIfInBounds_toArray, List.set_cons_zero, List.set_cons_succ]) | go_big_quiet_step (fail)
    go_big_quiet_step (fail)
    first | (refine wpQuiet_load_part rfl _ (.tmp 13) rfl _ _ rfl _ _ (numA P) _ gr_2 groupA_p Try.underlying26 rfl size26 ?_; simp only [Act.put, List.setIfInBounds_toArray, List.set_cons_zero, List.set_cons_succ]) | go_big_quiet_step (fail)
    go_big_quiet_step (exact later_of (k2 _))
    go_big_quiet_step (fail)
    go_big_quiet_step (fail)
    go_big_quiet_step (fail)
    first | (refine wpQuiet_load_blk rfl _ (.tmp 2) rfl _ rfl _ _ _ gr_2 Try.underlying28 rfl size_group ?_; simp only [Act.put, List.setIfInBounds_toArray, List.set_cons_zero, List.set_cons_succ]) | go_big_quiet_step (fail)
    first | (refine wpQuiet_load_num rfl _ (.tmp 3) rfl _ rfl _ _ _ a_2 Try.underlying26 rfl size26 ?_; simp only [Act.put, List.setIfInBounds_toArray, List.set_cons_zero, List.set_cons_succ]) | go_big_quiet_step (fail)
    go_big_quiet_step (fail)
    first | (refine wpQuiet_load_part rfl _ (.tmp 21) rfl _ _ rfl _ _ (numA Q) _ gr_2 groupA_q Try.underlying26 rfl size26 ?_; simp only [Act.put, List.setIfInBounds_toArray, List.set_cons_zero, List.set_cons_succ]) | go_big_quiet_step (fail)
    go_big_quiet_step (fail)
    first | (refine wpQuiet_load_num rfl _ (.tmp 5) rfl _ rfl _ _ _ mw2 Try.underlying26 rfl size26 ?_; simp only [Act.put, List.setIfInBounds_toArray, List.set_cons_zero, List.set_cons_succ]) | go_big_quiet_step (fail)
    go_big_quiet_step (fail)
    go_big_quiet_step (fail)
    go_big_quiet_step (fail)
    refine wpQuiet_nil ?_
    intro X_1
    have gr_3 := gr_2.step X_1.h
    have a_3 := a_2.step X_1.h
    have o_1 := mw2.step X_1.h
    have c_3 := step_trans c_2 X_1.h
    clear gr_2 a_2 mw2 c_2
    go_wp2
    go_ret
    exact ⟨rfl, c_3⟩
  · obtain rfl : RB = true := by rw [← HB.out]; exact c4
    have f3 := fun w => eqn_same 1 w
    refine wp_region_later (by kernel_rfl) (by kernel_rfl) ?_
    (refine wpQuiet_load_num rfl _ (.tmp 3) rfl _ rfl _ _ _ a_2 Try.underlying26 rfl size26 ?_; simp only [Act.put, List.setIfInBounds_toArray, List.set_cons_zero, List.set_cons_succ])
    (refine wpQuiet_load_num rfl _ (.tmp 5) rfl _ rfl _ _ _ mw2 Try.underlying26 rfl size26 ?_; simp only [Act.put, List.setIfInBounds_toArray, List.set_cons_zero, List.set_cons_succ])
    go_big_quiet_step (exact later_of (k1 _))
    go_big_quiet_step (fail)
    go_big_quiet_step (fail)
    first | (refine wpQuiet_load_num rfl _ (.tmp 3) rfl _ rfl _ _ _ a_2 Try.underlying26 rfl size26 ?_; simp only [Act.put, List.setIfInBounds_toArray, List.set_cons_zero, List.set_cons_succ]) | go_big_quiet_step (fail)
    go_big_quiet_step (fail)
    first | (refine wpQuiet_load_part rfl _ (.tmp 13) rfl _ _ rfl _ _ (numA P) _ gr_2 groupA_p Try.underlying26 rfl size26 ?_; simp only [Act.put, List.setIfInBounds_toArray, List.set_cons_zero, List.set_cons_succ]) | go_big_quiet_step (fail)
    go_big_quiet_step (exact later_of (k2 _))
    go_big_quiet_step (fail)
    go_big_quiet_step (fail)
    go_big_quiet_step (fail)
    first | (refine wpQuiet_load_blk rfl _ (.tmp 2) rfl _ rfl _ _ _ gr_2 Try.underlying28 rfl size_group ?_; simp only [Act.put, List.setIfInBounds_toArray, List.set_cons_zero, List.set_cons_succ]) | go_big_quiet_step (fail)
    first | (refine wpQuiet_load_num rfl _ (.tmp 3) rfl _ rfl _ _ _ a_2 Try.underlying26 rfl size26 ?_; simp only [Act.put, List.setIfInBounds_toArray, List.set_cons_zero, List.set_cons_succ]) | go_big_quiet_step (fail)
    go_big_quiet_step (fail)
    first | (refine wpQuiet_load_part rfl _ (.tmp 21) rfl _ _ rfl _ _ (numA Q) _ gr_2 groupA_q Try.underlying26 rfl size26 ?_; simp only [Act.put, List.setIfInBounds_toArray, List.set_cons_zero, List.set_cons_succ]) | go_big_quiet_step (fail)
    go_big_quiet_step (exact later_of (k3 _))
    first | (refine wpQuiet_load_num rfl _ (.tmp 5) rfl _ rfl _ _ _ mw2 Try.underlying26 rfl size26 ?_; simp only [Act.put, List.setIfInBounds_toArray, List.set_cons_zero, List.set_cons_succ]) | go_big_quiet_step (fail)
    go_big_quiet_step (fail)
    go_big_quiet_step (fail)
    go_big_quiet_step (fail)
    refine wpQuiet_nil ?_
    intro X_1
    have gr_3 := gr_2.step X_1.h
    have a_3 := a_2.step X_1.h
    have o_1 := mw2.step X_1.h
    have c_3 := step_trans c_2 X_1.h
    clear gr_2 a_2 mw2 c_2
    go_wp2
    go_ret
    exact ⟨rfl, c_3⟩
  · obtain rfl : RB = false := by rw [← HB.out]; exact c4
    refine wp_region_later (by kernel_rfl) (by kernel_rfl) ?_
    (refine wpQuiet_load_num rfl _ (.tmp 3) rfl _ rfl _ _ _ a_2 Try.underlying26 rfl size26 ?_; simp only [Act.put, List.setIfInBounds_toArray, List.set_cons_zero, List.set_cons_succ])
    (refine wpQuiet_load_num rfl _ (.tmp 5) rfl _ rfl _ _ _ mw2 Try.underlying26 rfl size26 ?_; simp only [Act.put, List.setIfInBounds_toArray, List.set_cons_zero, List.set_cons_succ])
    go_big_quiet_step (exact later_of (k1 _))
    go_big_quiet_step (fail)
    go_big_quiet_step (fail)
    first | (refine wpQuiet_load_num rfl _ (.tmp 3) rfl _ rfl _ _ _ a_2 Try.underlying26 rfl size26 ?_; simp only [Act.put, List.setIfInBounds_toArray, List.set_cons_zero, List.set_cons_succ]) | go_big_quiet_step (fail)
    go_big_quiet_step (fail)
    first | (refine wpQuiet_load_part rfl _ (.tmp 13) rfl _ _ rfl _ _ (numA P) _ gr_2 groupA_p Try.underlying26 rfl size26 ?_; simp only [Act.put, List.setIfInBounds_toArray, List.set_cons_zero, List.set_cons_succ]) | go_big_quiet_step (fail)
    go_big_quiet_step (exact later_of (k2 _))
    go_big_quiet_step (fail)
    go_big_quiet_step (fail)
    go_big_quiet_step (fail)
    first | (refine wpQuiet_load_blk rfl _ (.tmp 2) rfl _ rfl _ _ _ gr_2 Try.underlying28 rfl size_group ?_; simp only [Act.put, List.setIfInBounds_toArray, List.set_cons_zero, List.set_cons_succ]) | go_big_quiet_step (fail)
    first | (refine wpQuiet_load_num rfl _ (.tmp 3) rfl _ rfl _ _ _ a_2 Try.underlying26 rfl size26 ?_; simp only [Act.put, List.setIfInBounds_toArray, List.set_cons_zero, List.set_cons_succ]) | go_big_quiet_step (fail)
    go_big_quiet_step (fail)
    first | (refine wpQuiet_load_part rfl _ (.tmp 21) rfl _ _ rfl _ _ (numA Q) _ gr_2 groupA_q Try.underlying26 rfl size26 ?_; simp only [Act.put, List.setIfInBounds_toArray, List.set_cons_zero, List.set_cons_succ]) | go_big_quiet_step (fail)
    go_big_quiet_step (exact later_of (k3 _))
    first | (refine wpQuiet_load_num rfl _ (.tmp 5) rfl _ rfl _ _ _ mw2 Try.underlying26 rfl size26 ?_; simp only [Act.put, List.setIfInBounds_toArray, List.set_cons_zero, List.set_cons_succ]) | go_big_quiet_step (fail)
    go_big_quiet_step (fail)
    go_big_quiet_step (fail)
    go_big_quiet_step (fail)
    refine wpQuiet_nil ?_
    intro X_1
    have gr_3 := gr_2.step X_1.h
    have a_3 := a_2.step X_1.h
    have o_1 := mw2.step X_1.h
    have c_3 := step_trans c_2 X_1.h
    clear gr_2 a_2 mw2 c_2
    go_wp2
    go_ret
    exact ⟨rfl, c_3⟩
end Go.Proofs.Ytgccbfkofkohpaa
