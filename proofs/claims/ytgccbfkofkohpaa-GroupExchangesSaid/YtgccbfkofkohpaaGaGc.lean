/- group.Raise, Times. -/
import Derived.Test.YtgccbfkofkohpaaGaGb
import Derived.Test.YtgccbfkofkohpaaGaRest
import Derived.Test.YtgccbfkofkohpaaMul
import Derived.Test.YtgccbfkofkohpaaGaInv
import Derived.Test.YtgccbfkofkohpaaGaMc
import Derived.Test.YtgccbfkofkohpaaGaKn
namespace Go.Proofs.Ytgccbfkofkohpaa
set_option linter.unusedVariables false
set_option maxRecDepth 20000
set_option linter.unusedSimpArgs false
open Go.ChangeShapes Go.WideShapes Go.ChangeAt Go.RowKit
theorem groupA_p {k : Int} {p q g : Nat} (j : Nat) (v : Value) (h : (numA p)[j]? = some v) : (groupA k p q g)[1 + j]? = some v := by
  have hj := (Array.getElem?_eq_some_iff.1 h).1
  rw [numA_size] at hj
  rw [← h]
  have : j = 0 ∨ j = 1 ∨ j = 2 ∨ j = 3 ∨ j = 4 ∨ j = 5 ∨ j = 6 ∨ j = 7 := by omega
  rcases this with rfl | rfl | rfl | rfl | rfl | rfl | rfl | rfl <;> rfl
theorem groupA_q {k : Int} {p q g : Nat} (j : Nat) (v : Value) (h : (numA q)[j]? = some v) : (groupA k p q g)[9 + j]? = some v := by
  have hj := (Array.getElem?_eq_some_iff.1 h).1
  rw [numA_size] at hj
  rw [← h]
  have : j = 0 ∨ j = 1 ∨ j = 2 ∨ j = 3 ∨ j = 4 ∨ j = 5 ∨ j = 6 ∨ j = 7 := by omega
  rcases this with rfl | rfl | rfl | rfl | rfl | rfl | rfl | rfl <;> rfl
theorem groupA_g {k : Int} {p q g : Nat} (j : Nat) (v : Value) (h : (numA g)[j]? = some v) : (groupA k p q g)[17 + j]? = some v := by
  have hj := (Array.getElem?_eq_some_iff.1 h).1
  rw [numA_size] at hj
  rw [← h]
  have : j = 0 ∨ j = 1 ∨ j = 2 ∨ j = 3 ∨ j = 4 ∨ j = 5 ∨ j = 6 ∨ j = 7 := by omega
  rcases this with rfl | rfl | rfl | rfl | rfl | rfl | rfl | rfl <;> rfl
set_option maxRecDepth 100000 in
set_option maxHeartbeats 8000000 in
theorem graise_any (k : Int) (P Q g : Nat) (ho : P % 2 = 1) (h1 : 1 < P) (hP : P < 4294967296 ^ 8) (a e : Nat) (ha : a < 4294967296 ^ 8) (he : e < 4294967296 ^ 8) (w : World) :
    Calls Try.prog 23 #[.agg (groupA k P Q g), numV a, numV e] w fun e_ w' => e_ = .returned (numV (a ^ e % P)) ∧ Below w.heap.size w w' := by
  obtain ⟨C, hC, kM⟩ := mr_make ho h1 hP
  have kP := fun w => hC.pow ha he w
  obtain ⟨V, hV⟩ : ∃ V, a ^ e % P = V := ⟨_, rfl⟩
  rw [hV] at kP ⊢
  clear hV ho h1 hP ha he
  go_enter Try.func23, Try.ntmps23
  go_upto_region 1 with fail
  obtain ⟨W, hW⟩ : ∃ W, W = ((((((w.alloc (.cells (groupA k P Q g) 28))).alloc (.cells (numA a) 26))).alloc (.cells (numA e) 26))).alloc (.cells #[Value.int .u32 0, .int .u32 0, .int .u32 0, .int .u32 0, .int .u32 0, .int .u32 0, .int .u32 0, .int .u32 0] 26) := ⟨_, rfl⟩
  have q_gr : Blk W (w.heap.size) 28 (groupA k P Q g) := by
    have := ((((Blk.new w 28 (groupA k P Q g)).alloc (.cells (numA a) 26)).alloc (.cells (numA e) 26)).alloc (.cells #[Value.int .u32 0, .int .u32 0, .int .u32 0, .int .u32 0, .int .u32 0, .int .u32 0, .int .u32 0, .int .u32 0] 26))
    rw [hW]; exact this
  have q_a : Num W (w.heap.size + 1) 26 (a) := by
    have := (((Num.new (w.alloc (.cells (groupA k P Q g) 28)) 26 (a)).alloc (.cells (numA e) 26)).alloc (.cells #[Value.int .u32 0, .int .u32 0, .int .u32 0, .int .u32 0, .int .u32 0, .int .u32 0, .int .u32 0, .int .u32 0] 26))
    rw [World.size_alloc] at this
    rw [hW]; exact this
  have q_e : Num W (w.heap.size + 1 + 1) 26 (e) := by
    have := ((Num.new (((w.alloc (.cells (groupA k P Q g) 28))).alloc (.cells (numA a) 26)) 26 (e)).alloc (.cells #[Value.int .u32 0, .int .u32 0, .int .u32 0, .int .u32 0, .int .u32 0, .int .u32 0, .int .u32 0, .int .u32 0] 26))
    rw [World.size_alloc, World.size_alloc] at this
    rw [hW]; exact this
  have q_r : Num W (w.heap.size + 1 + 1 + 1) 26 0 := by
    have := (Num.new (((((w.alloc (.cells (groupA k P Q g) 28))).alloc (.cells (numA a) 26))).alloc (.cells (numA e) 26)) 26 0)
    rw [World.size_alloc, World.size_alloc, World.size_alloc, ← zeroA] at this
    rw [hW]; exact this
  have gb : Below w.heap.size w W := by rw [hW]; exact (((((Below.refl _ _).alloc (by simp <;> omega) _).alloc (by simp <;> omega) _).alloc (by simp <;> omega) _).alloc (by simp <;> omega) _)
  rw [← hW]
  clear hW
  have lor := hid (show w.heap.size ≤ w.heap.size + 1 + 1 + 1 by omega)
  have ngr_r := hid (show w.heap.size ≠ w.heap.size + 1 + 1 + 1 by omega)
  have na_r := hid (show w.heap.size + 1 ≠ w.heap.size + 1 + 1 + 1 by omega)
  have ne_r := hid (show w.heap.size + 1 + 1 ≠ w.heap.size + 1 + 1 + 1 by omega)
  go_wp2_with (first | (refine wpList_load_part rfl _ (.tmp 10) rfl _ _ rfl _ _ (numA P) _ q_gr groupA_p Try.underlying26 rfl size26 ?_))
  refine (kM _).mono ?_
  rintro e w1 ⟨rfl, bw1⟩
  have gr_1 := q_gr.step bw1
  have a_1 := q_a.step bw1
  have e_1 := q_e.step bw1
  have r_1 := q_r.step bw1
  have c_1 := step_trans gb bw1
  clear q_gr q_a q_e q_r gb bw1
  go_upto_region 2 with (first | (refine wpList_load_num rfl _ (.tmp 4) rfl _ rfl _ _ _ a_1 Try.underlying26 rfl size26 ?_) | (refine wpList_load_num rfl _ (.tmp 5) rfl _ rfl _ _ _ e_1 Try.underlying26 rfl size26 ?_) | (refine wpList_store_blk rfl _ (.tmp 7) _ rfl _ rfl (C) rfl hC.cells _ (heap_alloc_new _ _) (by rw [hC.size]; rfl) hC.info ?_; intro w2 gw2 mw2))
  try simp only [Act.put, List.setIfInBounds_toArray, List.set_cons_zero, List.set_cons_succ]
  have ngr_c := hid (show _ ≠ w1.heap.size from Nat.ne_of_lt gr_1.lt)
  have na_c := hid (show _ ≠ w1.heap.size from Nat.ne_of_lt a_1.lt)
  have ne_c := hid (show _ ≠ w1.heap.size from Nat.ne_of_lt e_1.lt)
  have nr_c := hid (show _ ≠ w1.heap.size from Nat.ne_of_lt r_1.lt)
  have loc := hid (show _ ≤ w1.heap.size from c_1.size)
  have b_1 := step_new gw2
  have gr_2 := gr_1.step b_1
  have a_2 := a_1.step b_1
  have e_2 := e_1.step b_1
  have r_2 := r_1.step b_1
  have c_2 := step_trans c_1 b_1
  clear gr_1 a_1 e_1 r_1 c_1 b_1
  clear gw2
  go_wp2_with (first | (refine wpList_load_num rfl _ (.tmp 4) rfl _ rfl _ _ _ a_2 Try.underlying26 rfl size26 ?_) | (refine wpList_load_num rfl _ (.tmp 5) rfl _ rfl _ _ _ e_2 Try.underlying26 rfl size26 ?_) | (refine wpList_load_blk rfl _ (.tmp 7) rfl _ rfl _ _ _ mw2 Try.underlying72 rfl hC.info ?_))
  refine (kP _).mono ?_
  rintro e w3 ⟨rfl, bw3⟩
  have gr_3 := gr_2.step bw3
  have a_3 := a_2.step bw3
  have e_3 := e_2.step bw3
  have r_3 := r_2.step bw3
  have c_3 := mw2.step bw3
  have c_4 := step_trans c_2 bw3
  clear gr_2 a_2 e_2 r_2 mw2 c_2 bw3
  have bef := c_4
  go_wp2_with (first | (refine wpList_load_num rfl _ (.tmp 6) rfl _ rfl _ _ _ r_3 Try.underlying26 rfl size26 ?_) | (refine wpList_store_num rfl _ (.tmp 6) _ rfl _ rfl _ rfl _ rfl r_3 size26 ?_; intro wz gz mz))
  exact bodyPost_ret (results_num rfl rfl mz Try.underlying26 rfl size26) rfl ⟨rfl, below_of_grown bef gz bef.size (by omega)⟩
set_option maxRecDepth 100000 in
set_option maxHeartbeats 8000000 in
theorem gtimes_any (k : Int) (P Q g : Nat) (ho : P % 2 = 1) (h1 : 1 < P) (hP : P < 4294967296 ^ 8) (a b : Nat) (ha : a < 4294967296 ^ 8) (hb : b < 4294967296 ^ 8) (w : World) :
    Calls Try.prog 25 #[.agg (groupA k P Q g), numV a, numV b] w fun e w' => e = .returned (numV (a * b % P)) ∧ Below w.heap.size w w' := by
  have kM := fun w => mul_any a b ha hb w
  have hq : a * b % 4294967296 ^ 8 + a * b / 4294967296 ^ 8 * 4294967296 ^ 8 = a * b := by rw [Nat.mul_comm (a * b / _)]; exact Nat.mod_add_div _ _
  have kR := fun w => rest_pos (a * b % 4294967296 ^ 8) (a * b / 4294967296 ^ 8) P (Nat.mod_lt _ (by decide)) (Nat.div_lt_of_lt_mul (Nat.mul_lt_mul'' ha hb)) hP (by omega) w
  rw [hq] at kR
  generalize a * b % 4294967296 ^ 8 = L at *
  generalize a * b / 4294967296 ^ 8 = H at *
  obtain ⟨V, hV⟩ : ∃ V, a * b % P = V := ⟨_, rfl⟩
  rw [hV] at kR ⊢
  clear hV hq ho h1 hP ha hb
  go_enter Try.func25, Try.ntmps25
  go_upto_region 1 with fail
  obtain ⟨W, hW⟩ : ∃ W, W = ((((((w.alloc (.cells (groupA k P Q g) 28))).alloc (.cells (numA a) 26))).alloc (.cells (numA b) 26))).alloc (.cells #[Value.int .u32 0, .int .u32 0, .int .u32 0, .int .u32 0, .int .u32 0, .int .u32 0, .int .u32 0, .int .u32 0] 26) := ⟨_, rfl⟩
  have q_gr : Blk W (w.heap.size) 28 (groupA k P Q g) := by
    have := ((((Blk.new w 28 (groupA k P Q g)).alloc (.cells (numA a) 26)).alloc (.cells (numA b) 26)).alloc (.cells #[Value.int .u32 0, .int .u32 0, .int .u32 0, .int .u32 0, .int .u32 0, .int .u32 0, .int .u32 0, .int .u32 0] 26))
    rw [hW]; exact this
  have q_a : Num W (w.heap.size + 1) 26 (a) := by
    have := (((Num.new (w.alloc (.cells (groupA k P Q g) 28)) 26 (a)).alloc (.cells (numA b) 26)).alloc (.cells #[Value.int .u32 0, .int .u32 0, .int .u32 0, .int .u32 0, .int .u32 0, .int .u32 0, .int .u32 0, .int .u32 0] 26))
    rw [World.size_alloc] at this
    rw [hW]; exact this
  have q_b : Num W (w.heap.size + 1 + 1) 26 (b) := by
    have := ((Num.new (((w.alloc (.cells (groupA k P Q g) 28))).alloc (.cells (numA a) 26)) 26 (b)).alloc (.cells #[Value.int .u32 0, .int .u32 0, .int .u32 0, .int .u32 0, .int .u32 0, .int .u32 0, .int .u32 0, .int .u32 0] 26))
    rw [World.size_alloc, World.size_alloc] at this
    rw [hW]; exact this
  have q_r : Num W (w.heap.size + 1 + 1 + 1) 26 0 := by
    have := (Num.new (((((w.alloc (.cells (groupA k P Q g) 28))).alloc (.cells (numA a) 26))).alloc (.cells (numA b) 26)) 26 0)
    rw [World.size_alloc, World.size_alloc, World.size_alloc, ← zeroA] at this
    rw [hW]; exact this
  have gb : Below w.heap.size w W := by rw [hW]; exact (((((Below.refl _ _).alloc (by simp <;> omega) _).alloc (by simp <;> omega) _).alloc (by simp <;> omega) _).alloc (by simp <;> omega) _)
  rw [← hW]
  clear hW
  have lor := hid (show w.heap.size ≤ w.heap.size + 1 + 1 + 1 by omega)
  have ngr_r := hid (show w.heap.size ≠ w.heap.size + 1 + 1 + 1 by omega)
  have na_r := hid (show w.heap.size + 1 ≠ w.heap.size + 1 + 1 + 1 by omega)
  have nb_r := hid (show w.heap.size + 1 + 1 ≠ w.heap.size + 1 + 1 + 1 by omega)
  go_wp2_with (first | (refine wpList_load_num rfl _ (.tmp 4) rfl _ rfl _ _ _ q_a Try.underlying26 rfl size26 ?_) | (refine wpList_load_num rfl _ (.tmp 5) rfl _ rfl _ _ _ q_b Try.underlying26 rfl size26 ?_))
  refine (kM _).mono ?_
  rintro e w1 ⟨rfl, bw1⟩
  have gr_1 := q_gr.step bw1
  have a_1 := q_a.step bw1
  have b_1 := q_b.step bw1
  have r_1 := q_r.step bw1
  have c_1 := step_trans gb bw1
  clear q_gr q_a q_b q_r gb bw1
  go_wp2_with (first | (refine wpList_store_num rfl _ (.tmp 7) _ rfl _ rfl _ rfl _ rfl (news2 w1 _).1 size26 ?_; intro w2 gw2 mw2) | (refine wpList_store_num rfl _ (.tmp 8) _ rfl _ rfl _ rfl _ rfl ((gw2.block _ (by simp) (by simp)).trans (news2 w1 _).2) size26 ?_; intro w3 gw3 mw3; have b_2 := step_new2 gw2 gw3; have qw2 := (mw2.grown gw3 (by simp <;> omega)); have nr_lo := hid (show _ ≠ w1.heap.size from Nat.ne_of_lt (Nat.lt_of_lt_of_le r_1.lt (by omega))); have nr_hi := hid (show _ ≠ w1.heap.size + 1 from Nat.ne_of_lt (Nat.lt_of_lt_of_le r_1.lt (by omega))); have gr_2 := gr_1.step b_2; have a_2 := a_1.step b_2; have b_3 := b_1.step b_2; have r_2 := r_1.step b_2; have c_2 := step_trans c_1 b_2; clear gr_1 a_1 b_1 r_1 c_1 b_2 gw2 gw3 mw2) | (refine wpList_load_num rfl _ (.tmp 7) rfl _ rfl _ _ _ qw2 Try.underlying26 rfl size26 ?_) | (refine wpList_load_num rfl _ (.tmp 8) rfl _ rfl _ _ _ mw3 Try.underlying26 rfl size26 ?_) | (refine wpList_load_part rfl _ (.tmp 20) rfl _ _ rfl _ _ (numA P) _ gr_2 groupA_p Try.underlying26 rfl size26 ?_))
  refine (kR _).mono ?_
  rintro e w4 ⟨rfl, bw4⟩
  have gr_3 := gr_2.step bw4
  have a_3 := a_2.step bw4
  have b_4 := b_3.step bw4
  have r_3 := r_2.step bw4
  have lo_1 := qw2.step bw4
  have hi_1 := mw3.step bw4
  have c_3 := step_trans c_2 bw4
  clear gr_2 a_2 b_3 r_2 qw2 mw3 c_2 bw4
  go_upto_region 3 with (first | (refine wpList_store_num rfl _ (.tmp 9) _ rfl _ rfl _ rfl _ rfl (heap_alloc_new _ _) size26 ?_; intro w5 gw5 mw5; have b_5 := step_new gw5; have nr_x := hid (show _ ≠ w4.heap.size from Nat.ne_of_lt (Nat.lt_of_lt_of_le r_3.lt (by omega))); have gr_4 := gr_3.step b_5; have a_4 := a_3.step b_5; have b_6 := b_4.step b_5; have r_4 := r_3.step b_5; have lo_2 := lo_1.step b_5; have hi_2 := hi_1.step b_5; have c_4 := step_trans c_3 b_5; clear gr_3 a_3 b_4 r_3 lo_1 hi_1 c_3 b_5 gw5) | (refine wpList_load_num rfl _ (.tmp 9) rfl _ rfl _ _ _ mw5 Try.underlying26 rfl size26 ?_))
  try simp only [Act.put, List.setIfInBounds_toArray, List.set_cons_zero, List.set_cons_succ]
  have bef := c_4
  go_wp2_with (first | (refine wpList_load_num rfl _ (.tmp 6) rfl _ rfl _ _ _ r_4 Try.underlying26 rfl size26 ?_) | (refine wpList_load_num rfl _ (.tmp 9) rfl _ rfl _ _ _ mw5 Try.underlying26 rfl size26 ?_) | (refine wpList_store_num rfl _ (.tmp 6) _ rfl _ rfl _ rfl _ rfl r_4 size26 ?_; intro wz gz mz))
  exact bodyPost_ret (results_num rfl rfl mz Try.underlying26 rfl size26) rfl ⟨rfl, below_of_grown bef gz bef.size (by omega)⟩
end Go.Proofs.Ytgccbfkofkohpaa
namespace Go.Proofs.Ytgccbfkofkohpaa
set_option linter.unusedVariables false
set_option maxRecDepth 20000
set_option linter.unusedSimpArgs false
open Go.ChangeShapes Go.WideShapes Go.ChangeAt Go.RowKit
/-- What Has answers. -/
def hasB (a P Q : Nat) : Bool := decide (1 < a ∧ a < P ∧ a ^ Q % P = 1)
theorem has_pack {k : Int} {a P Q g : Nat} (ho : P % 2 = 1) (h1 : 1 < P) (hP : P < 4294967296 ^ 8) (ha : a < 4294967296 ^ 8) (hQ : Q < 4294967296 ^ 8) : ∃ (V : Nat) (d e : Int), RunsTo 55 #[numV a, numV 1] (.int .i64 d) ∧ RunsTo 55 #[numV a, numV P] (.int .i64 e) ∧ RunsTo 23 #[.agg (groupA k P Q g), numV a, numV Q] (numV V) ∧
    ((¬ 0 < d ∧ hasB a P Q = false) ∨ (0 < d ∧ ¬ e < 0 ∧ hasB a P Q = false) ∨ (0 < d ∧ e < 0 ∧ V = 1 ∧ hasB a P Q = true) ∨ (0 < d ∧ e < 0 ∧ (∀ w, (Op.equalIn 10000 26 (.agg (numA V)) (.agg (numA 1))).run Try.prog w = .ok false w) ∧ hasB a P Q = false)) := by
  refine ⟨a ^ Q % P, cmpI a 1, cmpI a P, cmp_any a 1 ha (by decide), cmp_any a P ha hP, graise_any k P Q g ho h1 hP a Q ha hQ, ?_⟩
  unfold hasB cmpI
  by_cases c1 : 1 < a
  · by_cases c2 : a < P
    · by_cases c3 : a ^ Q % P = 1
      · exact .inr (.inr (.inl ⟨by rw [if_neg (by omega), if_pos c1]; decide, by rw [if_pos c2]; decide, c3, decide_eq_true ⟨c1, c2, c3⟩⟩))
      · exact .inr (.inr (.inr ⟨by rw [if_neg (by omega), if_pos c1]; decide, by rw [if_pos c2]; decide, eqn_diff (Nat.lt_trans (Nat.mod_lt _ (by omega)) hP) (by decide) c3, decide_eq_false (fun h => c3 h.2.2)⟩))
    · exact .inr (.inl ⟨by rw [if_neg (by omega), if_pos c1]; decide, by rw [if_neg c2]; split <;> decide, decide_eq_false (fun h => c2 h.2.1)⟩)
  · exact .inl ⟨by (rw [if_neg c1]; split <;> decide), decide_eq_false (fun h => c1 h.1)⟩
set_option maxRecDepth 100000 in
set_option maxHeartbeats 8000000 in
theorem ghas_any (k : Int) (P Q g : Nat) (ho : P % 2 = 1) (h1 : 1 < P) (hP : P < 4294967296 ^ 8) (a : Nat) (ha : a < 4294967296 ^ 8) (hQ : Q < 4294967296 ^ 8) (w : World) :
    Calls Try.prog 27 #[.agg (groupA k P Q g), numV a] w fun e w' => e = .returned (.bool (hasB a P Q)) ∧ Below w.heap.size w w' := by
  obtain ⟨V, dd, ee, k1, k2, k3, hw⟩ := has_pack (k := k) (g := g) ho h1 hP ha hQ
  have HW := hid hw
  obtain ⟨RB, HB⟩ : ∃ b, Hid (hasB a P Q = b) := ⟨_, hid rfl⟩
  rw [HB.out]
  clear hw ho h1 hP ha hQ
  have ng := noGuard
  go_enter Try.func27, Try.ntmps27
  go_upto_region 1 with fail
  obtain ⟨W, hW⟩ : ∃ W, W = ((w.alloc (.cells (groupA k P Q g) 28))).alloc (.cells (numA a) 26) := ⟨_, rfl⟩
  have q_gr : Blk W (w.heap.size) 28 (groupA k P Q g) := by
    have := ((Blk.new w 28 (groupA k P Q g)).alloc (.cells (numA a) 26))
    rw [hW]; exact this
  have q_a : Num W (w.heap.size + 1) 26 (a) := by
    have := (Num.new (w.alloc (.cells (groupA k P Q g) 28)) 26 (a))
    rw [World.size_alloc] at this
    rw [hW]; exact this
  have gb : Below w.heap.size w W := by rw [hW]; exact (((Below.refl _ _).alloc (by simp <;> omega) _).alloc (by simp <;> omega) _)
  rw [← hW]
  clear hW
  go_wp2_with (fail)
  refine (from_any 1 (by omega) (by omega) _).mono ?_
  rintro e w1 ⟨rfl, bw1⟩
  have gr_1 := q_gr.step bw1
  have a_1 := q_a.step bw1
  have c_1 := step_trans gb bw1
  clear q_gr q_a gb bw1
  go_upto_region 2 with (first | (refine wpList_store_num rfl _ (.tmp 5) _ rfl _ rfl _ rfl _ rfl (heap_alloc_new _ _) size26 ?_; intro w2 gw2 mw2; have b_1 := step_new gw2; have gr_2 := gr_1.step b_1; have a_2 := a_1.step b_1; have c_2 := step_trans c_1 b_1; clear gr_1 a_1 c_1 b_1 gw2) | (refine wpList_load_num rfl _ (.tmp 3) rfl _ rfl _ _ _ a_2 Try.underlying26 rfl size26 ?_) | (refine wpList_load_num rfl _ (.tmp 5) rfl _ rfl _ _ _ mw2 Try.underlying26 rfl size26 ?_))
  try simp only [Act.put, List.setIfInBounds_toArray, List.set_cons_zero, List.set_cons_succ]
  rcases HW.out with ⟨c1, c4⟩ | ⟨c1, c2, c4⟩ | ⟨c1, c2, rfl, c4⟩ | ⟨c1, c2, c3, c4⟩
  · obtain rfl : RB = false := by rw [← HB.out]; exact c4
    have f1 : decide (0 < dd) = false := decide_eq_false (by omega)
    refine wp_region_later (by kernel_rfl) (by kernel_rfl) ?_
    (refine wpQuiet_load_num rfl _ (.tmp 3) rfl _ rfl _ _ _ a_2 Try.underlying26 rfl size26 ?_; simp only [Act.put, List.setIfInBounds_toArray, List.set_cons_zero, List.set_cons_succ])
    (refine wpQuiet_load_num rfl _ (.tmp 5) rfl _ rfl _ _ _ mw2 Try.underlying26 rfl size26 ?_; simp only [Act.put, List.setIfInBounds_toArray, List.set_cons_zero, List.set_cons_succ])
    go_big_quiet_step (exact later_of (k1 _))
    go_big_quiet_step (fail)
    go_big_quiet_step (fail)
    first | (refine wpQuiet_load_num rfl _ (.tmp 3) rfl _ rfl _ _ _ a_2 Try.underlying26 rfl size26 ?_; simp only [Act.put, List.setIfInBounds_toArray, List.set_cons_zero, List.set_cons_succ]) | go_big_quiet_step (fail)
    go_big_quiet_step (fail)
    first | (refine wpQuiet_load_part rfl _ (.tmp 13) rfl _ _ rfl _ _ (numA P) _ gr_2 groupA_p Try.underlying26 rfl size26 ?_; simp only [Act.put, List.setIfInBounds_toArray, List.set_cons_zero, List.set_cons_succ]) | go_big_quiet_step (fail)
    go_big_quiet_step (fail)
    go_big_quiet_step (fail)
    go_big_quiet_step (fail)
    go_big_quiet_step (fail)
    first | (refine wpQuiet_load_blk rfl _ (.tmp 2) rfl _ rfl _ _ _ gr_2 Try.underlying28 rfl size_group ?_; simp only [Act.put, List.setIfInBounds_toArray, List.set_cons_zero, List.set_cons_succ]) | go_big_quiet_step (fail)
    first | (refine wpQuiet_load_num rfl _ (.tmp 3) rfl _ rfl _ _ _ a_2 Try.underlying26 rfl size26 ?_; simp only [Act.put, List.setIfInBounds_toArray, List.set_cons_zero, List.set_cons_succ]) | go_big_quiet_step (fail)
    go_big_quiet_step (fail)
    first | (refine wpQuiet_load_part rfl _ (.tmp 21) rfl _ _ rfl _ _ (numA Q) _ gr_2 groupA_q Try.underlying26 rfl size26 ?_; simp only [Act.put, List.setIfInBounds_toArray, List.set_cons_zero, List.set_cons_succ]) | go_big_quiet_step (fail)
    go_big_quiet_step (fail)
    first | (refine wpQuiet_load_num rfl _ (.tmp 5) rfl _ rfl _ _ _ mw2 Try.underlying26 rfl size26 ?_; simp only [Act.put, List.setIfInBounds_toArray, List.set_cons_zero, List.set_cons_succ]) | go_big_quiet_step (fail)
    go_big_quiet_step (fail)
    go_big_quiet_step (fail)
    go_big_quiet_step (fail)
    refine wpQuiet_nil ?_
    intro X_1
    have gr_3 := gr_2.step X_1.h
    have a_3 := a_2.step X_1.h
    have o_1 := mw2.step X_1.h
    have c_3 := step_trans c_2 X_1.h
    clear gr_2 a_2 mw2 c_2
    go_wp2
    go_ret
    exact ⟨rfl, c_3⟩
  · obtain rfl : RB = false := by rw [← HB.out]; exact c4
    have f2 : decide (ee < 0) = false := decide_eq_false (by omega)
    refine wp_region_later (by kernel_rfl) (by kernel_rfl) ?_
    (refine wpQuiet_load_num rfl _ (.tmp 3) rfl _ rfl _ _ _ a_2 Try.underlying26 rfl size26 ?_; simp only [Act.put, List.setIfInBounds_toArray, List.set_cons_zero, List.set_cons_succ])
    (refine wpQuiet_load_num rfl _ (.tmp 5) rfl _ rfl _ _ _ mw2 Try.underlying26 rfl size26 ?_; simp only [Act.put, List.setIfInBounds_toArray, List.set_cons_zero, List.set_cons_succ])
    go_big_quiet_step (exact later_of (k1 _))
    go_big_quiet_step (fail)
    go_big_quiet_step (fail)
    first | (refine wpQuiet_load_num rfl _ (.tmp 3) rfl _ rfl _ _ _ a_2 Try.underlying26 rfl size26 ?_; simp only [Act.put, List.setIfInBounds_toArray, List.set_cons_zero, List.set_cons_succ]) | go_big_quiet_step (fail)
    go_big_quiet_step (fail)
    first | (refine wpQuiet_load_part rfl _ (.tmp 13) rfl _ _ rfl _ _ (numA P) _ gr_2 groupA_p Try.underlying26 rfl size26 ?_; simp only [Act.put, List.setIfInBounds_toArray, List.set_cons_zero, List.set_cons_succ]) | go_big_quiet_step (fail)
    go_big_quiet_step (exact later_of (k2 _))
    go_big_quiet_step (fail)
    go_big_quiet_step (fail)
    go_big_quiet_step (fail)
    first | (refine wpQuiet_load_blk rfl _ (.tmp 2) rfl _ rfl _ _ _ gr_2 Try.underlying28 rfl size_group ?_; simp only [Act.put, List.setIfInBounds_toArray, List.set_cons_zero, List.set_cons_succ]) | go_big_quiet_step (fail)
    first | (refine wpQuiet_load_num rfl _ (.tmp 3) rfl _ rfl _ _ _ a_2 Try.underlying26 rfl size26 ?_; simp only [Act.put, List.setIfInBounds_toArray, List.set_cons_zero, List.set_cons_succ]) | go_big_quiet_step (fail)
    go_big_quiet_step (fail)
    first | (refine wpQuiet_load_part rfl _ (.tmp 21) rfl _ _ rfl _ _ (numA Q) _ gr_2 groupA_q Try.underlying26 rfl size26 ?_; simp only [Act.put, List.setIfInBounds_toArray, List.set_cons_zero, List.set_cons_succ]) | go_big_quiet_step (fail)
    go_big_quiet_step (fail)
    first | (refine wpQuiet_load_num rfl _ (.tmp 5) rfl _ rfl _ _ _ mw2 Try.underlying26 rfl size26 ?_; simp only [Act.put, List.setIfInBounds_toArray, List.set_cons_zero, List.set_cons_succ]) | go_big_quiet_step (fail)
    go_big_quiet_step (fail)
    go_big_quiet_step (fail)
    go_big_quiet_step (fail)
    refine wpQuiet_nil ?_
    intro X_1
    have gr_3 := gr_2.step X_1.h
    have a_3 := a_2.step X_1.h
    have o_1 := mw2.step X_1.h
    have c_3 := step_trans c_2 X_1.h
    clear gr_2 a_2 mw2 c_2
    go_wp2
    go_ret
    exact ⟨rfl, c_3⟩
  · obtain rfl : RB = true := by rw [← HB.out]; exact c4
    have f3 := fun w => eqn_same 1 w
    refine wp_region_later (by kernel_rfl) (by kernel_rfl) ?_
    (refine wpQuiet_load_num rfl _ (.tmp 3) rfl _ rfl _ _ _ a_2 Try.underlying26 rfl size26 ?_; simp only [Act.put, List.setIfInBounds_toArray, List.set_cons_zero, List.set_cons_succ])
    (refine wpQuiet_load_num rfl _ (.tmp 5) rfl _ rfl _ _ _ mw2 Try.underlying26 rfl size26 ?_; simp only [Act.put, List.setIfInBounds_toArray, List.set_cons_zero, List.set_cons_succ])
    go_big_quiet_step (exact later_of (k1 _))
    go_big_quiet_step (fail)
    go_big_quiet_step (fail)
    first | (refine wpQuiet_load_num rfl _ (.tmp 3) rfl _ rfl _ _ _ a_2 Try.underlying26 rfl size26 ?_; simp only [Act.put, List.setIfInBounds_toArray, List.set_cons_zero, List.set_cons_succ]) | go_big_quiet_step (fail)
    go_big_quiet_step (fail)
    first | (refine wpQuiet_load_part rfl _ (.tmp 13) rfl _ _ rfl _ _ (numA P) _ gr_2 groupA_p Try.underlying26 rfl size26 ?_; simp only [Act.put, List.setIfInBounds_toArray, List.set_cons_zero, List.set_cons_succ]) | go_big_quiet_step (fail)
    go_big_quiet_step (exact later_of (k2 _))
    go_big_quiet_step (fail)
    go_big_quiet_step (fail)
    go_big_quiet_step (fail)
    first | (refine wpQuiet_load_blk rfl _ (.tmp 2) rfl _ rfl _ _ _ gr_2 Try.underlying28 rfl size_group ?_; simp only [Act.put, List.setIfInBounds_toArray, List.set_cons_zero, List.set_cons_succ]) | go_big_quiet_step (fail)
    first | (refine wpQuiet_load_num rfl _ (.tmp 3) rfl _ rfl _ _ _ a_2 Try.underlying26 rfl size26 ?_; simp only [Act.put, List.setIfInBounds_toArray, List.set_cons_zero, List.set_cons_succ]) | go_big_quiet_step (fail)
    go_big_quiet_step (fail)
    first | (refine wpQuiet_load_part rfl _ (.tmp 21) rfl _ _ rfl _ _ (numA Q) _ gr_2 groupA_q Try.underlying26 rfl size26 ?_; simp only [Act.put, List.setIfInBounds_toArray, List.set_cons_zero, List.set_cons_succ]) | go_big_quiet_step (fail)
    go_big_quiet_step (exact later_of (k3 _))
    first | (refine wpQuiet_load_num rfl _ (.tmp 5) rfl _ rfl _ _ _ mw2 Try.underlying26 rfl size26 ?_; simp only [Act.put, List.setIfInBounds_toArray, List.set_cons_zero, List.set_cons_succ]) | go_big_quiet_step (fail)
    go_big_quiet_step (fail)
    go_big_quiet_step (fail)
    go_big_quiet_step (fail)
    refine wpQuiet_nil ?_
    intro X_1
    have gr_3 := gr_2.step X_1.h
    have a_3 := a_2.step X_1.h
    have o_1 := mw2.step X_1.h
    have c_3 := step_trans c_2 X_1.h
    clear gr_2 a_2 mw2 c_2
    go_wp2
    go_ret
    exact ⟨rfl, c_3⟩
  · obtain rfl : RB = false := by rw [← HB.out]; exact c4
    refine wp_region_later (by kernel_rfl) (by kernel_rfl) ?_
    (refine wpQuiet_load_num rfl _ (.tmp 3) rfl _ rfl _ _ _ a_2 Try.underlying26 rfl size26 ?_; simp only [Act.put, List.setIfInBounds_toArray, List.set_cons_zero, List.set_cons_succ])
    (refine wpQuiet_load_num rfl _ (.tmp 5) rfl _ rfl _ _ _ mw2 Try.underlying26 rfl size26 ?_; simp only [Act.put, List.setIfInBounds_toArray, List.set_cons_zero, List.set_cons_succ])
    go_big_quiet_step (exact later_of (k1 _))
    go_big_quiet_step (fail)
    go_big_quiet_step (fail)
    first | (refine wpQuiet_load_num rfl _ (.tmp 3) rfl _ rfl _ _ _ a_2 Try.underlying26 rfl size26 ?_; simp only [Act.put, List.setIfInBounds_toArray, List.set_cons_zero, List.set_cons_succ]) | go_big_quiet_step (fail)
    go_big_quiet_step (fail)
    first | (refine wpQuiet_load_part rfl _ (.tmp 13) rfl _ _ rfl _ _ (numA P) _ gr_2 groupA_p Try.underlying26 rfl size26 ?_; simp only [Act.put, List.setIfInBounds_toArray, List.set_cons_zero, List.set_cons_succ]) | go_big_quiet_step (fail)
    go_big_quiet_step (exact later_of (k2 _))
    go_big_quiet_step (fail)
    go_big_quiet_step (fail)
    go_big_quiet_step (fail)
    first | (refine wpQuiet_load_blk rfl _ (.tmp 2) rfl _ rfl _ _ _ gr_2 Try.underlying28 rfl size_group ?_; simp only [Act.put, List.setIfInBounds_toArray, List.set_cons_zero, List.set_cons_succ]) | go_big_quiet_step (fail)
    first | (refine wpQuiet_load_num rfl _ (.tmp 3) rfl _ rfl _ _ _ a_2 Try.underlying26 rfl size26 ?_; simp only [Act.put, List.setIfInBounds_toArray, List.set_cons_zero, List.set_cons_succ]) | go_big_quiet_step (fail)
    go_big_quiet_step (fail)
    first | (refine wpQuiet_load_part rfl _ (.tmp 21) rfl _ _ rfl _ _ (numA Q) _ gr_2 groupA_q Try.underlying26 rfl size26 ?_; simp only [Act.put, List.setIfInBounds_toArray, List.set_cons_zero, List.set_cons_succ]) | go_big_quiet_step (fail)
    go_big_quiet_step (exact later_of (k3 _))
    first | (refine wpQuiet_load_num rfl _ (.tmp 5) rfl _ rfl _ _ _ mw2 Try.underlying26 rfl size26 ?_; simp only [Act.put, List.setIfInBounds_toArray, List.set_cons_zero, List.set_cons_succ]) | go_big_quiet_step (fail)
    go_big_quiet_step (fail)
    go_big_quiet_step (fail)
    go_big_quiet_step (fail)
    refine wpQuiet_nil ?_
    intro X_1
    have gr_3 := gr_2.step X_1.h
    have a_3 := a_2.step X_1.h
    have o_1 := mw2.step X_1.h
    have c_3 := step_trans c_2 X_1.h
    clear gr_2 a_2 mw2 c_2
    go_wp2
    go_ret
    exact ⟨rfl, c_3⟩
end Go.Proofs.Ytgccbfkofkohpaa
