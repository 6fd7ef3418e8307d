/- mont.Pow. -/
import Derived.Test.YtgccbfkofkohpaaMtPower
namespace Go.Proofs.Ytgccbfkofkohpaa
set_option linter.unusedVariables false
set_option maxRecDepth 20000
set_option linter.unusedSimpArgs false
open Go.ChangeShapes Go.WideShapes Go.ChangeAt Go.RowKit
theorem prodA_cells (R C : Nat) : (prodA R C).all (·.oneCell') = true := by simp [prodA, numF, Value.oneCell']
theorem run_buildP {a : Act} {w : World} {o : Oper} (x0 x1 : Operand) (ho : o.op = .build 95 #[(0, x0), (1, x1), (2, .func 76)]) {R C : Nat} (h0 : a.eval x0 = numV R) (h1 : a.eval x1 = .func (.func 74) #[] #[.pointer (some ⟨C, 0, none⟩)]) : (execOp a.eval o).run Try.prog w = .ok (.value (.agg (prodA R C))) w := by
  unfold execOp
  simp only [ho, List.map_toArray, List.map_cons, List.map_nil, h0, h1]
  kernel_rfl
set_option maxRecDepth 100000 in
set_option maxHeartbeats 4000000 in
theorem mtpow_any (m R T : Nat) (n : Int) (hm : m < 4294967296 ^ 8) (ho : m % 2 = 1) (hn : ∃ q, n * digI m 0 + 1 = 4294967296 * q) (hn0 : 0 ≤ n) (hn1 : n < 4294967296) (h1m : 1 < m) (hR : R = 4294967296 ^ 8 % m) (hT : T = 4294967296 ^ 8 * 4294967296 ^ 8 % m) (a x : Nat) (ha : a < 4294967296 ^ 8) (hx : x < 4294967296 ^ 8) (w : World) :
    Calls Try.prog 50 #[.agg (montA m R T n), numV a, numV x] w fun e w' => e = .returned (numV (a ^ x % m)) ∧ Below w.heap.size w w' := by
  have HN := hid hn
  have HR := hid hR
  have hTm : T < m := by rw [hT]; exact Nat.mod_lt _ (by omega)
  obtain ⟨A, HA⟩ : ∃ A, Hid (A = a * 4294967296 ^ 8 % m) := ⟨_, hid rfl⟩
  have hin : ∀ w, Calls Try.prog 79 #[.agg (montA m R T n), numV a] w fun e w' => e = .returned (numV A) ∧ Below w.heap.size w w' := fun w => by
    rw [HA.out, ← mm_in ho a T hT]
    exact mtin_any m R T n hm ho HN.out hn0 hn1 a ha hTm w
  have hout : ∀ w, Calls Try.prog 77 #[.agg (montA m R T n), numV (a ^ x * 4294967296 ^ 8 % m)] w fun e w' => e = .returned (numV (a ^ x % m)) ∧ Below w.heap.size w w' := fun w => by
    rw [← mm_out ho (a ^ x)]
    exact mtout_any m R T n hm h1m ho HN.out hn0 hn1 _ (Nat.lt_trans (Nat.mod_lt _ (by omega)) hm) w
  clear hn hR hT
  obtain ⟨V, hV⟩ : ∃ V, V = a ^ x % m := ⟨_, rfl⟩
  obtain ⟨U, hU⟩ : ∃ U, U = a ^ x * 4294967296 ^ 8 % m := ⟨_, rfl⟩
  have hpw := fun (C : Nat) (w : World) (hC : Blk w C 72 (montA m R T n)) => power_any m R T n hm ho HN.out hn0 hn1 a x R A hx HR.out HA.out C w hC
  rw [← hV] at hout ⊢
  rw [← hU] at hout hpw
  clear hV hU
  go_enter Try.func50, Try.ntmps50
  go_upto_region 1 with fail
  obtain ⟨W, hW⟩ : ∃ W, W = ((((((w.alloc (.cells (montA m R T n) 72))).alloc (.cells (numA a) 26))).alloc (.cells (numA x) 26))).alloc (.cells #[Value.int .u32 0, .int .u32 0, .int .u32 0, .int .u32 0, .int .u32 0, .int .u32 0, .int .u32 0, .int .u32 0] 26) := ⟨_, rfl⟩
  have q_c : Blk W (w.heap.size) 72 (montA m R T n) := by
    have := ((((Blk.new w 72 (montA m R T n)).alloc (.cells (numA a) 26)).alloc (.cells (numA x) 26)).alloc (.cells #[Value.int .u32 0, .int .u32 0, .int .u32 0, .int .u32 0, .int .u32 0, .int .u32 0, .int .u32 0, .int .u32 0] 26))
    rw [hW]; exact this
  have q_a : Num W (w.heap.size + 1) 26 (a) := by
    have := (((Num.new (w.alloc (.cells (montA m R T n) 72)) 26 (a)).alloc (.cells (numA x) 26)).alloc (.cells #[Value.int .u32 0, .int .u32 0, .int .u32 0, .int .u32 0, .int .u32 0, .int .u32 0, .int .u32 0, .int .u32 0] 26))
    rw [World.size_alloc] at this
    rw [hW]; exact this
  have q_e : Num W (w.heap.size + 1 + 1) 26 (x) := by
    have := ((Num.new (((w.alloc (.cells (montA m R T n) 72))).alloc (.cells (numA a) 26)) 26 (x)).alloc (.cells #[Value.int .u32 0, .int .u32 0, .int .u32 0, .int .u32 0, .int .u32 0, .int .u32 0, .int .u32 0, .int .u32 0] 26))
    rw [World.size_alloc, World.size_alloc] at this
    rw [hW]; exact this
  have q_r : Num W (w.heap.size + 1 + 1 + 1) 26 0 := by
    have := (Num.new (((((w.alloc (.cells (montA m R T n) 72))).alloc (.cells (numA a) 26))).alloc (.cells (numA x) 26)) 26 0)
    rw [World.size_alloc, World.size_alloc, World.size_alloc, ← zeroA] at this
    rw [hW]; exact this
  have gb : Below w.heap.size w W := by rw [hW]; exact (((((Below.refl _ _).alloc (by simp <;> omega) _).alloc (by simp <;> omega) _).alloc (by simp <;> omega) _).alloc (by simp <;> omega) _)
  rw [← hW]
  clear hW
  have lor := hid (show w.heap.size ≤ w.heap.size + 1 + 1 + 1 by omega)
  have nc_r := hid (show w.heap.size ≠ w.heap.size + 1 + 1 + 1 by omega)
  have na_r := hid (show w.heap.size + 1 ≠ w.heap.size + 1 + 1 + 1 by omega)
  have ne_r := hid (show w.heap.size + 1 + 1 ≠ w.heap.size + 1 + 1 + 1 by omega)
  try simp only [Act.put, List.setIfInBounds_toArray, List.set_cons_zero, List.set_cons_succ]
  go_upto_region 2 with (first | (refine wpList_load_blk rfl _ (.tmp 3) rfl _ rfl _ _ _ q_c Try.underlying72 rfl size_mont ?_) | (refine wpList_load_num rfl _ (.tmp 4) rfl _ rfl _ _ _ q_a Try.underlying26 rfl size26 ?_) | (refine wpList_load_part rfl _ (.tmp 8) rfl _ _ rfl _ _ (numA R) _ q_c montA_r Try.underlying26 rfl size26 ?_) | (refine wpList_op rfl _ (run_buildP _ _ rfl rfl rfl) ?_) | (refine wpList_store_blk rfl _ (.tmp 7) _ rfl _ rfl (prodA R w.heap.size) rfl (prodA_cells _ _) _ (Blk.new _ _ _) rfl size_prod ?_; intro w1 g1 m1))
  try simp only [Act.put, List.setIfInBounds_toArray, List.set_cons_zero, List.set_cons_succ]
  have nc_p := hid (show _ ≠ W.heap.size from Nat.ne_of_lt q_c.lt)
  have na_p := hid (show _ ≠ W.heap.size from Nat.ne_of_lt q_a.lt)
  have ne_p := hid (show _ ≠ W.heap.size from Nat.ne_of_lt q_e.lt)
  have nr_p := hid (show _ ≠ W.heap.size from Nat.ne_of_lt q_r.lt)
  have lop := hid (show _ ≤ W.heap.size from gb.size)
  have b_1 := step_new g1
  have c_1 := q_c.step b_1
  have a_1 := q_a.step b_1
  have e_1 := q_e.step b_1
  have r_1 := q_r.step b_1
  have c_2 := step_trans gb b_1
  clear q_c q_a q_e q_r gb b_1
  clear g1
  have KK := fun Q : Later w1 => c_1.below Q.h c_1.lt
  refine wp_region_tail (by kernel_rfl) (by kernel_rfl) (by kernel_rfl) (by kernel_rfl) (by kernel_rfl) ?_
  simp only [calm, headOps, tailOps, List.length_cons, List.length_nil, List.drop_succ_cons, List.drop_zero, Nat.zero_add, Nat.reduceAdd]
  (refine wpQuiet_load_blk rfl _ (.tmp 3) rfl _ rfl _ _ _ c_1 Try.underlying72 rfl size_mont ?_; simp only [Act.put, List.setIfInBounds_toArray, List.set_cons_zero, List.set_cons_succ])
  (refine wpQuiet_load_blk rfl _ (.tmp 7) rfl _ rfl _ _ _ m1 Try.underlying95 rfl size_prod ?_; simp only [Act.put, List.setIfInBounds_toArray, List.set_cons_zero, List.set_cons_succ])
  (refine wpQuiet_load_blk rfl _ (.tmp 3) rfl _ rfl _ _ _ c_1 Try.underlying72 rfl size_mont ?_; simp only [Act.put, List.setIfInBounds_toArray, List.set_cons_zero, List.set_cons_succ])
  (refine wpQuiet_load_num rfl _ (.tmp 4) rfl _ rfl _ _ _ a_1 Try.underlying26 rfl size26 ?_; simp only [Act.put, List.setIfInBounds_toArray, List.set_cons_zero, List.set_cons_succ])
  go_big_quiet_step (exact later_of (hin _))
  (refine wpQuiet_load_num rfl _ (.tmp 5) rfl _ rfl _ _ _ e_1 Try.underlying26 rfl size26 ?_; simp only [Act.put, List.setIfInBounds_toArray, List.set_cons_zero, List.set_cons_succ])
  go_big_quiet_step (exact later_of (hpw _ _ (KK _)))
  go_big_quiet_step (exact later_of (hout _))
  refine wpQuiet_nil ?_
  intro X_1
  have c_3 := c_1.step X_1.h
  have a_2 := a_1.step X_1.h
  have e_2 := e_1.step X_1.h
  have r_2 := r_1.step X_1.h
  have p_1 := m1.step X_1.h
  have c_4 := step_trans c_2 X_1.h
  clear c_1 a_1 e_1 r_1 m1 c_2
  go_wp2_with (first | (refine wpList_store_num rfl _ (.tmp 6) _ rfl _ rfl _ rfl _ rfl r_2 size26 ?_; intro w1 gw1 mw1; have c_5 := c_3.grown gw1 (ne_some nc_r.out); have a_3 := a_2.grown gw1 (ne_some na_r.out); have e_3 := e_2.grown gw1 (ne_some ne_r.out); have p_2 := p_1.grown gw1 (ne_some nr_p.out.symm); have c_6 := below_of_grown c_4 gw1 c_4.size lor.out; clear r_2 c_3 a_2 e_2 p_1 c_4 gw1))
  exact bodyPost_ret (results_num rfl rfl mw1 Try.underlying26 rfl size26) rfl ⟨rfl, c_6⟩
end Go.Proofs.Ytgccbfkofkohpaa
