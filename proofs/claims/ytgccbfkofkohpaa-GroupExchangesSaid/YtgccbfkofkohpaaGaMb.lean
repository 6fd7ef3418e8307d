/- mont.Make. -/
import Derived.Test.YtgccbfkofkohpaaGaMa
import Derived.Test.YtgccbfkofkohpaaGaKn
import Derived.Test.YtgccbfkofkohpaaGaRest
import Derived.Test.YtgccbfkofkohpaaGaNum
namespace Go.Proofs.Ytgccbfkofkohpaa
set_option linter.unusedVariables false
set_option maxRecDepth 20000
set_option linter.unusedSimpArgs false
open Go.ChangeShapes Go.WideShapes Go.ChangeAt Go.RowKit
theorem numF_none (k : Nat) : numF 0 k = .int .u32 0 := by unfold numF digI dig; simp
theorem montA_zero : montA 0 0 0 0 = #[Value.int .u32 0, .int .u32 0, .int .u32 0, .int .u32 0, .int .u32 0, .int .u32 0, .int .u32 0, .int .u32 0, .int .u32 0, .int .u32 0, .int .u32 0, .int .u32 0, .int .u32 0, .int .u32 0, .int .u32 0, .int .u32 0, .int .u32 0, .int .u32 0, .int .u32 0, .int .u32 0, .int .u32 0, .int .u32 0, .int .u32 0, .int .u32 0, .int .u32 0] := by unfold montA; simp only [numF_none]
theorem z25_cells : (#[Value.int .u32 0, .int .u32 0, .int .u32 0, .int .u32 0, .int .u32 0, .int .u32 0, .int .u32 0, .int .u32 0, .int .u32 0, .int .u32 0, .int .u32 0, .int .u32 0, .int .u32 0, .int .u32 0, .int .u32 0, .int .u32 0, .int .u32 0, .int .u32 0, .int .u32 0, .int .u32 0, .int .u32 0, .int .u32 0, .int .u32 0, .int .u32 0, .int .u32 0] : Array Value).all (·.oneCell') = true := by simp [Value.oneCell']
section
variable {P : Program}
theorem wpQuiet_op {ops : Array Oper} {W : World} {Q : Act → Prop} {a : Act} {o : Oper} {rest : List Oper} (hw : Region.wanted o (yielded ops a.tmps) = true) (v : Value) (hr : ∀ w, (execOp a.eval o).run P w = .ok (.value v) w)
    (h : wpQuiet P ops (fun w' => ∃ x : Later W, w' = x.w) Q rest (a.put o.dst v)) : wpQuiet P ops (fun w' => ∃ x : Later W, w' = x.w) Q (o :: rest) a :=
  BigFrame.wpQuiet_want hw fun K hK => ⟨v, fun w ⟨x, e⟩ => by
    subst e
    unfold Oper.quietAt
    simp only [hr]
    exact ⟨rfl, rfl⟩, hK _ h⟩
theorem wpList_op {ops : Array Oper} {rest : List Oper} {o : Oper} {a : Act} {w : World} {Q : Exit → Act → World → Prop} (hw : Region.wanted o (yielded ops a.tmps) = true) (v : Value) (hr : (execOp a.eval o).run P w = .ok (.value v) w)
    (h : wpList P ops Q rest (a.put o.dst v) w) : wpList P ops Q (o :: rest) a w :=
  wpList_want hw fun K hK => by
    unfold Oper.wp
    simp only [hr]
    exact hK _ _ h
end
theorem run_buildM {a : Act} {w : World} {o : Oper} (x0 x1 x2 x3 : Operand) (ho : o.op = .build 72 #[(0, x0), (1, x1), (2, x2), (3, x3)]) {m r t : Nat} {n : Int} (h0 : a.eval x0 = numV m) (h1 : a.eval x1 = numV r) (h2 : a.eval x2 = numV t) (h3 : a.eval x3 = .int .u32 n) : (execOp a.eval o).run Try.prog w = .ok (.value (.agg (montA m r t n))) w := by
  unfold execOp
  simp only [ho, List.map_toArray, List.map_cons, List.map_nil, h0, h1, h2, h3]
  kernel_rfl
theorem montA_cells (m r t : Nat) (n : Int) : (montA m r t n).all (·.oneCell') = true := by simp [montA, numF, Value.oneCell']
set_option maxRecDepth 100000 in
set_option maxHeartbeats 4000000 in
theorem mtmake_any (m : Nat) (hm : m < 4294967296 ^ 8) (w : World) :
    Calls Try.prog 49 #[numV m] w fun e w' => e = .returned (if m % 2 = 1 ∧ m ≠ 1 then .tuple #[.agg (montA m (4294967296 ^ 8 % m) (4294967296 ^ 8 % m * (4294967296 ^ 8 % m) % m) (ngI (digI m 0))), .bool true] else .tuple #[.agg (montA 0 0 0 0), .bool false]) ∧ Below w.heap.size w w' := by
  obtain ⟨RES, HR⟩ : ∃ RES, Hid ((if m % 2 = 1 ∧ m ≠ 1 then Value.tuple #[.agg (montA m (4294967296 ^ 8 % m) (4294967296 ^ 8 % m * (4294967296 ^ 8 % m) % m) (ngI (digI m 0))), .bool true] else .tuple #[.agg (montA 0 0 0 0), .bool false]) = RES) := ⟨_, hid rfl⟩
  rw [HR.out]
  have PAR : (m % 2 = 0 ∧ (digI m 0).tmod 2 = 0) ∨ (m % 2 = 1 ∧ (digI m 0).tmod 2 = 1) := by
    have h0 := digI_ge m 0
    have h1 : digI m 0 % 2 = ((m % 2 : Nat) : Int) := by unfold digI dig; rw [Nat.pow_zero, Nat.div_one]; omega
    rw [Int.tmod_eq_emod_of_nonneg h0, h1]
    omega
  have EQ1 : (m = 1 ∧ ∀ w, (Op.equalIn 10000 26 (.agg (numA m)) (.agg (numA 1))).run Try.prog w = .ok true w) ∨ (m ≠ 1 ∧ ∀ w, (Op.equalIn 10000 26 (.agg (numA m)) (.agg (numA 1))).run Try.prog w = .ok false w) := by
    by_cases h : m = 1
    · exact .inl ⟨h, fun w => by rw [h]; exact eqn_same 1 w⟩
    · exact .inr ⟨h, eqn_diff hm (by decide) h⟩
  go_enter Try.func49, Try.ntmps49
  go_upto_region 1 with fail
  obtain ⟨W, hW⟩ : ∃ W, W = ((w.alloc (.cells (numA m) 26))).alloc (.cells #[Value.int .u32 0, .int .u32 0, .int .u32 0, .int .u32 0, .int .u32 0, .int .u32 0, .int .u32 0, .int .u32 0, .int .u32 0, .int .u32 0, .int .u32 0, .int .u32 0, .int .u32 0, .int .u32 0, .int .u32 0, .int .u32 0, .int .u32 0, .int .u32 0, .int .u32 0, .int .u32 0, .int .u32 0, .int .u32 0, .int .u32 0, .int .u32 0, .int .u32 0] 72) := ⟨_, rfl⟩
  have q_m : Num W (w.heap.size) 26 (m) := by
    have := ((Num.new w 26 (m)).alloc (.cells #[Value.int .u32 0, .int .u32 0, .int .u32 0, .int .u32 0, .int .u32 0, .int .u32 0, .int .u32 0, .int .u32 0, .int .u32 0, .int .u32 0, .int .u32 0, .int .u32 0, .int .u32 0, .int .u32 0, .int .u32 0, .int .u32 0, .int .u32 0, .int .u32 0, .int .u32 0, .int .u32 0, .int .u32 0, .int .u32 0, .int .u32 0, .int .u32 0, .int .u32 0] 72))
    rw [hW]; exact this
  have q_c : Blk W (w.heap.size + 1) 72 #[Value.int .u32 0, .int .u32 0, .int .u32 0, .int .u32 0, .int .u32 0, .int .u32 0, .int .u32 0, .int .u32 0, .int .u32 0, .int .u32 0, .int .u32 0, .int .u32 0, .int .u32 0, .int .u32 0, .int .u32 0, .int .u32 0, .int .u32 0, .int .u32 0, .int .u32 0, .int .u32 0, .int .u32 0, .int .u32 0, .int .u32 0, .int .u32 0, .int .u32 0] := by
    have := (Blk.new (w.alloc (.cells (numA m) 26)) 72 (montA 0 0 0 0))
    rw [World.size_alloc, montA_zero] at this
    rw [hW]; exact this
  have gb : Below w.heap.size w W := by rw [hW]; exact (((Below.refl _ _).alloc (by simp <;> omega) _).alloc (by simp <;> omega) _)
  rw [← hW]
  clear hW
  have loc := hid (show w.heap.size ≤ w.heap.size + 1 by omega)
  have nm_c := hid (show w.heap.size ≠ w.heap.size + 1 by omega)
  go_wp2_with (fail)
  refine (from_any 1 (by omega) (by omega) _).mono ?_
  rintro e w1 ⟨rfl, bw1⟩
  have m_1 := q_m.step bw1
  have c_1 := q_c.step bw1
  have c_2 := step_trans gb bw1
  clear q_m q_c gb bw1
  go_upto_region 2 with (first | (refine wpList_store_num rfl _ (.tmp 4) _ rfl _ rfl _ rfl _ rfl (heap_alloc_new _ _) size26 ?_; intro w2 gw2 mw2; have b_1 := step_new gw2; have nc_o := hid (show _ ≠ w1.heap.size from Nat.ne_of_lt (Nat.lt_of_lt_of_le c_1.lt (by omega))); have m_2 := m_1.step b_1; have c_3 := c_1.step b_1; have c_4 := step_trans c_2 b_1; clear m_1 c_1 c_2 b_1 gw2) | (refine wpList_load_num rfl _ (.tmp 1) rfl _ rfl _ _ _ m_2 Try.underlying26 rfl size26 ?_) | (refine wpList_load_num rfl _ (.tmp 4) rfl _ rfl _ _ _ mw2 Try.underlying26 rfl size26 ?_))
  have c0 := m_2.cell (k := 0) (by decide)
  have f0 := m_2.frozen 0
  rcases PAR with ⟨hp, hd0⟩ | ⟨hp, hd0⟩
  · have hR := HR.out
    rw [if_neg (by omega)] at hR
    subst hR
    go_upto_region 3 with (first | (refine wpList_load_num rfl _ (.tmp 1) rfl _ rfl _ _ _ m_2 Try.underlying26 rfl size26 ?_) | (refine wpList_load_num rfl _ (.tmp 4) rfl _ rfl _ _ _ mw2 Try.underlying26 rfl size26 ?_))
    have bef := c_4
    go_wp2_with (first | (refine wpList_load_num rfl _ (.tmp 1) rfl _ rfl _ _ _ m_2 Try.underlying26 rfl size26 ?_) | (refine wpList_load_num rfl _ (.tmp 4) rfl _ rfl _ _ _ mw2 Try.underlying26 rfl size26 ?_) | (refine wpList_store_blk rfl _ (.tmp 2) _ rfl _ rfl (#[Value.int .u32 0, .int .u32 0, .int .u32 0, .int .u32 0, .int .u32 0, .int .u32 0, .int .u32 0, .int .u32 0, .int .u32 0, .int .u32 0, .int .u32 0, .int .u32 0, .int .u32 0, .int .u32 0, .int .u32 0, .int .u32 0, .int .u32 0, .int .u32 0, .int .u32 0, .int .u32 0, .int .u32 0, .int .u32 0, .int .u32 0, .int .u32 0, .int .u32 0]) rfl z25_cells _ c_3 rfl size_mont ?_; intro wz gz mz))
    exact bodyPost_ret (results_blk_tmp rfl rfl mz Try.underlying72 rfl size_mont) rfl ⟨by rw [montA_zero]; rfl, below_of_grown bef gz bef.size loc.out⟩
  · rcases EQ1 with ⟨h1, k1⟩ | ⟨h1, k1⟩
    · have hR := HR.out
      rw [if_neg (by omega)] at hR
      subst hR
      clear h1
      go_upto_region 3 with (first | (refine wpList_load_num rfl _ (.tmp 1) rfl _ rfl _ _ _ m_2 Try.underlying26 rfl size26 ?_) | (refine wpList_load_num rfl _ (.tmp 4) rfl _ rfl _ _ _ mw2 Try.underlying26 rfl size26 ?_))
      have bef := c_4
      go_wp2_with (first | (refine wpList_load_num rfl _ (.tmp 1) rfl _ rfl _ _ _ m_2 Try.underlying26 rfl size26 ?_) | (refine wpList_load_num rfl _ (.tmp 4) rfl _ rfl _ _ _ mw2 Try.underlying26 rfl size26 ?_) | (refine wpList_store_blk rfl _ (.tmp 2) _ rfl _ rfl (#[Value.int .u32 0, .int .u32 0, .int .u32 0, .int .u32 0, .int .u32 0, .int .u32 0, .int .u32 0, .int .u32 0, .int .u32 0, .int .u32 0, .int .u32 0, .int .u32 0, .int .u32 0, .int .u32 0, .int .u32 0, .int .u32 0, .int .u32 0, .int .u32 0, .int .u32 0, .int .u32 0, .int .u32 0, .int .u32 0, .int .u32 0, .int .u32 0, .int .u32 0]) rfl z25_cells _ c_3 rfl size_mont ?_; intro wz gz mz))
      exact bodyPost_ret (results_blk_tmp rfl rfl mz Try.underlying72 rfl size_mont) rfl ⟨by rw [montA_zero]; rfl, below_of_grown bef gz bef.size loc.out⟩
    · have hR := HR.out
      rw [if_pos ⟨by omega, by omega⟩] at hR
      go_upto_region 4 with (first | (refine wpList_load_num rfl _ (.tmp 1) rfl _ rfl _ _ _ m_2 Try.underlying26 rfl size26 ?_) | (refine wpList_load_num rfl _ (.tmp 4) rfl _ rfl _ _ _ mw2 Try.underlying26 rfl size26 ?_))
      have h0 : 0 < m := by omega
      clear HR hp h1 k1
      have hr : ∀ w, Calls Try.prog 54 #[.agg #[.int .u32 0, .int .u32 0, .int .u32 0, .int .u32 0, .int .u32 0, .int .u32 0, .int .u32 0, .int .u32 0], numV 1, numV m] w fun e w' => e = .returned (.tuple #[numV (4294967296 ^ 8 % m), .bool (decide (m ≠ 0))]) ∧ Below w.heap.size w w' := fun w => by
        have := rest_any 0 1 m (by decide) (by decide) hm w
        rw [if_neg (by omega), Nat.zero_add, Nat.one_mul] at this
        rw [zeroA]; exact this
      have hRl : 4294967296 ^ 8 % m < m := Nat.mod_lt _ h0
      generalize 4294967296 ^ 8 % m = R at *
      have hRP : R < 4294967296 ^ 8 := by omega
      have hmu := mul_any R R hRP hRP
      have hr2 := fun w => rest_any (R * R % 4294967296 ^ 8) (R * R / 4294967296 ^ 8) m (Nat.mod_lt _ (by decide)) (Nat.div_lt_of_lt_mul (Nat.mul_lt_mul'' hRP hRP)) hm w
      rw [if_neg (by omega), show R * R % 4294967296 ^ 8 + R * R / 4294967296 ^ 8 * 4294967296 ^ 8 = R * R by rw [Nat.mul_comm (R * R / _)]; exact Nat.mod_add_div _ _] at hr2
      generalize R * R % 4294967296 ^ 8 = lo at *
      generalize R * R / 4294967296 ^ 8 = hi at *
      generalize R * R % m = T at *
      have hng := negated_any (digI m 0) (digI_ge _ _) (digI_lt _ _)
      generalize ngI (digI m 0) = N at *
      go_wp2_with (first | (refine wpList_load_num rfl _ (.tmp 1) rfl _ rfl _ _ _ m_2 Try.underlying26 rfl size26 ?_) | (refine wpList_load_num rfl _ (.tmp 4) rfl _ rfl _ _ _ mw2 Try.underlying26 rfl size26 ?_))
      refine (hr _).mono ?_
      rintro e w3 ⟨rfl, bw3⟩
      have m_3 := m_2.step bw3
      have c_5 := c_3.step bw3
      have o_1 := mw2.step bw3
      have c_6 := step_trans c_4 bw3
      clear m_2 c_3 mw2 c_4 bw3
      go_wp2_with (first | (refine wpList_store_num rfl _ (.tmp 5) _ rfl _ rfl _ rfl _ rfl (heap_alloc_new _ _) size26 ?_; intro w4 gw4 mw4; have b_2 := step_new gw4; have nc_R := hid (show _ ≠ w3.heap.size from Nat.ne_of_lt (Nat.lt_of_lt_of_le c_5.lt (by omega))); have m_4 := m_3.step b_2; have c_7 := c_5.step b_2; have o_2 := o_1.step b_2; have c_8 := step_trans c_6 b_2; clear m_3 c_5 o_1 c_6 b_2 gw4) | (refine wpList_load_num rfl _ (.tmp 5) rfl _ rfl _ _ _ mw4 Try.underlying26 rfl size26 ?_))
      refine (hmu _).mono ?_
      rintro e w5 ⟨rfl, bw5⟩
      have m_5 := m_4.step bw5
      have c_9 := c_7.step bw5
      have o_3 := o_2.step bw5
      have R_1 := mw4.step bw5
      have c_10 := step_trans c_8 bw5
      clear m_4 c_7 o_2 mw4 c_8 bw5
      go_wp2_with (first | (refine wpList_store_num rfl _ (.tmp 7) _ rfl _ rfl _ rfl _ rfl (news2 w5 _).1 size26 ?_; intro w6 gw6 mw6) | (refine wpList_store_num rfl _ (.tmp 8) _ rfl _ rfl _ rfl _ rfl ((gw6.block _ (by simp) (by simp)).trans (news2 w5 _).2) size26 ?_; intro w7 gw7 mw7; have b_3 := step_new2 gw6 gw7; have qw6 := (mw6.grown gw7 (by simp <;> omega)); have nc_lo := hid (show _ ≠ w5.heap.size from Nat.ne_of_lt (Nat.lt_of_lt_of_le c_9.lt (by omega))); have nc_hi := hid (show _ ≠ w5.heap.size + 1 from Nat.ne_of_lt (Nat.lt_of_lt_of_le c_9.lt (by omega))); have m_6 := m_5.step b_3; have c_11 := c_9.step b_3; have o_4 := o_3.step b_3; have R_2 := R_1.step b_3; have c_12 := step_trans c_10 b_3; clear m_5 c_9 o_3 R_1 c_10 b_3 gw6 gw7 mw6) | (refine wpList_load_num rfl _ (.tmp 1) rfl _ rfl _ _ _ m_6 Try.underlying26 rfl size26 ?_) | (refine wpList_load_num rfl _ (.tmp 7) rfl _ rfl _ _ _ qw6 Try.underlying26 rfl size26 ?_) | (refine wpList_load_num rfl _ (.tmp 8) rfl _ rfl _ _ _ mw7 Try.underlying26 rfl size26 ?_))
      refine (hr2 _).mono ?_
      rintro e w8 ⟨rfl, bw8⟩
      have m_7 := m_6.step bw8
      have c_13 := c_11.step bw8
      have o_5 := o_4.step bw8
      have R_3 := R_2.step bw8
      have lo_1 := qw6.step bw8
      have hi_1 := mw7.step bw8
      have c_14 := step_trans c_12 bw8
      clear m_6 c_11 o_4 R_2 qw6 mw7 c_12 bw8
      go_upto_region 7 with (first | (refine wpList_store_num rfl _ (.tmp 9) _ rfl _ rfl _ rfl _ rfl (heap_alloc_new _ _) size26 ?_; intro w9 gw9 mw9; have b_4 := step_new gw9; have nc_t := hid (show _ ≠ w8.heap.size from Nat.ne_of_lt (Nat.lt_of_lt_of_le c_13.lt (by omega))); have m_8 := m_7.step b_4; have c_15 := c_13.step b_4; have o_6 := o_5.step b_4; have R_4 := R_3.step b_4; have lo_2 := lo_1.step b_4; have hi_2 := hi_1.step b_4; have c_16 := step_trans c_14 b_4; clear m_7 c_13 o_5 R_3 lo_1 hi_1 c_14 b_4 gw9) | (refine wpList_load_num rfl _ (.tmp 1) rfl _ rfl _ _ _ m_8 Try.underlying26 rfl size26 ?_) | (refine wpList_load_num rfl _ (.tmp 5) rfl _ rfl _ _ _ R_4 Try.underlying26 rfl size26 ?_) | (refine wpList_load_num rfl _ (.tmp 9) rfl _ rfl _ _ _ mw9 Try.underlying26 rfl size26 ?_))
      refine wp_region_news 7 26 (.cells #[Value.int .u32 0, .int .u32 0, .int .u32 0, .int .u32 0, .int .u32 0, .int .u32 0, .int .u32 0, .int .u32 0] 26) (fun _ _ _ _ _ h => h) (by kernel_rfl) (by kernel_rfl) (by kernel_rfl) (by kernel_rfl) (by kernel_rfl) (by kernel_rfl) (by kernel_rfl) (by kernel_rfl) num_new ?_
      intro V_1
      simp only [calmN, isNew, hush, hushT, List.drop_succ_cons, List.drop_zero]
      have m_9 := m_8.step V_1.h
      have c_17 := c_15.step V_1.h
      have o_7 := o_6.step V_1.h
      have R_5 := R_4.step V_1.h
      have lo_3 := lo_2.step V_1.h
      have hi_3 := hi_2.step V_1.h
      have t_1 := mw9.step V_1.h
      have c_18 := step_trans c_16 V_1.h
      have c1 := fun X : Later V_1.w => ((m_9.later X).cell (k := 0) (by decide))
      have f1 := fun X : Later V_1.w => (m_9.later X).frozen 0
      (refine wpQuiet_load_num rfl _ (.tmp 1) rfl _ rfl _ _ _ m_9 Try.underlying26 rfl size26 ?_; simp only [Act.put, List.setIfInBounds_toArray, List.set_cons_zero, List.set_cons_succ])
      (refine wpQuiet_load_num rfl _ (.tmp 5) rfl _ rfl _ _ _ R_5 Try.underlying26 rfl size26 ?_; simp only [Act.put, List.setIfInBounds_toArray, List.set_cons_zero, List.set_cons_succ])
      (refine wpQuiet_load_num rfl _ (.tmp 9) rfl _ rfl _ _ _ t_1 Try.underlying26 rfl size26 ?_; simp only [Act.put, List.setIfInBounds_toArray, List.set_cons_zero, List.set_cons_succ])
      go_big_quiet_step (fail)
      go_big_quiet_step (fail)
      go_big_quiet_step (exact later_same (hng _))
      (refine wpQuiet_op rfl _ (fun w => run_buildM _ _ _ _ rfl rfl rfl rfl rfl) ?_; simp only [Act.put, List.setIfInBounds_toArray, List.set_cons_zero, List.set_cons_succ])
      go_big_quiet_step (fail)
      go_big_quiet_step (fail)
      refine wpQuiet_nil ?_
      intro X_1 p_1 hp_1
      obtain ⟨hp_11, hp_12⟩ := hp_1
      have m_10 := m_9.step X_1.h
      have c_19 := c_17.step X_1.h
      have o_8 := o_7.step X_1.h
      have R_6 := R_5.step X_1.h
      have lo_4 := lo_3.step X_1.h
      have hi_4 := hi_3.step X_1.h
      have t_2 := t_1.step X_1.h
      have c_20 := step_trans c_18 X_1.h
      simp only [layN, isNew, Act.put, List.setIfInBounds_toArray, List.set_cons_zero, List.set_cons_succ, Nat.zero_add, Nat.reduceAdd]
      clear hp_11 hp_12
      clear m_8 c_15 o_6 R_4 lo_2 hi_2 mw9 c_16 m_9 c_17 o_7 R_5 lo_3 hi_3 t_1 c_18
      have bef := c_20
      go_wp2_with (first | (refine wpList_store_blk rfl _ (.tmp 2) _ rfl _ rfl (montA m R T N) rfl (montA_cells _ _ _ _) _ c_19 rfl size_mont ?_; intro wz gz mz))
      exact bodyPost_ret (results_blk_tmp rfl rfl mz Try.underlying72 rfl size_mont) rfl ⟨by rw [← hR]; rfl, below_of_grown bef gz bef.size loc.out⟩
end Go.Proofs.Ytgccbfkofkohpaa
namespace Go.Proofs.Ytgccbfkofkohpaa
set_option linter.unusedVariables false
set_option maxRecDepth 20000
set_option linter.unusedSimpArgs false
open Go.ChangeShapes Go.WideShapes Go.ChangeAt Go.RowKit
theorem rfrom_one (w : World) : Calls Try.prog 22 #[.int .i64 1] w fun e w' => e = .returned (numV 1) ∧ Below w.heap.size w w' := from_ref 1 (by omega) (by omega) w
theorem numA_cells (n : Nat) : (numA n).all (·.oneCell') = true := by simp [numA, numF, Value.oneCell']
theorem montA_m0 (m : Nat) : montA m 0 0 0 = #[numF m 0, numF m 1, numF m 2, numF m 3, numF m 4, numF m 5, numF m 6, numF m 7, .int .u32 0, .int .u32 0, .int .u32 0, .int .u32 0, .int .u32 0, .int .u32 0, .int .u32 0, .int .u32 0, .int .u32 0, .int .u32 0, .int .u32 0, .int .u32 0, .int .u32 0, .int .u32 0, .int .u32 0, .int .u32 0, .int .u32 0] := by unfold montA; simp only [numF_none]
theorem run_buildM1 {a : Act} {w : World} {o : Oper} (x0 : Operand) (ho : o.op = .build 72 #[(0, x0)]) {m : Nat} (h0 : a.eval x0 = numV m) : (execOp a.eval o).run Try.prog w = .ok (.value (.agg (montA m 0 0 0))) w := by
  rw [montA_m0]
  unfold execOp
  simp only [ho, List.map_toArray, List.map_cons, List.map_nil, h0]
  kernel_rfl
theorem wpList_store_part {P : Program} {ops : Array Oper} {rest : List Oper} {o : Oper} {a : Act} {w : World} {Q : Exit → Act → World → Prop} (hgd : o.guard = none) (ty : TypeId) (x y : Operand) (ho : o.op = .store ty x y)
    (g k : Nat) (hx : a.eval x = .pointer (some ⟨g, k, none⟩)) (s : Array Value) (hy : a.eval y = .agg s) (h1 : s.all (·.oneCell') = true) (t : TypeId) (c c' : Array Value) (hg : Blk w g t c) (hos : k + s.size ≤ c.size) (hc' : (c.toList.take k ++ s.toList ++ c.toList.drop (k + s.size)).toArray = c')
    (hi : (P.info? ty).map (·.size) = some s.size)
    (h : ∀ w', w.grownBy w' (some g) → Blk w' g t c' → wpList P ops Q rest (a.put o.dst undef) w') : wpList P ops Q (o :: rest) a w :=
  wpList_plain hgd fun K hK => by
    unfold Oper.wp execOp
    simp only [ho, hx, hy, Sem.run_bind, run_store_sub w ty g k t c s c' hg hos h1 hc' hi, Result.andThen_ok, Sem.run_pure]
    exact hK _ _ (h _ (grown_setRow _ _ _) (setRow_heap w g c c' t (0, 0) hg))
end Go.Proofs.Ytgccbfkofkohpaa
