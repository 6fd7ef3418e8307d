/- The reference's Make. -/
import Derived.Test.YtcfobgimpflneaaMtMake
import Derived.Test.YtcfobgimpflneaaGaNum
namespace Go.Proofs.Ytcfobgimpflneaa
set_option linter.unusedVariables false
set_option linter.unusedSimpArgs false
open Go.ChangeShapes Go.WideShapes Go.ChangeAt Go.RowKit
theorem rfrom_one (w : World) : Calls Try.prog 27 #[.int .i64 1] w fun e w' => e = .returned (numV 1) ∧ Below w.heap.size w w' := from_ref 1 (by omega) (by omega) w
theorem numA_cells (n : Nat) : (numA n).all (·.oneCell') = true := by simp [numA, numF, Value.oneCell']
theorem montA_m0 (m : Nat) : montA m 0 0 0 = #[numF m 0, numF m 1, numF m 2, numF m 3, numF m 4, numF m 5, numF m 6, numF m 7, .int .u32 0, .int .u32 0, .int .u32 0, .int .u32 0, .int .u32 0, .int .u32 0, .int .u32 0, .int .u32 0, .int .u32 0, .int .u32 0, .int .u32 0, .int .u32 0, .int .u32 0, .int .u32 0, .int .u32 0, .int .u32 0, .int .u32 0] := by unfold montA; simp only [numF_none]
theorem run_buildM1 {a : Act} {w : World} {o : Oper} (x0 : Operand) (ho : o.op = .build 29 #[(0, x0)]) {m : Nat} (h0 : a.eval x0 = numV m) : (execOp a.eval o).run Try.prog w = .ok (.value (.agg (montA m 0 0 0))) w := by
  rw [montA_m0]
  unfold execOp
  simp only [ho, List.map_toArray, List.map_cons, List.map_nil, h0]
  kernel_rfl
theorem wpList_store_part {P : Program} {ops : Array Oper} {rest : List Oper} {o : Oper} {a : Act} {w : World} {Q : Exit → Act → World → Prop} (hgd : o.guard = none) (ty : TypeId) (x y : Operand) (ho : o.op = .store ty x y)
    (g k : Nat) (hx : a.eval x = .pointer (some ⟨g, k, none⟩)) (s : Array Value) (hy : a.eval y = .agg s) (h1 : s.all (·.oneCell') = true) (t : TypeId) (c c' : Array Value) (hg : Blk w g t c) (hos : k + s.size ≤ c.size) (hc' : (c.toList.take k ++ s.toList ++ c.toList.drop (k + s.size)).toArray = c')
    (hi : (P.info? ty).map (·.size) = some s.size)
    (h : ∀ w', w.grownBy w' (some g) → Blk w' g t c' → wpList P ops Q rest (a.put o.dst undef) w') : wpList P ops Q (o :: rest) a w :=
  wpList_plain hgd fun K hK => by
    unfold Oper.wp execOp
    simp only [ho, hx, hy, Sem.run_bind, run_store_sub w ty g k t c s c' hg hos h1 hc' hi, Result.andThen_ok, Sem.run_pure]
    exact hK _ _ (h _ (grown_setRow _ _ _) (setRow_heap w g c c' t (0, 0) hg))
set_option maxRecDepth 100000 in
set_option maxHeartbeats 16000000 in
theorem rmake_any (m : Nat) (hm : m < 4294967296 ^ 8) (w : World) :
    Calls Try.prog 15 #[numV m] w fun e w' => e = .returned (if m % 2 = 1 ∧ m ≠ 1 then .tuple #[.agg (montA m (4294967296 ^ 8 % m) (4294967296 ^ 8 % m * (4294967296 ^ 8 % m) % m) (ngI (digI m 0))), .bool true] else .tuple #[.agg (montA 0 0 0 0), .bool false]) ∧ Below w.heap.size w w' := by
  obtain ⟨RES, HR⟩ : ∃ RES, Hid ((if m % 2 = 1 ∧ m ≠ 1 then Value.tuple #[.agg (montA m (4294967296 ^ 8 % m) (4294967296 ^ 8 % m * (4294967296 ^ 8 % m) % m) (ngI (digI m 0))), .bool true] else .tuple #[.agg (montA 0 0 0 0), .bool false]) = RES) := ⟨_, hid rfl⟩
  rw [HR.out]
  have PAR : (m % 2 = 0 ∧ bits .and .u32 (digI m 0) 1 = 0) ∨ (m % 2 = 1 ∧ bits .and .u32 (digI m 0) 1 = 1) := by
    have hbit := bit_dig m 0
    have hb0 : bitI m 0 = ((m % 2 : Nat) : Int) := by unfold bitI; rw [Nat.pow_zero, Nat.div_one]
    have h : bits .and .u32 (digI m 0) 1 = ((m % 2 : Nat) : Int) := by rw [← hb0, ← hbit]; simp
    rw [h]
    omega
  have EQ1 : (m = 1 ∧ ∀ w, (Op.equalIn 10000 26 (.agg (numA m)) (.agg (numA 1))).run Try.prog w = .ok true w) ∨ (m ≠ 1 ∧ ∀ w, (Op.equalIn 10000 26 (.agg (numA m)) (.agg (numA 1))).run Try.prog w = .ok false w) := by
    by_cases h : m = 1
    · exact .inl ⟨h, fun w => by rw [h]; exact eqn_same 1 w⟩
    · exact .inr ⟨h, eqn_diff hm (by decide) h⟩
  go_enter Try.func15, Try.ntmps15
  go_upto_region 1 with fail
  obtain ⟨W, hW⟩ : ∃ W, W = ((w.alloc (.cells (numA m) 26))).alloc (.cells #[Value.int .u32 0, .int .u32 0, .int .u32 0, .int .u32 0, .int .u32 0, .int .u32 0, .int .u32 0, .int .u32 0, .int .u32 0, .int .u32 0, .int .u32 0, .int .u32 0, .int .u32 0, .int .u32 0, .int .u32 0, .int .u32 0, .int .u32 0, .int .u32 0, .int .u32 0, .int .u32 0, .int .u32 0, .int .u32 0, .int .u32 0, .int .u32 0, .int .u32 0] 29) := ⟨_, rfl⟩
  have q_m : Num W (w.heap.size) 26 (m) := by
    have := ((Num.new w 26 (m)).alloc (.cells #[Value.int .u32 0, .int .u32 0, .int .u32 0, .int .u32 0, .int .u32 0, .int .u32 0, .int .u32 0, .int .u32 0, .int .u32 0, .int .u32 0, .int .u32 0, .int .u32 0, .int .u32 0, .int .u32 0, .int .u32 0, .int .u32 0, .int .u32 0, .int .u32 0, .int .u32 0, .int .u32 0, .int .u32 0, .int .u32 0, .int .u32 0, .int .u32 0, .int .u32 0] 29))
    rw [hW]; exact this
  have q_c : Blk W (w.heap.size + 1) 29 #[Value.int .u32 0, .int .u32 0, .int .u32 0, .int .u32 0, .int .u32 0, .int .u32 0, .int .u32 0, .int .u32 0, .int .u32 0, .int .u32 0, .int .u32 0, .int .u32 0, .int .u32 0, .int .u32 0, .int .u32 0, .int .u32 0, .int .u32 0, .int .u32 0, .int .u32 0, .int .u32 0, .int .u32 0, .int .u32 0, .int .u32 0, .int .u32 0, .int .u32 0] := by
    have := (Blk.new (w.alloc (.cells (numA m) 26)) 29 (montA 0 0 0 0))
    rw [World.size_alloc, montA_zero] at this
    rw [hW]; exact this
  have gb : Below w.heap.size w W := by rw [hW]; exact (((Below.refl _ _).alloc (by simp <;> omega) _).alloc (by simp <;> omega) _)
  rw [← hW]
  clear hW
  have loc := hid (show w.heap.size ≤ w.heap.size + 1 by omega)
  have nm_c := hid (show w.heap.size ≠ w.heap.size + 1 by omega)
  have c0 := fun X : Later W => (q_m.later X).cell (k := 0) (by decide)
  have f0 := fun X : Later W => (q_m.later X).frozen 0
  rcases PAR with ⟨hp, hd0⟩ | ⟨hp, hd0⟩
  · have hR := HR.out
    rw [if_neg (by omega)] at hR
    subst hR
    refine wp_region_later (by kernel_rfl) (by kernel_rfl) ?_
    go_big_quiet_step (fail)
    go_big_quiet_step (fail)
    go_big_quiet_step (fail)
    go_big_quiet_step (fail)
    go_big_quiet_step (fail)
    first | (refine wpQuiet_load_num rfl _ (.tmp 1) rfl _ rfl _ _ _ q_m Try.underlying26 rfl size26 ?_; simp only [Act.put, List.setIfInBounds_toArray, List.set_cons_zero, List.set_cons_succ]) | go_big_quiet_step (fail)
    go_big_quiet_step (fail)
    go_big_quiet_step (fail)
    go_big_quiet_step (fail)
    refine wpQuiet_nil ?_
    intro X_1
    have m_1 := q_m.step X_1.h
    have c_1 := q_c.step X_1.h
    have c_2 := step_trans gb X_1.h
    clear q_m q_c gb
    go_upto_region 2 with (first | (refine wpList_load_num rfl _ (.tmp 1) rfl _ rfl _ _ _ m_1 Try.underlying26 rfl size26 ?_))
    have bef := c_2
    go_wp2_with (first | (refine wpList_load_num rfl _ (.tmp 1) rfl _ rfl _ _ _ m_1 Try.underlying26 rfl size26 ?_) | (refine wpList_store_blk rfl _ (.tmp 2) _ rfl _ rfl (#[Value.int .u32 0, .int .u32 0, .int .u32 0, .int .u32 0, .int .u32 0, .int .u32 0, .int .u32 0, .int .u32 0, .int .u32 0, .int .u32 0, .int .u32 0, .int .u32 0, .int .u32 0, .int .u32 0, .int .u32 0, .int .u32 0, .int .u32 0, .int .u32 0, .int .u32 0, .int .u32 0, .int .u32 0, .int .u32 0, .int .u32 0, .int .u32 0, .int .u32 0]) rfl z25_cells _ c_1 rfl size_mont ?_; intro wz gz mz))
    exact bodyPost_ret (results_blk_tmp rfl rfl mz Try.underlying29 rfl size_mont) rfl ⟨by rw [montA_zero]; rfl, below_of_grown bef gz bef.size loc.out⟩
  · rcases EQ1 with ⟨h1, k1⟩ | ⟨h1, k1⟩
    · have hR := HR.out
      rw [if_neg (by omega)] at hR
      subst hR
      clear h1
      refine wp_region_later (by kernel_rfl) (by kernel_rfl) ?_
      go_big_quiet_step (fail)
      go_big_quiet_step (fail)
      go_big_quiet_step (fail)
      go_big_quiet_step (fail)
      go_big_quiet_step (fail)
      first | (refine wpQuiet_load_num rfl _ (.tmp 1) rfl _ rfl _ _ _ q_m Try.underlying26 rfl size26 ?_; simp only [Act.put, List.setIfInBounds_toArray, List.set_cons_zero, List.set_cons_succ]) | go_big_quiet_step (fail)
      go_big_quiet_step (exact later_of (rfrom_one _))
      go_big_quiet_step (fail)
      go_big_quiet_step (fail)
      refine wpQuiet_nil ?_
      intro X_1
      have m_1 := q_m.step X_1.h
      have c_1 := q_c.step X_1.h
      have c_2 := step_trans gb X_1.h
      clear q_m q_c gb
      go_upto_region 2 with (first | (refine wpList_load_num rfl _ (.tmp 1) rfl _ rfl _ _ _ m_1 Try.underlying26 rfl size26 ?_))
      have bef := c_2
      go_wp2_with (first | (refine wpList_load_num rfl _ (.tmp 1) rfl _ rfl _ _ _ m_1 Try.underlying26 rfl size26 ?_) | (refine wpList_store_blk rfl _ (.tmp 2) _ rfl _ rfl (#[Value.int .u32 0, .int .u32 0, .int .u32 0, .int .u32 0, .int .u32 0, .int .u32 0, .int .u32 0, .int .u32 0, .int .u32 0, .int .u32 0, .int .u32 0, .int .u32 0, .int .u32 0, .int .u32 0, .int .u32 0, .int .u32 0, .int .u32 0, .int .u32 0, .int .u32 0, .int .u32 0, .int .u32 0, .int .u32 0, .int .u32 0, .int .u32 0, .int .u32 0]) rfl z25_cells _ c_1 rfl size_mont ?_; intro wz gz mz))
      exact bodyPost_ret (results_blk_tmp rfl rfl mz Try.underlying29 rfl size_mont) rfl ⟨by rw [montA_zero]; rfl, below_of_grown bef gz bef.size loc.out⟩
    · have hR := HR.out
      rw [if_pos ⟨by omega, by omega⟩] at hR
      have h0 : 0 < m := by omega
      refine wp_region_later (by kernel_rfl) (by kernel_rfl) ?_
      go_big_quiet_step (fail)
      go_big_quiet_step (fail)
      go_big_quiet_step (fail)
      go_big_quiet_step (fail)
      go_big_quiet_step (fail)
      first | (refine wpQuiet_load_num rfl _ (.tmp 1) rfl _ rfl _ _ _ q_m Try.underlying26 rfl size26 ?_; simp only [Act.put, List.setIfInBounds_toArray, List.set_cons_zero, List.set_cons_succ]) | go_big_quiet_step (fail)
      go_big_quiet_step (exact later_of (rfrom_one _))
      go_big_quiet_step (fail)
      go_big_quiet_step (fail)
      refine wpQuiet_nil ?_
      intro X_1
      have m_1 := q_m.step X_1.h
      have c_1 := q_c.step X_1.h
      have c_2 := step_trans gb X_1.h
      clear q_m q_c gb
      go_upto_region 3 with (first | (refine wpList_load_num rfl _ (.tmp 1) rfl _ rfl _ _ _ m_1 Try.underlying26 rfl size26 ?_))
      clear HR k1 c0 f0
      go_upto_region 4 with (first | (refine wpList_load_num rfl _ (.tmp 1) rfl _ rfl _ _ _ m_1 Try.underlying26 rfl size26 ?_) | (refine wpList_op rfl _ (run_buildM1 _ rfl rfl) ?_) | (refine wpList_store_blk rfl _ (.tmp 4) _ rfl _ rfl (montA m 0 0 0) rfl (montA_cells _ _ _ _) _ (Blk.new _ _ _) rfl size_mont ?_; intro w1 g1 m1))
      try simp only [Act.put, List.setIfInBounds_toArray, List.set_cons_zero, List.set_cons_succ]
      have nm_d := hid (show _ ≠ X_1.w.heap.size from Nat.ne_of_lt m_1.lt)
      have nc_d := hid (show _ ≠ X_1.w.heap.size from Nat.ne_of_lt c_1.lt)
      have lod := hid (show _ ≤ X_1.w.heap.size from c_2.size)
      have b_1 := step_new g1
      have m_2 := m_1.step b_1
      have c_3 := c_1.step b_1
      have c_4 := step_trans c_2 b_1
      clear m_1 c_1 c_2 b_1
      clear g1
      have hr : ∀ w, Calls Try.prog 19 #[.agg #[.int .u32 0, .int .u32 0, .int .u32 0, .int .u32 0, .int .u32 0, .int .u32 0, .int .u32 0, .int .u32 0], numV 1, numV m] w fun e w' => e = .returned (.tuple #[numV (4294967296 ^ 8 % m), .bool (decide (m ≠ 0))]) ∧ Below w.heap.size w w' := fun w => by
        have := rrest_any 0 1 m (by decide) (by decide) hm w
        rw [if_neg (by omega), Nat.zero_add, Nat.one_mul] at this
        rw [zeroA]; exact this
      have hRl : 4294967296 ^ 8 % m < m := Nat.mod_lt _ h0
      generalize 4294967296 ^ 8 % m = R at *
      have hRP : R < 4294967296 ^ 8 := by omega
      have hby := by_any R R m hRP hRP hm h0
      generalize R * R % m = T at *
      refine wp_region_news 8 26 (.cells #[Value.int .u32 0, .int .u32 0, .int .u32 0, .int .u32 0, .int .u32 0, .int .u32 0, .int .u32 0, .int .u32 0] 26) (fun _ _ _ _ _ h => h) (by kernel_rfl) (by kernel_rfl) (by kernel_rfl) (by kernel_rfl) (by kernel_rfl) (by kernel_rfl) (by kernel_rfl) (by kernel_rfl) num_new ?_
      intro V_1
      simp only [calmN, isNew, hush, hushT, List.drop_succ_cons, List.drop_zero]
      have m_3 := m_2.step V_1.h
      have c_5 := c_3.step V_1.h
      have d_1 := m1.step V_1.h
      have c_6 := step_trans c_4 V_1.h
      go_big_quiet_step (fail)
      go_big_quiet_step (exact later_of (rfrom_one _))
      (refine wpQuiet_load_num rfl _ (.tmp 1) rfl _ rfl _ _ _ m_3 Try.underlying26 rfl size26 ?_; simp only [Act.put, List.setIfInBounds_toArray, List.set_cons_zero, List.set_cons_succ])
      go_big_quiet_step (exact later_of (hr _))
      go_big_quiet_step (fail)
      go_big_quiet_step (fail)
      go_big_quiet_step (fail)
      go_big_quiet_step (fail)
      go_big_quiet_step (fail)
      refine wpQuiet_nil ?_
      intro X_2 p_1 hp_1
      obtain ⟨hp_11, hp_12⟩ := hp_1
      have m_4 := m_3.step X_2.h
      have c_7 := c_5.step X_2.h
      have d_2 := d_1.step X_2.h
      have c_8 := step_trans c_6 X_2.h
      simp only [layN, isNew, Act.put, List.setIfInBounds_toArray, List.set_cons_zero, List.set_cons_succ, Nat.zero_add, Nat.reduceAdd]
      clear hp_11 hp_12
      clear m_2 c_3 m1 c_4 m_3 c_5 d_1 c_6
      go_upto_region 5 with (first | (refine wpList_load_num rfl _ (.tmp 1) rfl _ rfl _ _ _ m_4 Try.underlying26 rfl size26 ?_) | (refine wpList_store_part rfl _ (.tmp 26) _ rfl _ 8 rfl (numA R) rfl (numA_cells R) _ _ (montA m R 0 0) d_2 (by rw [montA_size, numA_size]; omega) rfl size26 ?_; intro w2 g2 m2))
      have m_5 := m_4.grown g2 (ne_some nm_d.out)
      have c_9 := c_7.grown g2 (ne_some nc_d.out)
      have c_10 := below_of_grown c_8 g2 c_8.size lod.out
      clear m_4 c_7 d_2 c_8 g2
      go_wp2_with (first | (refine wpList_load_num rfl _ (.tmp 1) rfl _ rfl _ _ _ m_5 Try.underlying26 rfl size26 ?_) | (refine wpList_load_part rfl _ (.tmp 27) rfl _ _ rfl _ _ (numA R) _ m2 montA_r Try.underlying26 rfl size26 ?_) | (refine wpList_load_part rfl _ (.tmp 29) rfl _ _ rfl _ _ (numA R) _ m2 montA_r Try.underlying26 rfl size26 ?_))
      refine (hby _).mono ?_
      rintro e w1 ⟨rfl, bw1⟩
      have m_6 := m_5.step bw1
      have c_11 := c_9.step bw1
      have d_3 := m2.step bw1
      have c_12 := step_trans c_10 bw1
      clear m_5 c_9 m2 c_10 bw1
      go_upto_region 7 with (first | (refine wpList_load_blk rfl _ (.tmp 4) rfl _ rfl _ _ _ d_3 Try.underlying29 rfl size_mont ?_) | (refine wpList_store_part rfl _ (.tmp 33) _ rfl _ 16 rfl (numA T) rfl (numA_cells T) _ _ (montA m R T 0) d_3 (by rw [montA_size, numA_size]; omega) rfl size26 ?_; intro w3 g3 m3))
      have m_7 := m_6.grown g3 (ne_some nm_d.out)
      have c_13 := c_11.grown g3 (ne_some nc_d.out)
      have c_14 := below_of_grown c_12 g3 c_12.size lod.out
      clear m_6 c_11 d_3 c_12 g3
      have HB := hid (itI_bd (o := digI m 0) (x := 1) ⟨by decide, by decide⟩)
      have HI : Hid (∀ k, nxI (digI m 0) (itI (digI m 0) k 1) = itI (digI m 0) (k + 1) 1) := hid (fun _ => rfl)
      have H0 : Hid (itI (digI m 0) 0 1 = 1) := hid rfl
      have HS : Hid (-(itI (digI m 0) 5 1) % 4294967296 = ngI (digI m 0)) := hid (ng_same (by
        have : digI m 0 = ((m % 4294967296 : Nat) : Int) := by unfold digI dig; simp
        rw [this]; omega) (digI_ge _ _) (digI_lt _ _))
      have hod := digI_ge m 0
      have hol := digI_lt m 0
      have c0 := m_7.cell (k := 0) (by decide)
      have f0 := m_7.frozen 0
      have md := m3
      obtain ⟨o, ho⟩ : ∃ o, digI m 0 = o := ⟨_, rfl⟩
      rw [ho] at HB HI HS H0 hod hol hR c0
      clear hp hd0 ho
      generalize ngI o = N at *
      obtain ⟨W3, rfl⟩ : ∃ W, W = w3 := ⟨_, rfl⟩
      go_wp2_with fail
      go_loopw [5, 6] (fun x i wr => ∃ k : Nat, k ≤ 5 ∧ i = .int .i64 (k : Int) ∧ x = .int .u32 (itI o k 1) ∧ wr = W3) (fun _ i _ => 5 - (intOf i).toNat)
      case atStart => exact ⟨0, by omega, rfl, by rw [H0.out], rfl⟩
      case round =>
        obtain ⟨k, hk, rfl, rfl, rfl⟩ := hrel
        by_cases hlt : k < 5
        · obtain ⟨b1, b2⟩ := HB.out k
          have hi := HI.out k
          obtain ⟨X, hX⟩ : ∃ X, itI o k 1 = X := ⟨_, rfl⟩
          rw [hX] at b1 b2 hi ⊢
          have hn : Hid (nxI o X = X * ((2 - o * X) % 4294967296) % 4294967296) := hid rfl
          clear hX
          go_wp2_with fail
          go_roundw
          case rel => exact ⟨k + 1, by omega, by go_num, by rw [← hi, hn.out], trivial⟩
          case measure => simp [intOf] <;> omega
        · obtain rfl : k = 5 := by omega
          have hs := HS.out
          have hz : (0 : Int) - itI o 5 1 = -(itI o 5 1) := by omega
          have hs2 : IntKind.u32.wrap (0 - itI o 5 1) = N := by rw [hz, ← hs]; rfl
          have hs3 : IntKind.u32.wrap (-(itI o 5 1)) = N := by rw [← hs]; rfl
          have md24 := md.cell (k := 24) rfl
          have mdf := md.frozen 24
          have n24 := md.set 24 (.int .u32 N) (c' := montA m R T N) rfl
          have g24 := grown_set (p := ⟨X_1.w.heap.size, 24, none⟩) (World.grownBy.refl wr (some (X_1.w.heap.size))) rfl (.int .u32 N)
          go_upto_region 12 with fail
          generalize World.setCell _ _ _ = w5 at *
          have kc := c_13.grown g24 (ne_some nc_d.out)
          have bef := below_of_grown c_14 g24 c_14.size lod.out
          go_wp2_with (first | (refine wpList_load_blk rfl _ (.tmp 4) rfl _ rfl _ _ _ n24 Try.underlying29 rfl size_mont ?_) | (refine wpList_store_blk rfl _ (.tmp 2) _ rfl _ rfl (montA m R T N) rfl (montA_cells _ _ _ _) _ kc rfl size_mont ?_; intro wz gz mz))
          exact bodyPost_ret (results_blk_tmp rfl rfl mz Try.underlying29 rfl size_mont) rfl ⟨by rw [← hR]; rfl, below_of_grown bef gz bef.size loc.out⟩
end Go.Proofs.Ytcfobgimpflneaa
