/- A row without another one. -/
import Derived.Test.YtcfobgimpflneaaGaRow
import Derived.Test.YtcfobgimpflneaaGaInv
namespace Go.Proofs.Ytcfobgimpflneaa
set_option linter.unusedVariables false
set_option linter.unusedSimpArgs false
open Go.ChangeShapes Go.WideShapes Go.ChangeAt Go.RowKit
set_option maxRecDepth 100000 in
set_option maxHeartbeats 16000000 in
theorem without_any (A ta B tb : Nat) (hA : A < 4294967296 ^ 8) (h0 : 0 < B) (hBA : B ≤ A) (hT : ta + A / B * tb < 4294967296 ^ 8) (w : World) :
    Calls Try.prog 49 #[.agg (mrowA A ta), .agg (mrowA B tb)] w fun e w' => e = .returned (.agg (mrowA (A % B) (ta + A / B * tb))) ∧ Below w.heap.size w w' := by
  obtain ⟨KA, KB, K, k1, k2, k3, k4, k5, k6⟩ := wo_pack hA h0 hBA
  have hba := fun w => bits_any A w
  have hbb := fun w => bits_any B w
  rw [k1] at hba
  rw [k2] at hbb
  have H0 := hid h0
  have HK := hid k6
  have HA1 := hid k5
  have HAP := hid hA
  have HT := hid hT
  obtain ⟨RM, hRM⟩ : ∃ RM, A % B = RM := ⟨_, rfl⟩
  obtain ⟨TT, hTT⟩ : ∃ TT, ta + A / B * tb = TT := ⟨_, rfl⟩
  rw [hRM, hTT]
  clear k1 k2 k5 k6 hA h0 hT hBA
  go_enter Try.func49, Try.ntmps49
  go_upto_region 1 with fail
  obtain ⟨W, hW⟩ : ∃ W, W = ((((w.alloc (.cells (mrowA A ta) 67))).alloc (.cells (mrowA B tb) 67))).alloc (.cells #[Value.int .u32 0, .int .u32 0, .int .u32 0, .int .u32 0, .int .u32 0, .int .u32 0, .int .u32 0, .int .u32 0, .int .u32 0, .int .u32 0, .int .u32 0, .int .u32 0, .int .u32 0, .int .u32 0, .int .u32 0, .int .u32 0] 67) := ⟨_, rfl⟩
  have q_r : Blk W (w.heap.size) 67 (mrowA A ta) := by
    have := (((Blk.new w 67 (mrowA A ta)).alloc (.cells (mrowA B tb) 67)).alloc (.cells #[Value.int .u32 0, .int .u32 0, .int .u32 0, .int .u32 0, .int .u32 0, .int .u32 0, .int .u32 0, .int .u32 0, .int .u32 0, .int .u32 0, .int .u32 0, .int .u32 0, .int .u32 0, .int .u32 0, .int .u32 0, .int .u32 0] 67))
    rw [hW]; exact this
  have q_b : Blk W (w.heap.size + 1) 67 (mrowA B tb) := by
    have := ((Blk.new (w.alloc (.cells (mrowA A ta) 67)) 67 (mrowA B tb)).alloc (.cells #[Value.int .u32 0, .int .u32 0, .int .u32 0, .int .u32 0, .int .u32 0, .int .u32 0, .int .u32 0, .int .u32 0, .int .u32 0, .int .u32 0, .int .u32 0, .int .u32 0, .int .u32 0, .int .u32 0, .int .u32 0, .int .u32 0] 67))
    rw [World.size_alloc] at this
    rw [hW]; exact this
  have q_o : Blk W (w.heap.size + 1 + 1) 67 #[Value.int .u32 0, .int .u32 0, .int .u32 0, .int .u32 0, .int .u32 0, .int .u32 0, .int .u32 0, .int .u32 0, .int .u32 0, .int .u32 0, .int .u32 0, .int .u32 0, .int .u32 0, .int .u32 0, .int .u32 0, .int .u32 0] := by
    have := (Blk.new (((w.alloc (.cells (mrowA A ta) 67))).alloc (.cells (mrowA B tb) 67)) 67 (mrowA 0 0))
    rw [World.size_alloc, World.size_alloc, mrowA_zero] at this
    rw [hW]; exact this
  have gb : Below w.heap.size w W := by rw [hW]; exact ((((Below.refl _ _).alloc (by simp <;> omega) _).alloc (by simp <;> omega) _).alloc (by simp <;> omega) _)
  rw [← hW]
  clear hW
  refine wp_region_later (by kernel_rfl) (by kernel_rfl) ?_
  go_big_quiet_step (fail)
  (refine wpQuiet_load_part rfl _ (.tmp 8) rfl _ _ rfl _ _ (numA A) _ q_r mrowA_r Try.underlying26 rfl size26 ?_; simp only [Act.put, List.setIfInBounds_toArray, List.set_cons_zero, List.set_cons_succ])
  go_big_quiet_step (exact later_of (hba _))
  go_big_quiet_step (fail)
  (refine wpQuiet_load_part rfl _ (.tmp 11) rfl _ _ rfl _ _ (numA B) _ q_b mrowA_r Try.underlying26 rfl size26 ?_; simp only [Act.put, List.setIfInBounds_toArray, List.set_cons_zero, List.set_cons_succ])
  go_big_quiet_step (exact later_of (hbb _))
  go_big_quiet_step (fail)
  go_big_quiet_step (fail)
  refine wpQuiet_nil ?_
  intro X_1
  have r_1 := q_r.step X_1.h
  have b_1 := q_b.step X_1.h
  have o_1 := q_o.step X_1.h
  have c_1 := step_trans gb X_1.h
  clear q_r q_b q_o gb
  obtain ⟨W0, hW0⟩ : ∃ W, W = X_1.w := ⟨_, rfl⟩
  rw [← hW0] at r_1 b_1 o_1 c_1 ⊢
  clear hW0
  have rw0 := r_1
  go_wp2_with fail
  go_loopw [5] (fun i wr => ∃ k R q : Nat, k ≤ K + 1 ∧ i = .int .i64 ((k : Int) - 1) ∧ Hid (A = R + q * B) ∧ Hid (R < B * 2 ^ k) ∧ Blk wr w.heap.size 67 (mrowA R (ta + q * tb)) ∧ Blk wr (w.heap.size + 1) 67 (mrowA B tb) ∧ Blk wr (w.heap.size + 1 + 1) 67 #[Value.int .u32 0, .int .u32 0, .int .u32 0, .int .u32 0, .int .u32 0, .int .u32 0, .int .u32 0, .int .u32 0, .int .u32 0, .int .u32 0, .int .u32 0, .int .u32 0, .int .u32 0, .int .u32 0, .int .u32 0, .int .u32 0] ∧ Below w.heap.size w wr) (fun i _ => (intOf i + 1).toNat)
  case atStart => exact ⟨K + 1, A, 0, Nat.le_refl _, by go_num, hid (by omega), HA1, by rw [Nat.zero_mul, Nat.add_zero]; exact rw0, b_1, o_1, c_1⟩
  case round =>
    obtain ⟨k, R, q, hk, rfl, hAR, hRk, hX0, hb1, ho1, hw1⟩ := hrel
    clear rw0 r_1 b_1 o_1 c_1
    obtain ⟨U, hU⟩ : ∃ U, U = ta + q * tb := ⟨_, rfl⟩
    rw [← hU] at hX0
    have nb_r : Hid (_ ≠ w.heap.size) := hid (Nat.ne_of_gt (show w.heap.size < w.heap.size + 1 by omega))
    have no_r : Hid (_ ≠ w.heap.size) := hid (Nat.ne_of_gt (show w.heap.size < w.heap.size + 1 + 1 by omega))
    have lor : Hid (w.heap.size ≤ w.heap.size) := hid (Nat.le_refl _)
    rcases Nat.eq_zero_or_pos k with rfl | hkp
    · rw [show ((0 : Nat) : Int) - 1 = -1 from rfl]
      obtain ⟨e1, e2⟩ := wo_end H0.out hAR.out hRk.out
      have e3 : U = TT := by rw [hU, e2]; exact hTT
      have e4 : R = RM := by rw [e1]; exact hRM
      clear e1 e2 hU hTT hRM
      have bef := hw1
      go_wp2_with (first | (refine wpList_load_blk rfl _ (.tmp 2) rfl _ rfl _ _ _ hX0 Try.underlying67 rfl size_mrow ?_) | (refine wpList_store_blk rfl _ (.tmp 4) _ rfl _ rfl (mrowA R U) rfl (mrowA_cells _ _) _ ho1 rfl size_mrow ?_; intro wz gz mz))
      exact bodyPost_ret (results_blk rfl rfl mz Try.underlying67 rfl size_mrow) rfl ⟨by rw [e3, e4], below_of_grown bef gz bef.size (by omega)⟩
    · obtain ⟨j, rfl⟩ : ∃ j, k = j + 1 := ⟨k - 1, by omega⟩
      rw [show ((j + 1 : Nat) : Int) - 1 = (j : Int) by omega]
      obtain ⟨s1, s2, hway⟩ := wo_step (j := j) (by omega) H0.out HK.out hAR.out hRk.out HAP.out HT.out
      have hsh := fun (x : Nat) (w : World) => shift_any x (j / 32) (j % 32) (j : Int) (by omega) (by omega) (by omega) w
      rw [show 32 * (j / 32) + j % 32 = j by omega] at hsh
      have hshB := hsh B
      have hshT := hsh tb
      rw [s1] at hshB
      obtain ⟨S, hS⟩ : ∃ S, B * 2 ^ j = S := ⟨_, rfl⟩
      rw [hS] at hshB s2 hway
      have HU := hid hU
      clear s1 hsh hU
      have hRP : R < 4294967296 ^ 8 := by have := hAR.out; have := HAP.out; omega
      have hsub := sub_any R S hRP s2
      clear s2
      go_upto_region 4 with (first | (refine wpList_load_part rfl _ (.tmp 20) rfl _ _ rfl _ _ (numA R) _ hX0 mrowA_r Try.underlying26 rfl size26 ?_) | (refine wpList_load_part rfl _ (.tmp 22) rfl _ _ rfl _ _ (numA B) _ hb1 mrowA_r Try.underlying26 rfl size26 ?_))
      rcases hway with ⟨v1, v2, v3, v4, v5, v6, v7, v8, v9⟩ | ⟨v1, v2⟩
      · rw [v2, v3] at hsub
        rw [v6] at hshT
        have hadd := add_any U (tb * 2 ^ j) (by rw [HU.out]; exact v8) v9
        rw [HU.out, v7, ← HU.out] at hadd
        generalize tb * 2 ^ j = TS at *
        replace v4 := hid v4
        replace v5 := hid v5
        obtain ⟨R', hR'⟩ : ∃ R', R - S = R' := ⟨_, rfl⟩
        rw [hR'] at hsub v4 v5
        obtain ⟨U', hU'⟩ : ∃ U', Hid (ta + (q + 2 ^ j) * tb = U') := ⟨_, hid rfl⟩
        rw [hU'.out] at hadd
        clear hR' v1 v2 v3 v6 v7 v8 v9
        refine wp_region_news 11 26 (.cells #[Value.int .u32 0, .int .u32 0, .int .u32 0, .int .u32 0, .int .u32 0, .int .u32 0, .int .u32 0, .int .u32 0] 26) (fun _ _ _ _ _ h => h) (by kernel_rfl) (by kernel_rfl) (by kernel_rfl) (by kernel_rfl) (by kernel_rfl) (by kernel_rfl) (by kernel_rfl) (by kernel_rfl) num_new ?_
        intro V_1
        simp only [calmN, isNew, hush, hushT, List.drop_succ_cons, List.drop_zero]
        have r_2 := hX0.step V_1.h
        have b_2 := hb1.step V_1.h
        have o_2 := ho1.step V_1.h
        have c_2 := step_trans hw1 V_1.h
        go_big_quiet_step (fail)
        (refine wpQuiet_load_part rfl _ (.tmp 20) rfl _ _ rfl _ _ (numA R) _ r_2 mrowA_r Try.underlying26 rfl size26 ?_; simp only [Act.put, List.setIfInBounds_toArray, List.set_cons_zero, List.set_cons_succ])
        go_big_quiet_step (fail)
        (refine wpQuiet_load_part rfl _ (.tmp 22) rfl _ _ rfl _ _ (numA B) _ b_2 mrowA_r Try.underlying26 rfl size26 ?_; simp only [Act.put, List.setIfInBounds_toArray, List.set_cons_zero, List.set_cons_succ])
        go_big_quiet_step (fail)
        go_big_quiet_step (exact later_of (hshB _))
        go_big_quiet_step (exact later_of (hsub _))
        go_big_quiet_step (fail)
        go_big_quiet_step (fail)
        go_big_quiet_step (fail)
        go_big_quiet_step (fail)
        go_big_quiet_step (fail)
        go_big_quiet_step (fail)
        refine wpQuiet_nil ?_
        intro X_2 p_1 hp_1
        obtain ⟨hp_11, hp_12⟩ := hp_1
        have r_3 := r_2.step X_2.h
        have b_3 := b_2.step X_2.h
        have o_3 := o_2.step X_2.h
        have c_3 := step_trans c_2 X_2.h
        obtain ⟨lp_110, ep_110⟩ := hp_11 10 _ rfl rfl
        simp only [layN, isNew, Act.put, List.setIfInBounds_toArray, List.set_cons_zero, List.set_cons_succ, Nat.zero_add, Nat.reduceAdd]
        clear hp_11 hp_12
        generalize p_1 10 = bp_110 at *
        go_upto_region 5 with (first | (refine wpList_store_num rfl _ (.tmp 6) _ rfl _ rfl _ rfl _ rfl ep_110 size26 ?_; intro w1 gw1 mw1; have r_4 := r_3.grown gw1 (ne_new hX0.lt lp_110); have b_4 := b_3.grown gw1 (ne_new hb1.lt lp_110); have o_4 := o_3.grown gw1 (ne_new ho1.lt lp_110); have c_4 := below_of_grown c_3 gw1 c_3.size (Nat.le_trans hw1.size lp_110); clear r_3 b_3 o_3 ep_110 c_3 gw1 hX0 hb1 ho1 hw1 r_2 b_2 o_2 c_2 lp_110) | (refine wpList_load_num rfl _ (.tmp 6) rfl _ rfl _ _ _ mw1 Try.underlying26 rfl size26 ?_))
        go_upto_region 6 with (first | (refine wpList_load_num rfl _ (.tmp 6) rfl _ rfl _ _ _ mw1 Try.underlying26 rfl size26 ?_))
        go_upto_region 7 with (first | (refine wpList_load_num rfl _ (.tmp 6) rfl _ rfl _ _ _ mw1 Try.underlying26 rfl size26 ?_) | (refine wpList_store_part rfl _ (.tmp 32) _ rfl _ 0 rfl (numA R') rfl (numA_cells R') _ _ (mrowA R' U) r_4 (by rw [mrowA_size, numA_size]; omega) rfl size26 ?_; intro wy gy my))
        try simp only [Act.put, List.setIfInBounds_toArray, List.set_cons_zero, List.set_cons_succ]
        have b_5 := b_4.grown gy (ne_some nb_r.out)
        have o_5 := o_4.grown gy (ne_some no_r.out)
        have c_5 := below_of_grown c_4 gy c_4.size lor.out
        clear r_4 b_4 o_4 c_4 gy
        refine wp_region_news 11 26 (.cells #[Value.int .u32 0, .int .u32 0, .int .u32 0, .int .u32 0, .int .u32 0, .int .u32 0, .int .u32 0, .int .u32 0] 26) (fun _ _ _ _ _ h => h) (by kernel_rfl) (by kernel_rfl) (by kernel_rfl) (by kernel_rfl) (by kernel_rfl) (by kernel_rfl) (by kernel_rfl) (by kernel_rfl) num_new ?_
        intro V_2
        simp only [calmN, isNew, hush, hushT, List.drop_succ_cons, List.drop_zero]
        have r_5 := my.step V_2.h
        have b_6 := b_5.step V_2.h
        have o_6 := o_5.step V_2.h
        have c_6 := step_trans c_5 V_2.h
        go_big_quiet_step (fail)
        (refine wpQuiet_load_part rfl _ (.tmp 34) rfl _ _ rfl _ _ (numA U) _ r_5 mrowA_t Try.underlying26 rfl size26 ?_; simp only [Act.put, List.setIfInBounds_toArray, List.set_cons_zero, List.set_cons_succ])
        go_big_quiet_step (fail)
        (refine wpQuiet_load_part rfl _ (.tmp 36) rfl _ _ rfl _ _ (numA tb) _ b_6 mrowA_t Try.underlying26 rfl size26 ?_; simp only [Act.put, List.setIfInBounds_toArray, List.set_cons_zero, List.set_cons_succ])
        go_big_quiet_step (fail)
        go_big_quiet_step (exact later_of (hshT _))
        go_big_quiet_step (exact later_of (hadd _))
        go_big_quiet_step (fail)
        go_big_quiet_step (fail)
        go_big_quiet_step (fail)
        go_big_quiet_step (fail)
        go_big_quiet_step (fail)
        refine wpQuiet_nil ?_
        intro X_3 p_2 hp_2
        obtain ⟨hp_21, hp_22⟩ := hp_2
        have r_6 := r_5.step X_3.h
        have b_7 := b_6.step X_3.h
        have o_7 := o_6.step X_3.h
        have c_7 := step_trans c_6 X_3.h
        simp only [layN, isNew, Act.put, List.setIfInBounds_toArray, List.set_cons_zero, List.set_cons_succ, Nat.zero_add, Nat.reduceAdd]
        clear hp_21 hp_22
        clear my b_5 o_5 c_5 r_5 b_6 o_6 c_6
        go_wp2_with (first | (refine wpList_load_blk rfl _ (.tmp 2) rfl _ rfl _ _ _ r_6 Try.underlying67 rfl size_mrow ?_) | (refine wpList_store_part rfl _ (.tmp 43) _ rfl _ 8 rfl (numA U') rfl (numA_cells U') _ _ (mrowA R' U') r_6 (by rw [mrowA_size, numA_size]; omega) rfl size26 ?_; intro wv gv mv))
        go_roundw
        case rel =>
          have b_8 := b_7.grown gv (ne_some nb_r.out)
          have o_8 := o_7.grown gv (ne_some no_r.out)
          have c_8 := below_of_grown c_7 gv c_7.size lor.out
          clear r_6 b_7 o_7 c_7 gv
          exact ⟨j, R', q + 2 ^ j, by omega, rfl, v4, hid (by rw [hS]; exact v5.out), by rw [hU'.out]; exact mv, b_8, o_8, c_8⟩
        case measure => simp [intOf] <;> omega
      · rw [v2] at hsub
        have hRS : Hid (R < B * 2 ^ j) := hid (by rw [hS]; exact v1)
        refine wp_region_news 11 26 (.cells #[Value.int .u32 0, .int .u32 0, .int .u32 0, .int .u32 0, .int .u32 0, .int .u32 0, .int .u32 0, .int .u32 0] 26) (fun _ _ _ _ _ h => h) (by kernel_rfl) (by kernel_rfl) (by kernel_rfl) (by kernel_rfl) (by kernel_rfl) (by kernel_rfl) (by kernel_rfl) (by kernel_rfl) num_new ?_
        intro V_1
        simp only [calmN, isNew, hush, hushT, List.drop_succ_cons, List.drop_zero]
        have r_2 := hX0.step V_1.h
        have b_2 := hb1.step V_1.h
        have o_2 := ho1.step V_1.h
        have c_2 := step_trans hw1 V_1.h
        go_big_quiet_step (fail)
        (refine wpQuiet_load_part rfl _ (.tmp 20) rfl _ _ rfl _ _ (numA R) _ r_2 mrowA_r Try.underlying26 rfl size26 ?_; simp only [Act.put, List.setIfInBounds_toArray, List.set_cons_zero, List.set_cons_succ])
        go_big_quiet_step (fail)
        (refine wpQuiet_load_part rfl _ (.tmp 22) rfl _ _ rfl _ _ (numA B) _ b_2 mrowA_r Try.underlying26 rfl size26 ?_; simp only [Act.put, List.setIfInBounds_toArray, List.set_cons_zero, List.set_cons_succ])
        go_big_quiet_step (fail)
        go_big_quiet_step (exact later_of (hshB _))
        go_big_quiet_step (exact later_of (hsub _))
        go_big_quiet_step (fail)
        go_big_quiet_step (fail)
        go_big_quiet_step (fail)
        go_big_quiet_step (fail)
        go_big_quiet_step (fail)
        go_big_quiet_step (fail)
        refine wpQuiet_nil ?_
        intro X_2 p_1 hp_1
        obtain ⟨hp_11, hp_12⟩ := hp_1
        have r_3 := r_2.step X_2.h
        have b_3 := b_2.step X_2.h
        have o_3 := o_2.step X_2.h
        have c_3 := step_trans c_2 X_2.h
        obtain ⟨lp_110, ep_110⟩ := hp_11 10 _ rfl rfl
        simp only [layN, isNew, Act.put, List.setIfInBounds_toArray, List.set_cons_zero, List.set_cons_succ, Nat.zero_add, Nat.reduceAdd]
        clear hp_11 hp_12
        generalize p_1 10 = bp_110 at *
        go_upto_region 5 with (first | (refine wpList_store_num rfl _ (.tmp 6) _ rfl _ rfl _ rfl _ rfl ep_110 size26 ?_; intro w1 gw1 mw1; have r_4 := r_3.grown gw1 (ne_new hX0.lt lp_110); have b_4 := b_3.grown gw1 (ne_new hb1.lt lp_110); have o_4 := o_3.grown gw1 (ne_new ho1.lt lp_110); have c_4 := below_of_grown c_3 gw1 c_3.size (Nat.le_trans hw1.size lp_110); clear r_3 b_3 o_3 ep_110 c_3 gw1 hX0 hb1 ho1 hw1 r_2 b_2 o_2 c_2 lp_110) | (refine wpList_load_num rfl _ (.tmp 6) rfl _ rfl _ _ _ mw1 Try.underlying26 rfl size26 ?_))
        go_wp2_with fail
        go_roundw
        case rel => exact ⟨j, R, q, by omega, rfl, hAR, hRS, by rw [← HU.out]; exact r_4, b_4, o_4, c_4⟩
        case measure => simp [intOf] <;> omega
end Go.Proofs.Ytcfobgimpflneaa
