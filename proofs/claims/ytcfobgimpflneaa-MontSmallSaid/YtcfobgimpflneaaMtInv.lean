/- mont.Inverse. -/
import Derived.Test.YtcfobgimpflneaaGaRow
import Derived.Test.YtcfobgimpflneaaMtWo
import Derived.Test.YtcfobgimpflneaaGaRel
import Derived.Test.YtcfobgimpflneaaGaKn
import Derived.Test.YtcfobgimpflneaaGaRest
namespace Go.Proofs.Ytcfobgimpflneaa
set_option linter.unusedVariables false
set_option linter.unusedSimpArgs false
open Go.ChangeShapes Go.WideShapes Go.ChangeAt Go.RowKit
theorem run_ld_blk {P : Program} {o : Oper} {a : Act} {w : World} {ty : TypeId} (x : Operand) (ho : o.op = .load ty x) {g : Nat} (hx : a.eval x = .pointer (some ⟨g, 0, none⟩)) {t : TypeId} {c : Array Value} {d : TypeDesc} (hg : Blk w g t c) (hu : P.underlying ty = some d)
    (hd : (match d with | .struct _ | .array _ _ => true | _ => false) = true) (hi : (P.info? ty).map (·.size) = some c.size) : (execOp a.eval o).run P w = .ok (.value (.agg c)) w := by
  simp [execOp, ho, hx, run_load_blk w ty g t c d hg hu hd hi, Result.andThen]
theorem row_new (o : Oper) (a : Act) (w : World) (h : o.op = .alloc 67) : (execOp a.eval o).run Try.prog w = .ok (.value (.pointer (some ⟨w.heap.size, 0, none⟩))) (w.alloc (.cells #[Value.int .u32 0, .int .u32 0, .int .u32 0, .int .u32 0, .int .u32 0, .int .u32 0, .int .u32 0, .int .u32 0, .int .u32 0, .int .u32 0, .int .u32 0, .int .u32 0, .int .u32 0, .int .u32 0, .int .u32 0, .int .u32 0] 67)) := by
  unfold execOp
  simp only [h]
  kernel_rfl
theorem run_buildR2 {a : Act} {w : World} {o : Oper} (x0 x1 : Operand) (ho : o.op = .build 67 #[(0, x0), (1, x1)]) {r t : Nat} (h0 : a.eval x0 = numV r) (h1 : a.eval x1 = numV t) : (execOp a.eval o).run Try.prog w = .ok (.value (.agg (mrowA r t))) w := by
  unfold execOp
  simp only [ho, List.map_toArray, List.map_cons, List.map_nil, h0, h1]
  kernel_rfl
theorem mrowA_r0 (m : Nat) : mrowA m 0 = #[numF m 0, numF m 1, numF m 2, numF m 3, numF m 4, numF m 5, numF m 6, numF m 7, .int .u32 0, .int .u32 0, .int .u32 0, .int .u32 0, .int .u32 0, .int .u32 0, .int .u32 0, .int .u32 0] := by unfold mrowA; simp only [numF_none]
theorem run_buildR1 {a : Act} {w : World} {o : Oper} (x0 : Operand) (ho : o.op = .build 67 #[(0, x0)]) {r : Nat} (h0 : a.eval x0 = numV r) : (execOp a.eval o).run Try.prog w = .ok (.value (.agg (mrowA r 0))) w := by
  rw [mrowA_r0]
  unfold execOp
  simp only [ho, List.map_toArray, List.map_cons, List.map_nil, h0]
  kernel_rfl
/-- What is left in the row that slot 10 points at. -/
def muI (a : Act) (w : World) : Nat :=
  match a.tmps.getD 10 undef with
  | .pointer (some p) => (match w.heap[p.block]? with
    | some (.cells c _ _) => (valI (fun k => intOf (c.getD k undef)) 8).toNat
    | _ => 0)
  | _ => 0
theorem mu_blk {a : Act} {w : World} {p : Addr} {t : TypeId} {r u : Nat} (h : a.tmps.getD 10 undef = .pointer (some p)) (hb : Blk w p.block t (mrowA r u)) (hr : r < 4294967296 ^ 8) : muI a w = r := by
  unfold muI
  rw [h]
  have hb' : w.heap[p.block]? = some (.cells (mrowA r u) t (0, 0)) := hb
  simp only [hb']
  have e := valI_dig r 8
  rw [Nat.mod_eq_of_lt hr] at e
  have e2 : valI (fun k => intOf ((mrowA r u).getD k undef)) 8 = valI (digI r) 8 := rfl
  rw [e2, e]
  rfl
set_option maxRecDepth 100000 in
set_option maxHeartbeats 16000000 in
theorem inverse_any (a m : Nat) (ha : a < 4294967296 ^ 8) (hm : m < 4294967296 ^ 8) (w : World) :
    Calls Try.prog 29 #[numV a, numV m] w fun e w' => e = .returned (.tuple #[numV (invN a m), .bool (invB a m)]) ∧ Below w.heap.size w w' := by
  have hr0 : m = 0 → ∀ w, Calls Try.prog 36 #[numV a, .agg #[.int .u32 0, .int .u32 0, .int .u32 0, .int .u32 0, .int .u32 0, .int .u32 0, .int .u32 0, .int .u32 0], numV m] w fun e w' => e = .returned (.tuple #[numV 0, .bool false]) ∧ Below w.heap.size w w' := fun h0 w => by
    have := rest_any a 0 m ha (by decide) hm w
    rw [if_pos h0, h0] at this
    rw [zeroA, h0]; exact this
  have hr1 : 0 < m → ∀ w, Calls Try.prog 36 #[numV a, .agg #[.int .u32 0, .int .u32 0, .int .u32 0, .int .u32 0, .int .u32 0, .int .u32 0, .int .u32 0, .int .u32 0], numV m] w fun e w' => e = .returned (.tuple #[numV (a % m), .bool true]) ∧ Below w.heap.size w w' := fun h0 w => by
    have := rest_any a 0 m ha (by decide) hm w
    rw [if_neg (by omega), Nat.zero_mul, Nat.add_zero, decide_eq_true (show m ≠ 0 by omega)] at this
    rw [zeroA]; exact this
  obtain ⟨V, hV⟩ : ∃ V, Hid (invN a m = V) := ⟨_, hid rfl⟩
  obtain ⟨BB, hBB⟩ : ∃ b, Hid (invB a m = b) := ⟨_, hid rfl⟩
  rw [hV.out, hBB.out]
  go_enter Try.func29, Try.ntmps29
  go_wp2_with fail
  obtain ⟨W, hW⟩ : ∃ W, W = ((((w.alloc (.cells (numA a) 26))).alloc (.cells (numA m) 26))).alloc (.cells #[Value.int .u32 0, .int .u32 0, .int .u32 0, .int .u32 0, .int .u32 0, .int .u32 0, .int .u32 0, .int .u32 0] 26) := ⟨_, rfl⟩
  have q_a : Num W (w.heap.size) 26 (a) := by
    have := (((Num.new w 26 (a)).alloc (.cells (numA m) 26)).alloc (.cells #[Value.int .u32 0, .int .u32 0, .int .u32 0, .int .u32 0, .int .u32 0, .int .u32 0, .int .u32 0, .int .u32 0] 26))
    rw [hW]; exact this
  have q_m : Num W (w.heap.size + 1) 26 (m) := by
    have := ((Num.new (w.alloc (.cells (numA a) 26)) 26 (m)).alloc (.cells #[Value.int .u32 0, .int .u32 0, .int .u32 0, .int .u32 0, .int .u32 0, .int .u32 0, .int .u32 0, .int .u32 0] 26))
    rw [World.size_alloc] at this
    rw [hW]; exact this
  have q_r : Num W (w.heap.size + 1 + 1) 26 0 := by
    have := (Num.new (((w.alloc (.cells (numA a) 26))).alloc (.cells (numA m) 26)) 26 0)
    rw [World.size_alloc, World.size_alloc, ← zeroA] at this
    rw [hW]; exact this
  have gb : Below w.heap.size w W := by rw [hW]; exact ((((Below.refl _ _).alloc (by simp <;> omega) _).alloc (by simp <;> omega) _).alloc (by simp <;> omega) _)
  rw [← hW]
  clear hW
  have lor := hid (show w.heap.size ≤ w.heap.size + 1 + 1 by omega)
  have na_r := hid (show w.heap.size ≠ w.heap.size + 1 + 1 by omega)
  have nm_r := hid (show w.heap.size + 1 ≠ w.heap.size + 1 + 1 by omega)
  have hmP := hid hm
  clear hm
  rcases Nat.eq_zero_or_pos m with h0 | h0
  · obtain rfl : BB = false := by rw [← hBB.out, h0]; exact (inv_zero a).1
    obtain rfl : V = 0 := by rw [← hV.out, h0]; exact (inv_zero a).2
    subst h0
    have hr := fun w => hr0 rfl w
    clear hr0 hr1
    go_step3
    go_wp2_with (first | (refine wpList_load_num rfl _ (.tmp 2) rfl _ rfl _ _ _ q_a Try.underlying26 rfl size26 ?_) | (refine wpList_load_num rfl _ (.tmp 3) rfl _ rfl _ _ _ q_m Try.underlying26 rfl size26 ?_))
    refine (hr _).mono ?_
    rintro e w1 ⟨rfl, bw1⟩
    have a_1 := q_a.step bw1
    have m_1 := q_m.step bw1
    have r_1 := q_r.step bw1
    have c_1 := step_trans gb bw1
    clear q_a q_m q_r gb bw1
    go_upto_region 3 with (first | (refine wpList_store_num rfl _ (.tmp 6) _ rfl _ rfl _ rfl _ rfl (heap_alloc_new _ _) size26 ?_; intro w2 gw2 mw2; have b_1 := step_new gw2; have nr_x := hid (show _ ≠ w1.heap.size from Nat.ne_of_lt (Nat.lt_of_lt_of_le r_1.lt (by omega))); have a_2 := a_1.step b_1; have m_2 := m_1.step b_1; have r_2 := r_1.step b_1; have c_2 := step_trans c_1 b_1; clear a_1 m_1 r_1 c_1 b_1 gw2))
    have bef := c_2
    go_wp2_with (first | (refine wpList_store_num rfl _ (.tmp 4) _ rfl _ rfl 0 zeroV8 _ rfl r_2 size26 ?_; intro wz gz mz))
    rw [Exit.noGoto_ret]
    exact bodyPost_ret (results_num_tmp rfl rfl mz Try.underlying26 rfl size26) rfl ⟨rfl, below_of_grown bef gz bef.size (by omega)⟩
  · refine wp_scope_jumps2 0 (fun a' w' => ∃ x6 x7 x12 x13 x14 x15 x16 x17 x18 x19 x20 x21 x22 x23 x24 x25 x26 x27 x28 x29 x30 x31 x32 x33 x34 x35 x36 x37 x38 x39 x40 x41 x42 x43 x44 x45 x46 x47 x48 x49 x50 x51 x52 x53 x54 x55 x56 x57 x58 O D E A ta B tb s mn, a' = { tmps := #[numV a, numV m, .pointer (some ⟨w.heap.size, 0, none⟩), .pointer (some ⟨w.heap.size + 1, 0, none⟩), .pointer (some ⟨w.heap.size + 1 + 1, 0, none⟩), .bool false, x6, x7, .pointer (some ⟨O, 0, none⟩), .pointer (some ⟨D, 0, none⟩), .pointer (some ⟨E, 0, none⟩), .bool mn, x12, x13, x14, x15, x16, x17, x18, x19, x20, x21, x22, x23, x24, x25, x26, x27, x28, x29, x30, x31, x32, x33, x34, x35, x36, x37, x38, x39, x40, x41, x42, x43, x44, x45, x46, x47, x48, x49, x50, x51, x52, x53, x54, x55, x56, x57, x58], defers := [] } ∧ Hid (Euc a m A ta B tb s) ∧ (mn = true ∧ s = 1 ∨ mn = false ∧ s = -1) ∧ (w.heap.size + 1 + 1 < O ∧ O < D ∧ O < E ∧ D ≠ E) ∧ Num w' (w.heap.size + 1) 26 m ∧ Num w' (w.heap.size + 1 + 1) 26 0 ∧ Num w' O 26 1 ∧ Blk w' D 67 (mrowA A ta) ∧ Blk w' E 67 (mrowA B tb) ∧ Below w.heap.size w w') (fun a' w' => muI a' w') rfl ?_ ?_
    rotate_left
    · rintro a' w' ⟨x6, x7, x12, x13, x14, x15, x16, x17, x18, x19, x20, x21, x22, x23, x24, x25, x26, x27, x28, x29, x30, x31, x32, x33, x34, x35, x36, x37, x38, x39, x40, x41, x42, x43, x44, x45, x46, x47, x48, x49, x50, x51, x52, x53, x54, x55, x56, x57, x58, O, D, E, A, ta, B, tb, s, mn, rfl, HE, hs, ⟨hO, hOD, hOE, hDE⟩, fm, fr, fo, fD, fE, hbw⟩
      clear gb q_a q_m q_r hr0 hr1
      have hBm : B < 4294967296 ^ 8 := by
        have h1 := HE.out.am
        have h2 := HE.out.lt
        have h3 := hmP.out
        omega
      have hmu := mu_blk (a := { tmps := #[numV a, numV m, .pointer (some ⟨w.heap.size, 0, none⟩), .pointer (some ⟨w.heap.size + 1, 0, none⟩), .pointer (some ⟨w.heap.size + 1 + 1, 0, none⟩), .bool false, x6, x7, .pointer (some ⟨O, 0, none⟩), .pointer (some ⟨D, 0, none⟩), .pointer (some ⟨E, 0, none⟩), .bool mn, x12, x13, x14, x15, x16, x17, x18, x19, x20, x21, x22, x23, x24, x25, x26, x27, x28, x29, x30, x31, x32, x33, x34, x35, x36, x37, x38, x39, x40, x41, x42, x43, x44, x45, x46, x47, x48, x49, x50, x51, x52, x53, x54, x55, x56, x57, x58], defers := [] }) (p := ⟨E, 0, none⟩) rfl fE hBm
      rw [hmu]
      clear hmu hBm
      have nm_D := hid (show w.heap.size + 1 ≠ D by omega)
      have nr_D := hid (show w.heap.size + 1 + 1 ≠ D by omega)
      have no_D := hid (show O ≠ D by omega)
      have nE_D := hid (show E ≠ D by omega)
      have loD := hid (show w.heap.size ≤ D by omega)
      have nm_E := hid (show w.heap.size + 1 ≠ E by omega)
      have nr_E := hid (show w.heap.size + 1 + 1 ≠ E by omega)
      have no_E := hid (show O ≠ E by omega)
      have loE := hid (show w.heap.size ≤ E by omega)
      simp only [restWp, findLabel, beq_self_eq_true, if_true]
      refine (show Code.wp _ _ _ _ _ from ?_)
      have hEA := HE.out.am
      have hEB := HE.out.lt
      have hAP : A < 4294967296 ^ 8 := Nat.lt_of_le_of_lt hEA hmP.out
      have hBP : B < 4294967296 ^ 8 := Nat.lt_trans hEB hAP
      rcases Nat.eq_zero_or_pos B with hB | hB
      · have hB0 := HE.out
        rw [hB] at hB0
        have hl := hB0.last hmP.out
        clear hB0
        subst hB
        have k0 := fun w => eqn_zero w
        go_upto_region 10 with (first | (refine wpList_load_blk rfl _ (.tmp 9) rfl _ rfl _ _ _ fD Try.underlying67 rfl size_mrow ?_) | (refine wpList_load_blk rfl _ (.tmp 10) rfl _ rfl _ _ _ fE Try.underlying67 rfl size_mrow ?_) | (refine wpList_load_part rfl _ (.tmp 28) rfl _ _ rfl _ _ (numA 0) _ fE mrowA_r Try.underlying26 rfl size26 ?_))
        rcases hl with ⟨hA1, hm1, hw, hiB⟩ | ⟨hno, hiB, hiN⟩
        · obtain rfl : BB = true := by rw [← hBB.out]; exact hiB
          rw [hV.out] at hw
          subst hA1
          have k1 := fun w => eqn_same 1 w
          have k2 := fun w => eqn_diff hmP.out (show 1 < 4294967296 ^ 8 by decide) hm1 w
          clear hm1
          rcases hs with ⟨rfl, hs⟩ | ⟨rfl, hs⟩
          · have hv : subN m ta = V := by rcases hw with ⟨-, h⟩ | ⟨h, -⟩; exact h; omega
            have htl := HE.out.le
            have hsb := sub_any m ta hmP.out (Nat.lt_of_le_of_lt htl hmP.out)
            rw [hv] at hsb
            clear hw hs htl hv
            go_wp2_with (first | (refine wpList_load_num rfl _ (.tmp 3) rfl _ rfl _ _ _ fm Try.underlying26 rfl size26 ?_) | (refine wpList_load_num rfl _ (.tmp 8) rfl _ rfl _ _ _ fo Try.underlying26 rfl size26 ?_) | (refine wpList_load_part rfl _ (.tmp 38) rfl _ _ rfl _ _ (numA 1) _ fD mrowA_r Try.underlying26 rfl size26 ?_) | (refine wpList_load_part rfl _ (.tmp 51) rfl _ _ rfl _ _ (numA ta) _ fD mrowA_t Try.underlying26 rfl size26 ?_))
            refine (hsb _).mono ?_
            rintro e w1 ⟨rfl, bw1⟩
            have m_1 := fm.step bw1
            have r_1 := fr.step bw1
            have o_1 := fo.step bw1
            have D_1 := fD.step bw1
            have E_1 := fE.step bw1
            have c_1 := step_trans hbw bw1
            clear fm fr fo fD fE hbw bw1
            go_upto_region 14 with (first | (refine wpList_store_part rfl _ (.tmp 56) _ rfl _ 8 rfl (numA V) rfl (numA_cells V) _ _ (mrowA 1 V) D_1 (by rw [mrowA_size, numA_size]; omega) rfl size26 ?_; intro wy gy my))
            have m_2 := m_1.grown gy (ne_some nm_D.out)
            have r_2 := r_1.grown gy (ne_some nr_D.out)
            have o_2 := o_1.grown gy (ne_some no_D.out)
            have E_2 := E_1.grown gy (ne_some nE_D.out)
            have c_2 := below_of_grown c_1 gy c_1.size loD.out
            clear m_1 r_1 o_1 D_1 E_1 c_1 gy
            have bef := c_2
            go_wp2_with (first | (refine wpList_load_num rfl _ (.tmp 3) rfl _ rfl _ _ _ m_2 Try.underlying26 rfl size26 ?_) | (refine wpList_load_num rfl _ (.tmp 4) rfl _ rfl _ _ _ r_2 Try.underlying26 rfl size26 ?_) | (refine wpList_load_num rfl _ (.tmp 8) rfl _ rfl _ _ _ o_2 Try.underlying26 rfl size26 ?_) | (refine wpList_load_blk rfl _ (.tmp 9) rfl _ rfl _ _ _ my Try.underlying67 rfl size_mrow ?_) | (refine wpList_load_blk rfl _ (.tmp 10) rfl _ rfl _ _ _ E_2 Try.underlying67 rfl size_mrow ?_) | (refine wpList_load_part rfl _ (.tmp 57) rfl _ _ rfl _ _ (numA V) _ my mrowA_t Try.underlying26 rfl size26 ?_) | (refine wpList_store_num rfl _ (.tmp 4) _ rfl _ rfl _ rfl _ rfl r_2 size26 ?_; intro wz gz mz))
            simp only [Exit.jump]
            exact bodyPost_ret (results_num_tmp rfl rfl mz Try.underlying26 rfl size26) rfl ⟨rfl, below_of_grown bef gz bef.size (by omega)⟩
          · obtain rfl : ta = V := by rcases hw with ⟨h, -⟩ | ⟨-, h⟩; omega; exact h
            clear hw hs
            have bef := hbw
            go_wp2_with (first | (refine wpList_load_num rfl _ (.tmp 3) rfl _ rfl _ _ _ fm Try.underlying26 rfl size26 ?_) | (refine wpList_load_num rfl _ (.tmp 4) rfl _ rfl _ _ _ fr Try.underlying26 rfl size26 ?_) | (refine wpList_load_num rfl _ (.tmp 8) rfl _ rfl _ _ _ fo Try.underlying26 rfl size26 ?_) | (refine wpList_load_blk rfl _ (.tmp 9) rfl _ rfl _ _ _ fD Try.underlying67 rfl size_mrow ?_) | (refine wpList_load_blk rfl _ (.tmp 10) rfl _ rfl _ _ _ fE Try.underlying67 rfl size_mrow ?_) | (refine wpList_load_part rfl _ (.tmp 38) rfl _ _ rfl _ _ (numA 1) _ fD mrowA_r Try.underlying26 rfl size26 ?_) | (refine wpList_load_part rfl _ (.tmp 57) rfl _ _ rfl _ _ (numA ta) _ fD mrowA_t Try.underlying26 rfl size26 ?_) | (refine wpList_store_num rfl _ (.tmp 4) _ rfl _ rfl _ rfl _ rfl fr size26 ?_; intro wz gz mz))
            simp only [Exit.jump]
            exact bodyPost_ret (results_num_tmp rfl rfl mz Try.underlying26 rfl size26) rfl ⟨rfl, below_of_grown bef gz bef.size (by omega)⟩
        · obtain rfl : BB = false := by rw [← hBB.out]; exact hiB
          obtain rfl : V = 0 := by rw [← hV.out]; exact hiN
          have n1 : (∀ w, (Op.equalIn 10000 26 (.agg (numA A)) (.agg (numA 1))).run Try.prog w = .ok false w) ∨ (∀ w, (Op.equalIn 10000 26 (.agg (numA A)) (.agg (numA 1))).run Try.prog w = .ok true w) ∧ (∀ w, (Op.equalIn 10000 26 (.agg (numA m)) (.agg (numA 1))).run Try.prog w = .ok true w) := by
            by_cases h1 : A = 1
            · have h2 : m = 1 := by omega
              exact .inr ⟨by rw [h1]; exact eqn_same 1, by rw [h2]; exact eqn_same 1⟩
            · exact .inl (eqn_diff hAP (show 1 < 4294967296 ^ 8 by decide) h1)
          clear hno
          rcases n1 with k1 | ⟨k1, k2⟩
          · skip
            have bef := hbw
            go_wp2_with (first | (refine wpList_load_num rfl _ (.tmp 3) rfl _ rfl _ _ _ fm Try.underlying26 rfl size26 ?_) | (refine wpList_load_num rfl _ (.tmp 4) rfl _ rfl _ _ _ fr Try.underlying26 rfl size26 ?_) | (refine wpList_load_num rfl _ (.tmp 8) rfl _ rfl _ _ _ fo Try.underlying26 rfl size26 ?_) | (refine wpList_load_blk rfl _ (.tmp 9) rfl _ rfl _ _ _ fD Try.underlying67 rfl size_mrow ?_) | (refine wpList_load_blk rfl _ (.tmp 10) rfl _ rfl _ _ _ fE Try.underlying67 rfl size_mrow ?_) | (refine wpList_load_part rfl _ (.tmp 38) rfl _ _ rfl _ _ (numA A) _ fD mrowA_r Try.underlying26 rfl size26 ?_) | (refine wpList_store_num rfl _ (.tmp 4) _ rfl _ rfl 0 zeroV8 _ rfl fr size26 ?_; intro wz gz mz))
            simp only [Exit.jump]
            exact bodyPost_ret (results_num_tmp rfl rfl mz Try.underlying26 rfl size26) rfl ⟨rfl, below_of_grown bef gz bef.size (by omega)⟩
          · skip
            have bef := hbw
            go_wp2_with (first | (refine wpList_load_num rfl _ (.tmp 3) rfl _ rfl _ _ _ fm Try.underlying26 rfl size26 ?_) | (refine wpList_load_num rfl _ (.tmp 4) rfl _ rfl _ _ _ fr Try.underlying26 rfl size26 ?_) | (refine wpList_load_num rfl _ (.tmp 8) rfl _ rfl _ _ _ fo Try.underlying26 rfl size26 ?_) | (refine wpList_load_blk rfl _ (.tmp 9) rfl _ rfl _ _ _ fD Try.underlying67 rfl size_mrow ?_) | (refine wpList_load_blk rfl _ (.tmp 10) rfl _ rfl _ _ _ fE Try.underlying67 rfl size_mrow ?_) | (refine wpList_load_part rfl _ (.tmp 38) rfl _ _ rfl _ _ (numA A) _ fD mrowA_r Try.underlying26 rfl size26 ?_) | (refine wpList_store_num rfl _ (.tmp 4) _ rfl _ rfl 0 zeroV8 _ rfl fr size26 ?_; intro wz gz mz))
            simp only [Exit.jump]
            exact bodyPost_ret (results_num_tmp rfl rfl mz Try.underlying26 rfl size26) rfl ⟨rfl, below_of_grown bef gz bef.size (by omega)⟩
      · have k0 := fun w => eqn_not0 hBP hB w
        have hbd := HE.out.bd hB
        have hnx := hid (HE.out.next hB)
        have hwo := fun w => without_any A ta B tb hAP hB (Nat.le_of_lt hEB) (Nat.lt_of_le_of_lt hbd hmP.out) w
        have hml := Nat.mod_lt A hB
        generalize A % B = A' at *
        generalize ta + A / B * tb = T' at *
        clear hEA hEB hB hAP hbd
        go_upto_region 8 with (first | (refine wpList_load_blk rfl _ (.tmp 9) rfl _ rfl _ _ _ fD Try.underlying67 rfl size_mrow ?_) | (refine wpList_load_blk rfl _ (.tmp 10) rfl _ rfl _ _ _ fE Try.underlying67 rfl size_mrow ?_) | (refine wpList_load_part rfl _ (.tmp 28) rfl _ _ rfl _ _ (numA B) _ fE mrowA_r Try.underlying26 rfl size26 ?_))
        refine wp_region_stC [St.eq (.agg (mrowA B tb)), St.eq (.agg (mrowA A ta)), St.eq (.agg (mrowA B tb)), St.eq (.agg (mrowA A' T'))] 4 59 rfl (by kernel_rfl) (by kernel_rfl) ⟨?_, ?_, ?_, ?_, trivial⟩ ?_
        · intro a wa hb hd
          have e10 : a.eval (.tmp 10) = _ := hd 10 (by decide)
          exact hop_run (F := (St.eq (.agg (mrowA B tb))).F) (wanted_none rfl) _ (run_ld_blk _ rfl e10 (fE.step hb) Try.underlying67 rfl size_mrow) rfl
        · intro a wa hb hd
          have e9 : a.eval (.tmp 9) = _ := hd 9 (by decide)
          exact hop_run (F := (St.eq (.agg (mrowA A ta))).F) (wanted_none rfl) _ (run_ld_blk _ rfl e9 (fD.step hb) Try.underlying67 rfl size_mrow) rfl
        · intro a wa hb hd
          have e10 : a.eval (.tmp 10) = _ := hd 10 (by decide)
          exact hop_run (F := (St.eq (.agg (mrowA B tb))).F) (wanted_none rfl) _ (run_ld_blk _ rfl e10 (fE.step hb) Try.underlying67 rfl size_mrow) rfl
        · intro a wa hb hd
          have e33 : a.eval (.tmp 33) = (.agg (mrowA A ta)) := hd 33 (by decide)
          have e34 : a.eval (.tmp 34) = (.agg (mrowA B tb)) := hd 34 (by decide)
          exact hop_call (F := (St.eq (.agg (mrowA A' T'))).F) (wanted_none rfl) rfl #[.agg (mrowA A ta), .agg (mrowA B tb)] (by simp [e33, e34]) (enters_of Try.func49 (by kernel_rfl) rfl) ((hwo _).mono fun e w2 ⟨he, hb2⟩ => ⟨_, he, hb2, rfl⟩)
        intro p wx_1 bx_1 hp
        obtain ⟨y0, y1, y2, y3, -⟩ := hp
        have e0 : p 0 = .agg (mrowA B tb) := y0 (by decide)
        have e1 : p 1 = .agg (mrowA A ta) := y1 (by decide)
        have e2 : p 2 = .agg (mrowA B tb) := y2 (by decide)
        have e3 : p 3 = .agg (mrowA A' T') := y3 (by decide)
        simp only [List.take_succ_cons, List.take_zero, List.drop_succ_cons, List.drop_zero, layAll, Act.put, List.setIfInBounds_toArray, List.set_cons_zero, List.set_cons_succ, Nat.zero_add, Nat.reduceAdd, e0, e1, e2, e3]
        clear y0 e0 y1 e1 y2 e2 y3 e3
        have m_1 := fm.step bx_1
        have r_1 := fr.step bx_1
        have o_1 := fo.step bx_1
        have D_1 := fD.step bx_1
        have E_1 := fE.step bx_1
        have c_1 := step_trans hbw bx_1
        clear fm fr fo fD fE hbw bx_1
        go_upto_region 9 with (first | (refine wpList_load_blk rfl _ (.tmp 9) rfl _ rfl _ _ _ D_1 Try.underlying67 rfl size_mrow ?_) | (refine wpList_load_blk rfl _ (.tmp 10) rfl _ rfl _ _ _ E_1 Try.underlying67 rfl size_mrow ?_) | (refine wpList_load_part rfl _ (.tmp 28) rfl _ _ rfl _ _ (numA B) _ E_1 mrowA_r Try.underlying26 rfl size26 ?_) | (refine wpList_store_blk rfl _ (.tmp 9) _ rfl _ rfl (mrowA B tb) rfl (mrowA_cells _ _) _ D_1 rfl size_mrow ?_; intro wy gy my; have eE := E_1.grown gy (ne_some nE_D.out)) | (refine wpList_store_blk rfl _ (.tmp 10) _ rfl _ rfl (mrowA A' T') rfl (mrowA_cells _ _) _ eE rfl size_mrow ?_; intro wv gv mv))
        try simp only [Act.put, List.setIfInBounds_toArray, List.set_cons_zero, List.set_cons_succ]
        have zm := (m_1.grown gy (ne_some nm_D.out)).grown gv (ne_some nm_E.out)
        have zr := (r_1.grown gy (ne_some nr_D.out)).grown gv (ne_some nr_E.out)
        have zo := (o_1.grown gy (ne_some no_D.out)).grown gv (ne_some no_E.out)
        have zD := my.grown gv (ne_some nE_D.out.symm)
        have zb := below_of_grown (below_of_grown c_1 gy c_1.size loD.out) gv (Nat.le_trans c_1.size gy.size) loE.out
        go_wp2_with (first | (refine wpList_load_num rfl _ (.tmp 3) rfl _ rfl _ _ _ zm Try.underlying26 rfl size26 ?_) | (refine wpList_load_num rfl _ (.tmp 4) rfl _ rfl _ _ _ zr Try.underlying26 rfl size26 ?_) | (refine wpList_load_num rfl _ (.tmp 8) rfl _ rfl _ _ _ zo Try.underlying26 rfl size26 ?_) | (refine wpList_load_blk rfl _ (.tmp 9) rfl _ rfl _ _ _ zD Try.underlying67 rfl size_mrow ?_) | (refine wpList_load_blk rfl _ (.tmp 10) rfl _ rfl _ _ _ mv Try.underlying67 rfl size_mrow ?_) | (refine wpList_load_part rfl _ (.tmp 28) rfl _ _ rfl _ _ (numA B) _ mv mrowA_r Try.underlying26 rfl size26 ?_))
        go_step3
        refine ⟨rfl, ⟨_, _, _, _, _, _, _, _, _, _, _, _, _, _, _, _, _, _, _, _, _, _, _, _, _, _, _, _, _, _, _, _, _, _, _, _, _, _, _, _, _, _, _, _, _, _, _, _, _, O, D, E, B, tb, A', T', -s, !mn, rfl, hnx, (by rcases hs with ⟨rfl, rfl⟩ | ⟨rfl, rfl⟩; exact .inr ⟨rfl, rfl⟩; exact .inl ⟨rfl, by omega⟩), ⟨hO, hOD, hOE, hDE⟩, zm, zr, zo, zD, mv, zb⟩, ?_⟩
        rw [mu_blk (p := ⟨E, 0, none⟩) rfl mv (by omega)]
        exact hml
    simp only [headWp, findLabel, beq_self_eq_true, if_true]
    go_wp2_with (first | (refine wpList_load_num rfl _ (.tmp 2) rfl _ rfl _ _ _ q_a Try.underlying26 rfl size26 ?_) | (refine wpList_load_num rfl _ (.tmp 3) rfl _ rfl _ _ _ q_m Try.underlying26 rfl size26 ?_))
    refine (hr1 h0 _).mono ?_
    rintro e w1 ⟨rfl, bw1⟩
    have a_1 := q_a.step bw1
    have m_1 := q_m.step bw1
    have r_1 := q_r.step bw1
    have c_1 := step_trans gb bw1
    clear q_a q_m q_r gb bw1
    go_upto_region 4 with (first | (refine wpList_store_num rfl _ (.tmp 6) _ rfl _ rfl _ rfl _ rfl (heap_alloc_new _ _) size26 ?_; intro w2 gw2 mw2; have b_1 := step_new gw2; have nr_x := hid (show _ ≠ w1.heap.size from Nat.ne_of_lt (Nat.lt_of_lt_of_le r_1.lt (by omega))); have a_2 := a_1.step b_1; have m_2 := m_1.step b_1; have r_2 := r_1.step b_1; have c_2 := step_trans c_1 b_1; clear a_1 m_1 r_1 c_1 b_1 gw2))
    go_wp2_with (fail)
    refine (from_any 1 (by omega) (by omega) _).mono ?_
    rintro e w3 ⟨rfl, bw3⟩
    have a_3 := a_2.step bw3
    have m_3 := m_2.step bw3
    have r_3 := r_2.step bw3
    have x_1 := mw2.step bw3
    have c_3 := step_trans c_2 bw3
    clear a_2 m_2 r_2 mw2 c_2 bw3
    have hO : w.heap.size + 1 + 1 < w3.heap.size := r_3.lt
    go_upto_region 5 with (first | (refine wpList_store_num rfl _ (.tmp 8) _ rfl _ rfl _ rfl _ rfl (heap_alloc_new _ _) size26 ?_; intro w4 gw4 mw4; have b_2 := step_new gw4; have nr_o := hid (show _ ≠ w3.heap.size from Nat.ne_of_lt (Nat.lt_of_lt_of_le r_3.lt (by omega))); have a_4 := a_3.step b_2; have m_4 := m_3.step b_2; have r_4 := r_3.step b_2; have x_2 := x_1.step b_2; have c_4 := step_trans c_3 b_2; clear a_3 m_3 r_3 x_1 c_3 b_2 gw4) | (refine wpList_load_num rfl _ (.tmp 3) rfl _ rfl _ _ _ m_4 Try.underlying26 rfl size26 ?_) | (refine wpList_load_num rfl _ (.tmp 6) rfl _ rfl _ _ _ x_2 Try.underlying26 rfl size26 ?_) | (refine wpList_load_num rfl _ (.tmp 8) rfl _ rfl _ _ _ mw4 Try.underlying26 rfl size26 ?_))
    try simp only [Act.put, List.setIfInBounds_toArray, List.set_cons_zero, List.set_cons_succ]
    obtain ⟨A1, hA1⟩ : ∃ A1, Hid (a % m = A1) := ⟨_, hid rfl⟩
    rw [hA1.out] at x_2
    try rw [hA1.out]
    refine wp_region_rows (fun q => match q with | 0 => ⟨5, 7, 9, (.cells #[Value.int .u32 0, .int .u32 0, .int .u32 0, .int .u32 0, .int .u32 0, .int .u32 0, .int .u32 0, .int .u32 0, .int .u32 0, .int .u32 0, .int .u32 0, .int .u32 0, .int .u32 0, .int .u32 0, .int .u32 0, .int .u32 0] 67), .cells (mrowA m 0) 67 (0, 0)⟩ | _ => ⟨6, 8, 10, (.cells #[Value.int .u32 0, .int .u32 0, .int .u32 0, .int .u32 0, .int .u32 0, .int .u32 0, .int .u32 0, .int .u32 0, .int .u32 0, .int .u32 0, .int .u32 0, .int .u32 0, .int .u32 0, .int .u32 0, .int .u32 0, .int .u32 0] 67), .cells (mrowA A1 1) 67 (0, 0)⟩) 2 59 rfl (by kernel_rfl) (by kernel_rfl) (by kernel_rfl) (fun i v => match i with | 0 => v = numV m | 1 => v = .agg (mrowA m 0) | 2 => v = numV A1 | 3 => v = numV 1 | 4 => v = .agg (mrowA A1 1) | _ => True) ?_ ?_ ?_ ⟨?_, ?_, ?_, ?_, ?_, fun h => Bool.noConfusion (show true = false from h), fun h => Bool.noConfusion (show true = false from h), fun h => Bool.noConfusion (show true = false from h), fun h => Bool.noConfusion (show true = false from h), trivial⟩ ?_
    · intro i v hi
      have h4 : 4 < i := by
        refine Nat.lt_of_not_le fun hle => ?_
        have : i = 0 ∨ i = 1 ∨ i = 2 ∨ i = 3 ∨ i = 4 := by omega
        rcases this with rfl | rfl | rfl | rfl | rfl <;> exact Bool.noConfusion (show false = true from hi)
      obtain ⟨k, rfl⟩ : ∃ k, i = k + 5 := ⟨i - 5, by omega⟩
      trivial
    · intro q hq o a w ho
      have : q = 0 ∨ q = 1 := by omega
      rcases this with rfl | rfl <;> (obtain rfl := Option.some.inj ho; exact row_new _ _ _ rfl)
    · intro q hq o a w g ho hs hp hg
      have : q = 0 ∨ q = 1 := by omega
      rcases this with rfl | rfl
      · obtain rfl := Option.some.inj ho
        have e : a.eval (.tmp 24) = .agg (mrowA m 0) := hs 24 (by decide)
        exact ⟨_, run_store_op _ _ _ rfl g hp _ e (run_store_blk w _ g _ (mrowA_cells _ _) _ (by rfl) hg size_mrow), setRow_heap _ _ _ _ _ _ hg, grown_setRow _ _ _⟩
      · obtain rfl := Option.some.inj ho
        have e : a.eval (.tmp 27) = .agg (mrowA A1 1) := hs 27 (by decide)
        exact ⟨_, run_store_op _ _ _ rfl g hp _ e (run_store_blk w _ g _ (mrowA_cells _ _) _ (by rfl) hg size_mrow), setRow_heap _ _ _ _ _ _ hg, grown_setRow _ _ _⟩
    · intro _ a w hb hd
      have e : a.eval (.tmp 3) = _ := hd 3 (by decide)
      exact hop_run (F := fun _ v => v = numV m) (wanted_none rfl) _ (run_ldN _ rfl e (m_4.step hb)) rfl
    · intro _ a w hb hd
      have e : a.eval (.tmp 23) = numV m := hd 23 (by decide)
      exact hop_run (F := fun _ v => v = .agg (mrowA m 0)) (wanted_none rfl) _ (run_buildR1 _ rfl e) rfl
    · intro _ a w hb hd
      have e : a.eval (.tmp 6) = _ := hd 6 (by decide)
      exact hop_run (F := fun _ v => v = numV A1) (wanted_none rfl) _ (run_ldN _ rfl e (x_2.step hb)) rfl
    · intro _ a w hb hd
      have e : a.eval (.tmp 8) = _ := hd 8 (by decide)
      exact hop_run (F := fun _ v => v = numV 1) (wanted_none rfl) _ (run_ldN _ rfl e (mw4.step hb)) rfl
    · intro _ a w hb hd
      have e1 : a.eval (.tmp 25) = numV A1 := hd 25 (by decide)
      have e2 : a.eval (.tmp 26) = numV 1 := hd 26 (by decide)
      exact hop_run (F := fun _ v => v = .agg (mrowA A1 1)) (wanted_none rfl) _ (run_buildR2 _ _ rfl e1 e2) rfl
    intro p w5 g b5 hg hgn hY
    obtain ⟨y0, y1, y2, y3, y4, -⟩ := hY
    have e0 : p 0 = numV m := y0 (by decide)
    have e1 : p 1 = .agg (mrowA m 0) := y1 (by decide)
    have e2 : p 2 = numV A1 := y2 (by decide)
    have e3 : p 3 = numV 1 := y3 (by decide)
    have e4 : p 4 = .agg (mrowA A1 1) := y4 (by decide)
    obtain ⟨D, hD⟩ : ∃ D, g 0 = D := ⟨_, rfl⟩
    obtain ⟨E, hE⟩ : ∃ E, g 1 = E := ⟨_, rfl⟩
    obtain ⟨e5, lD, fD⟩ := hg 0 (by decide)
    obtain ⟨e6, lE, fE⟩ := hg 1 (by decide)
    have hDE := hgn 0 1 (by decide) (by decide) (by decide)
    replace e5 : p 5 = _ := e5
    replace e6 : p 6 = _ := e6
    rw [hD] at e5 fD lD hDE
    rw [hE] at e6 fE lE hDE
    replace fD : Blk w5 D 67 (mrowA m 0) := fD
    replace fE : Blk w5 E 67 (mrowA A1 1) := fE
    simp only [layAll, Act.put, List.setIfInBounds_toArray, List.set_cons_zero, List.set_cons_succ, Nat.zero_add, Nat.reduceAdd, e0, e1, e2, e3, e4, e5, e6]
    clear y0 y1 y2 y3 y4 e0 e1 e2 e3 e4 e5 e6 hg hgn hD hE g
    have zm := m_4.step b5
    have zr := r_4.step b5
    have zo := mw4.step b5
    have hOD := Nat.lt_of_lt_of_le mw4.lt lD
    have hOE := Nat.lt_of_lt_of_le mw4.lt lE
    have zb := step_trans c_4 b5
    have he := hid (euc_first a h0)
    rw [hA1.out] at he
    go_wp2_with fail
    exact ⟨_, _, _, _, _, _, _, _, _, _, _, _, _, _, _, _, _, _, _, _, _, _, _, _, _, _, _, _, _, _, _, _, _, _, _, _, _, _, _, _, _, _, _, _, _, _, _, _, _, _, D, E, m, 0, A1, 1, 1, true, rfl, he, .inl ⟨rfl, rfl⟩, ⟨hO, hOD, hOE, hDE⟩, zm, zr, zo, fD, fE, zb⟩
end Go.Proofs.Ytcfobgimpflneaa
