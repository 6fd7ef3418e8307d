/- The reference's Power. -/
import Derived.Test.YtgccbfkofkohpaaMtPow
namespace Go.Proofs.Ytgccbfkofkohpaa
set_option linter.unusedVariables false
set_option maxRecDepth 20000
set_option linter.unusedSimpArgs false
open Go.ChangeShapes Go.WideShapes Go.ChangeAt Go.RowKit
set_option maxRecDepth 100000 in
set_option maxHeartbeats 16000000 in
theorem rpower_any (a x m : Nat) (ha : a < 4294967296 ^ 8) (hx : x < 4294967296 ^ 8) (hm : m < 4294967296 ^ 8) (h1 : 1 < m) (w : World) :
    Calls Try.prog 39 #[numV a, numV x, numV m] w fun e w' => e = .returned (numV (a ^ x % m)) ∧ Below w.heap.size w w' := by
  rw [← pr_last m a x]
  have hr : ∀ w, Calls Try.prog 37 #[numV a, .agg #[.int .u32 0, .int .u32 0, .int .u32 0, .int .u32 0, .int .u32 0, .int .u32 0, .int .u32 0, .int .u32 0], numV m] w fun e w' => e = .returned (.tuple #[numV (a % m), .bool (decide (m ≠ 0))]) ∧ Below w.heap.size w w' := fun w => by
    have := rrest_any a 0 m ha (by decide) hm w
    rw [if_neg (by omega), Nat.zero_mul, Nat.add_zero] at this
    rw [zeroA]; exact this
  go_enter Try.func39, Try.ntmps39
  go_upto_region 1 with fail
  obtain ⟨W, hW⟩ : ∃ W, W = ((((((w.alloc (.cells (numA a) 26))).alloc (.cells (numA x) 26))).alloc (.cells (numA m) 26))).alloc (.cells #[Value.int .u32 0, .int .u32 0, .int .u32 0, .int .u32 0, .int .u32 0, .int .u32 0, .int .u32 0, .int .u32 0] 26) := ⟨_, rfl⟩
  have q_a : Num W (w.heap.size) 26 (a) := by
    have := ((((Num.new w 26 (a)).alloc (.cells (numA x) 26)).alloc (.cells (numA m) 26)).alloc (.cells #[Value.int .u32 0, .int .u32 0, .int .u32 0, .int .u32 0, .int .u32 0, .int .u32 0, .int .u32 0, .int .u32 0] 26))
    rw [hW]; exact this
  have q_e : Num W (w.heap.size + 1) 26 (x) := by
    have := (((Num.new (w.alloc (.cells (numA a) 26)) 26 (x)).alloc (.cells (numA m) 26)).alloc (.cells #[Value.int .u32 0, .int .u32 0, .int .u32 0, .int .u32 0, .int .u32 0, .int .u32 0, .int .u32 0, .int .u32 0] 26))
    rw [World.size_alloc] at this
    rw [hW]; exact this
  have q_m : Num W (w.heap.size + 1 + 1) 26 (m) := by
    have := ((Num.new (((w.alloc (.cells (numA a) 26))).alloc (.cells (numA x) 26)) 26 (m)).alloc (.cells #[Value.int .u32 0, .int .u32 0, .int .u32 0, .int .u32 0, .int .u32 0, .int .u32 0, .int .u32 0, .int .u32 0] 26))
    rw [World.size_alloc, World.size_alloc] at this
    rw [hW]; exact this
  have q_r : Num W (w.heap.size + 1 + 1 + 1) 26 0 := by
    have := (Num.new (((((w.alloc (.cells (numA a) 26))).alloc (.cells (numA x) 26))).alloc (.cells (numA m) 26)) 26 0)
    rw [World.size_alloc, World.size_alloc, World.size_alloc, ← zeroA] at this
    rw [hW]; exact this
  have gb : Below w.heap.size w W := by rw [hW]; exact (((((Below.refl _ _).alloc (by simp <;> omega) _).alloc (by simp <;> omega) _).alloc (by simp <;> omega) _).alloc (by simp <;> omega) _)
  rw [← hW]
  clear hW
  have loa := hid (show w.heap.size ≤ w.heap.size by omega)
  have na_e := hid (show w.heap.size ≠ w.heap.size + 1 by omega)
  have na_m := hid (show w.heap.size ≠ w.heap.size + 1 + 1 by omega)
  have lor := hid (show w.heap.size ≤ w.heap.size + 1 + 1 + 1 by omega)
  have na_r := hid (show w.heap.size ≠ w.heap.size + 1 + 1 + 1 by omega)
  have ne_r := hid (show w.heap.size + 1 ≠ w.heap.size + 1 + 1 + 1 by omega)
  have nm_r := hid (show w.heap.size + 1 + 1 ≠ w.heap.size + 1 + 1 + 1 by omega)
  go_wp2_with (fail)
  refine (rfrom_one _).mono ?_
  rintro e w1 ⟨rfl, bw1⟩
  have a_1 := q_a.step bw1
  have e_1 := q_e.step bw1
  have m_1 := q_m.step bw1
  have r_1 := q_r.step bw1
  have c_1 := step_trans gb bw1
  clear q_a q_e q_m q_r gb bw1
  go_upto_region 2 with (first | (refine wpList_store_num rfl _ (.tmp 7) _ rfl _ rfl _ rfl _ rfl (heap_alloc_new _ _) size26 ?_; intro w2 gw2 mw2; have b_1 := step_new gw2; have lox := hid (show _ ≤ w1.heap.size from Nat.le_trans c_1.size (by omega)); have na_x := hid (show _ ≠ w1.heap.size from Nat.ne_of_lt (Nat.lt_of_lt_of_le a_1.lt (by omega))); have ne_x := hid (show _ ≠ w1.heap.size from Nat.ne_of_lt (Nat.lt_of_lt_of_le e_1.lt (by omega))); have nm_x := hid (show _ ≠ w1.heap.size from Nat.ne_of_lt (Nat.lt_of_lt_of_le m_1.lt (by omega))); have nr_x := hid (show _ ≠ w1.heap.size from Nat.ne_of_lt (Nat.lt_of_lt_of_le r_1.lt (by omega))); have a_2 := a_1.step b_1; have e_2 := e_1.step b_1; have m_2 := m_1.step b_1; have r_2 := r_1.step b_1; have c_2 := step_trans c_1 b_1; clear a_1 e_1 m_1 r_1 c_1 b_1 gw2) | (refine wpList_load_num rfl _ (.tmp 3) rfl _ rfl _ _ _ a_2 Try.underlying26 rfl size26 ?_) | (refine wpList_load_num rfl _ (.tmp 5) rfl _ rfl _ _ _ m_2 Try.underlying26 rfl size26 ?_))
  go_wp2_with (first | (refine wpList_load_num rfl _ (.tmp 3) rfl _ rfl _ _ _ a_2 Try.underlying26 rfl size26 ?_) | (refine wpList_load_num rfl _ (.tmp 5) rfl _ rfl _ _ _ m_2 Try.underlying26 rfl size26 ?_))
  refine (hr _).mono ?_
  rintro e w3 ⟨rfl, bw3⟩
  have a_3 := a_2.step bw3
  have e_3 := e_2.step bw3
  have m_3 := m_2.step bw3
  have r_3 := r_2.step bw3
  have x_1 := mw2.step bw3
  have c_3 := step_trans c_2 bw3
  clear a_2 e_2 m_2 r_2 mw2 c_2 bw3
  go_upto_region 3 with (first | (refine wpList_store_num rfl _ (.tmp 3) _ rfl _ rfl _ rfl _ rfl a_3 size26 ?_; intro w4 gw4 mw4; have e_4 := e_3.grown gw4 (ne_some na_e.out.symm); have m_4 := m_3.grown gw4 (ne_some na_m.out.symm); have r_4 := r_3.grown gw4 (ne_some na_r.out.symm); have x_2 := x_1.grown gw4 (ne_some na_x.out.symm); have c_4 := below_of_grown c_3 gw4 c_3.size loa.out; clear a_3 e_3 m_3 r_3 x_1 c_3 gw4) | (refine wpList_load_num rfl _ (.tmp 4) rfl _ rfl _ _ _ e_4 Try.underlying26 rfl size26 ?_))
  go_wp2_with (first | (refine wpList_load_num rfl _ (.tmp 4) rfl _ rfl _ _ _ e_4 Try.underlying26 rfl size26 ?_))
  refine (rbits_any x hx _).mono ?_
  rintro e w5 ⟨rfl, bw5⟩
  have a_4 := mw4.step bw5
  have e_5 := e_4.step bw5
  have m_5 := m_4.step bw5
  have r_5 := r_4.step bw5
  have x_3 := x_2.step bw5
  have c_5 := step_trans c_4 bw5
  clear mw4 e_4 m_4 r_4 x_2 c_4 bw5
  obtain ⟨K, hK, hK1, hK2⟩ := top_ends hx
  rw [hK]
  obtain ⟨B, HB⟩ : ∃ B, Hid (B = w1.heap.size) := ⟨_, hid rfl⟩
  rw [← HB.out] at x_3 nr_x nm_x na_x ne_x lox ⊢
  clear HB
  rw [← pr_first (m := m) (a := a) h1 hK2] at x_3
  have xw := x_3
  obtain ⟨W0, rfl⟩ : ∃ W, W = w5 := ⟨_, rfl⟩
  go_wp2_with fail
  go_loopw [8] (fun i wr => ∃ k : Nat, k ≤ 256 ∧ i = .int .i64 ((k : Int) - 1) ∧ Num wr B 26 (prN m a x k) ∧ W0.grownBy wr (some B)) (fun i _ => (intOf i + 1).toNat)
  case atStart => exact ⟨K, hK1, rfl, xw, World.grownBy.refl _ _⟩
  case round =>
    obtain ⟨k, hk, rfl, hX0, hg⟩ := hrel
    clear xw
    have hg0 := hg
    have a_5 := a_4.grown hg (ne_some na_x.out)
    have e_6 := e_5.grown hg (ne_some ne_x.out)
    have m_6 := m_5.grown hg (ne_some nm_x.out)
    have r_6 := r_5.grown hg (ne_some nr_x.out)
    have c_6 := below_of_grown c_5 hg c_5.size lox.out
    clear a_4 e_5 m_5 r_5 c_5 hg
    rcases Nat.eq_zero_or_pos k with rfl | hkp
    · rw [show ((0 : Nat) : Int) - 1 = -1 from rfl]
      go_upto_region 9 with (first | (refine wpList_load_num rfl _ (.tmp 7) rfl _ rfl _ _ _ hX0 Try.underlying26 rfl size26 ?_))
      go_wp2_with (first | (refine wpList_load_num rfl _ (.tmp 7) rfl _ rfl _ _ _ hX0 Try.underlying26 rfl size26 ?_) | (refine wpList_store_num rfl _ (.tmp 6) _ rfl _ rfl _ rfl _ rfl r_6 size26 ?_; intro w6 gw6 mw6; have a_6 := a_5.grown gw6 (ne_some na_r.out); have e_7 := e_6.grown gw6 (ne_some ne_r.out); have m_7 := m_6.grown gw6 (ne_some nm_r.out); have x_4 := hX0.grown gw6 (ne_some nr_x.out.symm); have c_7 := below_of_grown c_6 gw6 c_6.size lor.out; clear r_6 a_5 e_6 m_6 hX0 c_6 gw6) | (refine wpList_load_num rfl _ (.tmp 7) rfl _ rfl _ _ _ x_4 Try.underlying26 rfl size26 ?_))
      exact bodyPost_ret (results_num rfl rfl mw6 Try.underlying26 rfl size26) rfl ⟨rfl, c_7⟩
    · obtain ⟨j, rfl⟩ : ∃ j, k = j + 1 := ⟨k - 1, by omega⟩
      rw [show ((j + 1 : Nat) : Int) - 1 = (j : Int) by omega]
      obtain ⟨Y, e1, hway⟩ := pr_step m a x j
      have hXm := pr_lt (show 0 < m by omega) a x (j + 1)
      have hYm : Y < m := by rw [← e1]; exact Nat.mod_lt _ (by omega)
      obtain ⟨X, hX⟩ : ∃ X, prN m a x (j + 1) = X := ⟨_, rfl⟩
      rw [hX] at hX0 e1 hXm
      clear hX
      obtain ⟨V, hV⟩ : ∃ V, Hid (prN m a x j = V) := ⟨_, hid rfl⟩
      rw [hV.out] at hway
      have hby := by_any X X m (by omega) (by omega) hm (by omega)
      rw [e1] at hby
      clear e1
      go_wp2_with (first | (refine wpList_load_num rfl _ (.tmp 5) rfl _ rfl _ _ _ m_6 Try.underlying26 rfl size26 ?_) | (refine wpList_load_num rfl _ (.tmp 7) rfl _ rfl _ _ _ hX0 Try.underlying26 rfl size26 ?_))
      refine (hby _).mono ?_
      rintro e w6 ⟨rfl, bw6⟩
      have hbb := bw6
      have a_6 := a_5.step bw6
      have e_7 := e_6.step bw6
      have m_7 := m_6.step bw6
      have r_7 := r_6.step bw6
      have x_4 := hX0.step bw6
      have c_7 := step_trans c_6 bw6
      clear a_5 e_6 m_6 r_6 hX0 c_6 bw6
      go_upto_region 7 with (first | (refine wpList_load_num rfl _ (.tmp 3) rfl _ rfl _ _ _ a_6 Try.underlying26 rfl size26 ?_) | (refine wpList_load_num rfl _ (.tmp 5) rfl _ rfl _ _ _ m_7 Try.underlying26 rfl size26 ?_) | (refine wpList_load_num rfl _ (.tmp 7) rfl _ rfl _ _ _ x_4 Try.underlying26 rfl size26 ?_) | (refine wpList_store_num rfl _ (.tmp 7) _ rfl _ rfl _ rfl _ rfl x_4 size26 ?_; intro wy gy my))
      have hg1 := World.grownBy.trans (World.grownBy.trans hg0 (grown_below hbb)) gy
      have a_7 := a_6.grown gy (ne_some na_x.out)
      have e_8 := e_7.grown gy (ne_some ne_x.out)
      have m_8 := m_7.grown gy (ne_some nm_x.out)
      have r_8 := r_7.grown gy (ne_some nr_x.out)
      have c_8 := below_of_grown c_7 gy c_7.size lox.out
      clear a_6 e_7 m_7 r_7 x_4 c_7 gy
      have ce := e_8.cell (k := j / 32) (by omega)
      have fe := e_8.frozen (j / 32)
      skip
      have hbit := bit_dig x j
      rcases hway with ⟨hb, hY2⟩ | ⟨hb, hY2⟩
      · rw [hb] at hbit
        have hd : decide ((0 : Int) > 0) = false := rfl
        go_wp2_with (first | (refine wpList_load_num rfl _ (.tmp 3) rfl _ rfl _ _ _ a_7 Try.underlying26 rfl size26 ?_) | (refine wpList_load_num rfl _ (.tmp 5) rfl _ rfl _ _ _ m_8 Try.underlying26 rfl size26 ?_) | (refine wpList_load_num rfl _ (.tmp 7) rfl _ rfl _ _ _ my Try.underlying26 rfl size26 ?_))
        go_roundw
        case rel => exact ⟨j, by omega, rfl, by rw [hV.out, ← hY2]; exact my, hg1⟩
        case measure => simp [intOf] <;> omega
      · rw [hb] at hbit
        have hd : decide ((1 : Int) > 0) = true := rfl
        have hby2 := by_any Y (a % m) m (by omega) (Nat.lt_trans (Nat.mod_lt _ (by omega)) hm) hm (by omega)
        rw [hY2] at hby2
        go_wp2_with (first | (refine wpList_load_num rfl _ (.tmp 3) rfl _ rfl _ _ _ a_7 Try.underlying26 rfl size26 ?_) | (refine wpList_load_num rfl _ (.tmp 5) rfl _ rfl _ _ _ m_8 Try.underlying26 rfl size26 ?_) | (refine wpList_load_num rfl _ (.tmp 7) rfl _ rfl _ _ _ my Try.underlying26 rfl size26 ?_))
        refine (hby2 _).mono ?_
        rintro e w7 ⟨rfl, bw7⟩
        have hbb := bw7
        have a_8 := a_7.step bw7
        have e_9 := e_8.step bw7
        have m_9 := m_8.step bw7
        have r_9 := r_8.step bw7
        have x_5 := my.step bw7
        have c_9 := step_trans c_8 bw7
        clear a_7 e_8 m_8 r_8 my c_8 bw7
        go_wp2_with (first | (refine wpList_load_num rfl _ (.tmp 7) rfl _ rfl _ _ _ x_5 Try.underlying26 rfl size26 ?_) | (refine wpList_store_num rfl _ (.tmp 7) _ rfl _ rfl _ rfl _ rfl x_5 size26 ?_; intro wv gv mv))
        go_roundw
        case rel => exact ⟨j, by omega, rfl, by rw [hV.out]; exact mv, World.grownBy.trans (World.grownBy.trans hg1 (grown_below hbb)) gv⟩
        case measure => simp [intOf] <;> omega
end Go.Proofs.Ytgccbfkofkohpaa
