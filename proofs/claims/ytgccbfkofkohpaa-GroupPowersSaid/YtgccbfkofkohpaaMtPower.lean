/- mont.Pow. -/
import Derived.Test.YtgccbfkofkohpaaMtPow
namespace Go.Proofs.Ytgccbfkofkohpaa
set_option linter.unusedVariables false
set_option maxRecDepth 20000
set_option linter.unusedSimpArgs false
open Go.ChangeShapes Go.WideShapes Go.ChangeAt Go.RowKit
/-- How numbers are multiplied by a modulus that lies in block C. -/
def prodA (R C : Nat) : Array Value := #[numF R 0, numF R 1, numF R 2, numF R 3, numF R 4, numF R 5, numF R 6, numF R 7, .func (.func 74) #[] #[.pointer (some ⟨C, 0, none⟩)], .func (.func 76) #[] #[]]
theorem size_prod : (Try.prog.info? 95).map (·.size) = some 10 := by kernel_rfl
theorem prodA_one {R C : Nat} (j : Nat) (v : Value) (h : (numA R)[j]? = some v) : (prodA R C)[0 + j]? = some v := by
  have hj := (Array.getElem?_eq_some_iff.1 h).1
  rw [numA_size] at hj
  rw [Nat.zero_add, ← h]
  have : j = 0 ∨ j = 1 ∨ j = 2 ∨ j = 3 ∨ j = 4 ∨ j = 5 ∨ j = 6 ∨ j = 7 := by omega
  rcases this with rfl | rfl | rfl | rfl | rfl | rfl | rfl | rfl <;> rfl
set_option maxRecDepth 100000 in
set_option maxHeartbeats 4000000 in
theorem pow1_any (m r t : Nat) (n : Int) (hm : m < 4294967296 ^ 8) (ho : m % 2 = 1) (hn : ∃ q, n * digI m 0 + 1 = 4294967296 * q) (hn0 : 0 ≤ n) (hn1 : n < 4294967296) (x y : Nat) (hx : x < 4294967296 ^ 8) (hy : y < m) (C : Nat) (w : World) (hC : Blk w C 72 (montA m r t n))  :
    Calls Try.prog 74 #[numV x, numV y, .pointer (some ⟨C, 0, none⟩)] w fun e w' => e = .returned (numV (mm m (x * y))) ∧ Below w.heap.size w w' := by
  have HN := hid hn
  clear hn
  have hCl := hC.lt
  go_enter Try.func74, Try.ntmps74
  go_upto_region 1 with fail
  obtain ⟨W, hW⟩ : ∃ W, W = ((((w.alloc (.cells (numA x) 26))).alloc (.cells (numA y) 26))).alloc (.cells #[Value.int .u32 0, .int .u32 0, .int .u32 0, .int .u32 0, .int .u32 0, .int .u32 0, .int .u32 0, .int .u32 0] 26) := ⟨_, rfl⟩
  have q_x : Num W (w.heap.size) 26 (x) := by
    have := (((Num.new w 26 (x)).alloc (.cells (numA y) 26)).alloc (.cells #[Value.int .u32 0, .int .u32 0, .int .u32 0, .int .u32 0, .int .u32 0, .int .u32 0, .int .u32 0, .int .u32 0] 26))
    rw [hW]; exact this
  have q_y : Num W (w.heap.size + 1) 26 (y) := by
    have := ((Num.new (w.alloc (.cells (numA x) 26)) 26 (y)).alloc (.cells #[Value.int .u32 0, .int .u32 0, .int .u32 0, .int .u32 0, .int .u32 0, .int .u32 0, .int .u32 0, .int .u32 0] 26))
    rw [World.size_alloc] at this
    rw [hW]; exact this
  have q_r : Num W (w.heap.size + 1 + 1) 26 0 := by
    have := (Num.new (((w.alloc (.cells (numA x) 26))).alloc (.cells (numA y) 26)) 26 0)
    rw [World.size_alloc, World.size_alloc, ← zeroA] at this
    rw [hW]; exact this
  have gb : Below w.heap.size w W := by rw [hW]; exact ((((Below.refl _ _).alloc (by simp <;> omega) _).alloc (by simp <;> omega) _).alloc (by simp <;> omega) _)
  rw [← hW]
  clear hW
  have lor := hid (show w.heap.size ≤ w.heap.size + 1 + 1 by omega)
  have nx_r := hid (show w.heap.size ≠ w.heap.size + 1 + 1 by omega)
  have ny_r := hid (show w.heap.size + 1 ≠ w.heap.size + 1 + 1 by omega)
  have q_k := hC.below gb hCl
  have nr_k := hid (show w.heap.size + 1 + 1 ≠ C by omega)
  go_wp2_with (first | (refine wpList_load_num rfl _ (.tmp 3) rfl _ rfl _ _ _ q_x Try.underlying26 rfl size26 ?_) | (refine wpList_load_num rfl _ (.tmp 4) rfl _ rfl _ _ _ q_y Try.underlying26 rfl size26 ?_) | (refine wpList_load_blk rfl _ (.tmp 2) rfl _ rfl _ _ _ q_k Try.underlying72 rfl size_mont ?_))
  refine (mtmul_any m r t n hm ho HN.out hn0 hn1 x y hx hy _).mono ?_
  rintro e w1 ⟨rfl, bw1⟩
  have x_1 := q_x.step bw1
  have y_1 := q_y.step bw1
  have r_1 := q_r.step bw1
  have k_1 := q_k.step bw1
  have c_1 := step_trans gb bw1
  clear q_x q_y q_r q_k gb bw1
  go_wp2_with (first | (refine wpList_store_num rfl _ (.tmp 5) _ rfl _ rfl _ rfl _ rfl r_1 size26 ?_; intro w2 gw2 mw2; have x_2 := x_1.grown gw2 (ne_some nx_r.out); have y_2 := y_1.grown gw2 (ne_some ny_r.out); have k_2 := k_1.grown gw2 (ne_some nr_k.out.symm); have c_2 := below_of_grown c_1 gw2 c_1.size lor.out; clear r_1 x_1 y_1 k_1 c_1 gw2))
  exact bodyPost_ret (results_num rfl rfl mw2 Try.underlying26 rfl size26) rfl ⟨rfl, c_2⟩
set_option maxRecDepth 100000 in
set_option maxHeartbeats 16000000 in
theorem power_any (m r t : Nat) (n : Int) (hm : m < 4294967296 ^ 8) (ho : m % 2 = 1) (hn : ∃ q, n * digI m 0 + 1 = 4294967296 * q) (hn0 : 0 ≤ n) (hn1 : n < 4294967296) (a x R A : Nat) (hx : x < 4294967296 ^ 8) (hR : R = 4294967296 ^ 8 % m) (hA : A = a * 4294967296 ^ 8 % m) (C : Nat) (w : World) (hC : Blk w C 72 (montA m r t n))  :
    Calls Try.prog 78 #[.agg (prodA R C), numV A, numV x] w fun e w' => e = .returned (numV (a ^ x * 4294967296 ^ 8 % m)) ∧ Below w.heap.size w w' := by
  have HN := hid hn
  clear hn
  rw [← pm_last m a x]
  have HA := hid hA
  have HR := hid hR
  clear hA hR
  go_enter Try.func78, Try.ntmps78
  go_upto_region 1 with fail
  obtain ⟨W, hW⟩ : ∃ W, W = ((((((w.alloc (.cells (prodA R C) 95))).alloc (.cells (numA A) 26))).alloc (.cells (numA x) 26))).alloc (.cells #[Value.int .u32 0, .int .u32 0, .int .u32 0, .int .u32 0, .int .u32 0, .int .u32 0, .int .u32 0, .int .u32 0] 26) := ⟨_, rfl⟩
  have q_p : Blk W (w.heap.size) 95 (prodA R C) := by
    have := ((((Blk.new w 95 (prodA R C)).alloc (.cells (numA A) 26)).alloc (.cells (numA x) 26)).alloc (.cells #[Value.int .u32 0, .int .u32 0, .int .u32 0, .int .u32 0, .int .u32 0, .int .u32 0, .int .u32 0, .int .u32 0] 26))
    rw [hW]; exact this
  have q_a : Num W (w.heap.size + 1) 26 (A) := by
    have := (((Num.new (w.alloc (.cells (prodA R C) 95)) 26 (A)).alloc (.cells (numA x) 26)).alloc (.cells #[Value.int .u32 0, .int .u32 0, .int .u32 0, .int .u32 0, .int .u32 0, .int .u32 0, .int .u32 0, .int .u32 0] 26))
    rw [World.size_alloc] at this
    rw [hW]; exact this
  have q_e : Num W (w.heap.size + 1 + 1) 26 (x) := by
    have := ((Num.new (((w.alloc (.cells (prodA R C) 95))).alloc (.cells (numA A) 26)) 26 (x)).alloc (.cells #[Value.int .u32 0, .int .u32 0, .int .u32 0, .int .u32 0, .int .u32 0, .int .u32 0, .int .u32 0, .int .u32 0] 26))
    rw [World.size_alloc, World.size_alloc] at this
    rw [hW]; exact this
  have q_r : Num W (w.heap.size + 1 + 1 + 1) 26 0 := by
    have := (Num.new (((((w.alloc (.cells (prodA R C) 95))).alloc (.cells (numA A) 26))).alloc (.cells (numA x) 26)) 26 0)
    rw [World.size_alloc, World.size_alloc, World.size_alloc, ← zeroA] at this
    rw [hW]; exact this
  have gb : Below w.heap.size w W := by rw [hW]; exact (((((Below.refl _ _).alloc (by simp <;> omega) _).alloc (by simp <;> omega) _).alloc (by simp <;> omega) _).alloc (by simp <;> omega) _)
  rw [← hW]
  clear hW
  have lor := hid (show w.heap.size ≤ w.heap.size + 1 + 1 + 1 by omega)
  have np_r := hid (show w.heap.size ≠ w.heap.size + 1 + 1 + 1 by omega)
  have na_r := hid (show w.heap.size + 1 ≠ w.heap.size + 1 + 1 + 1 by omega)
  have ne_r := hid (show w.heap.size + 1 + 1 ≠ w.heap.size + 1 + 1 + 1 by omega)
  have hCl := hC.lt
  have q_k := hC.below gb hCl
  have nr_k := hid (show w.heap.size + 1 + 1 + 1 ≠ C by omega)
  go_upto_region 2 with (first | (refine wpList_load_num rfl _ (.tmp 5) rfl _ rfl _ _ _ q_e Try.underlying26 rfl size26 ?_) | (refine wpList_load_part rfl _ (.tmp 9) rfl _ _ rfl _ _ (numA R) _ q_p prodA_one Try.underlying26 rfl size26 ?_) | (refine wpList_store_num rfl _ (.tmp 7) _ rfl _ rfl _ rfl _ rfl (heap_alloc_new _ _) size26 ?_; intro w1 gw1 mw1; have b_1 := step_new gw1; have lox := hid (show _ ≤ W.heap.size from Nat.le_trans gb.size (by omega)); have np_x := hid (show _ ≠ W.heap.size from Nat.ne_of_lt (Nat.lt_of_lt_of_le q_p.lt (by omega))); have na_x := hid (show _ ≠ W.heap.size from Nat.ne_of_lt (Nat.lt_of_lt_of_le q_a.lt (by omega))); have ne_x := hid (show _ ≠ W.heap.size from Nat.ne_of_lt (Nat.lt_of_lt_of_le q_e.lt (by omega))); have nr_x := hid (show _ ≠ W.heap.size from Nat.ne_of_lt (Nat.lt_of_lt_of_le q_r.lt (by omega))); have nk_x := hid (show _ ≠ W.heap.size from Nat.ne_of_lt (Nat.lt_of_lt_of_le q_k.lt (by omega))); have p_1 := q_p.step b_1; have a_1 := q_a.step b_1; have e_1 := q_e.step b_1; have r_1 := q_r.step b_1; have k_1 := q_k.step b_1; have c_1 := step_trans gb b_1; clear q_p q_a q_e q_r q_k gb b_1 gw1) | (refine wpList_load_num rfl _ (.tmp 5) rfl _ rfl _ _ _ e_1 Try.underlying26 rfl size26 ?_) | (refine wpList_load_part rfl _ (.tmp 9) rfl _ _ rfl _ _ (numA R) _ p_1 prodA_one Try.underlying26 rfl size26 ?_))
  go_wp2_with (first | (refine wpList_load_num rfl _ (.tmp 5) rfl _ rfl _ _ _ e_1 Try.underlying26 rfl size26 ?_) | (refine wpList_load_part rfl _ (.tmp 9) rfl _ _ rfl _ _ (numA R) _ p_1 prodA_one Try.underlying26 rfl size26 ?_))
  refine (bits_any _ _).mono ?_
  rintro e w2 ⟨rfl, bw2⟩
  have p_2 := p_1.step bw2
  have a_2 := a_1.step bw2
  have e_2 := e_1.step bw2
  have r_2 := r_1.step bw2
  have k_2 := k_1.step bw2
  have x_1 := mw1.step bw2
  have c_2 := step_trans c_1 bw2
  clear p_1 a_1 e_1 r_1 k_1 mw1 c_1 bw2
  obtain ⟨K, hK, hK1, hK2⟩ := top_ends hx
  rw [hK]
  obtain ⟨B, HB⟩ : ∃ B, Hid (B = W.heap.size) := ⟨_, hid rfl⟩
  rw [← HB.out] at x_1 nr_x np_x na_x ne_x nk_x lox ⊢
  clear HB
  rw [HR.out, ← pm_first (m := m) (a := a) hK2] at x_1
  have xw := x_1
  obtain ⟨W0, rfl⟩ : ∃ W, W = w2 := ⟨_, rfl⟩
  go_wp2_with fail
  go_loopw [8] (fun i wr => ∃ k : Nat, k ≤ 256 ∧ i = .int .i64 ((k : Int) - 1) ∧ Num wr B 26 (pmN m a x k) ∧ W0.grownBy wr (some B)) (fun i _ => (intOf i + 1).toNat)
  case atStart => exact ⟨K, hK1, rfl, xw, World.grownBy.refl _ _⟩
  case round =>
    obtain ⟨k, hk, rfl, hX0, hg⟩ := hrel
    clear xw
    have hg0 := hg
    have p_3 := p_2.grown hg (ne_some np_x.out)
    have a_3 := a_2.grown hg (ne_some na_x.out)
    have e_3 := e_2.grown hg (ne_some ne_x.out)
    have r_3 := r_2.grown hg (ne_some nr_x.out)
    have k_3 := k_2.grown hg (ne_some nk_x.out)
    have c_3 := below_of_grown c_2 hg c_2.size lox.out
    clear p_2 a_2 e_2 r_2 k_2 c_2 hg
    rcases Nat.eq_zero_or_pos k with rfl | hkp
    · rw [show ((0 : Nat) : Int) - 1 = -1 from rfl]
      go_upto_region 7 with (first | (refine wpList_load_num rfl _ (.tmp 7) rfl _ rfl _ _ _ hX0 Try.underlying26 rfl size26 ?_))
      go_wp2_with (first | (refine wpList_load_num rfl _ (.tmp 7) rfl _ rfl _ _ _ hX0 Try.underlying26 rfl size26 ?_) | (refine wpList_store_num rfl _ (.tmp 6) _ rfl _ rfl _ rfl _ rfl r_3 size26 ?_; intro w3 gw3 mw3; have p_4 := p_3.grown gw3 (ne_some np_r.out); have a_4 := a_3.grown gw3 (ne_some na_r.out); have e_4 := e_3.grown gw3 (ne_some ne_r.out); have k_4 := k_3.grown gw3 (ne_some nr_k.out.symm); have x_2 := hX0.grown gw3 (ne_some nr_x.out.symm); have c_4 := below_of_grown c_3 gw3 c_3.size lor.out; clear r_3 p_3 a_3 e_3 k_3 hX0 c_3 gw3) | (refine wpList_load_num rfl _ (.tmp 7) rfl _ rfl _ _ _ x_2 Try.underlying26 rfl size26 ?_))
      exact bodyPost_ret (results_num rfl rfl mw3 Try.underlying26 rfl size26) rfl ⟨rfl, c_4⟩
    · obtain ⟨j, rfl⟩ : ∃ j, k = j + 1 := ⟨k - 1, by omega⟩
      rw [show ((j + 1 : Nat) : Int) - 1 = (j : Int) by omega]
      obtain ⟨Y, Z, e1, e2, hY, hZ, hpk⟩ := pm_step ho a x j
      have hXm := pm_lt (show 0 < m by omega) a x (j + 1)
      rw [← HA.out] at e2
      obtain ⟨X, hX⟩ : ∃ X, pmN m a x (j + 1) = X := ⟨_, rfl⟩
      rw [hX] at hX0 e1 hXm
      clear hX
      obtain ⟨V, hV⟩ : ∃ V, Hid (pmN m a x j = V) := ⟨_, hid rfl⟩
      rw [hV.out] at hpk
      have cp8 : wr.cell? ⟨w.heap.size, 8, none⟩ = some (.func (.func 74) #[] #[.pointer (some ⟨C, 0, none⟩)]) := p_3.cell (k := 8) rfl
      have fp8 := p_3.frozen 8
      go_upto_region 6 with (first | (refine wpList_load_num rfl _ (.tmp 7) rfl _ rfl _ _ _ hX0 Try.underlying26 rfl size26 ?_) | (go_at_call 74; refine (pow1_any m r t n hm ho HN.out hn0 hn1 X X (by omega) hXm C _ k_3).mono ?_; rintro e wq ⟨rfl, bq⟩; rw [e1]; have xq := hX0.step bq) | (refine wpList_store_num rfl _ (.tmp 7) _ rfl _ rfl _ rfl _ rfl xq size26 ?_; intro wy gy my))
      have hg1 := World.grownBy.trans (World.grownBy.trans hg0 (grown_below bq)) gy
      have p_4 := p_3.step bq
      have a_4 := a_3.step bq
      have e_4 := e_3.step bq
      have r_4 := r_3.step bq
      have k_4 := k_3.step bq
      have x_2 := hX0.step bq
      have c_4 := step_trans c_3 bq
      clear p_3 a_3 e_3 r_3 k_3 hX0 c_3
      have p_5 := p_4.grown gy (ne_some np_x.out)
      have a_5 := a_4.grown gy (ne_some na_x.out)
      have e_5 := e_4.grown gy (ne_some ne_x.out)
      have r_5 := r_4.grown gy (ne_some nr_x.out)
      have k_5 := k_4.grown gy (ne_some nk_x.out)
      have c_5 := below_of_grown c_4 gy c_4.size lox.out
      clear p_4 a_4 e_4 r_4 k_4 x_2 c_4 gy
      clear cp8 fp8
      have hAm : A < m := by rw [HA.out]; exact Nat.mod_lt _ (by omega)
      have hb0 := bitI_bd x j
      have hpick : ∀ w, Calls Try.prog 76 #[.int .u32 (bits BinOp.and IntKind.u32 (digI x (j / 32) / 2 ^ (j % 32)) 1), numV Z, numV Y] w fun e w' => e = .returned (numV V) ∧ Below w.heap.size w w' := fun w => by
        rw [bit_dig, ← hpk]
        exact pick_any (bitI x j) (by omega) (by omega) Z Y w
      have cp8 := fun Q : Later wy => (show Q.w.cell? ⟨w.heap.size, 8, none⟩ = some (.func (.func 74) #[] #[.pointer (some ⟨C, 0, none⟩)]) from (p_5.below Q.h p_5.lt).cell (k := 8) rfl)
      have cp9 := fun Q : Later wy => (show Q.w.cell? ⟨w.heap.size, 9, none⟩ = some (.func (.func 76) #[] #[]) from (p_5.below Q.h p_5.lt).cell (k := 9) rfl)
      have fp8 := fun Q : Later wy => (p_5.below Q.h p_5.lt).frozen 8
      have fp9 := fun Q : Later wy => (p_5.below Q.h p_5.lt).frozen 9
      have ce := fun Q : Later wy => (show Q.w.cell? ⟨w.heap.size + 1 + 1, j / 32, none⟩ = some (.int .u32 (digI x (j / 32))) from (e_5.later Q).cell (k := j / 32) (by omega))
      have fe := fun Q : Later wy => (e_5.later Q).frozen (j / 32)
      have KK := fun Q : Later wy => k_5.below Q.h k_5.lt
      have hz : ∀ w, Blk w C 72 (montA m r t n) → Calls Try.prog 74 #[numV Y, numV A, .pointer (some ⟨C, 0, none⟩)] w fun e w' => e = .returned (numV Z) ∧ Below w.heap.size w w' := fun w h => by
        rw [← e2]; exact pow1_any m r t n hm ho HN.out hn0 hn1 Y A (by omega) hAm C w h
      clear hpk
      try simp only [Act.put, List.setIfInBounds_toArray, List.set_cons_zero, List.set_cons_succ]
      refine wp_region_tail (by kernel_rfl) (by kernel_rfl) (by kernel_rfl) (by kernel_rfl) (by kernel_rfl) ?_
      simp only [calm, headOps, tailOps, List.length_cons, List.length_nil, List.drop_succ_cons, List.drop_zero, Nat.zero_add, Nat.reduceAdd]
      go_big_quiet_step (fail)
      go_big_quiet_step (fail)
      go_big_quiet_step (fail)
      go_big_quiet_step (fail)
      go_big_quiet_step (fail)
      go_big_quiet_step (fail)
      go_big_quiet_step (fail)
      go_big_quiet_step (fail)
      go_big_quiet_step (fail)
      go_big_quiet_step (fail)
      go_big_quiet_step (fail)
      go_big_quiet_step (fail)
      (refine wpQuiet_load_num rfl _ (.tmp 7) rfl _ rfl _ _ _ my Try.underlying26 rfl size26 ?_; simp only [Act.put, List.setIfInBounds_toArray, List.set_cons_zero, List.set_cons_succ])
      (refine wpQuiet_load_num rfl _ (.tmp 4) rfl _ rfl _ _ _ a_5 Try.underlying26 rfl size26 ?_; simp only [Act.put, List.setIfInBounds_toArray, List.set_cons_zero, List.set_cons_succ])
      go_big_quiet_step (exact later_of (hz _ (KK _)))
      (refine wpQuiet_load_num rfl _ (.tmp 7) rfl _ rfl _ _ _ my Try.underlying26 rfl size26 ?_; simp only [Act.put, List.setIfInBounds_toArray, List.set_cons_zero, List.set_cons_succ])
      go_big_quiet_step (exact later_of (hpick _))
      refine wpQuiet_nil ?_
      intro XX
      have p_6 := p_5.step XX.h
      have a_6 := a_5.step XX.h
      have e_6 := e_5.step XX.h
      have r_6 := r_5.step XX.h
      have k_6 := k_5.step XX.h
      have x_3 := my.step XX.h
      have c_6 := step_trans c_5 XX.h
      clear p_5 a_5 e_5 r_5 k_5 my c_5
      go_wp2_with (first | (refine wpList_load_num rfl _ (.tmp 7) rfl _ rfl _ _ _ x_3 Try.underlying26 rfl size26 ?_) | (refine wpList_store_num rfl _ (.tmp 7) _ rfl _ rfl _ rfl _ rfl x_3 size26 ?_; intro wv gv mv))
      go_roundw
      case rel => exact ⟨j, by omega, rfl, by rw [hV.out]; exact mv, World.grownBy.trans (World.grownBy.trans hg1 (grown_below XX.h)) gv⟩
      case measure => simp [intOf] <;> omega
end Go.Proofs.Ytgccbfkofkohpaa
