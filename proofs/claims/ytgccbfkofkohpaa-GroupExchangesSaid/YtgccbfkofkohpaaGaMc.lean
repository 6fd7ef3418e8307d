/- Powers: numbers. -/
import Derived.Test.YtgccbfkofkohpaaGaMb
import Derived.Test.YtgccbfkofkohpaaRefB
import Derived.Test.YtgccbfkofkohpaaGaNum
import Derived.Test.YtgccbfkofkohpaaGaRest
import Derived.Test.YtgccbfkofkohpaaGaMul
namespace Go.Proofs.Ytgccbfkofkohpaa
set_option linter.unusedVariables false
set_option maxRecDepth 20000
set_option linter.unusedSimpArgs false
open Go.ChangeShapes Go.WideShapes Go.ChangeAt Go.RowKit
theorem mm_mul {m : Nat} (ho : m % 2 = 1) (u v : Nat) : mm m (u * 4294967296 ^ 8 % m * (v * 4294967296 ^ 8 % m)) = u * v * 4294967296 ^ 8 % m := by
  have h0 : 0 < m := by omega
  have hu : ∀ r x : Nat, r < m → 4294967296 ^ 8 * r % m = x % m → r = mm m x := fun r x h k => mm_unique ho h k
  generalize 4294967296 ^ 8 = P at *
  refine (hu _ _ (Nat.mod_lt _ h0) ?_).symm
  rw [Nat.mul_mod_mod, ← Nat.mul_mod]
  congr 1
  grind
theorem pow_half (a e k : Nat) : a ^ (e / 2 ^ k) = a ^ (e / 2 ^ (k + 1)) * a ^ (e / 2 ^ (k + 1)) * (if e / 2 ^ k % 2 = 1 then a else 1) := by
  have h : e / 2 ^ (k + 1) = e / 2 ^ k / 2 := by rw [Nat.pow_succ, Nat.div_div_eq_div_mul]
  rw [h]
  generalize e / 2 ^ k = z
  obtain ⟨q, hq⟩ : ∃ q, q = z / 2 := ⟨_, rfl⟩
  rw [← hq, ← Nat.pow_add]
  rcases Nat.mod_two_eq_zero_or_one z with h0 | h0
  · rw [if_neg (by omega), Nat.mul_one]; congr 1; omega
  · rw [if_pos h0, ← Nat.pow_succ]; congr 1; omega
/-- What power holds when k bits are still to come. -/
def pmN (m a e k : Nat) : Nat := a ^ (e / 2 ^ k) * 4294967296 ^ 8 % m
def prN (m a e k : Nat) : Nat := a ^ (e / 2 ^ k) % m
theorem pm_step {m : Nat} (ho : m % 2 = 1) (a e k : Nat) : ∃ Y Z, mm m (pmN m a e (k + 1) * pmN m a e (k + 1)) = Y ∧ mm m (Y * (a * 4294967296 ^ 8 % m)) = Z ∧ Y < m ∧ Z < m ∧ pickN (bitI e k) Z Y = pmN m a e k := by
  have h0 : 0 < m := by omega
  have e1 : mm m (pmN m a e (k + 1) * pmN m a e (k + 1)) = a ^ (e / 2 ^ (k + 1)) * a ^ (e / 2 ^ (k + 1)) * 4294967296 ^ 8 % m := mm_mul ho _ _
  refine ⟨_, _, rfl, rfl, mm_lt h0 _, mm_lt h0 _, ?_⟩
  rw [e1, mm_mul ho]
  unfold pickN bitI pmN
  rw [pow_half a e k]
  rcases Nat.mod_two_eq_zero_or_one (e / 2 ^ k) with h | h
  · rw [h, if_pos (show ((0 : Nat) : Int) = 0 from rfl), if_neg (by omega), Nat.mul_one]
  · rw [h, if_neg (show ¬ ((1 : Nat) : Int) = 0 by decide), if_pos rfl]
theorem pr_step (m a e k : Nat) : ∃ Y, prN m a e (k + 1) * prN m a e (k + 1) % m = Y ∧ (bitI e k = 0 ∧ Y = prN m a e k ∨ bitI e k = 1 ∧ Y * (a % m) % m = prN m a e k) := by
  refine ⟨_, rfl, ?_⟩
  unfold prN bitI
  rw [pow_half a e k, ← Nat.mul_mod]
  rcases Nat.mod_two_eq_zero_or_one (e / 2 ^ k) with h | h
  · exact .inl ⟨by rw [h]; rfl, by rw [h, if_neg (by omega), Nat.mul_one]⟩
  · exact .inr ⟨by rw [h]; rfl, by rw [h, if_pos rfl, ← Nat.mul_mod]⟩
/-- How many bits there are to come at first. -/
theorem top_ends {e : Nat} (he : e < 4294967296 ^ 8) : ∃ K : Nat, topI e 8 = (K : Int) ∧ K ≤ 256 ∧ e / 2 ^ K = 0 := by
  rcases Nat.eq_zero_or_pos e with rfl | h0
  · exact ⟨0, topI_none 8, by omega, by simp⟩
  · obtain ⟨k, hk⟩ : ∃ k, e / 2 ^ k = 1 := by
      refine ⟨Nat.log2 e, ?_⟩
      have h1 := Nat.log2_self_le (n := e) (by omega)
      have h2 := Nat.lt_log2_self (n := e)
      rw [Nat.pow_succ] at h2
      exact Nat.div_eq_of_lt_le (by omega) (by omega)
    have h1 := top_one he hk
    refine ⟨k + 1, by rw [h1]; rfl, ?_, by rw [Nat.pow_succ, ← Nat.div_div_eq_div_mul, hk]⟩
    refine Nat.le_of_not_lt fun hge => ?_
    have : 2 ^ 256 ≤ 2 ^ k := Nat.pow_le_pow_right (by decide) (by omega)
    rw [Nat.div_eq_of_lt (by rw [big_eq] at he; omega)] at hk
    cases hk
theorem pm_first {m a e K : Nat} (h : e / 2 ^ K = 0) : pmN m a e K = 4294967296 ^ 8 % m := by unfold pmN; rw [h, Nat.pow_zero, Nat.one_mul]
theorem pm_last (m a e : Nat) : pmN m a e 0 = a ^ e * 4294967296 ^ 8 % m := by unfold pmN; rw [Nat.pow_zero, Nat.div_one]
theorem pr_first {m a e K : Nat} (h1 : 1 < m) (h : e / 2 ^ K = 0) : prN m a e K = 1 := by unfold prN; rw [h, Nat.pow_zero, Nat.mod_eq_of_lt h1]
theorem pr_last (m a e : Nat) : prN m a e 0 = a ^ e % m := by unfold prN; rw [Nat.pow_zero, Nat.div_one]
theorem pm_lt {m : Nat} (h0 : 0 < m) (a e k : Nat) : pmN m a e k < m := Nat.mod_lt _ h0
theorem pr_lt {m : Nat} (h0 : 0 < m) (a e k : Nat) : prN m a e k < m := Nat.mod_lt _ h0
attribute [irreducible] pmN prN
end Go.Proofs.Ytgccbfkofkohpaa
namespace Go.Proofs.Ytgccbfkofkohpaa
set_option linter.unusedVariables false
set_option maxRecDepth 20000
set_option linter.unusedSimpArgs false
open Go.ChangeShapes Go.WideShapes Go.ChangeAt Go.RowKit
/-- How numbers are multiplied by a modulus that lies in block C. -/
def prodA (R C : Nat) : Array Value := #[numF R 0, numF R 1, numF R 2, numF R 3, numF R 4, numF R 5, numF R 6, numF R 7, .func (.func 74) #[] #[.pointer (some ⟨C, 0, none⟩)], .func (.func 76) #[] #[]]
theorem size_prod : (Try.prog.info? 95).map (·.size) = some 10 := by kernel_rfl
theorem prodA_one {R C : Nat} (j : Nat) (v : Value) (h : (numA R)[j]? = some v) : (prodA R C)[0 + j]? = some v := by
  have hj := (Array.getElem?_eq_some_iff.1 h).1
  rw [numA_size] at hj
  rw [Nat.zero_add, ← h]
  have : j = 0 ∨ j = 1 ∨ j = 2 ∨ j = 3 ∨ j = 4 ∨ j = 5 ∨ j = 6 ∨ j = 7 := by omega
  rcases this with rfl | rfl | rfl | rfl | rfl | rfl | rfl | rfl <;> rfl
set_option maxRecDepth 100000 in
set_option maxHeartbeats 4000000 in
theorem pow1_any (m r t : Nat) (n : Int) (hm : m < 4294967296 ^ 8) (ho : m % 2 = 1) (hn : ∃ q, n * digI m 0 + 1 = 4294967296 * q) (hn0 : 0 ≤ n) (hn1 : n < 4294967296) (x y : Nat) (hx : x < 4294967296 ^ 8) (hy : y < m) (C : Nat) (w : World) (hC : Blk w C 72 (montA m r t n))  :
    Calls Try.prog 74 #[numV x, numV y, .pointer (some ⟨C, 0, none⟩)] w fun e w' => e = .returned (numV (mm m (x * y))) ∧ Below w.heap.size w w' := by
  have HN := hid hn
  clear hn
  have hCl := hC.lt
  go_enter Try.func74, Try.ntmps74
  go_upto_region 1 with fail
  obtain ⟨W, hW⟩ : ∃ W, W = ((((w.alloc (.cells (numA x) 26))).alloc (.cells (numA y) 26))).alloc (.cells #[Value.int .u32 0, .int .u32 0, .int .u32 0, .int .u32 0, .int .u32 0, .int .u32 0, .int .u32 0, .int .u32 0] 26) := ⟨_, rfl⟩
  have q_x : Num W (w.heap.size) 26 (x) := by
    have := (((Num.new w 26 (x)).alloc (.cells (numA y) 26)).alloc (.cells #[Value.int .u32 0, .int .u32 0, .int .u32 0, .int .u32 0, .int .u32 0, .int .u32 0, .int .u32 0, .int .u32 0] 26))
    rw [hW]; exact this
  have q_y : Num W (w.heap.size + 1) 26 (y) := by
    have := ((Num.new (w.alloc (.cells (numA x) 26)) 26 (y)).alloc (.cells #[Value.int .u32 0, .int .u32 0, .int .u32 0, .int .u32 0, .int .u32 0, .int .u32 0, .int .u32 0, .int .u32 0] 26))
    rw [World.size_alloc] at this
    rw [hW]; exact this
  have q_r : Num W (w.heap.size + 1 + 1) 26 0 := by
    have := (Num.new (((w.alloc (.cells (numA x) 26))).alloc (.cells (numA y) 26)) 26 0)
    rw [World.size_alloc, World.size_alloc, ← zeroA] at this
    rw [hW]; exact this
  have gb : Below w.heap.size w W := by rw [hW]; exact ((((Below.refl _ _).alloc (by simp <;> omega) _).alloc (by simp <;> omega) _).alloc (by simp <;> omega) _)
  rw [← hW]
  clear hW
  have lor := hid (show w.heap.size ≤ w.heap.size + 1 + 1 by omega)
  have nx_r := hid (show w.heap.size ≠ w.heap.size + 1 + 1 by omega)
  have ny_r := hid (show w.heap.size + 1 ≠ w.heap.size + 1 + 1 by omega)
  have q_k := hC.below gb hCl
  have nr_k := hid (show w.heap.size + 1 + 1 ≠ C by omega)
  go_wp2_with (first | (refine wpList_load_num rfl _ (.tmp 3) rfl _ rfl _ _ _ q_x Try.underlying26 rfl size26 ?_) | (refine wpList_load_num rfl _ (.tmp 4) rfl _ rfl _ _ _ q_y Try.underlying26 rfl size26 ?_) | (refine wpList_load_blk rfl _ (.tmp 2) rfl _ rfl _ _ _ q_k Try.underlying72 rfl size_mont ?_))
  refine (mtmul_any m r t n hm ho HN.out hn0 hn1 x y hx hy _).mono ?_
  rintro e w1 ⟨rfl, bw1⟩
  have x_1 := q_x.step bw1
  have y_1 := q_y.step bw1
  have r_1 := q_r.step bw1
  have k_1 := q_k.step bw1
  have c_1 := step_trans gb bw1
  clear q_x q_y q_r q_k gb bw1
  go_wp2_with (first | (refine wpList_store_num rfl _ (.tmp 5) _ rfl _ rfl _ rfl _ rfl r_1 size26 ?_; intro w2 gw2 mw2; have x_2 := x_1.grown gw2 (ne_some nx_r.out); have y_2 := y_1.grown gw2 (ne_some ny_r.out); have k_2 := k_1.grown gw2 (ne_some nr_k.out.symm); have c_2 := below_of_grown c_1 gw2 c_1.size lor.out; clear r_1 x_1 y_1 k_1 c_1 gw2))
  exact bodyPost_ret (results_num rfl rfl mw2 Try.underlying26 rfl size26) rfl ⟨rfl, c_2⟩
set_option maxRecDepth 100000 in
set_option maxHeartbeats 16000000 in
theorem power_any (m r t : Nat) (n : Int) (hm : m < 4294967296 ^ 8) (ho : m % 2 = 1) (hn : ∃ q, n * digI m 0 + 1 = 4294967296 * q) (hn0 : 0 ≤ n) (hn1 : n < 4294967296) (a x R A : Nat) (hx : x < 4294967296 ^ 8) (hR : R = 4294967296 ^ 8 % m) (hA : A = a * 4294967296 ^ 8 % m) (C : Nat) (w : World) (hC : Blk w C 72 (montA m r t n))  :
    Calls Try.prog 78 #[.agg (prodA R C), numV A, numV x] w fun e w' => e = .returned (numV (a ^ x * 4294967296 ^ 8 % m)) ∧ Below w.heap.size w w' := by
  have HN := hid hn
  clear hn
  rw [← pm_last m a x]
  have HA := hid hA
  have HR := hid hR
  clear hA hR
  go_enter Try.func78, Try.ntmps78
  go_upto_region 1 with fail
  obtain ⟨W, hW⟩ : ∃ W, W = ((((((w.alloc (.cells (prodA R C) 95))).alloc (.cells (numA A) 26))).alloc (.cells (numA x) 26))).alloc (.cells #[Value.int .u32 0, .int .u32 0, .int .u32 0, .int .u32 0, .int .u32 0, .int .u32 0, .int .u32 0, .int .u32 0] 26) := ⟨_, rfl⟩
  have q_p : Blk W (w.heap.size) 95 (prodA R C) := by
    have := ((((Blk.new w 95 (prodA R C)).alloc (.cells (numA A) 26)).alloc (.cells (numA x) 26)).alloc (.cells #[Value.int .u32 0, .int .u32 0, .int .u32 0, .int .u32 0, .int .u32 0, .int .u32 0, .int .u32 0, .int .u32 0] 26))
    rw [hW]; exact this
  have q_a : Num W (w.heap.size + 1) 26 (A) := by
    have := (((Num.new (w.alloc (.cells (prodA R C) 95)) 26 (A)).alloc (.cells (numA x) 26)).alloc (.cells #[Value.int .u32 0, .int .u32 0, .int .u32 0, .int .u32 0, .int .u32 0, .int .u32 0, .int .u32 0, .int .u32 0] 26))
    rw [World.size_alloc] at this
    rw [hW]; exact this
  have q_e : Num W (w.heap.size + 1 + 1) 26 (x) := by
    have := ((Num.new (((w.alloc (.cells (prodA R C) 95))).alloc (.cells (numA A) 26)) 26 (x)).alloc (.cells #[Value.int .u32 0, .int .u32 0, .int .u32 0, .int .u32 0, .int .u32 0, .int .u32 0, .int .u32 0, .int .u32 0] 26))
    rw [World.size_alloc, World.size_alloc] at this
    rw [hW]; exact this
  have q_r : Num W (w.heap.size + 1 + 1 + 1) 26 0 := by
    have := (Num.new (((((w.alloc (.cells (prodA R C) 95))).alloc (.cells (numA A) 26))).alloc (.cells (numA x) 26)) 26 0)
    rw [World.size_alloc, World.size_alloc, World.size_alloc, ← zeroA] at this
    rw [hW]; exact this
  have gb : Below w.heap.size w W := by rw [hW]; exact (((((Below.refl _ _).alloc (by simp <;> omega) _).alloc (by simp <;> omega) _).alloc (by simp <;> omega) _).alloc (by simp <;> omega) _)
  rw [← hW]
  clear hW
  have lor := hid (show w.heap.size ≤ w.heap.size + 1 + 1 + 1 by omega)
  have np_r := hid (show w.heap.size ≠ w.heap.size + 1 + 1 + 1 by omega)
  have na_r := hid (show w.heap.size + 1 ≠ w.heap.size + 1 + 1 + 1 by omega)
  have ne_r := hid (show w.heap.size + 1 + 1 ≠ w.heap.size + 1 + 1 + 1 by omega)
  have hCl := hC.lt
  have q_k := hC.below gb hCl
  have nr_k := hid (show w.heap.size + 1 + 1 + 1 ≠ C by omega)
  go_upto_region 2 with (first | (refine wpList_load_num rfl _ (.tmp 5) rfl _ rfl _ _ _ q_e Try.underlying26 rfl size26 ?_) | (refine wpList_load_part rfl _ (.tmp 9) rfl _ _ rfl _ _ (numA R) _ q_p prodA_one Try.underlying26 rfl size26 ?_) | (refine wpList_store_num rfl _ (.tmp 7) _ rfl _ rfl _ rfl _ rfl (heap_alloc_new _ _) size26 ?_; intro w1 gw1 mw1; have b_1 := step_new gw1; have lox := hid (show _ ≤ W.heap.size from Nat.le_trans gb.size (by omega)); have np_x := hid (show _ ≠ W.heap.size from Nat.ne_of_lt (Nat.lt_of_lt_of_le q_p.lt (by omega))); have na_x := hid (show _ ≠ W.heap.size from Nat.ne_of_lt (Nat.lt_of_lt_of_le q_a.lt (by omega))); have ne_x := hid (show _ ≠ W.heap.size from Nat.ne_of_lt (Nat.lt_of_lt_of_le q_e.lt (by omega))); have nr_x := hid (show _ ≠ W.heap.size from Nat.ne_of_lt (Nat.lt_of_lt_of_le q_r.lt (by omega))); have nk_x := hid (show _ ≠ W.heap.size from Nat.ne_of_lt (Nat.lt_of_lt_of_le q_k.lt (by omega))); have p_1 := q_p.step b_1; have a_1 := q_a.step b_1; have e_1 := q_e.step b_1; have r_1 := q_r.step b_1; have k_1 := q_k.step b_1; have c_1 := step_trans gb b_1; clear q_p q_a q_e q_r q_k gb b_1 gw1) | (refine wpList_load_num rfl _ (.tmp 5) rfl _ rfl _ _ _ e_1 Try.underlying26 rfl size26 ?_) | (refine wpList_load_part rfl _ (.tmp 9) rfl _ _ rfl _ _ (numA R) _ p_1 prodA_one Try.underlying26 rfl size26 ?_))
  go_wp2_with (first | (refine wpList_load_num rfl _ (.tmp 5) rfl _ rfl _ _ _ e_1 Try.underlying26 rfl size26 ?_) | (refine wpList_load_part rfl _ (.tmp 9) rfl _ _ rfl _ _ (numA R) _ p_1 prodA_one Try.underlying26 rfl size26 ?_))
  refine (bits_any _ _).mono ?_
  rintro e w2 ⟨rfl, bw2⟩
  have p_2 := p_1.step bw2
  have a_2 := a_1.step bw2
  have e_2 := e_1.step bw2
  have r_2 := r_1.step bw2
  have k_2 := k_1.step bw2
  have x_1 := mw1.step bw2
  have c_2 := step_trans c_1 bw2
  clear p_1 a_1 e_1 r_1 k_1 mw1 c_1 bw2
  obtain ⟨K, hK, hK1, hK2⟩ := top_ends hx
  rw [hK]
  obtain ⟨B, HB⟩ : ∃ B, Hid (B = W.heap.size) := ⟨_, hid rfl⟩
  rw [← HB.out] at x_1 nr_x np_x na_x ne_x nk_x lox ⊢
  clear HB
  rw [HR.out, ← pm_first (m := m) (a := a) hK2] at x_1
  have xw := x_1
  obtain ⟨W0, rfl⟩ : ∃ W, W = w2 := ⟨_, rfl⟩
  go_wp2_with fail
  go_loopw [8] (fun i wr => ∃ k : Nat, k ≤ 256 ∧ i = .int .i64 ((k : Int) - 1) ∧ Num wr B 26 (pmN m a x k) ∧ W0.grownBy wr (some B)) (fun i _ => (intOf i + 1).toNat)
  case atStart => exact ⟨K, hK1, rfl, xw, World.grownBy.refl _ _⟩
  case round =>
    obtain ⟨k, hk, rfl, hX0, hg⟩ := hrel
    clear xw
    have hg0 := hg
    have p_3 := p_2.grown hg (ne_some np_x.out)
    have a_3 := a_2.grown hg (ne_some na_x.out)
    have e_3 := e_2.grown hg (ne_some ne_x.out)
    have r_3 := r_2.grown hg (ne_some nr_x.out)
    have k_3 := k_2.grown hg (ne_some nk_x.out)
    have c_3 := below_of_grown c_2 hg c_2.size lox.out
    clear p_2 a_2 e_2 r_2 k_2 c_2 hg
    rcases Nat.eq_zero_or_pos k with rfl | hkp
    · rw [show ((0 : Nat) : Int) - 1 = -1 from rfl]
      go_upto_region 7 with (first | (refine wpList_load_num rfl _ (.tmp 7) rfl _ rfl _ _ _ hX0 Try.underlying26 rfl size26 ?_))
      go_wp2_with (first | (refine wpList_load_num rfl _ (.tmp 7) rfl _ rfl _ _ _ hX0 Try.underlying26 rfl size26 ?_) | (refine wpList_store_num rfl _ (.tmp 6) _ rfl _ rfl _ rfl _ rfl r_3 size26 ?_; intro w3 gw3 mw3; have p_4 := p_3.grown gw3 (ne_some np_r.out); have a_4 := a_3.grown gw3 (ne_some na_r.out); have e_4 := e_3.grown gw3 (ne_some ne_r.out); have k_4 := k_3.grown gw3 (ne_some nr_k.out.symm); have x_2 := hX0.grown gw3 (ne_some nr_x.out.symm); have c_4 := below_of_grown c_3 gw3 c_3.size lor.out; clear r_3 p_3 a_3 e_3 k_3 hX0 c_3 gw3) | (refine wpList_load_num rfl _ (.tmp 7) rfl _ rfl _ _ _ x_2 Try.underlying26 rfl size26 ?_))
      exact bodyPost_ret (results_num rfl rfl mw3 Try.underlying26 rfl size26) rfl ⟨rfl, c_4⟩
    · obtain ⟨j, rfl⟩ : ∃ j, k = j + 1 := ⟨k - 1, by omega⟩
      rw [show ((j + 1 : Nat) : Int) - 1 = (j : Int) by omega]
      obtain ⟨Y, Z, e1, e2, hY, hZ, hpk⟩ := pm_step ho a x j
      have hXm := pm_lt (show 0 < m by omega) a x (j + 1)
      rw [← HA.out] at e2
      obtain ⟨X, hX⟩ : ∃ X, pmN m a x (j + 1) = X := ⟨_, rfl⟩
      rw [hX] at hX0 e1 hXm
      clear hX
      obtain ⟨V, hV⟩ : ∃ V, Hid (pmN m a x j = V) := ⟨_, hid rfl⟩
      rw [hV.out] at hpk
      have cp8 : wr.cell? ⟨w.heap.size, 8, none⟩ = some (.func (.func 74) #[] #[.pointer (some ⟨C, 0, none⟩)]) := p_3.cell (k := 8) rfl
      have fp8 := p_3.frozen 8
      go_upto_region 6 with (first | (refine wpList_load_num rfl _ (.tmp 7) rfl _ rfl _ _ _ hX0 Try.underlying26 rfl size26 ?_) | (go_at_call 74; refine (pow1_any m r t n hm ho HN.out hn0 hn1 X X (by omega) hXm C _ k_3).mono ?_; rintro e wq ⟨rfl, bq⟩; rw [e1]; have xq := hX0.step bq) | (refine wpList_store_num rfl _ (.tmp 7) _ rfl _ rfl _ rfl _ rfl xq size26 ?_; intro wy gy my))
      have hg1 := World.grownBy.trans (World.grownBy.trans hg0 (grown_below bq)) gy
      have p_4 := p_3.step bq
      have a_4 := a_3.step bq
      have e_4 := e_3.step bq
      have r_4 := r_3.step bq
      have k_4 := k_3.step bq
      have x_2 := hX0.step bq
      have c_4 := step_trans c_3 bq
      clear p_3 a_3 e_3 r_3 k_3 hX0 c_3
      have p_5 := p_4.grown gy (ne_some np_x.out)
      have a_5 := a_4.grown gy (ne_some na_x.out)
      have e_5 := e_4.grown gy (ne_some ne_x.out)
      have r_5 := r_4.grown gy (ne_some nr_x.out)
      have k_5 := k_4.grown gy (ne_some nk_x.out)
      have c_5 := below_of_grown c_4 gy c_4.size lox.out
      clear p_4 a_4 e_4 r_4 k_4 x_2 c_4 gy
      clear cp8 fp8
      have hAm : A < m := by rw [HA.out]; exact Nat.mod_lt _ (by omega)
      have hb0 := bitI_bd x j
      have hpick : ∀ w, Calls Try.prog 76 #[.int .u32 (bits BinOp.and IntKind.u32 (digI x (j / 32) / 2 ^ (j % 32)) 1), numV Z, numV Y] w fun e w' => e = .returned (numV V) ∧ Below w.heap.size w w' := fun w => by
        rw [bit_dig, ← hpk]
        exact pick_any (bitI x j) (by omega) (by omega) Z Y w
      have cp8 := fun Q : Later wy => (show Q.w.cell? ⟨w.heap.size, 8, none⟩ = some (.func (.func 74) #[] #[.pointer (some ⟨C, 0, none⟩)]) from (p_5.below Q.h p_5.lt).cell (k := 8) rfl)
      have cp9 := fun Q : Later wy => (show Q.w.cell? ⟨w.heap.size, 9, none⟩ = some (.func (.func 76) #[] #[]) from (p_5.below Q.h p_5.lt).cell (k := 9) rfl)
      have fp8 := fun Q : Later wy => (p_5.below Q.h p_5.lt).frozen 8
      have fp9 := fun Q : Later wy => (p_5.below Q.h p_5.lt).frozen 9
      have ce := fun Q : Later wy => (show Q.w.cell? ⟨w.heap.size + 1 + 1, j / 32, none⟩ = some (.int .u32 (digI x (j / 32))) from (e_5.later Q).cell (k := j / 32) (by omega))
      have fe := fun Q : Later wy => (e_5.later Q).frozen (j / 32)
      have KK := fun Q : Later wy => k_5.below Q.h k_5.lt
      have hz : ∀ w, Blk w C 72 (montA m r t n) → Calls Try.prog 74 #[numV Y, numV A, .pointer (some ⟨C, 0, none⟩)] w fun e w' => e = .returned (numV Z) ∧ Below w.heap.size w w' := fun w h => by
        rw [← e2]; exact pow1_any m r t n hm ho HN.out hn0 hn1 Y A (by omega) hAm C w h
      clear hpk
      try simp only [Act.put, List.setIfInBounds_toArray, List.set_cons_zero, List.set_cons_succ]
      refine wp_region_tail (by kernel_rfl) (by kernel_rfl) (by kernel_rfl) (by kernel_rfl) (by kernel_rfl) ?_
      simp only [calm, headOps, tailOps, List.length_cons, List.length_nil, List.drop_succ_cons, List.drop_zero, Nat.zero_add, Nat.reduceAdd]
      go_big_quiet_step (fail)
      go_big_quiet_step (fail)
      go_big_quiet_step (fail)
      go_big_quiet_step (fail)
      go_big_quiet_step (fail)
      go_big_quiet_step (fail)
      go_big_quiet_step (fail)
      go_big_quiet_step (fail)
      go_big_quiet_step (fail)
      go_big_quiet_step (fail)
      go_big_quiet_step (fail)
      go_big_quiet_step (fail)
      (refine wpQuiet_load_num rfl _ (.tmp 7) rfl _ rfl _ _ _ my Try.underlying26 rfl size26 ?_; simp only [Act.put, List.setIfInBounds_toArray, List.set_cons_zero, List.set_cons_succ])
      (refine wpQuiet_load_num rfl _ (.tmp 4) rfl _ rfl _ _ _ a_5 Try.underlying26 rfl size26 ?_; simp only [Act.put, List.setIfInBounds_toArray, List.set_cons_zero, List.set_cons_succ])
      go_big_quiet_step (exact later_of (hz _ (KK _)))
      (refine wpQuiet_load_num rfl _ (.tmp 7) rfl _ rfl _ _ _ my Try.underlying26 rfl size26 ?_; simp only [Act.put, List.setIfInBounds_toArray, List.set_cons_zero, List.set_cons_succ])
      go_big_quiet_step (exact later_of (hpick _))
      refine wpQuiet_nil ?_
      intro XX
      have p_6 := p_5.step XX.h
      have a_6 := a_5.step XX.h
      have e_6 := e_5.step XX.h
      have r_6 := r_5.step XX.h
      have k_6 := k_5.step XX.h
      have x_3 := my.step XX.h
      have c_6 := step_trans c_5 XX.h
      clear p_5 a_5 e_5 r_5 k_5 my c_5
      go_wp2_with (first | (refine wpList_load_num rfl _ (.tmp 7) rfl _ rfl _ _ _ x_3 Try.underlying26 rfl size26 ?_) | (refine wpList_store_num rfl _ (.tmp 7) _ rfl _ rfl _ rfl _ rfl x_3 size26 ?_; intro wv gv mv))
      go_roundw
      case rel => exact ⟨j, by omega, rfl, by rw [hV.out]; exact mv, World.grownBy.trans (World.grownBy.trans hg1 (grown_below XX.h)) gv⟩
      case measure => simp [intOf] <;> omega
end Go.Proofs.Ytgccbfkofkohpaa
namespace Go.Proofs.Ytgccbfkofkohpaa
set_option linter.unusedVariables false
set_option maxRecDepth 20000
set_option linter.unusedSimpArgs false
open Go.ChangeShapes Go.WideShapes Go.ChangeAt Go.RowKit
theorem prodA_cells (R C : Nat) : (prodA R C).all (·.oneCell') = true := by simp [prodA, numF, Value.oneCell']
theorem run_buildP {a : Act} {w : World} {o : Oper} (x0 x1 : Operand) (ho : o.op = .build 95 #[(0, x0), (1, x1), (2, .func 76)]) {R C : Nat} (h0 : a.eval x0 = numV R) (h1 : a.eval x1 = .func (.func 74) #[] #[.pointer (some ⟨C, 0, none⟩)]) : (execOp a.eval o).run Try.prog w = .ok (.value (.agg (prodA R C))) w := by
  unfold execOp
  simp only [ho, List.map_toArray, List.map_cons, List.map_nil, h0, h1]
  kernel_rfl
set_option maxRecDepth 100000 in
set_option maxHeartbeats 4000000 in
theorem mtpow_any (m R T : Nat) (n : Int) (hm : m < 4294967296 ^ 8) (ho : m % 2 = 1) (hn : ∃ q, n * digI m 0 + 1 = 4294967296 * q) (hn0 : 0 ≤ n) (hn1 : n < 4294967296) (h1m : 1 < m) (hR : R = 4294967296 ^ 8 % m) (hT : T = 4294967296 ^ 8 * 4294967296 ^ 8 % m) (a x : Nat) (ha : a < 4294967296 ^ 8) (hx : x < 4294967296 ^ 8) (w : World) :
    Calls Try.prog 50 #[.agg (montA m R T n), numV a, numV x] w fun e w' => e = .returned (numV (a ^ x % m)) ∧ Below w.heap.size w w' := by
  have HN := hid hn
  have HR := hid hR
  have hTm : T < m := by rw [hT]; exact Nat.mod_lt _ (by omega)
  obtain ⟨A, HA⟩ : ∃ A, Hid (A = a * 4294967296 ^ 8 % m) := ⟨_, hid rfl⟩
  have hin : ∀ w, Calls Try.prog 79 #[.agg (montA m R T n), numV a] w fun e w' => e = .returned (numV A) ∧ Below w.heap.size w w' := fun w => by
    rw [HA.out, ← mm_in ho a T hT]
    exact mtin_any m R T n hm ho HN.out hn0 hn1 a ha hTm w
  have hout : ∀ w, Calls Try.prog 77 #[.agg (montA m R T n), numV (a ^ x * 4294967296 ^ 8 % m)] w fun e w' => e = .returned (numV (a ^ x % m)) ∧ Below w.heap.size w w' := fun w => by
    rw [← mm_out ho (a ^ x)]
    exact mtout_any m R T n hm h1m ho HN.out hn0 hn1 _ (Nat.lt_trans (Nat.mod_lt _ (by omega)) hm) w
  clear hn hR hT
  obtain ⟨V, hV⟩ : ∃ V, V = a ^ x % m := ⟨_, rfl⟩
  obtain ⟨U, hU⟩ : ∃ U, U = a ^ x * 4294967296 ^ 8 % m := ⟨_, rfl⟩
  have hpw := fun (C : Nat) (w : World) (hC : Blk w C 72 (montA m R T n)) => power_any m R T n hm ho HN.out hn0 hn1 a x R A hx HR.out HA.out C w hC
  rw [← hV] at hout ⊢
  rw [← hU] at hout hpw
  clear hV hU
  go_enter Try.func50, Try.ntmps50
  go_upto_region 1 with fail
  obtain ⟨W, hW⟩ : ∃ W, W = ((((((w.alloc (.cells (montA m R T n) 72))).alloc (.cells (numA a) 26))).alloc (.cells (numA x) 26))).alloc (.cells #[Value.int .u32 0, .int .u32 0, .int .u32 0, .int .u32 0, .int .u32 0, .int .u32 0, .int .u32 0, .int .u32 0] 26) := ⟨_, rfl⟩
  have q_c : Blk W (w.heap.size) 72 (montA m R T n) := by
    have := ((((Blk.new w 72 (montA m R T n)).alloc (.cells (numA a) 26)).alloc (.cells (numA x) 26)).alloc (.cells #[Value.int .u32 0, .int .u32 0, .int .u32 0, .int .u32 0, .int .u32 0, .int .u32 0, .int .u32 0, .int .u32 0] 26))
    rw [hW]; exact this
  have q_a : Num W (w.heap.size + 1) 26 (a) := by
    have := (((Num.new (w.alloc (.cells (montA m R T n) 72)) 26 (a)).alloc (.cells (numA x) 26)).alloc (.cells #[Value.int .u32 0, .int .u32 0, .int .u32 0, .int .u32 0, .int .u32 0, .int .u32 0, .int .u32 0, .int .u32 0] 26))
    rw [World.size_alloc] at this
    rw [hW]; exact this
  have q_e : Num W (w.heap.size + 1 + 1) 26 (x) := by
    have := ((Num.new (((w.alloc (.cells (montA m R T n) 72))).alloc (.cells (numA a) 26)) 26 (x)).alloc (.cells #[Value.int .u32 0, .int .u32 0, .int .u32 0, .int .u32 0, .int .u32 0, .int .u32 0, .int .u32 0, .int .u32 0] 26))
    rw [World.size_alloc, World.size_alloc] at this
    rw [hW]; exact this
  have q_r : Num W (w.heap.size + 1 + 1 + 1) 26 0 := by
    have := (Num.new (((((w.alloc (.cells (montA m R T n) 72))).alloc (.cells (numA a) 26))).alloc (.cells (numA x) 26)) 26 0)
    rw [World.size_alloc, World.size_alloc, World.size_alloc, ← zeroA] at this
    rw [hW]; exact this
  have gb : Below w.heap.size w W := by rw [hW]; exact (((((Below.refl _ _).alloc (by simp <;> omega) _).alloc (by simp <;> omega) _).alloc (by simp <;> omega) _).alloc (by simp <;> omega) _)
  rw [← hW]
  clear hW
  have lor := hid (show w.heap.size ≤ w.heap.size + 1 + 1 + 1 by omega)
  have nc_r := hid (show w.heap.size ≠ w.heap.size + 1 + 1 + 1 by omega)
  have na_r := hid (show w.heap.size + 1 ≠ w.heap.size + 1 + 1 + 1 by omega)
  have ne_r := hid (show w.heap.size + 1 + 1 ≠ w.heap.size + 1 + 1 + 1 by omega)
  try simp only [Act.put, List.setIfInBounds_toArray, List.set_cons_zero, List.set_cons_succ]
  go_upto_region 2 with (first | (refine wpList_load_blk rfl _ (.tmp 3) rfl _ rfl _ _ _ q_c Try.underlying72 rfl size_mont ?_) | (refine wpList_load_num rfl _ (.tmp 4) rfl _ rfl _ _ _ q_a Try.underlying26 rfl size26 ?_) | (refine wpList_load_part rfl _ (.tmp 8) rfl _ _ rfl _ _ (numA R) _ q_c montA_r Try.underlying26 rfl size26 ?_) | (refine wpList_op rfl _ (run_buildP _ _ rfl rfl rfl) ?_) | (refine wpList_store_blk rfl _ (.tmp 7) _ rfl _ rfl (prodA R w.heap.size) rfl (prodA_cells _ _) _ (Blk.new _ _ _) rfl size_prod ?_; intro w1 g1 m1))
  try simp only [Act.put, List.setIfInBounds_toArray, List.set_cons_zero, List.set_cons_succ]
  have nc_p := hid (show _ ≠ W.heap.size from Nat.ne_of_lt q_c.lt)
  have na_p := hid (show _ ≠ W.heap.size from Nat.ne_of_lt q_a.lt)
  have ne_p := hid (show _ ≠ W.heap.size from Nat.ne_of_lt q_e.lt)
  have nr_p := hid (show _ ≠ W.heap.size from Nat.ne_of_lt q_r.lt)
  have lop := hid (show _ ≤ W.heap.size from gb.size)
  have b_1 := step_new g1
  have c_1 := q_c.step b_1
  have a_1 := q_a.step b_1
  have e_1 := q_e.step b_1
  have r_1 := q_r.step b_1
  have c_2 := step_trans gb b_1
  clear q_c q_a q_e q_r gb b_1
  clear g1
  have KK := fun Q : Later w1 => c_1.below Q.h c_1.lt
  refine wp_region_tail (by kernel_rfl) (by kernel_rfl) (by kernel_rfl) (by kernel_rfl) (by kernel_rfl) ?_
  simp only [calm, headOps, tailOps, List.length_cons, List.length_nil, List.drop_succ_cons, List.drop_zero, Nat.zero_add, Nat.reduceAdd]
  (refine wpQuiet_load_blk rfl _ (.tmp 3) rfl _ rfl _ _ _ c_1 Try.underlying72 rfl size_mont ?_; simp only [Act.put, List.setIfInBounds_toArray, List.set_cons_zero, List.set_cons_succ])
  (refine wpQuiet_load_blk rfl _ (.tmp 7) rfl _ rfl _ _ _ m1 Try.underlying95 rfl size_prod ?_; simp only [Act.put, List.setIfInBounds_toArray, List.set_cons_zero, List.set_cons_succ])
  (refine wpQuiet_load_blk rfl _ (.tmp 3) rfl _ rfl _ _ _ c_1 Try.underlying72 rfl size_mont ?_; simp only [Act.put, List.setIfInBounds_toArray, List.set_cons_zero, List.set_cons_succ])
  (refine wpQuiet_load_num rfl _ (.tmp 4) rfl _ rfl _ _ _ a_1 Try.underlying26 rfl size26 ?_; simp only [Act.put, List.setIfInBounds_toArray, List.set_cons_zero, List.set_cons_succ])
  go_big_quiet_step (exact later_of (hin _))
  (refine wpQuiet_load_num rfl _ (.tmp 5) rfl _ rfl _ _ _ e_1 Try.underlying26 rfl size26 ?_; simp only [Act.put, List.setIfInBounds_toArray, List.set_cons_zero, List.set_cons_succ])
  go_big_quiet_step (exact later_of (hpw _ _ (KK _)))
  go_big_quiet_step (exact later_of (hout _))
  refine wpQuiet_nil ?_
  intro X_1
  have c_3 := c_1.step X_1.h
  have a_2 := a_1.step X_1.h
  have e_2 := e_1.step X_1.h
  have r_2 := r_1.step X_1.h
  have p_1 := m1.step X_1.h
  have c_4 := step_trans c_2 X_1.h
  clear c_1 a_1 e_1 r_1 m1 c_2
  go_wp2_with (first | (refine wpList_store_num rfl _ (.tmp 6) _ rfl _ rfl _ rfl _ rfl r_2 size26 ?_; intro w1 gw1 mw1; have c_5 := c_3.grown gw1 (ne_some nc_r.out); have a_3 := a_2.grown gw1 (ne_some na_r.out); have e_3 := e_2.grown gw1 (ne_some ne_r.out); have p_2 := p_1.grown gw1 (ne_some nr_p.out.symm); have c_6 := below_of_grown c_4 gw1 c_4.size lor.out; clear r_2 c_3 a_2 e_2 p_1 c_4 gw1))
  exact bodyPost_ret (results_num rfl rfl mw1 Try.underlying26 rfl size26) rfl ⟨rfl, c_6⟩
end Go.Proofs.Ytgccbfkofkohpaa
namespace Go.Proofs.Ytgccbfkofkohpaa
set_option linter.unusedVariables false
set_option maxRecDepth 20000
set_option linter.unusedSimpArgs false
open Go.ChangeShapes Go.WideShapes Go.ChangeAt Go.RowKit
set_option maxRecDepth 100000 in
set_option maxHeartbeats 16000000 in
theorem rpower_any (a x m : Nat) (ha : a < 4294967296 ^ 8) (hx : x < 4294967296 ^ 8) (hm : m < 4294967296 ^ 8) (h1 : 1 < m) (w : World) :
    Calls Try.prog 39 #[numV a, numV x, numV m] w fun e w' => e = .returned (numV (a ^ x % m)) ∧ Below w.heap.size w w' := by
  rw [← pr_last m a x]
  have hr : ∀ w, Calls Try.prog 37 #[numV a, .agg #[.int .u32 0, .int .u32 0, .int .u32 0, .int .u32 0, .int .u32 0, .int .u32 0, .int .u32 0, .int .u32 0], numV m] w fun e w' => e = .returned (.tuple #[numV (a % m), .bool (decide (m ≠ 0))]) ∧ Below w.heap.size w w' := fun w => by
    have := rrest_any a 0 m ha (by decide) hm w
    rw [if_neg (by omega), Nat.zero_mul, Nat.add_zero] at this
    rw [zeroA]; exact this
  go_enter Try.func39, Try.ntmps39
  go_upto_region 1 with fail
  obtain ⟨W, hW⟩ : ∃ W, W = ((((((w.alloc (.cells (numA a) 26))).alloc (.cells (numA x) 26))).alloc (.cells (numA m) 26))).alloc (.cells #[Value.int .u32 0, .int .u32 0, .int .u32 0, .int .u32 0, .int .u32 0, .int .u32 0, .int .u32 0, .int .u32 0] 26) := ⟨_, rfl⟩
  have q_a : Num W (w.heap.size) 26 (a) := by
    have := ((((Num.new w 26 (a)).alloc (.cells (numA x) 26)).alloc (.cells (numA m) 26)).alloc (.cells #[Value.int .u32 0, .int .u32 0, .int .u32 0, .int .u32 0, .int .u32 0, .int .u32 0, .int .u32 0, .int .u32 0] 26))
    rw [hW]; exact this
  have q_e : Num W (w.heap.size + 1) 26 (x) := by
    have := (((Num.new (w.alloc (.cells (numA a) 26)) 26 (x)).alloc (.cells (numA m) 26)).alloc (.cells #[Value.int .u32 0, .int .u32 0, .int .u32 0, .int .u32 0, .int .u32 0, .int .u32 0, .int .u32 0, .int .u32 0] 26))
    rw [World.size_alloc] at this
    rw [hW]; exact this
  have q_m : Num W (w.heap.size + 1 + 1) 26 (m) := by
    have := ((Num.new (((w.alloc (.cells (numA a) 26))).alloc (.cells (numA x) 26)) 26 (m)).alloc (.cells #[Value.int .u32 0, .int .u32 0, .int .u32 0, .int .u32 0, .int .u32 0, .int .u32 0, .int .u32 0, .int .u32 0] 26))
    rw [World.size_alloc, World.size_alloc] at this
    rw [hW]; exact this
  have q_r : Num W (w.heap.size + 1 + 1 + 1) 26 0 := by
    have := (Num.new (((((w.alloc (.cells (numA a) 26))).alloc (.cells (numA x) 26))).alloc (.cells (numA m) 26)) 26 0)
    rw [World.size_alloc, World.size_alloc, World.size_alloc, ← zeroA] at this
    rw [hW]; exact this
  have gb : Below w.heap.size w W := by rw [hW]; exact (((((Below.refl _ _).alloc (by simp <;> omega) _).alloc (by simp <;> omega) _).alloc (by simp <;> omega) _).alloc (by simp <;> omega) _)
  rw [← hW]
  clear hW
  have loa := hid (show w.heap.size ≤ w.heap.size by omega)
  have na_e := hid (show w.heap.size ≠ w.heap.size + 1 by omega)
  have na_m := hid (show w.heap.size ≠ w.heap.size + 1 + 1 by omega)
  have lor := hid (show w.heap.size ≤ w.heap.size + 1 + 1 + 1 by omega)
  have na_r := hid (show w.heap.size ≠ w.heap.size + 1 + 1 + 1 by omega)
  have ne_r := hid (show w.heap.size + 1 ≠ w.heap.size + 1 + 1 + 1 by omega)
  have nm_r := hid (show w.heap.size + 1 + 1 ≠ w.heap.size + 1 + 1 + 1 by omega)
  go_wp2_with (fail)
  refine (rfrom_one _).mono ?_
  rintro e w1 ⟨rfl, bw1⟩
  have a_1 := q_a.step bw1
  have e_1 := q_e.step bw1
  have m_1 := q_m.step bw1
  have r_1 := q_r.step bw1
  have c_1 := step_trans gb bw1
  clear q_a q_e q_m q_r gb bw1
  go_upto_region 2 with (first | (refine wpList_store_num rfl _ (.tmp 7) _ rfl _ rfl _ rfl _ rfl (heap_alloc_new _ _) size26 ?_; intro w2 gw2 mw2; have b_1 := step_new gw2; have lox := hid (show _ ≤ w1.heap.size from Nat.le_trans c_1.size (by omega)); have na_x := hid (show _ ≠ w1.heap.size from Nat.ne_of_lt (Nat.lt_of_lt_of_le a_1.lt (by omega))); have ne_x := hid (show _ ≠ w1.heap.size from Nat.ne_of_lt (Nat.lt_of_lt_of_le e_1.lt (by omega))); have nm_x := hid (show _ ≠ w1.heap.size from Nat.ne_of_lt (Nat.lt_of_lt_of_le m_1.lt (by omega))); have nr_x := hid (show _ ≠ w1.heap.size from Nat.ne_of_lt (Nat.lt_of_lt_of_le r_1.lt (by omega))); have a_2 := a_1.step b_1; have e_2 := e_1.step b_1; have m_2 := m_1.step b_1; have r_2 := r_1.step b_1; have c_2 := step_trans c_1 b_1; clear a_1 e_1 m_1 r_1 c_1 b_1 gw2) | (refine wpList_load_num rfl _ (.tmp 3) rfl _ rfl _ _ _ a_2 Try.underlying26 rfl size26 ?_) | (refine wpList_load_num rfl _ (.tmp 5) rfl _ rfl _ _ _ m_2 Try.underlying26 rfl size26 ?_))
  go_wp2_with (first | (refine wpList_load_num rfl _ (.tmp 3) rfl _ rfl _ _ _ a_2 Try.underlying26 rfl size26 ?_) | (refine wpList_load_num rfl _ (.tmp 5) rfl _ rfl _ _ _ m_2 Try.underlying26 rfl size26 ?_))
  refine (hr _).mono ?_
  rintro e w3 ⟨rfl, bw3⟩
  have a_3 := a_2.step bw3
  have e_3 := e_2.step bw3
  have m_3 := m_2.step bw3
  have r_3 := r_2.step bw3
  have x_1 := mw2.step bw3
  have c_3 := step_trans c_2 bw3
  clear a_2 e_2 m_2 r_2 mw2 c_2 bw3
  go_upto_region 3 with (first | (refine wpList_store_num rfl _ (.tmp 3) _ rfl _ rfl _ rfl _ rfl a_3 size26 ?_; intro w4 gw4 mw4; have e_4 := e_3.grown gw4 (ne_some na_e.out.symm); have m_4 := m_3.grown gw4 (ne_some na_m.out.symm); have r_4 := r_3.grown gw4 (ne_some na_r.out.symm); have x_2 := x_1.grown gw4 (ne_some na_x.out.symm); have c_4 := below_of_grown c_3 gw4 c_3.size loa.out; clear a_3 e_3 m_3 r_3 x_1 c_3 gw4) | (refine wpList_load_num rfl _ (.tmp 4) rfl _ rfl _ _ _ e_4 Try.underlying26 rfl size26 ?_))
  go_wp2_with (first | (refine wpList_load_num rfl _ (.tmp 4) rfl _ rfl _ _ _ e_4 Try.underlying26 rfl size26 ?_))
  refine (rbits_any x hx _).mono ?_
  rintro e w5 ⟨rfl, bw5⟩
  have a_4 := mw4.step bw5
  have e_5 := e_4.step bw5
  have m_5 := m_4.step bw5
  have r_5 := r_4.step bw5
  have x_3 := x_2.step bw5
  have c_5 := step_trans c_4 bw5
  clear mw4 e_4 m_4 r_4 x_2 c_4 bw5
  obtain ⟨K, hK, hK1, hK2⟩ := top_ends hx
  rw [hK]
  obtain ⟨B, HB⟩ : ∃ B, Hid (B = w1.heap.size) := ⟨_, hid rfl⟩
  rw [← HB.out] at x_3 nr_x nm_x na_x ne_x lox ⊢
  clear HB
  rw [← pr_first (m := m) (a := a) h1 hK2] at x_3
  have xw := x_3
  obtain ⟨W0, rfl⟩ : ∃ W, W = w5 := ⟨_, rfl⟩
  go_wp2_with fail
  go_loopw [8] (fun i wr => ∃ k : Nat, k ≤ 256 ∧ i = .int .i64 ((k : Int) - 1) ∧ Num wr B 26 (prN m a x k) ∧ W0.grownBy wr (some B)) (fun i _ => (intOf i + 1).toNat)
  case atStart => exact ⟨K, hK1, rfl, xw, World.grownBy.refl _ _⟩
  case round =>
    obtain ⟨k, hk, rfl, hX0, hg⟩ := hrel
    clear xw
    have hg0 := hg
    have a_5 := a_4.grown hg (ne_some na_x.out)
    have e_6 := e_5.grown hg (ne_some ne_x.out)
    have m_6 := m_5.grown hg (ne_some nm_x.out)
    have r_6 := r_5.grown hg (ne_some nr_x.out)
    have c_6 := below_of_grown c_5 hg c_5.size lox.out
    clear a_4 e_5 m_5 r_5 c_5 hg
    rcases Nat.eq_zero_or_pos k with rfl | hkp
    · rw [show ((0 : Nat) : Int) - 1 = -1 from rfl]
      go_upto_region 9 with (first | (refine wpList_load_num rfl _ (.tmp 7) rfl _ rfl _ _ _ hX0 Try.underlying26 rfl size26 ?_))
      go_wp2_with (first | (refine wpList_load_num rfl _ (.tmp 7) rfl _ rfl _ _ _ hX0 Try.underlying26 rfl size26 ?_) | (refine wpList_store_num rfl _ (.tmp 6) _ rfl _ rfl _ rfl _ rfl r_6 size26 ?_; intro w6 gw6 mw6; have a_6 := a_5.grown gw6 (ne_some na_r.out); have e_7 := e_6.grown gw6 (ne_some ne_r.out); have m_7 := m_6.grown gw6 (ne_some nm_r.out); have x_4 := hX0.grown gw6 (ne_some nr_x.out.symm); have c_7 := below_of_grown c_6 gw6 c_6.size lor.out; clear r_6 a_5 e_6 m_6 hX0 c_6 gw6) | (refine wpList_load_num rfl _ (.tmp 7) rfl _ rfl _ _ _ x_4 Try.underlying26 rfl size26 ?_))
      exact bodyPost_ret (results_num rfl rfl mw6 Try.underlying26 rfl size26) rfl ⟨rfl, c_7⟩
    · obtain ⟨j, rfl⟩ : ∃ j, k = j + 1 := ⟨k - 1, by omega⟩
      rw [show ((j + 1 : Nat) : Int) - 1 = (j : Int) by omega]
      obtain ⟨Y, e1, hway⟩ := pr_step m a x j
      have hXm := pr_lt (show 0 < m by omega) a x (j + 1)
      have hYm : Y < m := by rw [← e1]; exact Nat.mod_lt _ (by omega)
      obtain ⟨X, hX⟩ : ∃ X, prN m a x (j + 1) = X := ⟨_, rfl⟩
      rw [hX] at hX0 e1 hXm
      clear hX
      obtain ⟨V, hV⟩ : ∃ V, Hid (prN m a x j = V) := ⟨_, hid rfl⟩
      rw [hV.out] at hway
      have hby := by_any X X m (by omega) (by omega) hm (by omega)
      rw [e1] at hby
      clear e1
      go_wp2_with (first | (refine wpList_load_num rfl _ (.tmp 5) rfl _ rfl _ _ _ m_6 Try.underlying26 rfl size26 ?_) | (refine wpList_load_num rfl _ (.tmp 7) rfl _ rfl _ _ _ hX0 Try.underlying26 rfl size26 ?_))
      refine (hby _).mono ?_
      rintro e w6 ⟨rfl, bw6⟩
      have hbb := bw6
      have a_6 := a_5.step bw6
      have e_7 := e_6.step bw6
      have m_7 := m_6.step bw6
      have r_7 := r_6.step bw6
      have x_4 := hX0.step bw6
      have c_7 := step_trans c_6 bw6
      clear a_5 e_6 m_6 r_6 hX0 c_6 bw6
      go_upto_region 7 with (first | (refine wpList_load_num rfl _ (.tmp 3) rfl _ rfl _ _ _ a_6 Try.underlying26 rfl size26 ?_) | (refine wpList_load_num rfl _ (.tmp 5) rfl _ rfl _ _ _ m_7 Try.underlying26 rfl size26 ?_) | (refine wpList_load_num rfl _ (.tmp 7) rfl _ rfl _ _ _ x_4 Try.underlying26 rfl size26 ?_) | (refine wpList_store_num rfl _ (.tmp 7) _ rfl _ rfl _ rfl _ rfl x_4 size26 ?_; intro wy gy my))
      have hg1 := World.grownBy.trans (World.grownBy.trans hg0 (grown_below hbb)) gy
      have a_7 := a_6.grown gy (ne_some na_x.out)
      have e_8 := e_7.grown gy (ne_some ne_x.out)
      have m_8 := m_7.grown gy (ne_some nm_x.out)
      have r_8 := r_7.grown gy (ne_some nr_x.out)
      have c_8 := below_of_grown c_7 gy c_7.size lox.out
      clear a_6 e_7 m_7 r_7 x_4 c_7 gy
      have ce := e_8.cell (k := j / 32) (by omega)
      have fe := e_8.frozen (j / 32)
      skip
      have hbit := bit_dig x j
      rcases hway with ⟨hb, hY2⟩ | ⟨hb, hY2⟩
      · rw [hb] at hbit
        have hd : decide ((0 : Int) > 0) = false := rfl
        go_wp2_with (first | (refine wpList_load_num rfl _ (.tmp 3) rfl _ rfl _ _ _ a_7 Try.underlying26 rfl size26 ?_) | (refine wpList_load_num rfl _ (.tmp 5) rfl _ rfl _ _ _ m_8 Try.underlying26 rfl size26 ?_) | (refine wpList_load_num rfl _ (.tmp 7) rfl _ rfl _ _ _ my Try.underlying26 rfl size26 ?_))
        go_roundw
        case rel => exact ⟨j, by omega, rfl, by rw [hV.out, ← hY2]; exact my, hg1⟩
        case measure => simp [intOf] <;> omega
      · rw [hb] at hbit
        have hd : decide ((1 : Int) > 0) = true := rfl
        have hby2 := by_any Y (a % m) m (by omega) (Nat.lt_trans (Nat.mod_lt _ (by omega)) hm) hm (by omega)
        rw [hY2] at hby2
        go_wp2_with (first | (refine wpList_load_num rfl _ (.tmp 3) rfl _ rfl _ _ _ a_7 Try.underlying26 rfl size26 ?_) | (refine wpList_load_num rfl _ (.tmp 5) rfl _ rfl _ _ _ m_8 Try.underlying26 rfl size26 ?_) | (refine wpList_load_num rfl _ (.tmp 7) rfl _ rfl _ _ _ my Try.underlying26 rfl size26 ?_))
        refine (hby2 _).mono ?_
        rintro e w7 ⟨rfl, bw7⟩
        have hbb := bw7
        have a_8 := a_7.step bw7
        have e_9 := e_8.step bw7
        have m_9 := m_8.step bw7
        have r_9 := r_8.step bw7
        have x_5 := my.step bw7
        have c_9 := step_trans c_8 bw7
        clear a_7 e_8 m_8 r_8 my c_8 bw7
        go_wp2_with (first | (refine wpList_load_num rfl _ (.tmp 7) rfl _ rfl _ _ _ x_5 Try.underlying26 rfl size26 ?_) | (refine wpList_store_num rfl _ (.tmp 7) _ rfl _ rfl _ rfl _ rfl x_5 size26 ?_; intro wv gv mv))
        go_roundw
        case rel => exact ⟨j, by omega, rfl, by rw [hV.out]; exact mv, World.grownBy.trans (World.grownBy.trans hg1 (grown_below hbb)) gv⟩
        case measure => simp [intOf] <;> omega
end Go.Proofs.Ytgccbfkofkohpaa
namespace Go.Proofs.Ytgccbfkofkohpaa
set_option linter.unusedVariables false
set_option maxRecDepth 20000
set_option linter.unusedSimpArgs false
open Go.ChangeShapes Go.WideShapes Go.ChangeAt Go.RowKit
/-- C is what Make makes m to. -/
structure MR (m : Nat) (C : Array Value) : Prop where
  odd : m % 2 = 1
  one : 1 < m
  lt : m < 4294967296 ^ 8
  eq : C = montA m (4294967296 ^ 8 % m) (4294967296 ^ 8 * 4294967296 ^ 8 % m) (ngI (digI m 0))
section
variable {m : Nat} {C : Array Value}
theorem MR.size (h : MR m C) : C.size = 25 := by rw [h.eq]; rfl
theorem MR.cells (h : MR m C) : C.all (·.oneCell') = true := by rw [h.eq]; exact montA_cells _ _ _ _
theorem MR.info (h : MR m C) : (Try.prog.info? 72).map (·.size) = some C.size := by rw [h.size]; exact size_mont
theorem MR.pm (h : MR m C) (j : Nat) (v : Value) (hv : (numA m)[j]? = some v) : C[0 + j]? = some v := by rw [h.eq]; exact montA_m j v hv
theorem MR.pr (h : MR m C) (j : Nat) (v : Value) (hv : (numA (4294967296 ^ 8 % m))[j]? = some v) : C[8 + j]? = some v := by rw [h.eq]; exact montA_r j v hv
theorem MR.pt (h : MR m C) (j : Nat) (v : Value) (hv : (numA (4294967296 ^ 8 * 4294967296 ^ 8 % m))[j]? = some v) : C[16 + j]? = some v := by rw [h.eq]; exact montA_t j v hv
theorem MR.pn (h : MR m C) : C[24]? = some (.int .u32 (ngI (digI m 0))) := by rw [h.eq]; rfl
theorem dig0_odd {m : Nat} (h : m % 2 = 1) : digI m 0 % 2 = 1 := by unfold digI dig; simp; omega
theorem MR.ng (h : MR m C) : ∃ q, ngI (digI m 0) * digI m 0 + 1 = 4294967296 * q := ng_spec (dig0_odd h.odd)
theorem ngI_bd (o : Int) : 0 ≤ ngI o ∧ ngI o < 4294967296 := by unfold ngI; omega
theorem MR.t_lt (h : MR m C) : 4294967296 ^ 8 * 4294967296 ^ 8 % m < m := Nat.mod_lt _ (by have := h.one; omega)
theorem MR.in_ (h : MR m C) {a : Nat} (ha : a < 4294967296 ^ 8) (w : World) : Calls Try.prog 79 #[.agg C, numV a] w fun e w' => e = .returned (numV (a * 4294967296 ^ 8 % m)) ∧ Below w.heap.size w w' := by
  have := mtin_any m (4294967296 ^ 8 % m) _ _ h.lt h.odd h.ng (ngI_bd _).1 (ngI_bd _).2 a ha h.t_lt w
  rw [mm_in h.odd a _ rfl] at this
  rw [h.eq]; exact this
theorem MR.out (h : MR m C) {a : Nat} (ha : a < 4294967296 ^ 8) (w : World) : Calls Try.prog 77 #[.agg C, numV a] w fun e w' => e = .returned (numV (mm m a)) ∧ Below w.heap.size w w' := by
  rw [h.eq]; exact mtout_any m _ _ _ h.lt h.one h.odd h.ng (ngI_bd _).1 (ngI_bd _).2 a ha w
theorem MR.mul (h : MR m C) {a b : Nat} (ha : a < 4294967296 ^ 8) (hb : b < m) (w : World) : Calls Try.prog 75 #[.agg C, numV a, numV b] w fun e w' => e = .returned (numV (mm m (a * b))) ∧ Below w.heap.size w w' := by
  rw [h.eq]; exact mtmul_any m _ _ _ h.lt h.odd h.ng (ngI_bd _).1 (ngI_bd _).2 a b ha hb w
theorem MR.pow (h : MR m C) {a x : Nat} (ha : a < 4294967296 ^ 8) (hx : x < 4294967296 ^ 8) (w : World) : Calls Try.prog 50 #[.agg C, numV a, numV x] w fun e w' => e = .returned (numV (a ^ x % m)) ∧ Below w.heap.size w w' := by
  rw [h.eq]; exact mtpow_any m _ _ _ h.lt h.odd h.ng (ngI_bd _).1 (ngI_bd _).2 h.one rfl rfl a x ha hx w
theorem MR.rpow (h : MR m C) {a x : Nat} (ha : a < 4294967296 ^ 8) (hx : x < 4294967296 ^ 8) (w : World) : Calls Try.prog 39 #[numV a, numV x, numV m] w fun e w' => e = .returned (numV (a ^ x % m)) ∧ Below w.heap.size w w' :=
  rpower_any a x m ha hx h.lt h.one w
end
theorem mont_new (o : Oper) (a : Act) (w : World) (h : o.op = .alloc 72) : (execOp a.eval o).run Try.prog w = .ok (.value (.pointer (some ⟨w.heap.size, 0, none⟩))) (w.alloc (.cells #[Value.int .u32 0, .int .u32 0, .int .u32 0, .int .u32 0, .int .u32 0, .int .u32 0, .int .u32 0, .int .u32 0, .int .u32 0, .int .u32 0, .int .u32 0, .int .u32 0, .int .u32 0, .int .u32 0, .int .u32 0, .int .u32 0, .int .u32 0, .int .u32 0, .int .u32 0, .int .u32 0, .int .u32 0, .int .u32 0, .int .u32 0, .int .u32 0, .int .u32 0] 72)) := by
  unfold execOp
  simp only [h]
  kernel_rfl
theorem mr_make {m : Nat} (ho : m % 2 = 1) (h1 : 1 < m) (hm : m < 4294967296 ^ 8) : ∃ C, MR m C ∧ ∀ w, Calls Try.prog 49 #[numV m] w fun e w' => e = .returned (.tuple #[.agg C, .bool true]) ∧ Below w.heap.size w w' := by
  have e : 4294967296 ^ 8 % m * (4294967296 ^ 8 % m) % m = 4294967296 ^ 8 * 4294967296 ^ 8 % m := (Nat.mul_mod _ _ _).symm
  refine ⟨_, ⟨ho, h1, hm, rfl⟩, fun w => ?_⟩
  have := mtmake_any m hm w
  rw [if_pos ⟨ho, by omega⟩, e] at this
  exact this
end Go.Proofs.Ytgccbfkofkohpaa
