/- The reference's Out, Mul. -/
import Derived.Test.YtcfobgimpflneaaMtHalf
namespace Go.Proofs.Ytcfobgimpflneaa
set_option linter.unusedVariables false
set_option linter.unusedSimpArgs false
open Go.ChangeShapes Go.WideShapes Go.ChangeAt Go.RowKit
theorem grown_below {w w' : World} {row : Option Nat} (h : Below w.heap.size w w') : w.grownBy w' row := ⟨h.os, h.tape, h.output, h.size, fun b hb _ => h.block b hb⟩
set_option maxRecDepth 100000 in
set_option maxHeartbeats 4000000 in
theorem rout_any (m r t : Nat) (n : Int) (a : Nat) (ha : a < m) (hm : m < 4294967296 ^ 8) (ho : m % 2 = 1) (w : World) :
    Calls Try.prog 45 #[.agg (montA m r t n), numV a] w fun e w' => e = .returned (numV (mm m a)) ∧ Below w.heap.size w w' := by
  have HA := hid ha
  have HM := hid hm
  have HV : Hid (hvM m 256 a = mm m a) := hid (by unfold mm; rw [Nat.mod_eq_of_lt ha])
  rw [← HV.out]
  clear ha hm
  go_enter Try.func45, Try.ntmps45
  go_upto_region 1 with fail
  obtain ⟨W, hW⟩ : ∃ W, W = ((((w.alloc (.cells (montA m r t n) 29))).alloc (.cells (numA a) 26))).alloc (.cells #[Value.int .u32 0, .int .u32 0, .int .u32 0, .int .u32 0, .int .u32 0, .int .u32 0, .int .u32 0, .int .u32 0] 26) := ⟨_, rfl⟩
  have q_c : Blk W (w.heap.size) 29 (montA m r t n) := by
    have := (((Blk.new w 29 (montA m r t n)).alloc (.cells (numA a) 26)).alloc (.cells #[Value.int .u32 0, .int .u32 0, .int .u32 0, .int .u32 0, .int .u32 0, .int .u32 0, .int .u32 0, .int .u32 0] 26))
    rw [hW]; exact this
  have q_a : Num W (w.heap.size + 1) 26 (a) := by
    have := ((Num.new (w.alloc (.cells (montA m r t n) 29)) 26 (a)).alloc (.cells #[Value.int .u32 0, .int .u32 0, .int .u32 0, .int .u32 0, .int .u32 0, .int .u32 0, .int .u32 0, .int .u32 0] 26))
    rw [World.size_alloc] at this
    rw [hW]; exact this
  have q_r : Num W (w.heap.size + 1 + 1) 26 0 := by
    have := (Num.new (((w.alloc (.cells (montA m r t n) 29))).alloc (.cells (numA a) 26)) 26 0)
    rw [World.size_alloc, World.size_alloc, ← zeroA] at this
    rw [hW]; exact this
  have gb : Below w.heap.size w W := by rw [hW]; exact ((((Below.refl _ _).alloc (by simp <;> omega) _).alloc (by simp <;> omega) _).alloc (by simp <;> omega) _)
  rw [← hW]
  clear hW
  have GB := hid gb
  clear gb
  go_wp2_with fail
  go_loopw [5] (fun i wr => ∃ k : Nat, k ≤ 256 ∧ i = .int .i64 (k : Int) ∧ Num wr (w.heap.size + 1) 26 (hvM m k a) ∧ W.grownBy wr (some (w.heap.size + 1))) (fun i _ => 256 - (intOf i).toNat)
  case atStart => exact ⟨0, by omega, rfl, q_a, World.grownBy.refl _ _⟩
  case round =>
    obtain ⟨k, hk, rfl, hr, hg⟩ := hrel
    clear q_a
    by_cases hlt : k < 256
    · have hdec : decide ((k : Int) < 256) = true := by simp; omega
      have kc := q_c.grown hg (by simp)
      have HL := hid (hvM_lt k a HA.out)
      have HS := hid (hvM_succ m k a)
      have HM2 := HM.out
      obtain ⟨V, hV⟩ : ∃ V, V = hvM m k a := ⟨_, rfl⟩
      rw [← hV] at hr HL HS
      clear hV
      go_wp2_with (first | (refine wpList_load_num rfl _ (.tmp 3) rfl _ rfl _ _ _ hr Try.underlying26 rfl size26 ?_) | (refine wpList_load_part rfl _ (.tmp 11) rfl _ _ rfl _ _ (numA m) _ kc montA_m Try.underlying26 rfl size26 ?_))
      refine (half_any V m HL.out HM.out ho _).mono ?_
      rintro e w1 ⟨rfl, b1⟩
      have hr1 := hr.step b1
      have zr := hr.lt
      go_wp2_with (refine wpList_store_num rfl _ (.tmp 3) _ rfl _ rfl _ rfl _ rfl hr1 size26 ?_; intro w2 g2 m2)
      go_roundw
      case rel => exact ⟨k + 1, by omega, by go_num, by rw [HS.out]; exact m2, World.grownBy.trans (World.grownBy.trans hg (grown_below b1)) g2⟩
      case measure => simp [intOf] <;> omega
    · obtain rfl : k = 256 := by omega
      have qr2 := q_r.grown hg (by simp)
      have sg := hg.size
      have zr := q_r.lt
      have z1 := GB.out.size
      go_wp2_with (first | (refine wpList_load_num rfl _ (.tmp 3) rfl _ rfl _ _ _ hr Try.underlying26 rfl size26 ?_) | (refine wpList_store_num rfl _ (.tmp 4) _ rfl _ rfl _ rfl _ rfl qr2 size26 ?_; intro w3 g3 m3))
      refine bodyPost_ret (results_num rfl rfl m3 Try.underlying26 rfl size26) rfl ⟨?_, below_of_grown (below_of_grown GB.out hg (by omega) (by omega)) g3 (by omega) (by omega)⟩
      rfl
set_option maxRecDepth 100000 in
set_option maxHeartbeats 4000000 in
theorem rmul2_any (m r t : Nat) (n : Int) (a b : Nat) (ha : a < 4294967296 ^ 8) (hb : b < 4294967296 ^ 8) (hm : m < 4294967296 ^ 8) (h0 : 0 < m) (ho : m % 2 = 1) (w : World) :
    Calls Try.prog 24 #[.agg (montA m r t n), numV a, numV b] w fun e w' => e = .returned (numV (mm m (a * b))) ∧ Below w.heap.size w w' := by
  rw [show mm m (a * b) = mm m (a * b % m) from mm_congr (Nat.mod_mod _ _).symm]
  go_enter Try.func24, Try.ntmps24
  go_upto_region 1 with fail
  obtain ⟨W, hW⟩ : ∃ W, W = ((((((w.alloc (.cells (montA m r t n) 29))).alloc (.cells (numA a) 26))).alloc (.cells (numA b) 26))).alloc (.cells #[Value.int .u32 0, .int .u32 0, .int .u32 0, .int .u32 0, .int .u32 0, .int .u32 0, .int .u32 0, .int .u32 0] 26) := ⟨_, rfl⟩
  have q_c : Blk W (w.heap.size) 29 (montA m r t n) := by
    have := ((((Blk.new w 29 (montA m r t n)).alloc (.cells (numA a) 26)).alloc (.cells (numA b) 26)).alloc (.cells #[Value.int .u32 0, .int .u32 0, .int .u32 0, .int .u32 0, .int .u32 0, .int .u32 0, .int .u32 0, .int .u32 0] 26))
    rw [hW]; exact this
  have q_a : Num W (w.heap.size + 1) 26 (a) := by
    have := (((Num.new (w.alloc (.cells (montA m r t n) 29)) 26 (a)).alloc (.cells (numA b) 26)).alloc (.cells #[Value.int .u32 0, .int .u32 0, .int .u32 0, .int .u32 0, .int .u32 0, .int .u32 0, .int .u32 0, .int .u32 0] 26))
    rw [World.size_alloc] at this
    rw [hW]; exact this
  have q_b : Num W (w.heap.size + 1 + 1) 26 (b) := by
    have := ((Num.new (((w.alloc (.cells (montA m r t n) 29))).alloc (.cells (numA a) 26)) 26 (b)).alloc (.cells #[Value.int .u32 0, .int .u32 0, .int .u32 0, .int .u32 0, .int .u32 0, .int .u32 0, .int .u32 0, .int .u32 0] 26))
    rw [World.size_alloc, World.size_alloc] at this
    rw [hW]; exact this
  have q_r : Num W (w.heap.size + 1 + 1 + 1) 26 0 := by
    have := (Num.new (((((w.alloc (.cells (montA m r t n) 29))).alloc (.cells (numA a) 26))).alloc (.cells (numA b) 26)) 26 0)
    rw [World.size_alloc, World.size_alloc, World.size_alloc, ← zeroA] at this
    rw [hW]; exact this
  have gb : Below w.heap.size w W := by rw [hW]; exact (((((Below.refl _ _).alloc (by simp <;> omega) _).alloc (by simp <;> omega) _).alloc (by simp <;> omega) _).alloc (by simp <;> omega) _)
  rw [← hW]
  clear hW
  have lor := hid (show w.heap.size ≤ w.heap.size + 1 + 1 + 1 by omega)
  have nc_r := hid (show w.heap.size ≠ w.heap.size + 1 + 1 + 1 by omega)
  have na_r := hid (show w.heap.size + 1 ≠ w.heap.size + 1 + 1 + 1 by omega)
  have nb_r := hid (show w.heap.size + 1 + 1 ≠ w.heap.size + 1 + 1 + 1 by omega)
  refine wp_region_tail (by kernel_rfl) (by kernel_rfl) (by kernel_rfl) (by kernel_rfl) (by kernel_rfl) ?_
  simp only [calm, headOps, tailOps, List.length_cons, List.length_nil, List.drop_succ_cons, List.drop_zero, Nat.zero_add, Nat.reduceAdd]
  (refine wpQuiet_load_blk rfl _ (.tmp 3) rfl _ rfl _ _ _ q_c Try.underlying29 rfl size_mont ?_; simp only [Act.put, List.setIfInBounds_toArray, List.set_cons_zero, List.set_cons_succ])
  (refine wpQuiet_load_num rfl _ (.tmp 4) rfl _ rfl _ _ _ q_a Try.underlying26 rfl size26 ?_; simp only [Act.put, List.setIfInBounds_toArray, List.set_cons_zero, List.set_cons_succ])
  (refine wpQuiet_load_num rfl _ (.tmp 5) rfl _ rfl _ _ _ q_b Try.underlying26 rfl size26 ?_; simp only [Act.put, List.setIfInBounds_toArray, List.set_cons_zero, List.set_cons_succ])
  go_big_quiet_step (fail)
  (refine wpQuiet_load_part rfl _ (.tmp 10) rfl _ _ rfl _ _ (numA m) _ q_c montA_m Try.underlying26 rfl size26 ?_; simp only [Act.put, List.setIfInBounds_toArray, List.set_cons_zero, List.set_cons_succ])
  go_big_quiet_step (exact later_of (by_any a b m ha hb hm h0 _))
  go_big_quiet_step (exact later_of (rout_any m r t n _ (Nat.mod_lt _ h0) hm ho _))
  refine wpQuiet_nil ?_
  intro X_1
  have c_1 := q_c.step X_1.h
  have a_1 := q_a.step X_1.h
  have b_1 := q_b.step X_1.h
  have r_1 := q_r.step X_1.h
  have c_2 := step_trans gb X_1.h
  clear q_c q_a q_b q_r gb
  go_wp2_with (first | (refine wpList_store_num rfl _ (.tmp 6) _ rfl _ rfl _ rfl _ rfl r_1 size26 ?_; intro w1 gw1 mw1; have c_3 := c_1.grown gw1 (ne_some nc_r.out); have a_2 := a_1.grown gw1 (ne_some na_r.out); have b_2 := b_1.grown gw1 (ne_some nb_r.out); have c_4 := below_of_grown c_2 gw1 c_2.size lor.out; clear r_1 c_1 a_1 b_1 c_2 gw1))
  exact bodyPost_ret (results_num rfl rfl mw1 Try.underlying26 rfl size26) rfl ⟨rfl, c_4⟩
end Go.Proofs.Ytcfobgimpflneaa
