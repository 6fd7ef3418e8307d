/- sentinellaw1.LimbShift: the walk. -/
import Derived.Test.YteihojjciklfoaaKnown
import Derived.Test.YteihojjciklfoaaRest
import Derived.Test.YteihojjciklfoaaRefB
import Derived.Test.YteihojjciklfoaaNews
import Derived.Test.YteihojjciklfoaaEqn
import Derived.Test.YteihojjciklfoaaRefA
namespace Go.Proofs.Yteihojjciklfoaa
set_option linter.unusedVariables false
set_option linter.unusedSimpArgs false
open Go.ChangeShapes Go.WideShapes Go.ChangeAt Go.RowKit
attribute [local go_sem] eqn_same
theorem top_at {a : Nat} (h0 : 0 < a) (ha : a < 4294967296 ^ 8) : ∃ k : Nat, topI a 8 = (k : Int) + 1 ∧ a / 2 ^ k = 1 := by
  obtain ⟨k, hk⟩ : ∃ k, a / 2 ^ k = 1 := by
    refine ⟨Nat.log2 a, ?_⟩
    have h1 := Nat.log2_self_le (n := a) (by omega)
    have h2 := Nat.lt_log2_self (n := a)
    have h3 : 1 ≤ a / 2 ^ Nat.log2 a := (Nat.le_div_iff_mul_le (Nat.pow_pos (by decide))).2 (by omega)
    have h4 : a / 2 ^ Nat.log2 a < 2 := (Nat.div_lt_iff_lt_mul (Nat.pow_pos (by decide))).2 (by rw [Nat.pow_succ] at h2; omega)
    omega
  exact ⟨k, top_one ha hk, hk⟩
theorem shl_step {x p P : Nat} (hP : 0 < P) : (2 * (x * 2 ^ p % P)) % P = x * 2 ^ (p + 1) % P ∧ x * 2 ^ p / P * 2 + (2 * (x * 2 ^ p % P)) / P = x * 2 ^ (p + 1) / P := by
  have h := Nat.mod_add_div (x * 2 ^ p) P
  have e : x * 2 ^ (p + 1) = 2 * (x * 2 ^ p % P) + P * (x * 2 ^ p / P * 2) := by
    rw [Nat.pow_succ, ← Nat.mul_assoc]
    conv => lhs; rw [← h]
    rw [Nat.add_mul, Nat.mul_comm _ 2, Nat.mul_assoc]
  rw [e]
  refine ⟨by rw [Nat.add_mul_mod_self_left], ?_⟩
  rw [Nat.add_mul_div_left _ _ hP, Nat.add_comm]
theorem shl_add {x p : Nat} : addN (x * 2 ^ p % 4294967296 ^ 8) (x * 2 ^ p % 4294967296 ^ 8) = x * 2 ^ (p + 1) % 4294967296 ^ 8 ∧ ((x * 2 ^ p / 4294967296 ^ 8 : Nat) : Int) * 2 + overI (x * 2 ^ p % 4294967296 ^ 8) (x * 2 ^ p % 4294967296 ^ 8) = ((x * 2 ^ (p + 1) / 4294967296 ^ 8 : Nat) : Int) := by
  have hP : (0 : Nat) < 4294967296 ^ 8 := by decide +kernel
  have hY : x * 2 ^ p % 4294967296 ^ 8 < 4294967296 ^ 8 := Nat.mod_lt _ hP
  obtain ⟨h1, h2⟩ := shl_step (x := x) (p := p) hP
  rw [addN_mod _ _ hY hY, show x * 2 ^ p % 4294967296 ^ 8 + x * 2 ^ p % 4294967296 ^ 8 = 2 * (x * 2 ^ p % 4294967296 ^ 8) by omega]
  refine ⟨h1, ?_⟩
  rw [← h2]
  generalize x * 2 ^ p / 4294967296 ^ 8 = c at *
  generalize x * 2 ^ p % 4294967296 ^ 8 = Y at *
  have h3 : overI Y Y = ((2 * Y / 4294967296 ^ 8 : Nat) : Int) := by
    unfold overI
    split <;> omega
  rw [h3]; omega
theorem sh_lt {x p : Nat} (hx : x < 4294967296 ^ 8) : x * 2 ^ p / 4294967296 ^ 8 < 2 ^ p := by
  apply Nat.div_lt_of_lt_mul
  exact Nat.mul_lt_mul_of_pos_right hx (Nat.pow_pos (by decide))
theorem or_bit {c o : Int} (h0 : 0 ≤ c) (h1 : c < 1073741824) (h2 : 0 ≤ o) (h3 : o ≤ 1) : bits BinOp.or IntKind.u32 (c * 2) o = c * 2 + o :=
  bits_join .u32 32 (by decide) (fun n h0 h1 => by rw [IntKind.wrap_u32]; omega) 1 (c * 2) o (by omega) (by omega) (by omega) h2 (by omega) (by omega)
def shY (x p : Nat) : Nat := x * 2 ^ p % 4294967296 ^ 8
def shC (x p : Nat) : Nat := x * 2 ^ p / 4294967296 ^ 8
theorem sh_start {x : Nat} (hx : x < 4294967296 ^ 8) : shY x 0 = x ∧ shC x 0 = 0 := by
  unfold shY shC
  rw [Nat.pow_zero, Nat.mul_one]
  exact ⟨Nat.mod_eq_of_lt hx, Nat.div_eq_of_lt hx⟩
theorem sh_round {x p : Nat} (hx : x < 4294967296 ^ 8) (hp : p < 30) : ∃ o : Int, 0 ≤ o ∧ o ≤ 1 ∧ (shC x p : Int) < 1073741824 ∧ RunsTo 17 #[numV (shY x p), numV (shY x p)] (.tuple #[numV (shY x (p + 1)), .int .u32 o]) ∧ bits BinOp.or IntKind.u32 ((shC x p : Int) * 2) o = (shC x (p + 1) : Int) := by
  have hP : (0 : Nat) < 4294967296 ^ 8 := by decide +kernel
  have hY : shY x p < 4294967296 ^ 8 := Nat.mod_lt _ hP
  obtain ⟨h1, h2⟩ := shl_add (x := x) (p := p)
  have hb : shC x p < 2 ^ p := sh_lt hx
  have hb2 : 2 ^ p ≤ 2 ^ 30 := Nat.pow_le_pow_right (by decide) (by omega)
  refine ⟨overI (shY x p) (shY x p), overI_ge _ _, overI_le _ _, by omega, fun w => ?_, ?_⟩
  · have h := add_num (shY x p) (shY x p) hY hY w
    rw [show addN (shY x p) (shY x p) = shY x (p + 1) from h1] at h
    exact h
  · rw [or_bit (by omega) (by omega) (overI_ge _ _) (overI_le _ _)]
    exact h2
theorem sh_pack {x k : Nat} (hx : x < 4294967296 ^ 8) (hk : k < 31) : ∃ T L H : Nat, ∃ B C : Int, (T : Int) = 2 ^ k ∧ L = shY x k ∧ H = shC x k ∧ 1 ≤ T ∧ T ≤ 1073741824 ∧ (H : Int) < 1073741824 ∧ RunsTo 29 #[.int .i64 (wrap64 ((2 : Int) ^ k))] (numV T) ∧ RunsTo 21 #[numV x, numV T] (.tuple #[numV L, numV H]) ∧
    RunsTo 29 #[.int .i64 H] (numV H) ∧ RunsTo 27 #[numV x] (.int .i64 B) ∧ RunsTo 27 #[numV L] (.int .i64 C) ∧ 0 ≤ B ∧ B ≤ 256 ∧ (B = 0 ∨ (B ≠ 0 ∧ 256 < B + k) ∨ (B ≠ 0 ∧ B + k ≤ 256 ∧ C = B + k)) := by
  have hP : (0 : Nat) < 4294967296 ^ 8 := by decide +kernel
  have hb : shC x k < 2 ^ k := sh_lt hx
  have hb2 : 2 ^ k ≤ 2 ^ 30 := Nat.pow_le_pow_right (by decide) (by omega)
  have h1 : 1 ≤ 2 ^ k := Nat.pow_pos (by decide)
  refine ⟨2 ^ k, shY x k, shC x k, topI x 8, topI (shY x k) 8, by simp, rfl, rfl, h1, hb2, by omega, fun w => ?_, fun w => mul_any x (2 ^ k) hx (by omega) w, fun w => ?_, bits_any x, bits_any _, ?_⟩
  · have h := from_any ((2 ^ k : Nat) : Int) (by omega) (by omega) w
    rw [Int.toNat_natCast] at h
    have e : wrap64 ((2 : Int) ^ k) = ((2 ^ k : Nat) : Int) := by
      have e2 : (2 : Int) ^ k = ((2 ^ k : Nat) : Int) := by simp
      rw [e2]
      exact Go.IntWalk.wrap64_in _ (by omega)
    rw [e]
    exact h
  · have h := from_any (shC x k : Int) (by omega) (by omega) w
    rw [Int.toNat_natCast] at h
    exact h
  · by_cases h0 : x = 0
    · subst h0
      rw [topI_none 8]
      exact ⟨by omega, by omega, .inl rfl⟩
    · obtain ⟨n, s, h1, h2, h3, h4, h5, h6, h7, h8, h9, h10, h11⟩ := top_spec (m := x) (by omega) hx
      refine ⟨by omega, h6, .inr ?_⟩
      by_cases hbig : 256 < topI x 8 + k
      · exact .inl ⟨by omega, hbig⟩
      · refine .inr ⟨by omega, by omega, ?_⟩
        obtain ⟨j, hj1, hj2⟩ := top_at (by omega : 0 < x) hx
        have hlt : x * 2 ^ k < 4294967296 ^ 8 := by
          have e1 : x < 2 ^ (j + 1) := by
            rw [Nat.pow_succ, Nat.mul_comm]
            exact (Nat.div_lt_iff_lt_mul (Nat.pow_pos (by decide))).1 (by omega)
          have e2 : x * 2 ^ k < 2 ^ (j + 1) * 2 ^ k := Nat.mul_lt_mul_of_pos_right e1 (Nat.pow_pos (by decide))
          have e3 : 2 ^ (j + 1) * 2 ^ k ≤ 2 ^ 256 := by rw [← Nat.pow_add]; exact Nat.pow_le_pow_right (by decide) (by omega)
          have e4 : (2 : Nat) ^ 256 = 4294967296 ^ 8 := by decide +kernel
          omega
        have hL : shY x k = x * 2 ^ k := Nat.mod_eq_of_lt hlt
        rw [hL, top_one (k := j + k) hlt, hj1]
        · omega
        · rw [Nat.pow_add, Nat.mul_comm (2 ^ j), ← Nat.div_div_eq_div_mul, Nat.mul_div_cancel _ (Nat.pow_pos (by decide)), hj2]
attribute [irreducible] shY shC
set_option maxRecDepth 100000 in
set_option maxHeartbeats 20000000 in
theorem LimbShift_walk (a0 : Int) (hk0 : -9223372036854775808 ≤ a0) (hl0 : a0 < 9223372036854775808)
    (A1 : Option Addr) (n1 cap1 : Nat) (x1 : Nat → Int)
    (a2 : Int) (hk2 : -9223372036854775808 ≤ a2) (hl2 : a2 < 9223372036854775808) (w : World) (hr1 : RdI w A1 n1 x1) :
    Calls Try.prog 10 #[.int .i64 a0, .slice A1 n1 cap1, .int .i64 a2] w fun e w' => e = .returned (.bool true) ∧ Below w.heap.size w w' := by
  have ng := noGuard
  go_enter Try.func10, Try.ntmps10
  go_wp2_with (fail)
  refine (known_any _).mono ?_
  rintro e w1 ⟨rfl, bw1⟩
  have r1_1 := hr1.step bw1
  have c_1 := bw1
  clear hr1 bw1
  go_wp2_with (fail)
  refine (make_any _ (by omega) (by omega) _ _ _ _ _ r1_1).mono ?_
  rintro e w2 ⟨x, rfl, hx, bw2⟩
  have r1_2 := r1_1.step bw2
  have c_2 := step_trans c_1 bw2
  clear r1_1 c_1 bw2
  go_wp2_with (first | (refine wpList_store_num rfl _ (.tmp 7) _ rfl _ rfl _ rfl _ rfl (heap_alloc_new _ _) size26 ?_; intro w3 gw3 mw3; have b_1 := step_new gw3; have c_3 := step_trans c_2 b_1; clear c_2 b_1 gw3))
  refine (within_any a2 31 (by omega) (by omega) hk2 hl2 _).mono ?_
  rintro e w4 ⟨rfl, rfl⟩
  obtain ⟨k, hk, hk31⟩ : ∃ k : Nat, a2 % 31 = (k : Int) ∧ k < 31 := ⟨(a2 % 31).toNat, by omega, by omega⟩
  rw [hk]
  clear hk
  obtain ⟨T, L, H, B, C, hT, hL, hH, t1, t2, hH1, k0, k1, k2, k3, k4, b0, b1, kb⟩ := sh_pack hx hk31
  have HL := hid hL
  have HH := hid hH
  have HT := hid hT
  have HB := hid kb
  have ST := hid (sh_start hx)
  have RD := hid (fun p hp => @sh_round x p hx hp)
  clear hL hH hT kb hx
  go_wp2_with (first | (refine wpList_load_num rfl _ (.tmp 7) rfl _ rfl _ _ _ mw3 Try.underlying26 rfl size26 ?_))
  refine wp_region_news 11 26 (.cells #[Value.int .u32 0, .int .u32 0, .int .u32 0, .int .u32 0, .int .u32 0, .int .u32 0, .int .u32 0, .int .u32 0] 26) (fun _ _ _ _ _ h => h) (by kernel_rfl) (by kernel_rfl) (by kernel_rfl) (by kernel_rfl) (by kernel_rfl) (by kernel_rfl) (by kernel_rfl) (by kernel_rfl) num_new ?_
  intro V_1
  simp only [calmN, isNew, hush, hushT, List.drop_succ_cons, List.drop_zero]
  have x_1 := mw3.step V_1.h
  have c_4 := step_trans c_3 V_1.h
  (refine wpQuiet_load_num rfl _ (.tmp 7) rfl _ rfl _ _ _ x_1 Try.underlying26 rfl size26 ?_; simp only [Act.put, List.setIfInBounds_toArray, List.set_cons_zero, List.set_cons_succ])
  go_big_quiet_step (fail)
  go_big_quiet_step (fail)
  go_big_quiet_step (fail)
  go_big_quiet_step (exact later_of (k0 _))
  go_big_quiet_step (exact later_of (k1 _))
  go_big_quiet_step (fail)
  go_big_quiet_step (fail)
  go_big_quiet_step (fail)
  go_big_quiet_step (fail)
  go_big_quiet_step (fail)
  go_big_quiet_step (fail)
  go_big_quiet_step (fail)
  refine wpQuiet_nil ?_
  intro X_1 p_1 hp_1
  generalize wrap64 ((2 : Int) ^ k) = wv
  obtain ⟨hp_11, hp_12⟩ := hp_1
  have x_2 := x_1.step X_1.h
  have c_5 := step_trans c_4 X_1.h
  obtain ⟨lp_19, ep_19⟩ := hp_11 9 _ rfl rfl
  obtain ⟨lp_110, ep_110⟩ := hp_11 10 _ rfl rfl
  have nlo_hi := hid (show p_1 9 ≠ p_1 10 from fun h => absurd (hp_12 9 10 _ _ rfl rfl rfl rfl h) (by decide))
  simp only [layN, isNew, Act.put, List.setIfInBounds_toArray, List.set_cons_zero, List.set_cons_succ, Nat.zero_add, Nat.reduceAdd]
  clear hp_11 hp_12
  generalize p_1 9 = bp_19 at *
  generalize p_1 10 = bp_110 at *
  go_upto_region 6 with (first | (refine wpList_store_num rfl _ (.tmp 9) _ rfl _ rfl _ rfl _ rfl ep_19 size26 ?_; intro w5 gw5 mw5; have x_3 := x_2.grown gw5 (ne_new mw3.lt lp_19); replace ep_110 := (gw5.block _ (heap_lt ep_110) (ne_some nlo_hi.out.symm)).trans ep_110; have c_6 := below_of_grown c_5 gw5 c_5.size (Nat.le_trans c_3.size lp_19); clear x_2 ep_19 c_5 gw5) | (refine wpList_store_num rfl _ (.tmp 10) _ rfl _ rfl _ rfl _ rfl ep_110 size26 ?_; intro w6 gw6 mw6; have x_4 := x_3.grown gw6 (ne_new mw3.lt lp_110); have lo_1 := mw5.grown gw6 (ne_some nlo_hi.out); have c_7 := below_of_grown c_6 gw6 c_6.size (Nat.le_trans c_3.size lp_110); clear x_3 mw5 ep_110 c_6 gw6 mw3 c_3 x_1 c_4 lp_19 lp_110) | (refine wpList_load_num rfl _ (.tmp 7) rfl _ rfl _ _ _ x_4 Try.underlying26 rfl size26 ?_))
  have ltx := x_4.lt
  have ltlo := lo_1.lt
  have lthi := mw6.lt
  have lc := c_7.size
  go_wp2_with (first | (refine wpList_load_num rfl _ (.tmp 7) rfl _ rfl _ _ _ x_4 Try.underlying26 rfl size26 ?_) | (refine wpList_store_num rfl _ (.tmp 11) _ rfl _ rfl _ rfl _ rfl (heap_alloc_new _ _) size26 ?_; intro w7 gw7 mw7; have b_2 := step_new gw7; have x_5 := x_4.step b_2; have lo_2 := lo_1.step b_2; have hi_1 := mw6.step b_2; have c_8 := step_trans c_7 b_2; clear x_4 lo_1 mw6 c_7 b_2 gw7) | (refine wpList_load_num rfl _ (.tmp 7) rfl _ rfl _ _ _ x_5 Try.underlying26 rfl size26 ?_) | (refine wpList_load_num rfl _ (.tmp 11) rfl _ rfl _ _ _ mw7 Try.underlying26 rfl size26 ?_))
  go_loopw [12, 13] (fun cy i wr => ∃ p : Nat, p ≤ k ∧ i = .int .i64 p ∧ cy = .int .u32 (shC x p) ∧ Num wr w6.heap.size 26 (shY x p) ∧ Below w6.heap.size w7 wr) (fun _ i _ => k - (intOf i).toNat)
  case atStart => exact ⟨0, by omega, rfl, by rw [ST.out.2]; rfl, by rw [ST.out.1]; exact mw7, Below.refl _ _⟩
  case round =>
    obtain ⟨p, hp, rfl, rfl, hy, hB⟩ := hrel
    have hwy := hy.lt
    by_cases hlt : p < k
    · obtain ⟨o, o0, o1, cb, ka, eb⟩ := RD.out p (by omega)
      have c0 : 0 ≤ (shC x p : Int) := Int.natCast_nonneg _
      go_wp2_with (refine wpList_load_num rfl _ (.tmp 11) rfl _ rfl _ _ _ hy Try.underlying26 rfl size26 ?_)
      refine (ka _).mono ?_
      rintro e w8 ⟨rfl, b8⟩
      have y8 := hy.step b8
      have B8 := hB.trans (b8.mono (by omega))
      clear hy hB b8 ka
      go_wp2_with (refine wpList_store_num rfl _ (.tmp 11) _ rfl _ rfl _ rfl _ rfl y8 size26 ?_; intro w9 g9 y9)
      go_roundw
      case rel => exact ⟨p + 1, by omega, by go_num, rfl, y9, below_of_grown B8 g9 (by have := y8.lt; omega) (Nat.le_refl _)⟩
      case measure => simp [intOf]; omega
    · obtain rfl : p = k := by omega
      rw [← HL.out] at hy
      rw [← HH.out]
      have xq := x_5.below hB ltx
      have loq := lo_2.below hB ltlo
      have hiq := hi_1.below hB lthi
      have cq := c_8.trans (hB.mono lc)
      clear HL HH HT ST RD k0 k1
      go_wp2_with (first | (refine wpList_load_num rfl _ (.tmp 7) rfl _ rfl _ _ _ xq Try.underlying26 rfl size26 ?_))
      refine (k3 _).mono ?_
      rintro e w8 ⟨rfl, bw8⟩
      have x_6 := xq.step bw8
      have lo_3 := loq.step bw8
      have hi_2 := hiq.step bw8
      have y_1 := hy.step bw8
      have c_9 := step_trans cq bw8
      clear xq loq hiq hy cq bw8
      go_upto_region 14 with (first | (refine wpList_load_num rfl _ (.tmp 9) rfl _ rfl _ _ _ lo_3 Try.underlying26 rfl size26 ?_) | (refine wpList_load_num rfl _ (.tmp 10) rfl _ rfl _ _ _ hi_2 Try.underlying26 rfl size26 ?_) | (refine wpList_load_num rfl _ (.tmp 11) rfl _ rfl _ _ _ y_1 Try.underlying26 rfl size26 ?_))
      have e0 := Go.IntWalk.i64_in (B + (p : Int)) (by omega)
      have h0H : 0 ≤ (H : Int) := Int.natCast_nonneg _
      have eH := Go.IntWalk.i64_in (H : Int) (by omega)
      rcases HB.out with hz | ⟨hz, hbig⟩ | ⟨hz, hle, hC⟩
      · subst hz
        clear HB
        refine wp_region_later (by kernel_rfl) (by kernel_rfl) ?_
        (refine wpQuiet_load_num rfl _ (.tmp 9) rfl _ rfl _ _ _ lo_3 Try.underlying26 rfl size26 ?_; simp only [Act.put, List.setIfInBounds_toArray, List.set_cons_zero, List.set_cons_succ])
        (refine wpQuiet_load_num rfl _ (.tmp 11) rfl _ rfl _ _ _ y_1 Try.underlying26 rfl size26 ?_; simp only [Act.put, List.setIfInBounds_toArray, List.set_cons_zero, List.set_cons_succ])
        go_big_quiet_step (fail)
        go_big_quiet_step (fail)
        first | go_big_quiet_skip | (refine wpQuiet_load_num rfl _ (.tmp 10) rfl _ rfl _ _ _ hi_2 Try.underlying26 rfl size26 ?_; simp only [Act.put, List.setIfInBounds_toArray, List.set_cons_zero, List.set_cons_succ])
        first | go_big_quiet_skip | (refine BigFrame.wpQuiet_want (by kernel_rfl) fun K hK => ?_; go_big_quiet_op; first | go_big_quiet_on | (refine hK _ ?_; clear hK K)) | go_big_quiet_step (fail)
        first | go_big_quiet_skip | (refine BigFrame.wpQuiet_want (by kernel_rfl) fun K hK => ?_; go_big_quiet_op; first | go_big_quiet_on | (refine hK _ ?_; clear hK K)) | go_big_quiet_step (fail)
        go_big_quiet_step (exact later_of (k2 _))
        first | go_big_quiet_skip | (refine BigFrame.wpQuiet_want (by kernel_rfl) fun K hK => ?_; go_big_quiet_op; first | go_big_quiet_on | (refine hK _ ?_; clear hK K)) | go_big_quiet_step (fail)
        go_big_quiet_step (fail)
        go_big_quiet_step (fail)
        first | go_big_quiet_skip | (refine BigFrame.wpQuiet_want (by kernel_rfl) fun K hK => ?_; go_big_quiet_op; first | go_big_quiet_on | (refine hK _ ?_; clear hK K)) | go_big_quiet_step (fail)
        first | go_big_quiet_skip | (refine BigFrame.wpQuiet_want (by kernel_rfl) fun K hK => ?_; go_big_quiet_op; first | go_big_quiet_on | (refine hK _ ?_; clear hK K)) | go_big_quiet_step (fail)
        first | go_big_quiet_skip | (refine BigFrame.wpQuiet_want (by kernel_rfl) fun K hK => ?_; go_big_quiet_op; first | go_big_quiet_on | (refine hK _ ?_; clear hK K)) | go_big_quiet_step (fail)
        first | go_big_quiet_skip | (refine BigFrame.wpQuiet_want (by kernel_rfl) fun K hK => ?_; go_big_quiet_op; first | go_big_quiet_on | (refine hK _ ?_; clear hK K)) | go_big_quiet_step (fail)
        first | go_big_quiet_skip | (refine BigFrame.wpQuiet_want (by kernel_rfl) fun K hK => ?_; go_big_quiet_op; first | go_big_quiet_on | (refine hK _ ?_; clear hK K)) | go_big_quiet_step (fail)
        first | go_big_quiet_skip | (refine BigFrame.wpQuiet_want (by kernel_rfl) fun K hK => ?_; go_big_quiet_op; first | go_big_quiet_on | (refine hK _ ?_; clear hK K)) | go_big_quiet_step (fail)
        first | go_big_quiet_skip | (refine BigFrame.wpQuiet_want (by kernel_rfl) fun K hK => ?_; go_big_quiet_op; first | go_big_quiet_on | (refine hK _ ?_; clear hK K)) | go_big_quiet_step (fail)
        first | go_big_quiet_skip | (refine BigFrame.wpQuiet_want (by kernel_rfl) fun K hK => ?_; go_big_quiet_op; first | go_big_quiet_on | (refine hK _ ?_; clear hK K)) | go_big_quiet_step (fail)
        first | go_big_quiet_skip | (refine BigFrame.wpQuiet_want (by kernel_rfl) fun K hK => ?_; go_big_quiet_op; first | go_big_quiet_on | (refine hK _ ?_; clear hK K)) | go_big_quiet_step (fail)
        first | go_big_quiet_skip | (refine wpQuiet_load_num rfl _ (.tmp 9) rfl _ rfl _ _ _ lo_3 Try.underlying26 rfl size26 ?_; simp only [Act.put, List.setIfInBounds_toArray, List.set_cons_zero, List.set_cons_succ])
        go_big_quiet_skip
        first | go_big_quiet_skip | (refine BigFrame.wpQuiet_want (by kernel_rfl) fun K hK => ?_; go_big_quiet_op; first | go_big_quiet_on | (refine hK _ ?_; clear hK K)) | go_big_quiet_step (fail)
        first | go_big_quiet_skip | (refine BigFrame.wpQuiet_want (by kernel_rfl) fun K hK => ?_; go_big_quiet_op; first | go_big_quiet_on | (refine hK _ ?_; clear hK K)) | go_big_quiet_step (fail)
        first | go_big_quiet_skip | (refine BigFrame.wpQuiet_want (by kernel_rfl) fun K hK => ?_; go_big_quiet_op; first | go_big_quiet_on | (refine hK _ ?_; clear hK K)) | go_big_quiet_step (fail)
        first | go_big_quiet_skip | (refine BigFrame.wpQuiet_want (by kernel_rfl) fun K hK => ?_; go_big_quiet_op; first | go_big_quiet_on | (refine hK _ ?_; clear hK K)) | go_big_quiet_step (fail)
        first | go_big_quiet_skip | (refine BigFrame.wpQuiet_want (by kernel_rfl) fun K hK => ?_; go_big_quiet_op; first | go_big_quiet_on | (refine hK _ ?_; clear hK K)) | go_big_quiet_step (fail)
        go_big_quiet_step (fail)
        go_big_quiet_step (fail)
        refine wpQuiet_nil ?_
        intro X_2
        have x_7 := x_6.step X_2.h
        have lo_4 := lo_3.step X_2.h
        have hi_3 := hi_2.step X_2.h
        have y_2 := y_1.step X_2.h
        have c_10 := step_trans c_9 X_2.h
        clear x_6 lo_3 hi_2 y_1 c_9
        go_wp2
        go_ret
        exact ⟨rfl, c_10⟩
      · have hz0 : (B == 0) = false := by simpa using hz
        clear HB
        refine wp_region_later (by kernel_rfl) (by kernel_rfl) ?_
        (refine wpQuiet_load_num rfl _ (.tmp 9) rfl _ rfl _ _ _ lo_3 Try.underlying26 rfl size26 ?_; simp only [Act.put, List.setIfInBounds_toArray, List.set_cons_zero, List.set_cons_succ])
        (refine wpQuiet_load_num rfl _ (.tmp 11) rfl _ rfl _ _ _ y_1 Try.underlying26 rfl size26 ?_; simp only [Act.put, List.setIfInBounds_toArray, List.set_cons_zero, List.set_cons_succ])
        go_big_quiet_step (fail)
        go_big_quiet_step (fail)
        first | go_big_quiet_skip | (refine wpQuiet_load_num rfl _ (.tmp 10) rfl _ rfl _ _ _ hi_2 Try.underlying26 rfl size26 ?_; simp only [Act.put, List.setIfInBounds_toArray, List.set_cons_zero, List.set_cons_succ])
        first | go_big_quiet_skip | (refine BigFrame.wpQuiet_want (by kernel_rfl) fun K hK => ?_; go_big_quiet_op; first | go_big_quiet_on | (refine hK _ ?_; clear hK K)) | go_big_quiet_step (fail)
        first | go_big_quiet_skip | (refine BigFrame.wpQuiet_want (by kernel_rfl) fun K hK => ?_; go_big_quiet_op; first | go_big_quiet_on | (refine hK _ ?_; clear hK K)) | go_big_quiet_step (fail)
        go_big_quiet_step (exact later_of (k2 _))
        first | go_big_quiet_skip | (refine BigFrame.wpQuiet_want (by kernel_rfl) fun K hK => ?_; go_big_quiet_op; first | go_big_quiet_on | (refine hK _ ?_; clear hK K)) | go_big_quiet_step (fail)
        go_big_quiet_step (fail)
        go_big_quiet_step (fail)
        first | go_big_quiet_skip | (refine BigFrame.wpQuiet_want (by kernel_rfl) fun K hK => ?_; go_big_quiet_op; first | go_big_quiet_on | (refine hK _ ?_; clear hK K)) | go_big_quiet_step (fail)
        first | go_big_quiet_skip | (refine BigFrame.wpQuiet_want (by kernel_rfl) fun K hK => ?_; go_big_quiet_op; first | go_big_quiet_on | (refine hK _ ?_; clear hK K)) | go_big_quiet_step (fail)
        first | go_big_quiet_skip | (refine BigFrame.wpQuiet_want (by kernel_rfl) fun K hK => ?_; go_big_quiet_op; first | go_big_quiet_on | (refine hK _ ?_; clear hK K)) | go_big_quiet_step (fail)
        first | go_big_quiet_skip | (refine BigFrame.wpQuiet_want (by kernel_rfl) fun K hK => ?_; go_big_quiet_op; first | go_big_quiet_on | (refine hK _ ?_; clear hK K)) | go_big_quiet_step (fail)
        first | go_big_quiet_skip | (refine BigFrame.wpQuiet_want (by kernel_rfl) fun K hK => ?_; go_big_quiet_op; first | go_big_quiet_on | (refine hK _ ?_; clear hK K)) | go_big_quiet_step (fail)
        first | go_big_quiet_skip | (refine BigFrame.wpQuiet_want (by kernel_rfl) fun K hK => ?_; go_big_quiet_op; first | go_big_quiet_on | (refine hK _ ?_; clear hK K)) | go_big_quiet_step (fail)
        first | go_big_quiet_skip | (refine BigFrame.wpQuiet_want (by kernel_rfl) fun K hK => ?_; go_big_quiet_op; first | go_big_quiet_on | (refine hK _ ?_; clear hK K)) | go_big_quiet_step (fail)
        first | go_big_quiet_skip | (refine BigFrame.wpQuiet_want (by kernel_rfl) fun K hK => ?_; go_big_quiet_op; first | go_big_quiet_on | (refine hK _ ?_; clear hK K)) | go_big_quiet_step (fail)
        first | go_big_quiet_skip | (refine BigFrame.wpQuiet_want (by kernel_rfl) fun K hK => ?_; go_big_quiet_op; first | go_big_quiet_on | (refine hK _ ?_; clear hK K)) | go_big_quiet_step (fail)
        first | go_big_quiet_skip | (refine wpQuiet_load_num rfl _ (.tmp 9) rfl _ rfl _ _ _ lo_3 Try.underlying26 rfl size26 ?_; simp only [Act.put, List.setIfInBounds_toArray, List.set_cons_zero, List.set_cons_succ])
        go_big_quiet_skip
        first | go_big_quiet_skip | (refine BigFrame.wpQuiet_want (by kernel_rfl) fun K hK => ?_; go_big_quiet_op; first | go_big_quiet_on | (refine hK _ ?_; clear hK K)) | go_big_quiet_step (fail)
        first | go_big_quiet_skip | (refine BigFrame.wpQuiet_want (by kernel_rfl) fun K hK => ?_; go_big_quiet_op; first | go_big_quiet_on | (refine hK _ ?_; clear hK K)) | go_big_quiet_step (fail)
        first | go_big_quiet_skip | (refine BigFrame.wpQuiet_want (by kernel_rfl) fun K hK => ?_; go_big_quiet_op; first | go_big_quiet_on | (refine hK _ ?_; clear hK K)) | go_big_quiet_step (fail)
        first | go_big_quiet_skip | (refine BigFrame.wpQuiet_want (by kernel_rfl) fun K hK => ?_; go_big_quiet_op; first | go_big_quiet_on | (refine hK _ ?_; clear hK K)) | go_big_quiet_step (fail)
        first | go_big_quiet_skip | (refine BigFrame.wpQuiet_want (by kernel_rfl) fun K hK => ?_; go_big_quiet_op; first | go_big_quiet_on | (refine hK _ ?_; clear hK K)) | go_big_quiet_step (fail)
        go_big_quiet_step (fail)
        go_big_quiet_step (fail)
        refine wpQuiet_nil ?_
        intro X_2
        have x_7 := x_6.step X_2.h
        have lo_4 := lo_3.step X_2.h
        have hi_3 := hi_2.step X_2.h
        have y_2 := y_1.step X_2.h
        have c_10 := step_trans c_9 X_2.h
        clear x_6 lo_3 hi_2 y_1 c_9
        go_wp2
        go_ret
        exact ⟨rfl, c_10⟩
      · have hz0 : (B == 0) = false := by simpa using hz
        subst hC
        have hn : ¬ 256 < B + (p : Int) := by omega
        clear HB
        refine wp_region_later (by kernel_rfl) (by kernel_rfl) ?_
        (refine wpQuiet_load_num rfl _ (.tmp 9) rfl _ rfl _ _ _ lo_3 Try.underlying26 rfl size26 ?_; simp only [Act.put, List.setIfInBounds_toArray, List.set_cons_zero, List.set_cons_succ])
        (refine wpQuiet_load_num rfl _ (.tmp 11) rfl _ rfl _ _ _ y_1 Try.underlying26 rfl size26 ?_; simp only [Act.put, List.setIfInBounds_toArray, List.set_cons_zero, List.set_cons_succ])
        go_big_quiet_step (fail)
        go_big_quiet_step (fail)
        first | go_big_quiet_skip | (refine wpQuiet_load_num rfl _ (.tmp 10) rfl _ rfl _ _ _ hi_2 Try.underlying26 rfl size26 ?_; simp only [Act.put, List.setIfInBounds_toArray, List.set_cons_zero, List.set_cons_succ])
        first | go_big_quiet_skip | (refine BigFrame.wpQuiet_want (by kernel_rfl) fun K hK => ?_; go_big_quiet_op; first | go_big_quiet_on | (refine hK _ ?_; clear hK K)) | go_big_quiet_step (fail)
        first | go_big_quiet_skip | (refine BigFrame.wpQuiet_want (by kernel_rfl) fun K hK => ?_; go_big_quiet_op; first | go_big_quiet_on | (refine hK _ ?_; clear hK K)) | go_big_quiet_step (fail)
        go_big_quiet_step (exact later_of (k2 _))
        first | go_big_quiet_skip | (refine BigFrame.wpQuiet_want (by kernel_rfl) fun K hK => ?_; go_big_quiet_op; first | go_big_quiet_on | (refine hK _ ?_; clear hK K)) | go_big_quiet_step (fail)
        go_big_quiet_step (fail)
        go_big_quiet_step (fail)
        first | go_big_quiet_skip | (refine BigFrame.wpQuiet_want (by kernel_rfl) fun K hK => ?_; go_big_quiet_op; first | go_big_quiet_on | (refine hK _ ?_; clear hK K)) | go_big_quiet_step (fail)
        first | go_big_quiet_skip | (refine BigFrame.wpQuiet_want (by kernel_rfl) fun K hK => ?_; go_big_quiet_op; first | go_big_quiet_on | (refine hK _ ?_; clear hK K)) | go_big_quiet_step (fail)
        first | go_big_quiet_skip | (refine BigFrame.wpQuiet_want (by kernel_rfl) fun K hK => ?_; go_big_quiet_op; first | go_big_quiet_on | (refine hK _ ?_; clear hK K)) | go_big_quiet_step (fail)
        first | go_big_quiet_skip | (refine BigFrame.wpQuiet_want (by kernel_rfl) fun K hK => ?_; go_big_quiet_op; first | go_big_quiet_on | (refine hK _ ?_; clear hK K)) | go_big_quiet_step (fail)
        first | go_big_quiet_skip | (refine BigFrame.wpQuiet_want (by kernel_rfl) fun K hK => ?_; go_big_quiet_op; first | go_big_quiet_on | (refine hK _ ?_; clear hK K)) | go_big_quiet_step (fail)
        first | go_big_quiet_skip | (refine BigFrame.wpQuiet_want (by kernel_rfl) fun K hK => ?_; go_big_quiet_op; first | go_big_quiet_on | (refine hK _ ?_; clear hK K)) | go_big_quiet_step (fail)
        first | go_big_quiet_skip | (refine BigFrame.wpQuiet_want (by kernel_rfl) fun K hK => ?_; go_big_quiet_op; first | go_big_quiet_on | (refine hK _ ?_; clear hK K)) | go_big_quiet_step (fail)
        first | go_big_quiet_skip | (refine BigFrame.wpQuiet_want (by kernel_rfl) fun K hK => ?_; go_big_quiet_op; first | go_big_quiet_on | (refine hK _ ?_; clear hK K)) | go_big_quiet_step (fail)
        first | go_big_quiet_skip | (refine BigFrame.wpQuiet_want (by kernel_rfl) fun K hK => ?_; go_big_quiet_op; first | go_big_quiet_on | (refine hK _ ?_; clear hK K)) | go_big_quiet_step (fail)
        first | go_big_quiet_skip | (refine wpQuiet_load_num rfl _ (.tmp 9) rfl _ rfl _ _ _ lo_3 Try.underlying26 rfl size26 ?_; simp only [Act.put, List.setIfInBounds_toArray, List.set_cons_zero, List.set_cons_succ])
        go_big_quiet_step (exact later_of (k4 _))
        first | go_big_quiet_skip | (refine BigFrame.wpQuiet_want (by kernel_rfl) fun K hK => ?_; go_big_quiet_op; first | go_big_quiet_on | (refine hK _ ?_; clear hK K)) | go_big_quiet_step (fail)
        first | go_big_quiet_skip | (refine BigFrame.wpQuiet_want (by kernel_rfl) fun K hK => ?_; go_big_quiet_op; first | go_big_quiet_on | (refine hK _ ?_; clear hK K)) | go_big_quiet_step (fail)
        first | go_big_quiet_skip | (refine BigFrame.wpQuiet_want (by kernel_rfl) fun K hK => ?_; go_big_quiet_op; first | go_big_quiet_on | (refine hK _ ?_; clear hK K)) | go_big_quiet_step (fail)
        first | go_big_quiet_skip | (refine BigFrame.wpQuiet_want (by kernel_rfl) fun K hK => ?_; go_big_quiet_op; first | go_big_quiet_on | (refine hK _ ?_; clear hK K)) | go_big_quiet_step (fail)
        first | go_big_quiet_skip | (refine BigFrame.wpQuiet_want (by kernel_rfl) fun K hK => ?_; go_big_quiet_op; first | go_big_quiet_on | (refine hK _ ?_; clear hK K)) | go_big_quiet_step (fail)
        go_big_quiet_step (fail)
        go_big_quiet_step (fail)
        refine wpQuiet_nil ?_
        intro X_2
        have x_7 := x_6.step X_2.h
        have lo_4 := lo_3.step X_2.h
        have hi_3 := hi_2.step X_2.h
        have y_2 := y_1.step X_2.h
        have c_10 := step_trans c_9 X_2.h
        clear x_6 lo_3 hi_2 y_1 c_9
        go_wp2
        go_ret
        exact ⟨rfl, c_10⟩
end Go.Proofs.Yteihojjciklfoaa
