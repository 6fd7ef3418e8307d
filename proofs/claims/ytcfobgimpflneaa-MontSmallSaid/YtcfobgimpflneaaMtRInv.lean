/- sentinelref2.Inverse. -/
import Derived.Test.YtcfobgimpflneaaMtQuo
import Derived.Test.YtcfobgimpflneaaMtRef
import Derived.Test.YtcfobgimpflneaaGaKnown
import Derived.Test.YtcfobgimpflneaaOlds
import Derived.Test.YtcfobgimpflneaaGaRel
namespace Go.Proofs.Ytcfobgimpflneaa
set_option linter.unusedVariables false
set_option linter.unusedSimpArgs false
open Go.ChangeShapes Go.WideShapes Go.ChangeAt Go.RowKit
/-- The number in block b. -/
def muB (b : Nat) (w : World) : Nat := match w.heap[b]? with
  | some (.cells c _ _) => (valI (fun k => intOf (c.getD k undef)) 8).toNat
  | _ => 0
theorem muB_num {w : World} {b : Nat} {t : TypeId} {n : Nat} (h : Num w b t n) (hn : n < 4294967296 ^ 8) : muB b w = n := by
  unfold muB
  have hb : w.heap[b]? = some (.cells (numA n) t (0, 0)) := h
  simp only [hb]
  have e := valI_dig n 8
  rw [Nat.mod_eq_of_lt hn] at e
  have e2 : valI (fun k => intOf ((numA n).getD k undef)) 8 = valI (digI n) 8 := rfl
  rw [e2, e]
  rfl
theorem d_ways {m T P : Nat} (hT : T < m) (hP : P < m) (hm : m < 4294967296 ^ 8) : (lentI T P = 0 ∧ subN T P = dN m T P) ∨ (lentI T P = 1 ∧ ∃ o : Int, RunsTo 32 #[numV (subN T P), numV m] (.tuple #[numV (dN m T P), .int .u32 o])) := by
  unfold lentI subN dN
  by_cases h : P ≤ T
  · exact .inl ⟨by rw [if_pos h], by rw [if_pos h, if_pos h]⟩
  · refine .inr ⟨by rw [if_neg h], overI (T + 4294967296 ^ 8 - P) m, ?_⟩
    rw [if_neg h, if_neg h]
    have e : addN (T + 4294967296 ^ 8 - P) m = T + m - P := by unfold addN; rw [if_neg (by omega)]; omega
    rw [← e]
    exact radd_any _ _ (by omega) hm
theorem rfrom2 (w : World) : Calls Try.prog 27 #[.int .i64 2] w fun e w' => e = .returned (numV 2) ∧ Below w.heap.size w w' := from_ref 2 (by omega) (by omega) w
set_option maxRecDepth 100000 in
set_option maxHeartbeats 16000000 in
theorem rinverse_any (a m : Nat) (ha : a < 4294967296 ^ 8) (hm : m < 4294967296 ^ 8) (w : World) :
    Calls Try.prog 30 #[numV a, numV m] w fun e w' => e = .returned (.tuple #[numV (invN a m), .bool (invB a m)]) ∧ Below w.heap.size w w' := by
  have hr : 0 < m → ∀ w, Calls Try.prog 19 #[numV a, .agg #[.int .u32 0, .int .u32 0, .int .u32 0, .int .u32 0, .int .u32 0, .int .u32 0, .int .u32 0, .int .u32 0], numV m] w fun e w' => e = .returned (.tuple #[numV (a % m), .bool true]) ∧ Below w.heap.size w w' := fun h0 w => by
    have := rrest_any a 0 m ha (by decide) hm w
    rw [if_neg (by omega), Nat.zero_mul, Nat.add_zero, decide_eq_true (show m ≠ 0 by omega)] at this
    rw [zeroA]; exact this
  have kc1 : m < 2 → RunsTo 31 #[numV m, numV 2] (.int .i64 (-1)) := fun h w => by
    have := rcmp_any m 2 hm (by decide) w
    rw [show cmpI m 2 = -1 by unfold cmpI; rw [if_pos h]] at this; exact this
  have kc2 : 2 ≤ m → ∃ d : Int, 0 ≤ d ∧ d ≤ 1 ∧ RunsTo 31 #[numV m, numV 2] (.int .i64 d) := fun h => ⟨cmpI m 2, by unfold cmpI; rw [if_neg (by omega)]; split <;> decide, by unfold cmpI; rw [if_neg (by omega)]; split <;> decide, rcmp_any m 2 hm (by decide)⟩
  obtain ⟨V, hV⟩ : ∃ V, Hid (invN a m = V) := ⟨_, hid rfl⟩
  obtain ⟨BB, hBB⟩ : ∃ b, Hid (invB a m = b) := ⟨_, hid rfl⟩
  rw [hV.out, hBB.out]
  have ng := noGuard
  go_enter Try.func30, Try.ntmps30
  go_upto_region 1 with fail
  obtain ⟨W, hW⟩ : ∃ W, W = ((((w.alloc (.cells (numA a) 26))).alloc (.cells (numA m) 26))).alloc (.cells #[Value.int .u32 0, .int .u32 0, .int .u32 0, .int .u32 0, .int .u32 0, .int .u32 0, .int .u32 0, .int .u32 0] 26) := ⟨_, rfl⟩
  have q_a : Num W (w.heap.size) 26 (a) := by
    have := (((Num.new w 26 (a)).alloc (.cells (numA m) 26)).alloc (.cells #[Value.int .u32 0, .int .u32 0, .int .u32 0, .int .u32 0, .int .u32 0, .int .u32 0, .int .u32 0, .int .u32 0] 26))
    rw [hW]; exact this
  have q_m : Num W (w.heap.size + 1) 26 (m) := by
    have := ((Num.new (w.alloc (.cells (numA a) 26)) 26 (m)).alloc (.cells #[Value.int .u32 0, .int .u32 0, .int .u32 0, .int .u32 0, .int .u32 0, .int .u32 0, .int .u32 0, .int .u32 0] 26))
    rw [World.size_alloc] at this
    rw [hW]; exact this
  have q_r : Num W (w.heap.size + 1 + 1) 26 0 := by
    have := (Num.new (((w.alloc (.cells (numA a) 26))).alloc (.cells (numA m) 26)) 26 0)
    rw [World.size_alloc, World.size_alloc, ← zeroA] at this
    rw [hW]; exact this
  have gb : Below w.heap.size w W := by rw [hW]; exact ((((Below.refl _ _).alloc (by simp <;> omega) _).alloc (by simp <;> omega) _).alloc (by simp <;> omega) _)
  rw [← hW]
  clear hW
  have lor := hid (show w.heap.size ≤ w.heap.size + 1 + 1 by omega)
  have na_r := hid (show w.heap.size ≠ w.heap.size + 1 + 1 by omega)
  have nm_r := hid (show w.heap.size + 1 ≠ w.heap.size + 1 + 1 by omega)
  have hmP := hid hm
  clear hm
  rcases Nat.lt_or_ge m 2 with h2 | h2
  · obtain rfl : BB = false := by rw [← hBB.out]; exact (inv_small h2).1
    obtain rfl : V = 0 := by rw [← hV.out]; exact (inv_small h2).2
    have hc := kc1 h2
    clear kc1 kc2
    refine wp_region_later (by kernel_rfl) (by kernel_rfl) ?_
    (refine wpQuiet_load_num rfl _ (.tmp 3) rfl _ rfl _ _ _ q_m Try.underlying26 rfl size26 ?_; simp only [Act.put, List.setIfInBounds_toArray, List.set_cons_zero, List.set_cons_succ])
    go_big_quiet_step (exact later_of (rfrom2 _))
    go_big_quiet_step (exact later_of (hc _))
    go_big_quiet_step (fail)
    refine wpQuiet_nil ?_
    intro X_1
    have a_1 := q_a.step X_1.h
    have m_1 := q_m.step X_1.h
    have r_1 := q_r.step X_1.h
    have c_1 := step_trans gb X_1.h
    clear q_a q_m q_r gb
    have bef := c_1
    go_wp2_with (first | (refine wpList_load_num rfl _ (.tmp 2) rfl _ rfl _ _ _ a_1 Try.underlying26 rfl size26 ?_) | (refine wpList_load_num rfl _ (.tmp 3) rfl _ rfl _ _ _ m_1 Try.underlying26 rfl size26 ?_) | (refine wpList_load_num rfl _ (.tmp 4) rfl _ rfl _ _ _ r_1 Try.underlying26 rfl size26 ?_) | (refine wpList_store_num rfl _ (.tmp 4) _ rfl _ rfl 0 zeroV8 _ rfl r_1 size26 ?_; intro wz gz mz))
    exact bodyPost_ret (results_num_tmp rfl rfl mz Try.underlying26 rfl size26) rfl ⟨rfl, below_of_grown bef gz bef.size (by omega)⟩
  · obtain ⟨dd, d0, d1, hc⟩ := kc2 h2
    clear kc1 kc2
    have hm0 : 0 < m := by omega
    refine wp_region_later (by kernel_rfl) (by kernel_rfl) ?_
    (refine wpQuiet_load_num rfl _ (.tmp 3) rfl _ rfl _ _ _ q_m Try.underlying26 rfl size26 ?_; simp only [Act.put, List.setIfInBounds_toArray, List.set_cons_zero, List.set_cons_succ])
    go_big_quiet_step (exact later_of (rfrom2 _))
    go_big_quiet_step (exact later_of (hc _))
    go_big_quiet_step (fail)
    refine wpQuiet_nil ?_
    intro X_1
    have a_1 := q_a.step X_1.h
    have m_1 := q_m.step X_1.h
    have r_1 := q_r.step X_1.h
    have c_1 := step_trans gb X_1.h
    clear q_a q_m q_r gb
    go_wp2_with (first | (refine wpList_load_num rfl _ (.tmp 2) rfl _ rfl _ _ _ a_1 Try.underlying26 rfl size26 ?_) | (refine wpList_load_num rfl _ (.tmp 3) rfl _ rfl _ _ _ m_1 Try.underlying26 rfl size26 ?_))
    refine (hr hm0 _).mono ?_
    rintro e w1 ⟨rfl, bw1⟩
    have a_2 := a_1.step bw1
    have m_2 := m_1.step bw1
    have r_2 := r_1.step bw1
    have c_2 := step_trans c_1 bw1
    clear a_1 m_1 r_1 c_1 bw1
    go_upto_region 4 with (first | (refine wpList_store_num rfl _ (.tmp 6) _ rfl _ rfl _ rfl _ rfl (heap_alloc_new _ _) size26 ?_; intro w2 gw2 mw2; have b_1 := step_new gw2; have lolo := hid (show _ ≤ w1.heap.size from Nat.le_trans c_2.size (by omega)); have na_lo := hid (show _ ≠ w1.heap.size from Nat.ne_of_lt (Nat.lt_of_lt_of_le a_2.lt (by omega))); have nm_lo := hid (show _ ≠ w1.heap.size from Nat.ne_of_lt (Nat.lt_of_lt_of_le m_2.lt (by omega))); have nr_lo := hid (show _ ≠ w1.heap.size from Nat.ne_of_lt (Nat.lt_of_lt_of_le r_2.lt (by omega))); have a_3 := a_2.step b_1; have m_3 := m_2.step b_1; have r_3 := r_2.step b_1; have c_3 := step_trans c_2 b_1; clear a_2 m_2 r_2 c_2 b_1 gw2) | (refine wpList_load_num rfl _ (.tmp 3) rfl _ rfl _ _ _ m_3 Try.underlying26 rfl size26 ?_))
    try simp only [Act.put, List.setIfInBounds_toArray, List.set_cons_zero, List.set_cons_succ]
    go_upto_region 5 with (first | (refine wpList_load_num rfl _ (.tmp 3) rfl _ rfl _ _ _ m_3 Try.underlying26 rfl size26 ?_) | (refine wpList_store_num rfl _ (.tmp 8) _ rfl _ rfl _ rfl _ rfl (heap_alloc_new _ _) size26 ?_; intro w3 gw3 mw3; have b_2 := step_new gw3; have lohi := hid (show _ ≤ w2.heap.size from Nat.le_trans c_3.size (by omega)); have na_hi := hid (show _ ≠ w2.heap.size from Nat.ne_of_lt (Nat.lt_of_lt_of_le a_3.lt (by omega))); have nm_hi := hid (show _ ≠ w2.heap.size from Nat.ne_of_lt (Nat.lt_of_lt_of_le m_3.lt (by omega))); have nr_hi := hid (show _ ≠ w2.heap.size from Nat.ne_of_lt (Nat.lt_of_lt_of_le r_3.lt (by omega))); have nlo_hi := hid (show _ ≠ w2.heap.size from Nat.ne_of_lt (Nat.lt_of_lt_of_le mw2.lt (by omega))); have a_4 := a_3.step b_2; have m_4 := m_3.step b_2; have r_4 := r_3.step b_2; have lo_1 := mw2.step b_2; have c_4 := step_trans c_3 b_2; clear a_3 m_3 r_3 mw2 c_3 b_2 gw3) | (refine wpList_load_num rfl _ (.tmp 3) rfl _ rfl _ _ _ m_4 Try.underlying26 rfl size26 ?_))
    try simp only [Act.put, List.setIfInBounds_toArray, List.set_cons_zero, List.set_cons_succ]
    go_wp2_with (first | (refine wpList_load_num rfl _ (.tmp 3) rfl _ rfl _ _ _ m_4 Try.underlying26 rfl size26 ?_))
    refine (rfrom_one _).mono ?_
    rintro e w4 ⟨rfl, bw4⟩
    have a_5 := a_4.step bw4
    have m_5 := m_4.step bw4
    have r_5 := r_4.step bw4
    have lo_2 := lo_1.step bw4
    have hi_1 := mw3.step bw4
    have c_5 := step_trans c_4 bw4
    clear a_4 m_4 r_4 lo_1 mw3 c_4 bw4
    go_upto_region 6 with (first | (refine wpList_store_num rfl _ (.tmp 9) _ rfl _ rfl _ rfl _ rfl (news2 w4 _).1 size26 ?_; intro w5 gw5 mw5) | (refine wpList_store_num rfl _ (.tmp 10) _ rfl _ rfl 0 zeroV8 _ rfl ((gw5.block _ (by simp) (by simp)).trans (news2 w4 _).2) size26 ?_; intro w6 gw6 mw6; have b_3 := step_new2 gw5 gw6; have qw5 := (mw5.grown gw6 (by simp <;> omega)); have los := hid (show _ ≤ w4.heap.size from Nat.le_trans c_5.size (by omega)); have na_s := hid (show _ ≠ w4.heap.size from Nat.ne_of_lt (Nat.lt_of_lt_of_le a_5.lt (by omega))); have nm_s := hid (show _ ≠ w4.heap.size from Nat.ne_of_lt (Nat.lt_of_lt_of_le m_5.lt (by omega))); have nr_s := hid (show _ ≠ w4.heap.size from Nat.ne_of_lt (Nat.lt_of_lt_of_le r_5.lt (by omega))); have nlo_s := hid (show _ ≠ w4.heap.size from Nat.ne_of_lt (Nat.lt_of_lt_of_le lo_2.lt (by omega))); have nhi_s := hid (show _ ≠ w4.heap.size from Nat.ne_of_lt (Nat.lt_of_lt_of_le hi_1.lt (by omega))); have lot := hid (show _ ≤ w4.heap.size + 1 from Nat.le_trans c_5.size (by omega)); have na_t := hid (show _ ≠ w4.heap.size + 1 from Nat.ne_of_lt (Nat.lt_of_lt_of_le a_5.lt (by omega))); have nm_t := hid (show _ ≠ w4.heap.size + 1 from Nat.ne_of_lt (Nat.lt_of_lt_of_le m_5.lt (by omega))); have nr_t := hid (show _ ≠ w4.heap.size + 1 from Nat.ne_of_lt (Nat.lt_of_lt_of_le r_5.lt (by omega))); have nlo_t := hid (show _ ≠ w4.heap.size + 1 from Nat.ne_of_lt (Nat.lt_of_lt_of_le lo_2.lt (by omega))); have nhi_t := hid (show _ ≠ w4.heap.size + 1 from Nat.ne_of_lt (Nat.lt_of_lt_of_le hi_1.lt (by omega))); have ns_t := hid (show w4.heap.size ≠ w4.heap.size + 1 by omega); have a_6 := a_5.step b_3; have m_6 := m_5.step b_3; have r_6 := r_5.step b_3; have lo_3 := lo_2.step b_3; have hi_2 := hi_1.step b_3; have c_6 := step_trans c_5 b_3; clear a_5 m_5 r_5 lo_2 hi_1 c_5 b_3 gw5 gw6 mw5) | (refine wpList_load_num rfl _ (.tmp 6) rfl _ rfl _ _ _ lo_3 Try.underlying26 rfl size26 ?_) | (refine wpList_load_num rfl _ (.tmp 8) rfl _ rfl _ _ _ hi_2 Try.underlying26 rfl size26 ?_))
    try simp only [Act.put, List.setIfInBounds_toArray, List.set_cons_zero, List.set_cons_succ]
    have HE0 := hid (ri_first a h2)
    go_loopw [15] (fun i wr => ∃ high low S T, Hid (RI a m high low S T) ∧ Num wr (w.heap.size + 1) 26 m ∧ Num wr (w.heap.size + 1 + 1) 26 0 ∧ Num wr (w1.heap.size) 26 low ∧ Num wr (w2.heap.size) 26 high ∧ Num wr (w4.heap.size) 26 S ∧ Num wr (w4.heap.size + 1) 26 T ∧ Below w.heap.size w wr) (fun i wr => muB (w1.heap.size) wr)
    case atStart => exact ⟨m, a % m, 1, 0, HE0, m_6, r_6, lo_3, hi_2, qw5, mw6, c_6⟩
    case round =>
      obtain ⟨high, low, S, T, HE, nm, nr, nlo, nhi, ns, nt, hB⟩ := hrel
      clear HE0 a_6 m_6 r_6 lo_3 hi_2 qw5 mw6 c_6
      have hmL := hmP.out
      have hHi : high < 4294967296 ^ 8 := Nat.lt_of_le_of_lt HE.out.hm hmL
      have hLo : low < 4294967296 ^ 8 := Nat.lt_trans HE.out.lt hHi
      have MU := hid (muB_num nlo hLo)
      rcases Nat.eq_zero_or_pos low with h0 | h0
      · subst h0
        have k0 := fun w => eqn_zero w
        have hl := HE.out.last h2
        go_upto_region 13 with (first | (refine wpList_load_num rfl _ (.tmp 6) rfl _ rfl _ _ _ nlo Try.underlying26 rfl size26 ?_) | (refine wpList_load_num rfl _ (.tmp 8) rfl _ rfl _ _ _ nhi Try.underlying26 rfl size26 ?_))
        try simp only [Act.put, List.setIfInBounds_toArray, List.set_cons_zero, List.set_cons_succ]
        rcases hl with ⟨hh, ht, hb⟩ | ⟨hh, hb, hn⟩
        · subst hh
          obtain rfl : BB = true := by rw [← hBB.out]; exact hb
          obtain rfl : T = V := by rw [← hV.out]; exact ht
          have k1 := fun w => eqn_same 1 w
          clear hb k0
          refine wp_region_later (by kernel_rfl) (by kernel_rfl) ?_
          (refine wpQuiet_load_num rfl _ (.tmp 8) rfl _ rfl _ _ _ nhi Try.underlying26 rfl size26 ?_; simp only [Act.put, List.setIfInBounds_toArray, List.set_cons_zero, List.set_cons_succ])
          go_big_quiet_step (exact later_of (rfrom_one _))
          go_big_quiet_step (fail)
          refine wpQuiet_nil ?_
          intro X_2
          have m_7 := nm.step X_2.h
          have r_7 := nr.step X_2.h
          have lo_4 := nlo.step X_2.h
          have hi_3 := nhi.step X_2.h
          have s_1 := ns.step X_2.h
          have t_1 := nt.step X_2.h
          have c_7 := step_trans hB X_2.h
          clear nm nr nlo nhi ns nt hB
          have bef := c_7
          go_wp2_with (first | (refine wpList_load_num rfl _ (.tmp 3) rfl _ rfl _ _ _ m_7 Try.underlying26 rfl size26 ?_) | (refine wpList_load_num rfl _ (.tmp 4) rfl _ rfl _ _ _ r_7 Try.underlying26 rfl size26 ?_) | (refine wpList_load_num rfl _ (.tmp 6) rfl _ rfl _ _ _ lo_4 Try.underlying26 rfl size26 ?_) | (refine wpList_load_num rfl _ (.tmp 8) rfl _ rfl _ _ _ hi_3 Try.underlying26 rfl size26 ?_) | (refine wpList_load_num rfl _ (.tmp 9) rfl _ rfl _ _ _ s_1 Try.underlying26 rfl size26 ?_) | (refine wpList_load_num rfl _ (.tmp 10) rfl _ rfl _ _ _ t_1 Try.underlying26 rfl size26 ?_) | (refine wpList_store_num rfl _ (.tmp 4) _ rfl _ rfl _ rfl _ rfl r_7 size26 ?_; intro wz gz mz))
          exact bodyPost_ret (results_num_tmp rfl rfl mz Try.underlying26 rfl size26) rfl ⟨rfl, below_of_grown bef gz bef.size (by omega)⟩
        · obtain rfl : BB = false := by rw [← hBB.out]; exact hb
          obtain rfl : V = 0 := by rw [← hV.out]; exact hn
          have k1 := fun w => eqn_diff hHi (show 1 < 4294967296 ^ 8 by decide) hh w
          clear hb hn k0
          refine wp_region_later (by kernel_rfl) (by kernel_rfl) ?_
          (refine wpQuiet_load_num rfl _ (.tmp 8) rfl _ rfl _ _ _ nhi Try.underlying26 rfl size26 ?_; simp only [Act.put, List.setIfInBounds_toArray, List.set_cons_zero, List.set_cons_succ])
          go_big_quiet_step (exact later_of (rfrom_one _))
          go_big_quiet_step (fail)
          refine wpQuiet_nil ?_
          intro X_2
          have m_7 := nm.step X_2.h
          have r_7 := nr.step X_2.h
          have lo_4 := nlo.step X_2.h
          have hi_3 := nhi.step X_2.h
          have s_1 := ns.step X_2.h
          have t_1 := nt.step X_2.h
          have c_7 := step_trans hB X_2.h
          clear nm nr nlo nhi ns nt hB
          have bef := c_7
          go_wp2_with (first | (refine wpList_load_num rfl _ (.tmp 3) rfl _ rfl _ _ _ m_7 Try.underlying26 rfl size26 ?_) | (refine wpList_load_num rfl _ (.tmp 4) rfl _ rfl _ _ _ r_7 Try.underlying26 rfl size26 ?_) | (refine wpList_load_num rfl _ (.tmp 6) rfl _ rfl _ _ _ lo_4 Try.underlying26 rfl size26 ?_) | (refine wpList_load_num rfl _ (.tmp 8) rfl _ rfl _ _ _ hi_3 Try.underlying26 rfl size26 ?_) | (refine wpList_load_num rfl _ (.tmp 9) rfl _ rfl _ _ _ s_1 Try.underlying26 rfl size26 ?_) | (refine wpList_load_num rfl _ (.tmp 10) rfl _ rfl _ _ _ t_1 Try.underlying26 rfl size26 ?_) | (refine wpList_store_num rfl _ (.tmp 4) _ rfl _ rfl 0 zeroV8 _ rfl r_7 size26 ?_; intro wz gz mz))
          exact bodyPost_ret (results_num_tmp rfl rfl mz Try.underlying26 rfl size26) rfl ⟨rfl, below_of_grown bef gz bef.size (by omega)⟩
      · have k0 := fun w => eqn_not0 hLo h0 w
        have hS : S < 4294967296 ^ 8 := Nat.lt_trans HE.out.sm hmL
        have hTm := HE.out.tm
        have hT : T < 4294967296 ^ 8 := Nat.lt_trans hTm hmL
        have hm0 : 0 < m := by omega
        have hQ : high / low < 4294967296 ^ 8 := Nat.lt_of_le_of_lt (Nat.div_le_self _ _) hHi
        have hq := quot_any high low hHi hLo h0
        have hP : high / low * S % m < m := Nat.mod_lt _ hm0
        have hPP := Nat.lt_trans hP hmL
        have hby := by_any (high / low) S m hQ hS hmL hm0
        have hnx := hid (HE.out.next h0)
        have hRl : high % low < low := Nat.mod_lt _ h0
        have hsub := rsub_any T (high / low * S % m) hT hPP
        have hway := hid (d_ways hTm hP hmL)
        have hRP := Nat.lt_trans hRl hLo
        generalize high / low * S % m = P at *
        generalize high / low = Q at *
        generalize high % low = R at *
        clear hS hQ hm0 hHi
        go_wp2_with (first | (refine wpList_load_num rfl _ (.tmp 6) rfl _ rfl _ _ _ nlo Try.underlying26 rfl size26 ?_) | (refine wpList_load_num rfl _ (.tmp 8) rfl _ rfl _ _ _ nhi Try.underlying26 rfl size26 ?_))
        refine (hq _).mono ?_
        rintro e w7 ⟨rfl, bw7⟩
        have m_7 := nm.step bw7
        have r_7 := nr.step bw7
        have lo_4 := nlo.step bw7
        have hi_3 := nhi.step bw7
        have s_1 := ns.step bw7
        have t_1 := nt.step bw7
        have c_7 := step_trans hB bw7
        clear nm nr nlo nhi ns nt hB bw7
        go_wp2_with (first | (refine wpList_store_num rfl _ (.tmp 11) _ rfl _ rfl _ rfl _ rfl (news2 w7 _).1 size26 ?_; intro w8 gw8 mw8) | (refine wpList_store_num rfl _ (.tmp 12) _ rfl _ rfl _ rfl _ rfl ((gw8.block _ (by simp) (by simp)).trans (news2 w7 _).2) size26 ?_; intro w9 gw9 mw9; have b_4 := step_new2 gw8 gw9; have qw8 := (mw8.grown gw9 (by simp <;> omega)); have nr_q := hid (show _ ≠ w7.heap.size from Nat.ne_of_lt (Nat.lt_of_lt_of_le r_7.lt (by omega))); have nlo_q := hid (show _ ≠ w7.heap.size from Nat.ne_of_lt (Nat.lt_of_lt_of_le lo_4.lt (by omega))); have nhi_q := hid (show _ ≠ w7.heap.size from Nat.ne_of_lt (Nat.lt_of_lt_of_le hi_3.lt (by omega))); have ns_q := hid (show _ ≠ w7.heap.size from Nat.ne_of_lt (Nat.lt_of_lt_of_le s_1.lt (by omega))); have nt_q := hid (show _ ≠ w7.heap.size from Nat.ne_of_lt (Nat.lt_of_lt_of_le t_1.lt (by omega))); have nr_r2 := hid (show _ ≠ w7.heap.size + 1 from Nat.ne_of_lt (Nat.lt_of_lt_of_le r_7.lt (by omega))); have nlo_r2 := hid (show _ ≠ w7.heap.size + 1 from Nat.ne_of_lt (Nat.lt_of_lt_of_le lo_4.lt (by omega))); have nhi_r2 := hid (show _ ≠ w7.heap.size + 1 from Nat.ne_of_lt (Nat.lt_of_lt_of_le hi_3.lt (by omega))); have ns_r2 := hid (show _ ≠ w7.heap.size + 1 from Nat.ne_of_lt (Nat.lt_of_lt_of_le s_1.lt (by omega))); have nt_r2 := hid (show _ ≠ w7.heap.size + 1 from Nat.ne_of_lt (Nat.lt_of_lt_of_le t_1.lt (by omega))); have m_8 := m_7.step b_4; have r_8 := r_7.step b_4; have lo_5 := lo_4.step b_4; have hi_4 := hi_3.step b_4; have s_2 := s_1.step b_4; have t_2 := t_1.step b_4; have c_8 := step_trans c_7 b_4; clear m_7 r_7 lo_4 hi_3 s_1 t_1 c_7 b_4 gw8 gw9 mw8) | (refine wpList_load_num rfl _ (.tmp 3) rfl _ rfl _ _ _ m_8 Try.underlying26 rfl size26 ?_) | (refine wpList_load_num rfl _ (.tmp 9) rfl _ rfl _ _ _ s_2 Try.underlying26 rfl size26 ?_) | (refine wpList_load_num rfl _ (.tmp 11) rfl _ rfl _ _ _ qw8 Try.underlying26 rfl size26 ?_))
        refine (hby _).mono ?_
        rintro e w10 ⟨rfl, bw10⟩
        have m_9 := m_8.step bw10
        have r_9 := r_8.step bw10
        have lo_6 := lo_5.step bw10
        have hi_5 := hi_4.step bw10
        have s_3 := s_2.step bw10
        have t_3 := t_2.step bw10
        have q_1 := qw8.step bw10
        have r2_1 := mw9.step bw10
        have c_9 := step_trans c_8 bw10
        clear m_8 r_8 lo_5 hi_4 s_2 t_2 qw8 mw9 c_8 bw10
        go_wp2_with (first | (refine wpList_store_num rfl _ (.tmp 13) _ rfl _ rfl _ rfl _ rfl (heap_alloc_new _ _) size26 ?_; intro w11 gw11 mw11; have b_5 := step_new gw11; have nr_p := hid (show _ ≠ w10.heap.size from Nat.ne_of_lt (Nat.lt_of_lt_of_le r_9.lt (by omega))); have nlo_p := hid (show _ ≠ w10.heap.size from Nat.ne_of_lt (Nat.lt_of_lt_of_le lo_6.lt (by omega))); have nhi_p := hid (show _ ≠ w10.heap.size from Nat.ne_of_lt (Nat.lt_of_lt_of_le hi_5.lt (by omega))); have ns_p := hid (show _ ≠ w10.heap.size from Nat.ne_of_lt (Nat.lt_of_lt_of_le s_3.lt (by omega))); have nt_p := hid (show _ ≠ w10.heap.size from Nat.ne_of_lt (Nat.lt_of_lt_of_le t_3.lt (by omega))); have m_10 := m_9.step b_5; have r_10 := r_9.step b_5; have lo_7 := lo_6.step b_5; have hi_6 := hi_5.step b_5; have s_4 := s_3.step b_5; have t_4 := t_3.step b_5; have r2_2 := r2_1.step b_5; have c_10 := step_trans c_9 b_5; clear m_9 r_9 lo_6 hi_5 s_3 t_3 r2_1 c_9 b_5 gw11) | (refine wpList_load_num rfl _ (.tmp 10) rfl _ rfl _ _ _ t_4 Try.underlying26 rfl size26 ?_) | (refine wpList_load_num rfl _ (.tmp 13) rfl _ rfl _ _ _ mw11 Try.underlying26 rfl size26 ?_))
        rcases hway.out with ⟨e1, e2⟩ | ⟨e1, o, hadd⟩
        · rw [e1, e2] at hsub
          refine (hsub _).mono ?_
          rintro e w12 ⟨rfl, bw12⟩
          have m_11 := m_10.step bw12
          have r_11 := r_10.step bw12
          have lo_8 := lo_7.step bw12
          have hi_7 := hi_6.step bw12
          have s_5 := s_4.step bw12
          have t_5 := t_4.step bw12
          have r2_3 := r2_2.step bw12
          have p_1 := mw11.step bw12
          have c_11 := step_trans c_10 bw12
          clear m_10 r_10 lo_7 hi_6 s_4 t_4 r2_2 mw11 c_10 bw12
          go_upto_region 12 with (first | (refine wpList_store_num rfl _ (.tmp 14) _ rfl _ rfl _ rfl _ rfl (heap_alloc_new _ _) size26 ?_; intro w13 gw13 mw13; have b_6 := step_new gw13; have lod := hid (show _ ≤ w12.heap.size from Nat.le_trans c_11.size (by omega)); have nm_d := hid (show _ ≠ w12.heap.size from Nat.ne_of_lt (Nat.lt_of_lt_of_le m_11.lt (by omega))); have nr_d := hid (show _ ≠ w12.heap.size from Nat.ne_of_lt (Nat.lt_of_lt_of_le r_11.lt (by omega))); have nlo_d := hid (show _ ≠ w12.heap.size from Nat.ne_of_lt (Nat.lt_of_lt_of_le lo_8.lt (by omega))); have nhi_d := hid (show _ ≠ w12.heap.size from Nat.ne_of_lt (Nat.lt_of_lt_of_le hi_7.lt (by omega))); have ns_d := hid (show _ ≠ w12.heap.size from Nat.ne_of_lt (Nat.lt_of_lt_of_le s_5.lt (by omega))); have nt_d := hid (show _ ≠ w12.heap.size from Nat.ne_of_lt (Nat.lt_of_lt_of_le t_5.lt (by omega))); have nr2_d := hid (show _ ≠ w12.heap.size from Nat.ne_of_lt (Nat.lt_of_lt_of_le r2_3.lt (by omega))); have m_12 := m_11.step b_6; have r_12 := r_11.step b_6; have lo_9 := lo_8.step b_6; have hi_8 := hi_7.step b_6; have s_6 := s_5.step b_6; have t_6 := t_5.step b_6; have r2_4 := r2_3.step b_6; have c_12 := step_trans c_11 b_6; clear m_11 r_11 lo_8 hi_7 s_5 t_5 r2_3 c_11 b_6 gw13) | (refine wpList_load_num rfl _ (.tmp 3) rfl _ rfl _ _ _ m_12 Try.underlying26 rfl size26 ?_) | (refine wpList_load_num rfl _ (.tmp 14) rfl _ rfl _ _ _ mw13 Try.underlying26 rfl size26 ?_))
          try simp only [Act.put, List.setIfInBounds_toArray, List.set_cons_zero, List.set_cons_succ]
          generalize dN m T P = D at *
          refine wp_region_old (fun q => match q with | 0 => ⟨4, w2.heap.size, .cells (numA (high)) 26 (0, 0), .cells (numA (low)) 26 (0, 0)⟩ | 1 => ⟨5, w1.heap.size, .cells (numA (low)) 26 (0, 0), .cells (numA (R)) 26 (0, 0)⟩ | 2 => ⟨6, w4.heap.size + 1, .cells (numA (T)) 26 (0, 0), .cells (numA (S)) 26 (0, 0)⟩ | _ => ⟨7, w4.heap.size, .cells (numA (S)) 26 (0, 0), .cells (numA (D)) 26 (0, 0)⟩) 4 67 w.heap.size c_12.size rfl (by kernel_rfl) (by kernel_rfl) (by kernel_rfl) (fun i v => match i with | 0 => v = numV (low) | 1 => v = numV (R) | 2 => v = numV (S) | 3 => v = numV (D) | _ => True) ?_ ?_ ?_ ?_ ⟨?_, ?_, ?_, ?_, fun h => Bool.noConfusion (show true = false from h), fun h => Bool.noConfusion (show true = false from h), fun h => Bool.noConfusion (show true = false from h), fun h => Bool.noConfusion (show true = false from h), trivial⟩ ?_
          · intro i v hi
            have h4 : 3 < i := by
              refine Nat.lt_of_not_le fun hle => ?_
              have : i = 0 ∨ i = 1 ∨ i = 2 ∨ i = 3 := by omega
              rcases this with rfl | rfl | rfl | rfl <;> exact Bool.noConfusion (show false = true from hi)
            obtain ⟨k, rfl⟩ : ∃ k, i = k + 4 := ⟨i - 4, by omega⟩
            trivial
          · intro q hq
            rcases (show q = 0 ∨ q = 1 ∨ q = 2 ∨ q = 3 by omega) with rfl | rfl | rfl | rfl <;> first | exact ⟨lohi.out, hi_8⟩ | exact ⟨lolo.out, lo_9⟩ | exact ⟨lot.out, t_6⟩ | exact ⟨los.out, s_6⟩
          · intro q r hq hr hne
            rcases (show q = 0 ∨ q = 1 ∨ q = 2 ∨ q = 3 by omega) with rfl | rfl | rfl | rfl <;> rcases (show r = 0 ∨ r = 1 ∨ r = 2 ∨ r = 3 by omega) with rfl | rfl | rfl | rfl <;> first | exact absurd rfl hne | exact nlo_hi.out.symm | exact (nlo_hi.out.symm).symm | exact nhi_t.out | exact (nhi_t.out).symm | exact nhi_s.out | exact (nhi_s.out).symm | exact nlo_t.out | exact (nlo_t.out).symm | exact nlo_s.out | exact (nlo_s.out).symm | exact ns_t.out.symm | exact (ns_t.out.symm).symm
          · intro q hq o a wa ho hs hg
            rcases (show q = 0 ∨ q = 1 ∨ q = 2 ∨ q = 3 by omega) with rfl | rfl | rfl | rfl
            · obtain rfl := Option.some.inj ho
              have e : a.eval (.tmp 58) = numV (low) := hs 58 (by decide)
              have ex : a.eval (.tmp 8) = _ := hs 8 (by decide)
              exact ⟨_, run_store_op _ _ _ rfl _ ex _ e (run_store_blk wa _ _ _ (numA_cells _) (numA (high)) (by rw [numA_size, numA_size]) hg size26), setRow_heap _ _ _ _ _ _ hg, grown_setRow _ _ _⟩
            · obtain rfl := Option.some.inj ho
              have e : a.eval (.tmp 59) = numV (R) := hs 59 (by decide)
              have ex : a.eval (.tmp 6) = _ := hs 6 (by decide)
              exact ⟨_, run_store_op _ _ _ rfl _ ex _ e (run_store_blk wa _ _ _ (numA_cells _) (numA (low)) (by rw [numA_size, numA_size]) hg size26), setRow_heap _ _ _ _ _ _ hg, grown_setRow _ _ _⟩
            · obtain rfl := Option.some.inj ho
              have e : a.eval (.tmp 60) = numV (S) := hs 60 (by decide)
              have ex : a.eval (.tmp 10) = _ := hs 10 (by decide)
              exact ⟨_, run_store_op _ _ _ rfl _ ex _ e (run_store_blk wa _ _ _ (numA_cells _) (numA (T)) (by rw [numA_size, numA_size]) hg size26), setRow_heap _ _ _ _ _ _ hg, grown_setRow _ _ _⟩
            · obtain rfl := Option.some.inj ho
              have e : a.eval (.tmp 61) = numV (D) := hs 61 (by decide)
              have ex : a.eval (.tmp 9) = _ := hs 9 (by decide)
              exact ⟨_, run_store_op _ _ _ rfl _ ex _ e (run_store_blk wa _ _ _ (numA_cells _) (numA (S)) (by rw [numA_size, numA_size]) hg size26), setRow_heap _ _ _ _ _ _ hg, grown_setRow _ _ _⟩
          · intro _ a wa f hO hf hd
            have e : a.eval (.tmp 6) = _ := hd 6 (by decide)
            have h1 := hO.at_ 1 (by decide)
            rw [if_neg (by rw [hf 1 (by decide) (by kernel_rfl)]; decide)] at h1
            exact hop_run (F := fun _ v => v = numV (low)) (wanted_none rfl) _ (run_ldN (t := 26) _ rfl e h1) rfl
          · intro _ a wa f hO hf hd
            have e : a.eval (.tmp 12) = _ := hd 12 (by decide)
            exact hop_run (F := fun _ v => v = numV (R)) (wanted_none rfl) _ (run_ldN (t := 26) _ rfl e ((hO.rest _ r2_4.lt (fun q hq => (by rcases (show q = 0 ∨ q = 1 ∨ q = 2 ∨ q = 3 by omega) with rfl | rfl | rfl | rfl <;> first | exact nhi_r2.out.symm | exact nlo_r2.out.symm | exact nt_r2.out.symm | exact ns_r2.out.symm))).trans r2_4)) rfl
          · intro _ a wa f hO hf hd
            have e : a.eval (.tmp 9) = _ := hd 9 (by decide)
            have h1 := hO.at_ 3 (by decide)
            rw [if_neg (by rw [hf 3 (by decide) (by kernel_rfl)]; decide)] at h1
            exact hop_run (F := fun _ v => v = numV (S)) (wanted_none rfl) _ (run_ldN (t := 26) _ rfl e h1) rfl
          · intro _ a wa f hO hf hd
            have e : a.eval (.tmp 14) = _ := hd 14 (by decide)
            exact hop_run (F := fun _ v => v = numV (D)) (wanted_none rfl) _ (run_ldN (t := 26) _ rfl e ((hO.rest _ mw13.lt (fun q hq => (by rcases (show q = 0 ∨ q = 1 ∨ q = 2 ∨ q = 3 by omega) with rfl | rfl | rfl | rfl <;> first | exact nhi_d.out.symm | exact nlo_d.out.symm | exact nt_d.out.symm | exact ns_d.out.symm))).trans mw13)) rfl
          intro p wo_1 hO hY
          obtain ⟨y0, y1, y2, y3, -⟩ := hY
          have e0 : p 0 = numV (low) := y0 (by decide)
          have e1 : p 1 = numV (R) := y1 (by decide)
          have e2 : p 2 = numV (S) := y2 (by decide)
          have e3 : p 3 = numV (D) := y3 (by decide)
          simp only [layAll, Act.put, List.setIfInBounds_toArray, List.set_cons_zero, List.set_cons_succ, Nat.zero_add, Nat.reduceAdd, e0, e1, e2, e3]
          clear y0 e0 y1 e1 y2 e2 y3 e3
          have m_13 : Num wo_1 _ 26 _ := (hO.rest _ m_12.lt (fun q hq => (by rcases (show q = 0 ∨ q = 1 ∨ q = 2 ∨ q = 3 by omega) with rfl | rfl | rfl | rfl <;> first | exact nm_hi.out | exact nm_lo.out | exact nm_t.out | exact nm_s.out))).trans m_12
          have r_13 : Num wo_1 _ 26 _ := (hO.rest _ r_12.lt (fun q hq => (by rcases (show q = 0 ∨ q = 1 ∨ q = 2 ∨ q = 3 by omega) with rfl | rfl | rfl | rfl <;> first | exact nr_hi.out | exact nr_lo.out | exact nr_t.out | exact nr_s.out))).trans r_12
          have lo_10 : Num wo_1 (w1.heap.size) 26 (R) := by
            have := hO.at_ 1 (by decide)
            rw [if_pos rfl] at this
            exact this
          have hi_9 : Num wo_1 (w2.heap.size) 26 (low) := by
            have := hO.at_ 0 (by decide)
            rw [if_pos rfl] at this
            exact this
          have s_7 : Num wo_1 (w4.heap.size) 26 (D) := by
            have := hO.at_ 3 (by decide)
            rw [if_pos rfl] at this
            exact this
          have t_7 : Num wo_1 (w4.heap.size + 1) 26 (S) := by
            have := hO.at_ 2 (by decide)
            rw [if_pos rfl] at this
            exact this
          have r2_5 : Num wo_1 _ 26 _ := (hO.rest _ r2_4.lt (fun q hq => (by rcases (show q = 0 ∨ q = 1 ∨ q = 2 ∨ q = 3 by omega) with rfl | rfl | rfl | rfl <;> first | exact nhi_r2.out.symm | exact nlo_r2.out.symm | exact nt_r2.out.symm | exact ns_r2.out.symm))).trans r2_4
          have d_1 : Num wo_1 _ 26 _ := (hO.rest _ mw13.lt (fun q hq => (by rcases (show q = 0 ∨ q = 1 ∨ q = 2 ∨ q = 3 by omega) with rfl | rfl | rfl | rfl <;> first | exact nhi_d.out.symm | exact nlo_d.out.symm | exact nt_d.out.symm | exact ns_d.out.symm))).trans mw13
          have c_13 := c_12.trans hO.below
          clear hO m_12 r_12 lo_9 hi_8 s_6 t_6 r2_4 mw13 c_12
          go_wp2_with fail
          go_roundw
          case rel => exact ⟨low, R, D, S, hnx, m_13, r_13, lo_10, hi_9, s_7, t_7, c_13⟩
          case measure => rw [muB_num lo_10 hRP, MU.out]; exact hRl
        · rw [e1] at hsub
          refine (hsub _).mono ?_
          rintro e w12 ⟨rfl, bw12⟩
          have m_11 := m_10.step bw12
          have r_11 := r_10.step bw12
          have lo_8 := lo_7.step bw12
          have hi_7 := hi_6.step bw12
          have s_5 := s_4.step bw12
          have t_5 := t_4.step bw12
          have r2_3 := r2_2.step bw12
          have p_1 := mw11.step bw12
          have c_11 := step_trans c_10 bw12
          clear m_10 r_10 lo_7 hi_6 s_4 t_4 r2_2 mw11 c_10 bw12
          go_wp2_with (first | (refine wpList_store_num rfl _ (.tmp 14) _ rfl _ rfl _ rfl _ rfl (heap_alloc_new _ _) size26 ?_; intro w13 gw13 mw13; have b_6 := step_new gw13; have lod := hid (show _ ≤ w12.heap.size from Nat.le_trans c_11.size (by omega)); have nm_d := hid (show _ ≠ w12.heap.size from Nat.ne_of_lt (Nat.lt_of_lt_of_le m_11.lt (by omega))); have nr_d := hid (show _ ≠ w12.heap.size from Nat.ne_of_lt (Nat.lt_of_lt_of_le r_11.lt (by omega))); have nlo_d := hid (show _ ≠ w12.heap.size from Nat.ne_of_lt (Nat.lt_of_lt_of_le lo_8.lt (by omega))); have nhi_d := hid (show _ ≠ w12.heap.size from Nat.ne_of_lt (Nat.lt_of_lt_of_le hi_7.lt (by omega))); have ns_d := hid (show _ ≠ w12.heap.size from Nat.ne_of_lt (Nat.lt_of_lt_of_le s_5.lt (by omega))); have nt_d := hid (show _ ≠ w12.heap.size from Nat.ne_of_lt (Nat.lt_of_lt_of_le t_5.lt (by omega))); have nr2_d := hid (show _ ≠ w12.heap.size from Nat.ne_of_lt (Nat.lt_of_lt_of_le r2_3.lt (by omega))); have m_12 := m_11.step b_6; have r_12 := r_11.step b_6; have lo_9 := lo_8.step b_6; have hi_8 := hi_7.step b_6; have s_6 := s_5.step b_6; have t_6 := t_5.step b_6; have r2_4 := r2_3.step b_6; have c_12 := step_trans c_11 b_6; clear m_11 r_11 lo_8 hi_7 s_5 t_5 r2_3 c_11 b_6 gw13) | (refine wpList_load_num rfl _ (.tmp 3) rfl _ rfl _ _ _ m_12 Try.underlying26 rfl size26 ?_) | (refine wpList_load_num rfl _ (.tmp 14) rfl _ rfl _ _ _ mw13 Try.underlying26 rfl size26 ?_))
          refine (hadd _).mono ?_
          rintro e w14 ⟨rfl, bw14⟩
          have m_13 := m_12.step bw14
          have r_13 := r_12.step bw14
          have lo_10 := lo_9.step bw14
          have hi_9 := hi_8.step bw14
          have s_7 := s_6.step bw14
          have t_7 := t_6.step bw14
          have r2_5 := r2_4.step bw14
          have d_1 := mw13.step bw14
          have c_13 := step_trans c_12 bw14
          clear m_12 r_12 lo_9 hi_8 s_6 t_6 r2_4 mw13 c_12 bw14
          go_upto_region 12 with (first | (refine wpList_store_num rfl _ (.tmp 14) _ rfl _ rfl _ rfl _ rfl d_1 size26 ?_; intro w15 gw15 mw15; have m_14 := m_13.grown gw15 (ne_some nm_d.out); have r_14 := r_13.grown gw15 (ne_some nr_d.out); have lo_11 := lo_10.grown gw15 (ne_some nlo_d.out); have hi_10 := hi_9.grown gw15 (ne_some nhi_d.out); have s_8 := s_7.grown gw15 (ne_some ns_d.out); have t_8 := t_7.grown gw15 (ne_some nt_d.out); have r2_6 := r2_5.grown gw15 (ne_some nr2_d.out); have c_14 := below_of_grown c_13 gw15 c_13.size lod.out; clear d_1 m_13 r_13 lo_10 hi_9 s_7 t_7 r2_5 c_13 gw15) | (refine wpList_load_num rfl _ (.tmp 6) rfl _ rfl _ _ _ lo_11 Try.underlying26 rfl size26 ?_) | (refine wpList_load_num rfl _ (.tmp 8) rfl _ rfl _ _ _ hi_10 Try.underlying26 rfl size26 ?_) | (refine wpList_load_num rfl _ (.tmp 9) rfl _ rfl _ _ _ s_8 Try.underlying26 rfl size26 ?_) | (refine wpList_load_num rfl _ (.tmp 12) rfl _ rfl _ _ _ r2_6 Try.underlying26 rfl size26 ?_) | (refine wpList_load_num rfl _ (.tmp 14) rfl _ rfl _ _ _ mw15 Try.underlying26 rfl size26 ?_))
          try simp only [Act.put, List.setIfInBounds_toArray, List.set_cons_zero, List.set_cons_succ]
          generalize dN m T P = D at *
          refine wp_region_old (fun q => match q with | 0 => ⟨4, w2.heap.size, .cells (numA (high)) 26 (0, 0), .cells (numA (low)) 26 (0, 0)⟩ | 1 => ⟨5, w1.heap.size, .cells (numA (low)) 26 (0, 0), .cells (numA (R)) 26 (0, 0)⟩ | 2 => ⟨6, w4.heap.size + 1, .cells (numA (T)) 26 (0, 0), .cells (numA (S)) 26 (0, 0)⟩ | _ => ⟨7, w4.heap.size, .cells (numA (S)) 26 (0, 0), .cells (numA (D)) 26 (0, 0)⟩) 4 67 w.heap.size c_14.size rfl (by kernel_rfl) (by kernel_rfl) (by kernel_rfl) (fun i v => match i with | 0 => v = numV (low) | 1 => v = numV (R) | 2 => v = numV (S) | 3 => v = numV (D) | _ => True) ?_ ?_ ?_ ?_ ⟨?_, ?_, ?_, ?_, fun h => Bool.noConfusion (show true = false from h), fun h => Bool.noConfusion (show true = false from h), fun h => Bool.noConfusion (show true = false from h), fun h => Bool.noConfusion (show true = false from h), trivial⟩ ?_
          · intro i v hi
            have h4 : 3 < i := by
              refine Nat.lt_of_not_le fun hle => ?_
              have : i = 0 ∨ i = 1 ∨ i = 2 ∨ i = 3 := by omega
              rcases this with rfl | rfl | rfl | rfl <;> exact Bool.noConfusion (show false = true from hi)
            obtain ⟨k, rfl⟩ : ∃ k, i = k + 4 := ⟨i - 4, by omega⟩
            trivial
          · intro q hq
            rcases (show q = 0 ∨ q = 1 ∨ q = 2 ∨ q = 3 by omega) with rfl | rfl | rfl | rfl <;> first | exact ⟨lohi.out, hi_10⟩ | exact ⟨lolo.out, lo_11⟩ | exact ⟨lot.out, t_8⟩ | exact ⟨los.out, s_8⟩
          · intro q r hq hr hne
            rcases (show q = 0 ∨ q = 1 ∨ q = 2 ∨ q = 3 by omega) with rfl | rfl | rfl | rfl <;> rcases (show r = 0 ∨ r = 1 ∨ r = 2 ∨ r = 3 by omega) with rfl | rfl | rfl | rfl <;> first | exact absurd rfl hne | exact nlo_hi.out.symm | exact (nlo_hi.out.symm).symm | exact nhi_t.out | exact (nhi_t.out).symm | exact nhi_s.out | exact (nhi_s.out).symm | exact nlo_t.out | exact (nlo_t.out).symm | exact nlo_s.out | exact (nlo_s.out).symm | exact ns_t.out.symm | exact (ns_t.out.symm).symm
          · intro q hq o a wa ho hs hg
            rcases (show q = 0 ∨ q = 1 ∨ q = 2 ∨ q = 3 by omega) with rfl | rfl | rfl | rfl
            · obtain rfl := Option.some.inj ho
              have e : a.eval (.tmp 58) = numV (low) := hs 58 (by decide)
              have ex : a.eval (.tmp 8) = _ := hs 8 (by decide)
              exact ⟨_, run_store_op _ _ _ rfl _ ex _ e (run_store_blk wa _ _ _ (numA_cells _) (numA (high)) (by rw [numA_size, numA_size]) hg size26), setRow_heap _ _ _ _ _ _ hg, grown_setRow _ _ _⟩
            · obtain rfl := Option.some.inj ho
              have e : a.eval (.tmp 59) = numV (R) := hs 59 (by decide)
              have ex : a.eval (.tmp 6) = _ := hs 6 (by decide)
              exact ⟨_, run_store_op _ _ _ rfl _ ex _ e (run_store_blk wa _ _ _ (numA_cells _) (numA (low)) (by rw [numA_size, numA_size]) hg size26), setRow_heap _ _ _ _ _ _ hg, grown_setRow _ _ _⟩
            · obtain rfl := Option.some.inj ho
              have e : a.eval (.tmp 60) = numV (S) := hs 60 (by decide)
              have ex : a.eval (.tmp 10) = _ := hs 10 (by decide)
              exact ⟨_, run_store_op _ _ _ rfl _ ex _ e (run_store_blk wa _ _ _ (numA_cells _) (numA (T)) (by rw [numA_size, numA_size]) hg size26), setRow_heap _ _ _ _ _ _ hg, grown_setRow _ _ _⟩
            · obtain rfl := Option.some.inj ho
              have e : a.eval (.tmp 61) = numV (D) := hs 61 (by decide)
              have ex : a.eval (.tmp 9) = _ := hs 9 (by decide)
              exact ⟨_, run_store_op _ _ _ rfl _ ex _ e (run_store_blk wa _ _ _ (numA_cells _) (numA (S)) (by rw [numA_size, numA_size]) hg size26), setRow_heap _ _ _ _ _ _ hg, grown_setRow _ _ _⟩
          · intro _ a wa f hO hf hd
            have e : a.eval (.tmp 6) = _ := hd 6 (by decide)
            have h1 := hO.at_ 1 (by decide)
            rw [if_neg (by rw [hf 1 (by decide) (by kernel_rfl)]; decide)] at h1
            exact hop_run (F := fun _ v => v = numV (low)) (wanted_none rfl) _ (run_ldN (t := 26) _ rfl e h1) rfl
          · intro _ a wa f hO hf hd
            have e : a.eval (.tmp 12) = _ := hd 12 (by decide)
            exact hop_run (F := fun _ v => v = numV (R)) (wanted_none rfl) _ (run_ldN (t := 26) _ rfl e ((hO.rest _ r2_6.lt (fun q hq => (by rcases (show q = 0 ∨ q = 1 ∨ q = 2 ∨ q = 3 by omega) with rfl | rfl | rfl | rfl <;> first | exact nhi_r2.out.symm | exact nlo_r2.out.symm | exact nt_r2.out.symm | exact ns_r2.out.symm))).trans r2_6)) rfl
          · intro _ a wa f hO hf hd
            have e : a.eval (.tmp 9) = _ := hd 9 (by decide)
            have h1 := hO.at_ 3 (by decide)
            rw [if_neg (by rw [hf 3 (by decide) (by kernel_rfl)]; decide)] at h1
            exact hop_run (F := fun _ v => v = numV (S)) (wanted_none rfl) _ (run_ldN (t := 26) _ rfl e h1) rfl
          · intro _ a wa f hO hf hd
            have e : a.eval (.tmp 14) = _ := hd 14 (by decide)
            exact hop_run (F := fun _ v => v = numV (D)) (wanted_none rfl) _ (run_ldN (t := 26) _ rfl e ((hO.rest _ mw15.lt (fun q hq => (by rcases (show q = 0 ∨ q = 1 ∨ q = 2 ∨ q = 3 by omega) with rfl | rfl | rfl | rfl <;> first | exact nhi_d.out.symm | exact nlo_d.out.symm | exact nt_d.out.symm | exact ns_d.out.symm))).trans mw15)) rfl
          intro p wo_1 hO hY
          obtain ⟨y0, y1, y2, y3, -⟩ := hY
          have e0 : p 0 = numV (low) := y0 (by decide)
          have e1 : p 1 = numV (R) := y1 (by decide)
          have e2 : p 2 = numV (S) := y2 (by decide)
          have e3 : p 3 = numV (D) := y3 (by decide)
          simp only [layAll, Act.put, List.setIfInBounds_toArray, List.set_cons_zero, List.set_cons_succ, Nat.zero_add, Nat.reduceAdd, e0, e1, e2, e3]
          clear y0 e0 y1 e1 y2 e2 y3 e3
          have m_15 : Num wo_1 _ 26 _ := (hO.rest _ m_14.lt (fun q hq => (by rcases (show q = 0 ∨ q = 1 ∨ q = 2 ∨ q = 3 by omega) with rfl | rfl | rfl | rfl <;> first | exact nm_hi.out | exact nm_lo.out | exact nm_t.out | exact nm_s.out))).trans m_14
          have r_15 : Num wo_1 _ 26 _ := (hO.rest _ r_14.lt (fun q hq => (by rcases (show q = 0 ∨ q = 1 ∨ q = 2 ∨ q = 3 by omega) with rfl | rfl | rfl | rfl <;> first | exact nr_hi.out | exact nr_lo.out | exact nr_t.out | exact nr_s.out))).trans r_14
          have lo_12 : Num wo_1 (w1.heap.size) 26 (R) := by
            have := hO.at_ 1 (by decide)
            rw [if_pos rfl] at this
            exact this
          have hi_11 : Num wo_1 (w2.heap.size) 26 (low) := by
            have := hO.at_ 0 (by decide)
            rw [if_pos rfl] at this
            exact this
          have s_9 : Num wo_1 (w4.heap.size) 26 (D) := by
            have := hO.at_ 3 (by decide)
            rw [if_pos rfl] at this
            exact this
          have t_9 : Num wo_1 (w4.heap.size + 1) 26 (S) := by
            have := hO.at_ 2 (by decide)
            rw [if_pos rfl] at this
            exact this
          have r2_7 : Num wo_1 _ 26 _ := (hO.rest _ r2_6.lt (fun q hq => (by rcases (show q = 0 ∨ q = 1 ∨ q = 2 ∨ q = 3 by omega) with rfl | rfl | rfl | rfl <;> first | exact nhi_r2.out.symm | exact nlo_r2.out.symm | exact nt_r2.out.symm | exact ns_r2.out.symm))).trans r2_6
          have d_2 : Num wo_1 _ 26 _ := (hO.rest _ mw15.lt (fun q hq => (by rcases (show q = 0 ∨ q = 1 ∨ q = 2 ∨ q = 3 by omega) with rfl | rfl | rfl | rfl <;> first | exact nhi_d.out.symm | exact nlo_d.out.symm | exact nt_d.out.symm | exact ns_d.out.symm))).trans mw15
          have c_15 := c_14.trans hO.below
          clear hO m_14 r_14 lo_11 hi_10 s_8 t_8 r2_6 mw15 c_14
          go_wp2_with fail
          go_roundw
          case rel => exact ⟨low, R, D, S, hnx, m_15, r_15, lo_12, hi_11, s_9, t_9, c_15⟩
          case measure => rw [muB_num lo_12 hRP, MU.out]; exact hRl
end Go.Proofs.Ytcfobgimpflneaa
