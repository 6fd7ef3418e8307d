/- sentinellaw2.MontSmall: the walk. -/
import Derived.Test.YtcfobgimpflneaaGaKnown
import Derived.Test.YtcfobgimpflneaaGaKn
import Derived.Test.YtcfobgimpflneaaMtRd
import Derived.Test.YtcfobgimpflneaaMtISpec
namespace Go.Proofs.Ytcfobgimpflneaa
set_option linter.unusedVariables false
set_option linter.unusedSimpArgs false
open Go.ChangeShapes Go.WideShapes Go.ChangeAt Go.RowKit
attribute [local go_sem] eqn_same
theorem small_from0 (w : World) : Calls Try.prog 27 #[.int .i64 0] w fun e w' => e = .returned (numV 0) ∧ Below w.heap.size w w' := from_ref 0 (by omega) (by omega) w
theorem small2_pack {x k n : Int} (x0 : 0 ≤ x) (x1 : x < 100000) (k0 : 0 ≤ k) (k1 : k < 300) (n0 : 3 ≤ n) (n1 : n ≤ 10001) (no : n % 2 = 1) : ∃ (C : Array Value) (N X K Y P : Nat) (y : Int) (b : Bool) (pI : Nat → Int), MR N C ∧
    RunsTo 27 #[.int .i64 n] (numV N) ∧
    RunsTo 14 #[numV N] (.tuple #[.agg C, .bool true]) ∧
    RunsTo 27 #[.int .i64 x] (numV X) ∧
    RunsTo 27 #[.int .i64 k] (numV K) ∧
    RunsTo 29 #[numV X, numV N] (.tuple #[numV Y, .bool b]) ∧
    RunsTo 26 #[.agg C, numV X, numV K] (numV P) ∧
    pI 0 = 1 ∧
    (∀ j, (0 ≤ pI j ∧ pI j < n) ∧ (0 ≤ pI j * y ∧ pI j * y < 9223372036854775808) ∧ (pI j * y).tmod n = pI (j + 1)) ∧
    (∀ j : Nat, (j : Int) = k → RunsTo 27 #[.int .i64 (pI j)] (numV P)) ∧
    x.tmod n = y ∧
    (0 ≤ y ∧ y < n) ∧
    (∀ t : Int, 0 ≤ t → t ≤ n → 0 ≤ y * t ∧ y * t < 9223372036854775808) ∧
    (∀ u j : Int, j ≤ n → ((u = 0 ∧ ∀ t, 1 ≤ t → t < j → ¬ (y * t).tmod n = 1) ∨ (1 ≤ u ∧ u < n ∧ (y * u).tmod n = 1)) → (¬ j < n ∨ ¬ u = 0) → ((0 < u ∧ b = true ∧ RunsTo 27 #[.int .i64 u] (numV Y)) ∨ (u = 0 ∧ b = false ∧ Y = 0))) := by
  obtain ⟨X, rfl⟩ := Int.eq_ofNat_of_zero_le x0
  obtain ⟨K, rfl⟩ := Int.eq_ofNat_of_zero_le k0
  obtain ⟨N, rfl⟩ := Int.eq_ofNat_of_zero_le (show 0 ≤ n by omega)
  have hNP : N < 4294967296 ^ 8 := Nat.lt_trans (m := 20000) (by omega) (by decide)
  have hXP : X < 4294967296 ^ 8 := Nat.lt_trans (m := 200000) (by omega) (by decide)
  have hKP : K < 4294967296 ^ 8 := Nat.lt_trans (m := 20000) (by omega) (by decide)
  obtain ⟨C, hC, kM, -⟩ := mr_of (m := N) (by omega) (by omega) hNP
  have hF : ∀ t : Nat, t < 1000000 → ∀ w, Calls Try.prog 27 #[.int .i64 (t : Int)] w fun e w' => e = .returned (numV t) ∧ Below w.heap.size w w' := fun t ht w => from_ref (t : Int) (by omega) (by omega) w
  have hN0 : 0 < N := by omega
  have hy : X % N < N := Nat.mod_lt _ hN0
  have hpl : ∀ j, X ^ j % N < N := fun j => Nat.mod_lt _ hN0
  have hmod : ∀ a b : Nat, ((a : Int) * (b : Int)).tmod (N : Int) = ((a * b % N : Nat) : Int) := fun a b => by
    rw [← Int.natCast_mul, ← Int.ofNat_tmod]
  have hbd : ∀ a b : Nat, a ≤ N → b ≤ N → 0 ≤ (a : Int) * (b : Int) ∧ (a : Int) * (b : Int) < 9223372036854775808 := fun a b ha hb => by
    rw [← Int.natCast_mul]
    have : a * b ≤ 10001 * 10001 := Nat.mul_le_mul (by omega) (by omega)
    omega
  have hnat : ∀ t : Nat, ((X % N : Nat) : Int) * (t : Int) = ((X % N * t : Nat) : Int) := fun t => (Int.natCast_mul _ _).symm
  obtain ⟨pI, hpI⟩ : ∃ pI : Nat → Int, ∀ j, pI j = ((X ^ j % N : Nat) : Int) := ⟨_, fun _ => rfl⟩
  refine ⟨C, N, X, K, invN X N, X ^ K % N, ((X % N : Nat) : Int), invB X N, pI, hC, hF N (by omega), kM, hF X (by omega), hF K (by omega), inverse_any X N hXP hNP, hC.pow hXP hKP, ?_, fun j => ⟨by rw [hpI]; exact ⟨by omega, by have := hpl j; omega⟩, by rw [hpI]; exact hbd _ _ (Nat.le_of_lt (hpl j)) (Nat.le_of_lt hy), ?_⟩, fun j hj => ?_, by rw [← Int.ofNat_tmod], ⟨by omega, by omega⟩, fun t t0 t1 => ?_, ?_⟩
  · rw [hpI, Nat.pow_zero, Nat.mod_eq_of_lt (by omega)]; rfl
  · rw [hpI, hpI, hmod, Nat.pow_succ, Nat.mul_mod (X ^ j)]
  · have : j = K := by omega
    subst this
    rw [hpI]
    exact hF _ (by have := hpl j; omega)
  · obtain ⟨t, rfl⟩ := Int.eq_ofNat_of_zero_le t0
    exact hbd _ _ (Nat.le_of_lt hy) (by omega)
  · intro u j hj hi he
    rcases hi with ⟨h0, hall⟩ | ⟨h0, h1, h2⟩
    · have hjn : ¬ j < (N : Int) := by rcases he with h | h; exact h; exact absurd h0 h
      refine .inr ⟨h0, ?_⟩
      have hb : invB X N = false := by
        cases h : invB X N with
        | false => rfl
        | true =>
          exfalso
          obtain ⟨s1, s2⟩ := inv_spec h
          have s3 : invN X N ≠ 0 := fun e => by rw [e, Nat.mul_zero, Nat.zero_mod] at s1; cases s1
          refine hall (invN X N : Int) (by omega) (by omega) ?_
          rw [hmod, Nat.mod_mul_mod, s1]; rfl
      exact ⟨hb, inv_no hb⟩
    · obtain ⟨t, rfl⟩ := Int.eq_ofNat_of_zero_le (show 0 ≤ u by omega)
      rw [hmod, Nat.mod_mul_mod] at h2
      have h3 : X * t % N = 1 := by exact_mod_cast h2
      have := inv_yes (show 2 ≤ N by omega) (show t < N by omega) h3
      refine .inl ⟨by omega, this.2, ?_⟩
      rw [this.1]; exact hF t (by omega)
set_option maxRecDepth 100000 in
set_option maxHeartbeats 16000000 in
theorem MontSmall_walk (a0 : Int) (hk0 : -9223372036854775808 ≤ a0) (hl0 : a0 < 9223372036854775808)
    (a1 : Int) (hk1 : -9223372036854775808 ≤ a1) (hl1 : a1 < 9223372036854775808)
    (a2 : Int) (hk2 : -9223372036854775808 ≤ a2) (hl2 : a2 < 9223372036854775808) (w : World)  :
    Calls Try.prog 7 #[.int .i64 a0, .int .i64 a1, .int .i64 a2] w fun e w' => e = .returned (.bool true) ∧ Below w.heap.size w w' := by
  have ng := noGuard
  obtain ⟨x, ex⟩ : ∃ x, Hid (a0 % 100000 = x) := ⟨_, hid rfl⟩
  have kwx := fun (w : World) => mwithin_any a0 100000 (by omega) (by omega) hk0 hl0 w
  rw [ex.out] at kwx
  obtain ⟨px, qx⟩ : 0 ≤ x ∧ x < 100000 := by have := ex.out; omega
  clear ex
  obtain ⟨k, ek⟩ : ∃ k, Hid (a1 % 300 = k) := ⟨_, hid rfl⟩
  have kwk := fun (w : World) => mwithin_any a1 300 (by omega) (by omega) hk1 hl1 w
  rw [ek.out] at kwk
  obtain ⟨pk, qk⟩ : 0 ≤ k ∧ k < 300 := by have := ek.out; omega
  clear ek
  obtain ⟨m, em⟩ : ∃ m, Hid (a2 % 5000 = m) := ⟨_, hid rfl⟩
  have kwm := fun (w : World) => mwithin_any a2 5000 (by omega) (by omega) hk2 hl2 w
  rw [em.out] at kwm
  obtain ⟨pm, qm⟩ : 0 ≤ m ∧ m < 5000 := by have := em.out; omega
  clear em
  go_enter Try.func7, Try.ntmps7
  go_wp2_with (fail)
  refine (mknown_any _).mono ?_
  rintro e w1 ⟨rfl, bw1⟩
  have c_1 := bw1
  clear bw1
  go_wp2_with (fail)
  refine (kwm _).mono ?_
  rintro e w2 ⟨rfl, rfl⟩
  go_upto_region 4 with (fail)
  obtain ⟨n, hn⟩ : ∃ n : Int, n = 3 + 2 * m := ⟨_, rfl⟩
  rw [← hn]
  obtain ⟨n0, n1, no⟩ : 3 ≤ n ∧ n ≤ 10001 ∧ n % 2 = 1 := by omega
  obtain ⟨C, N, X, K, Y, P, y, b, pI, hC, kn, k0, kx, kk, k1, k2, z0, zs, kp, zy, ⟨y0, y1⟩, zt, zf⟩ := small2_pack px qx pk qk n0 n1 no
  have ZS := hid zs
  have KP := hid kp
  have ZT := hid zt
  have ZF := hid zf
  have hz : (n == 0) = false := by rw [beq_eq_false_iff_ne]; omega
  clear hn zs kp zt zf no
  go_wp2_with (fail)
  refine (kn _).mono ?_
  rintro e w3 ⟨rfl, bw3⟩
  have c_2 := step_trans c_1 bw3
  clear c_1 bw3
  go_wp2_with (fail)
  refine (k0 _).mono ?_
  rintro e w4 ⟨rfl, bw4⟩
  have c_3 := step_trans c_2 bw4
  clear c_2 bw4
  go_upto_region 5 with (first | (refine wpList_store_blk rfl _ (.tmp 8) _ rfl _ rfl (C) rfl hC.cells _ (heap_alloc_new _ _) (by rw [hC.size]; rfl) hC.info ?_; intro w5 gw5 mw5))
  try simp only [Act.put, List.setIfInBounds_toArray, List.set_cons_zero, List.set_cons_succ]
  have lot := hid (show _ ≤ w4.heap.size from c_3.size)
  have b_1 := step_new gw5
  have c_4 := step_trans c_3 b_1
  clear c_3 b_1
  clear gw5
  go_wp2_with (fail)
  refine (kwx _).mono ?_
  rintro e w6 ⟨rfl, rfl⟩
  go_wp2_with (fail)
  refine (kwk _).mono ?_
  rintro e w7 ⟨rfl, rfl⟩
  go_wp2_with fail
  go_loopw [12, 13] (fun p i wr => ∃ j : Nat, (j : Int) ≤ k ∧ p = .int .i64 (pI j) ∧ i = .int .i64 (j : Int) ∧ Blk wr (w4.heap.size) 29 C ∧ Below w.heap.size w wr) (fun p i _ => (k - intOf i).toNat)
  case atStart => exact ⟨0, pk, by rw [z0], rfl, mw5, c_4⟩
  case round =>
    obtain ⟨j, hj, rfl, rfl, tb, hB⟩ := hrel
    clear mw5 c_4 z0
    obtain ⟨⟨s0, s1⟩, ⟨s2, s3⟩, s4⟩ := ZS.out j
    by_cases hlt : (j : Int) < k
    · skip
      go_wp2_with fail
      go_roundw
      case rel => exact ⟨j + 1, by omega, rfl, by go_num, tb, hB⟩
      case measure => simp [intOf] <;> omega
    · have kpj := KP.out j (by omega)
      generalize pI j = p at *
      clear KP ZS s2 s3 s4 s0 s1
      go_wp2_with (fail)
      refine (kx _).mono ?_
      rintro e w8 ⟨rfl, bw8⟩
      have t_1 := tb.step bw8
      have c_5 := step_trans hB bw8
      clear tb hB bw8
      go_wp2_with (fail)
      refine (kn _).mono ?_
      rintro e w9 ⟨rfl, bw9⟩
      have t_2 := t_1.step bw9
      have c_6 := step_trans c_5 bw9
      clear t_1 c_5 bw9
      go_wp2_with (fail)
      refine (k1 _).mono ?_
      rintro e w10 ⟨rfl, bw10⟩
      have t_3 := t_2.step bw10
      have c_7 := step_trans c_6 bw10
      clear t_2 c_6 bw10
      go_upto_region 12 with (first | (refine wpList_store_num rfl _ (.tmp 14) _ rfl _ rfl _ rfl _ rfl (heap_alloc_new _ _) size26 ?_; intro w11 gw11 mw11; have b_2 := step_new gw11; have loy := hid (show _ ≤ w10.heap.size from Nat.le_trans c_7.size (by omega)); have nt_y := hid (show _ ≠ w10.heap.size from Nat.ne_of_lt (Nat.lt_of_lt_of_le t_3.lt (by omega))); have t_4 := t_3.step b_2; have c_8 := step_trans c_7 b_2; clear t_3 c_7 b_2 gw11) | (refine wpList_load_blk rfl _ (.tmp 8) rfl _ rfl _ _ _ t_4 Try.underlying29 rfl hC.info ?_))
      try simp only [Act.put, List.setIfInBounds_toArray, List.set_cons_zero, List.set_cons_succ]
      go_wp2_with fail
      go_loopw [16, 17] (fun v i wr2 => ∃ u j : Int, 1 ≤ j ∧ j ≤ n ∧ v = .int .i64 u ∧ i = .int .i64 j ∧ Hid ((u = 0 ∧ ∀ t, 1 ≤ t → t < j → ¬ (y * t).tmod n = 1) ∨ (1 ≤ u ∧ u < n ∧ (y * u).tmod n = 1)) ∧ Blk wr2 (w4.heap.size) 29 C ∧ Num wr2 (w10.heap.size) 26 Y ∧ Below w.heap.size w wr2) (fun v i _ => (n - intOf i).toNat)
      case atStart => exact ⟨0, 1, by omega, by omega, rfl, rfl, hid (.inl ⟨rfl, fun t h1 h2 => absurd h2 (by omega)⟩), t_4, mw11, c_8⟩
      case round =>
        clear t_4 mw11 c_8 hlt hj
        obtain ⟨u, j, j0, j1, rfl, rfl, HI, tb2, yb2, hB2⟩ := hrel
        by_cases hjn : j < n
        · by_cases hu : u = 0
          · obtain ⟨b0, b1⟩ := ZT.out j (by omega) j1
            subst hu
            by_cases h1 : (y * j).tmod n = 1
            · go_wp2_with fail
              go_roundw
              case rel => exact ⟨j, j + 1, by omega, by omega, rfl, by go_num, hid (.inr ⟨j0, hjn, h1⟩), tb2, yb2, hB2⟩
              case measure => simp [intOf] <;> omega
            · have h1' : ((y * j).tmod n == 1) = false := beq_eq_false_iff_ne.2 h1
              have HJ : Hid ((0 : Int) = 0 ∧ ∀ t, 1 ≤ t → t < j + 1 → ¬ (y * t).tmod n = 1) := hid ⟨rfl, fun t t0 t1 => by
                rcases HI.out with ⟨-, h⟩ | ⟨h, -, -⟩
                · by_cases e : t = j
                  · subst e; exact h1
                  · exact h t t0 (by omega)
                · omega⟩
              generalize hV : (y * j).tmod n = V at *
              go_wp2_with fail
              go_roundw
              case rel => exact ⟨0, j + 1, by omega, by omega, rfl, by go_num, hid (.inl HJ.out), tb2, yb2, hB2⟩
              case measure => simp [intOf] <;> omega
          · have hu' : (u == 0) = false := beq_eq_false_iff_ne.2 hu
            have hfin := ZF.out u j j1 HI.out (.inr hu)
            rcases hfin with ⟨hu0, rfl, ku⟩ | ⟨hu0, -, -⟩
            · clear ZF ZT HI
              go_upto_region 18 with fail
              refine wp_region_later (by kernel_rfl) (by kernel_rfl) ?_
              go_big_quiet_step (fail)
              go_big_quiet_step (fail)
              first | (refine wpQuiet_load_blk rfl _ (.tmp 8) rfl _ rfl _ _ _ tb2 Try.underlying29 rfl hC.info ?_; simp only [Act.put, List.setIfInBounds_toArray, List.set_cons_zero, List.set_cons_succ]) | go_big_quiet_step (fail)
              go_big_quiet_step (fail)
              go_big_quiet_step (exact later_of (kx _))
              go_big_quiet_step (fail)
              go_big_quiet_step (exact later_of (kk _))
              go_big_quiet_step (exact later_of (k2 _))
              go_big_quiet_step (fail)
              go_big_quiet_step (exact later_of (kpj _))
              go_big_quiet_step (fail)
              go_big_quiet_step (fail)
              go_big_quiet_step (fail)
              go_big_quiet_step (fail)
              go_big_quiet_step (fail)
              go_big_quiet_step (fail)
              go_big_quiet_step (fail)
              go_big_quiet_step (fail)
              go_big_quiet_step (fail)
              first | (refine wpQuiet_load_num rfl _ (.tmp 14) rfl _ rfl _ _ _ yb2 Try.underlying26 rfl size26 ?_; simp only [Act.put, List.setIfInBounds_toArray, List.set_cons_zero, List.set_cons_succ]) | go_big_quiet_step (fail)
              go_big_quiet_step (fail)
              go_big_quiet_step (exact later_of (ku _))
              go_big_quiet_step (fail)
              go_big_quiet_step (fail)
              go_big_quiet_step (fail)
              refine wpQuiet_nil ?_
              intro X_1
              have t_5 := tb2.step X_1.h
              have y_1 := yb2.step X_1.h
              have c_9 := step_trans hB2 X_1.h
              clear tb2 yb2 hB2
              go_wp2
              go_ret
              exact ⟨rfl, c_9⟩
            · exact absurd hu0 hu
        · have hjf : decide (j < n) = false := decide_eq_false hjn
          have hfin := ZF.out u j j1 HI.out (.inl (by omega))
          rcases hfin with ⟨hu0, rfl, ku⟩ | ⟨rfl, rfl, rfl⟩
          · clear ZF ZT HI
            go_upto_region 18 with fail
            refine wp_region_later (by kernel_rfl) (by kernel_rfl) ?_
            go_big_quiet_step (fail)
            go_big_quiet_step (fail)
            first | (refine wpQuiet_load_blk rfl _ (.tmp 8) rfl _ rfl _ _ _ tb2 Try.underlying29 rfl hC.info ?_; simp only [Act.put, List.setIfInBounds_toArray, List.set_cons_zero, List.set_cons_succ]) | go_big_quiet_step (fail)
            go_big_quiet_step (fail)
            go_big_quiet_step (exact later_of (kx _))
            go_big_quiet_step (fail)
            go_big_quiet_step (exact later_of (kk _))
            go_big_quiet_step (exact later_of (k2 _))
            go_big_quiet_step (fail)
            go_big_quiet_step (exact later_of (kpj _))
            go_big_quiet_step (fail)
            go_big_quiet_step (fail)
            go_big_quiet_step (fail)
            go_big_quiet_step (fail)
            go_big_quiet_step (fail)
            go_big_quiet_step (fail)
            go_big_quiet_step (fail)
            go_big_quiet_step (fail)
            go_big_quiet_step (fail)
            first | (refine wpQuiet_load_num rfl _ (.tmp 14) rfl _ rfl _ _ _ yb2 Try.underlying26 rfl size26 ?_; simp only [Act.put, List.setIfInBounds_toArray, List.set_cons_zero, List.set_cons_succ]) | go_big_quiet_step (fail)
            go_big_quiet_step (fail)
            go_big_quiet_step (exact later_of (ku _))
            go_big_quiet_step (fail)
            go_big_quiet_step (fail)
            go_big_quiet_step (fail)
            refine wpQuiet_nil ?_
            intro X_1
            have t_5 := tb2.step X_1.h
            have y_1 := yb2.step X_1.h
            have c_9 := step_trans hB2 X_1.h
            clear tb2 yb2 hB2
            go_wp2
            go_ret
            exact ⟨rfl, c_9⟩
          · clear ZF ZT HI
            go_upto_region 18 with fail
            refine wp_region_later (by kernel_rfl) (by kernel_rfl) ?_
            go_big_quiet_step (fail)
            go_big_quiet_step (fail)
            first | (refine wpQuiet_load_blk rfl _ (.tmp 8) rfl _ rfl _ _ _ tb2 Try.underlying29 rfl hC.info ?_; simp only [Act.put, List.setIfInBounds_toArray, List.set_cons_zero, List.set_cons_succ]) | go_big_quiet_step (fail)
            go_big_quiet_step (fail)
            go_big_quiet_step (exact later_of (kx _))
            go_big_quiet_step (fail)
            go_big_quiet_step (exact later_of (kk _))
            go_big_quiet_step (exact later_of (k2 _))
            go_big_quiet_step (fail)
            go_big_quiet_step (exact later_of (kpj _))
            go_big_quiet_step (fail)
            go_big_quiet_step (fail)
            go_big_quiet_step (fail)
            go_big_quiet_step (fail)
            go_big_quiet_step (fail)
            go_big_quiet_step (fail)
            go_big_quiet_step (fail)
            go_big_quiet_step (fail)
            go_big_quiet_step (fail)
            first | (refine wpQuiet_load_num rfl _ (.tmp 14) rfl _ rfl _ _ _ yb2 Try.underlying26 rfl size26 ?_; simp only [Act.put, List.setIfInBounds_toArray, List.set_cons_zero, List.set_cons_succ]) | go_big_quiet_step (fail)
            go_big_quiet_step (fail)
            go_big_quiet_step (exact later_of (small_from0 _))
            go_big_quiet_step (fail)
            go_big_quiet_step (fail)
            go_big_quiet_step (fail)
            refine wpQuiet_nil ?_
            intro X_1
            have t_5 := tb2.step X_1.h
            have y_1 := yb2.step X_1.h
            have c_9 := step_trans hB2 X_1.h
            clear tb2 yb2 hB2
            go_wp2
            go_ret
            exact ⟨rfl, c_9⟩
end Go.Proofs.Ytcfobgimpflneaa
