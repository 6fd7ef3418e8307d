/- sentinellaw9.GuardRefunds: the walk. -/
import Derived.Test.YtffoekgopooeaaaGdReg
namespace Go.Proofs.Ytffoekgopooeaaa
set_option linter.unusedVariables false
set_option linter.unusedSimpArgs false
open Go.ChangeShapes Go.WideShapes Go.ChangeAt Go.RowKit Go.Shelf
theorem tok_mono {n a now : Int} (h0 : 0 ≤ n) (h5 : n ≤ 5) (ha : 0 ≤ a) (hn : a ≤ now) : n ≤ tokN n a now ∧ tokN n a now ≤ 5 ∧ tokA n a now ≤ now ∧ a ≤ tokA n a now := by
  have w1 := tok_ways n a now
  omega
theorem quo3_rem5 {k : Int} (h : 0 ≤ k) : (k.tdiv 3).tmod 5 = k / 3 % 5 := by
  rw [Int.tdiv_eq_ediv_of_nonneg h, Int.tmod_eq_emod_of_nonneg (by omega)]
set_option maxRecDepth 100000 in
set_option maxHeartbeats 16000000 in
theorem GuardRefunds_walk (a0 : Int) (hk0 : -9223372036854775808 ≤ a0) (hl0 : a0 < 9223372036854775808)
    (a1 : Int) (hk1 : -9223372036854775808 ≤ a1) (hl1 : a1 < 9223372036854775808)
    (A2 : Option Addr) (n2 cap2 : Nat) (x2 : Nat → Int) (w : World) (hr2 : RdI w A2 n2 x2) :
    Calls Try.prog 15 #[.int .i64 a0, .int .i64 a1, .slice A2 n2 cap2] w fun e w' => e = .returned (.bool true) ∧ Below w.heap.size w w' := by
  go_enter Try.func15, Try.ntmps15
  go_wp2_with fail
  refine (known_any _).mono ?_
  rintro e w1 ⟨rfl, b1⟩
  obtain ⟨N, hN⟩ : ∃ x, Hid (a0 % 6 = x) := ⟨_, hid rfl⟩
  have N0 : 0 ≤ N := by have := hN.out; omega
  have N1 : N < 6 := by have := hN.out; omega
  obtain ⟨A, hA⟩ : ∃ x, Hid (a1 % 500 = x) := ⟨_, hid rfl⟩
  have A0 : 0 ≤ A := by have := hA.out; omega
  have A1 : A < 500 := by have := hA.out; omega
  go_wp2_with fail
  refine (bucket_any a0 a1 hk0 hl0 hk1 hl1 _).mono ?_
  rintro e w2 ⟨rfl, b2⟩
  rw [hN.out, hA.out]
  have B2 := step_trans b1 b2
  have z2 := Blk.new w2 28 #[.int .i64 0, .string ⟨#[]⟩, .slice none 0 0, .int .u32 0, .int .u32 0, .int .u32 0, .int .u32 0, .int .u32 0, .int .u32 0, .int .u32 0, .int .u32 0, .int .u32 0, .int .u32 0, .int .u32 0, .int .u32 0, .int .u32 0, .int .u32 0, .int .u32 0, .int .u32 0, .slice none 0 0, .int .i64 0, .int .i64 0, .int .i64 0]
  clear b1 b2 hN hA
  obtain ⟨hm, hxb, hx⟩ := hr2
  unfold maxLen at hm
  go_upto_region 4 with (refine wpList_store_blk rfl _ (.tmp 7) _ rfl _ rfl _ rfl (by simp [recA, Value.oneCell']) _ z2 rfl size_rec ?_; intro w3 g3 c3)
  have B3 := step_trans B2 (step_new g3)
  obtain ⟨g, hg⟩ : ∃ g, g = w2.heap.size := ⟨_, rfl⟩
  have HGL : Hid (w.heap.size ≤ g) := hid (by rw [hg]; exact B2.size)
  rw [← hg] at c3 ⊢
  clear z2 g3 B2 hg
  have k21 := c3.cell (k := 21) (v := .int .i64 A) rfl
  go_wp2_with fail
  clear k21
  go_loopw [8, 9] (fun t i wr => ∃ (q : Nat) (T n a : Int), q ≤ 40 ∧ q ≤ n2 ∧ i = .int .i64 q ∧ t = .int .i64 T ∧ 0 ≤ n ∧ n ≤ 5 ∧ 0 ≤ a ∧ a ≤ T ∧ T ≤ 500 + 4 * (q : Int) ∧ Blk wr g 28 (recA 1 ⟨#[117]⟩ n a 0) ∧ Below w.heap.size w wr) (fun _ i _ => 40 - (intOf i).toNat)
  case atStart => exact ⟨0, A, N, A, by omega, by omega, rfl, rfl, N0, by omega, A0, by omega, by omega, c3, B3⟩
  case round =>
    obtain ⟨q, T, n, a, hq40, hqn, rfl, rfl, n0, n5, a0', aT, hT, hc, hB⟩ := hrel
    clear c3 B3
    by_cases hlt : q < 40 ∧ q < n2
    · obtain ⟨hl1, hl2⟩ := hlt
      obtain ⟨b, o, rfl, hbl, hcx⟩ := hx (by omega)
      have hcq := hB.cell (p := ⟨b, o + q, none⟩) (by simpa using hbl)
      rw [hcx q hl2] at hcq
      have hx0 := (hxb q).1
      have hx1 := (hxb q).2
      generalize x2 q = X at *
      clear hcx hx hxb
      go_wp2_with fail
      obtain ⟨K, hK⟩ : ∃ x, Hid (X % 1048576 = x) := ⟨_, hid rfl⟩
      have K0 : 0 ≤ K ∧ K < 1048576 := by have := hK.out; omega
      refine (within_eq hK.out (by omega) (by omega) hx0 hx1 _).mono ?_
      rintro e w4 ⟨rfl, b4⟩
      have c4 := hc.step b4
      have B4 := hB.trans (b4.mono hB.size)
      clear hc hB b4 hK hcq hx0 hx1
      obtain ⟨D, hD⟩ : ∃ x, K / 3 % 5 = x := ⟨_, rfl⟩
      have D0 : 0 ≤ D ∧ D < 5 := by omega
      obtain ⟨R, hR⟩ : ∃ x, K % 3 = x := ⟨_, rfl⟩
      obtain ⟨T2, hT2⟩ : ∃ x, T + D = x := ⟨_, rfl⟩
      have T20 : T ≤ T2 ∧ T2 ≤ 500 + 4 * ((q + 1 : Nat) : Int) := by omega
      have hgT : T2 < 9223372036854775808 := by omega
      have hT0 : 0 ≤ T2 := by omega
      go_upto_region 10 with fail
      clear hT2 hD D0
      by_cases hR0 : R = 0
      · subst hR0
        go_wp2_with (refine wpList_load_blk rfl _ (.tmp 7) rfl _ rfl _ _ _ c4 Try.underlying28 rfl size_rec ?_)
        refine (refund_any 1 ⟨#[117]⟩ n a 0 T2 n0 n5 a0' (by omega) hT0 hgT _).mono ?_
        rintro e w5 ⟨rfl, b5⟩
        obtain ⟨n6, hn6⟩ : ∃ x, Hid (min (tokN n a T2 + 1) 5 = x) := ⟨_, hid rfl⟩
        obtain ⟨a6, ha6⟩ : ∃ x, Hid (tokA n a T2 = x) := ⟨_, hid rfl⟩
        have hm := tok_mono n0 n5 a0' (show a ≤ T2 by omega)
        rw [ha6.out] at hm
        have n60 : 0 ≤ n6 ∧ n6 ≤ 5 := by have := hn6.out; omega
        have a60 : 0 ≤ a6 ∧ a6 ≤ T2 := by omega
        rw [hn6.out, ha6.out]
        have c5 := c4.step b5
        have B5 := B4.trans (b5.mono B4.size)
        clear c4 B4 b5 hn6 ha6 hm
        go_wp2_with (first | (refine wpList_store_blk rfl _ (.tmp 7) _ rfl _ rfl _ rfl (by simp [recA, Value.oneCell']) _ c5 rfl size_rec ?_; intro w6 g6 c6; have B6 := below_of_grown B5 g6 B5.size HGL.out) | (refine wpList_load_blk rfl _ (.tmp 7) rfl _ rfl _ _ _ c6 Try.underlying28 rfl size_rec ?_))
        obtain ⟨m, hm⟩ : ∃ x, Hid (tokN n6 a6 T2 = x) := ⟨_, hid rfl⟩
        obtain ⟨t, ht⟩ : ∃ x, Hid (tokA n6 a6 T2 = x) := ⟨_, hid rfl⟩
        have hmm := tok_mono n60.1 n60.2 a60.1 a60.2
        rw [hm.out, ht.out] at hmm
        obtain ⟨m1, m2, m3, m4⟩ := hmm
        refine (tokens_eq hm.out ht.out n60.1 n60.2 a60.1 (by omega) hT0 hgT _).mono ?_
        rintro e w8 ⟨rfl, b8⟩
        have c8 := c6.step b8
        have B8 := B6.trans (b8.mono B6.size)
        have k20 := c8.cell (k := 20) (v := .int .i64 n6) rfl
        have k21 := c8.cell (k := 21) (v := .int .i64 a6) rfl
        have l1 : ¬ n6 < 0 := by omega
        have l2 : ¬ 5 < n6 := by omega
        have l3 : ¬ m < n6 := by omega
        have l4 : ¬ 5 < m := by omega
        have l5 : ¬ T2 < t := by omega
        have l6 : ¬ t < a6 := by omega
        clear hm ht c6 B6 b8 m1 m2 m3 m4 hgT hT0
        go_wp2_with fail
        go_roundw
        case rel => exact ⟨q + 1, T2, n6, a6, by omega, by omega, by go_num, rfl, n60.1, n60.2, a60.1, a60.2, T20.2, c8, B8⟩
        case measure => simp [intOf] <;> omega
      · by_cases hz : tokN n a T2 = 0
        · go_wp2_with (refine wpList_load_blk rfl _ (.tmp 7) rfl _ rfl _ _ _ c4 Try.underlying28 rfl size_rec ?_)
          refine (charge_none 1 ⟨#[117]⟩ n a 0 T2 n0 n5 a0' (by omega) hT0 hgT hz _).mono ?_
          rintro e w5 ⟨rfl, b5⟩
          have c5 := c4.step b5
          have z5 := Blk.new w5 28 #[.int .i64 0, .string ⟨#[]⟩, .slice none 0 0, .int .u32 0, .int .u32 0, .int .u32 0, .int .u32 0, .int .u32 0, .int .u32 0, .int .u32 0, .int .u32 0, .int .u32 0, .int .u32 0, .int .u32 0, .int .u32 0, .int .u32 0, .int .u32 0, .int .u32 0, .int .u32 0, .slice none 0 0, .int .i64 0, .int .i64 0, .int .i64 0]
          have B5 := B4.trans (b5.mono B4.size)
          obtain ⟨n6, hn6⟩ : ∃ x, x = n := ⟨_, rfl⟩
          obtain ⟨a6, ha6⟩ : ∃ x, x = a := ⟨_, rfl⟩
          have n60 : 0 ≤ n6 ∧ n6 ≤ 5 := by omega
          have a60 : 0 ≤ a6 ∧ a6 ≤ T2 := by omega
          rw [← hn6, ← ha6] at c5
          clear c4 B4 b5 hn6 ha6 hz n0 n5 a0' aT
          go_wp2_with (first | (refine wpList_store_blk rfl _ (.tmp 11) _ rfl _ rfl _ rfl (by simp [recA, Value.oneCell']) _ z5 rfl size_rec ?_; intro w6 g6 d6; have c6 := c5.step (step_new g6); have B6 := B5.trans ((step_new g6).mono B5.size)) | (refine wpList_load_blk rfl _ (.tmp 7) rfl _ rfl _ _ _ c6 Try.underlying28 rfl size_rec ?_))
          obtain ⟨m, hm⟩ : ∃ x, Hid (tokN n6 a6 T2 = x) := ⟨_, hid rfl⟩
          obtain ⟨t, ht⟩ : ∃ x, Hid (tokA n6 a6 T2 = x) := ⟨_, hid rfl⟩
          have hmm := tok_mono n60.1 n60.2 a60.1 a60.2
          rw [hm.out, ht.out] at hmm
          obtain ⟨m1, m2, m3, m4⟩ := hmm
          refine (tokens_eq hm.out ht.out n60.1 n60.2 a60.1 (by omega) hT0 hgT _).mono ?_
          rintro e w8 ⟨rfl, b8⟩
          have c8 := c6.step b8
          have B8 := B6.trans (b8.mono B6.size)
          have k20 := c8.cell (k := 20) (v := .int .i64 n6) rfl
          have k21 := c8.cell (k := 21) (v := .int .i64 a6) rfl
          have l1 : ¬ n6 < 0 := by omega
          have l2 : ¬ 5 < n6 := by omega
          have l3 : ¬ m < n6 := by omega
          have l4 : ¬ 5 < m := by omega
          have l5 : ¬ T2 < t := by omega
          have l6 : ¬ t < a6 := by omega
          clear hm ht c6 B6 b8 m1 m2 m3 m4 hgT hT0
          go_wp2_with fail
          go_roundw
          case rel => exact ⟨q + 1, T2, n6, a6, by omega, by omega, by go_num, rfl, n60.1, n60.2, a60.1, a60.2, T20.2, c8, B8⟩
          case measure => simp [intOf] <;> omega
        · go_wp2_with (refine wpList_load_blk rfl _ (.tmp 7) rfl _ rfl _ _ _ c4 Try.underlying28 rfl size_rec ?_)
          refine (charge_some 1 ⟨#[117]⟩ n a 0 T2 n0 n5 a0' (by omega) hT0 hgT hz _).mono ?_
          rintro e w5 ⟨rfl, b5⟩
          obtain ⟨n6, hn6⟩ : ∃ x, Hid (tokN n a T2 - 1 = x) := ⟨_, hid rfl⟩
          obtain ⟨a6, ha6⟩ : ∃ x, Hid (tokA n a T2 = x) := ⟨_, hid rfl⟩
          have hm := tok_mono n0 n5 a0' (show a ≤ T2 by omega)
          rw [ha6.out] at hm
          have n60 : 0 ≤ n6 ∧ n6 ≤ 5 := by have := hn6.out; omega
          have a60 : 0 ≤ a6 ∧ a6 ≤ T2 := by omega
          rw [hn6.out, ha6.out]
          have c5 := c4.step b5
          have z5 := Blk.new w5 28 #[.int .i64 0, .string ⟨#[]⟩, .slice none 0 0, .int .u32 0, .int .u32 0, .int .u32 0, .int .u32 0, .int .u32 0, .int .u32 0, .int .u32 0, .int .u32 0, .int .u32 0, .int .u32 0, .int .u32 0, .int .u32 0, .int .u32 0, .int .u32 0, .int .u32 0, .int .u32 0, .slice none 0 0, .int .i64 0, .int .i64 0, .int .i64 0]
          have B5 := B4.trans (b5.mono B4.size)
          clear c4 B4 b5 hn6 ha6 hm hz n0 n5 a0' aT
          go_wp2_with (first | (refine wpList_store_blk rfl _ (.tmp 11) _ rfl _ rfl _ rfl (by simp [recA, Value.oneCell']) _ z5 rfl size_rec ?_; intro w6 g6 d6; have c56 := c5.step (step_new g6); have B56 := B5.trans ((step_new g6).mono B5.size)) | (refine wpList_load_blk rfl _ (.tmp 11) rfl _ rfl _ _ _ d6 Try.underlying28 rfl size_rec ?_) | (refine wpList_store_blk rfl _ (.tmp 7) _ rfl _ rfl _ rfl (by simp [recA, Value.oneCell']) _ c56 rfl size_rec ?_; intro w7 g7 c6; have B6 := below_of_grown B56 g7 B56.size HGL.out) | (refine wpList_load_blk rfl _ (.tmp 7) rfl _ rfl _ _ _ c6 Try.underlying28 rfl size_rec ?_))
          obtain ⟨m, hm⟩ : ∃ x, Hid (tokN n6 a6 T2 = x) := ⟨_, hid rfl⟩
          obtain ⟨t, ht⟩ : ∃ x, Hid (tokA n6 a6 T2 = x) := ⟨_, hid rfl⟩
          have hmm := tok_mono n60.1 n60.2 a60.1 a60.2
          rw [hm.out, ht.out] at hmm
          obtain ⟨m1, m2, m3, m4⟩ := hmm
          refine (tokens_eq hm.out ht.out n60.1 n60.2 a60.1 (by omega) hT0 hgT _).mono ?_
          rintro e w8 ⟨rfl, b8⟩
          have c8 := c6.step b8
          have B8 := B6.trans (b8.mono B6.size)
          have k20 := c8.cell (k := 20) (v := .int .i64 n6) rfl
          have k21 := c8.cell (k := 21) (v := .int .i64 a6) rfl
          have l1 : ¬ n6 < 0 := by omega
          have l2 : ¬ 5 < n6 := by omega
          have l3 : ¬ m < n6 := by omega
          have l4 : ¬ 5 < m := by omega
          have l5 : ¬ T2 < t := by omega
          have l6 : ¬ t < a6 := by omega
          clear hm ht c6 B6 b8 m1 m2 m3 m4 hgT hT0
          go_wp2_with fail
          go_roundw
          case rel => exact ⟨q + 1, T2, n6, a6, by omega, by omega, by go_num, rfl, n60.1, n60.2, a60.1, a60.2, T20.2, c8, B8⟩
          case measure => simp [intOf] <;> omega
    · have hd : (q < n2 ∧ q = 40) ∨ ¬ q < n2 := by omega
      clear hx hxb
      rcases hd with ⟨hd0, rfl⟩ | hd0
      have hd1 := decide_eq_true hd0
      rotate_left
      have hd1 := decide_eq_false hd0
      all_goals
        go_wp2
        go_ret
        exact ⟨rfl, hB⟩
end Go.Proofs.Ytffoekgopooeaaa
