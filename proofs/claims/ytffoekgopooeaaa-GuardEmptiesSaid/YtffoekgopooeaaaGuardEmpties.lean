/- sentinellaw9.GuardEmpties: the walk. -/
import Derived.Test.YtffoekgopooeaaaGdReg
import Derived.Test.YtffoekgopooeaaaGdRecs
namespace Go.Proofs.Ytffoekgopooeaaa
set_option linter.unusedVariables false
set_option linter.unusedSimpArgs false
open Go.ChangeShapes Go.WideShapes Go.ChangeAt Go.RowKit Go.Shelf
theorem tok_less {n a now : Int} (h0 : 0 ≤ n) (h5 : n ≤ 5) (ha : 0 ≤ a) (hn : 0 ≤ now) (hz : tokN n a now ≠ 0) :
    tokN (tokN n a now - 1) (tokA n a now) now = tokN n a now - 1 ∧ tokA (tokN n a now - 1) (tokA n a now) now = tokA n a now := by
  have w1 := tok_ways n a now
  generalize tokN n a now = p at *
  generalize tokA n a now = q at *
  have w2 := tok_ways (p - 1) q now
  generalize tokN (p - 1) q now = u at *
  generalize tokA (p - 1) q now = v at *
  omega
set_option maxRecDepth 100000 in
set_option maxHeartbeats 16000000 in
theorem GuardEmpties_walk (a0 : Int) (hk0 : -9223372036854775808 ≤ a0) (hl0 : a0 < 9223372036854775808)
    (a1 : Int) (hk1 : -9223372036854775808 ≤ a1) (hl1 : a1 < 9223372036854775808)
    (a2 : Int) (hk2 : -9223372036854775808 ≤ a2) (hl2 : a2 < 9223372036854775808) (w : World)  :
    Calls Try.prog 10 #[.int .i64 a0, .int .i64 a1, .int .i64 a2] w fun e w' => e = .returned (.bool true) ∧ Below w.heap.size w w' := by
  go_enter Try.func10, Try.ntmps10
  go_wp2_with fail
  refine (known_any _).mono ?_
  rintro e w1 ⟨rfl, b1⟩
  obtain ⟨N, hN⟩ : ∃ x, Hid (a0 % 6 = x) := ⟨_, hid rfl⟩
  have N0 : 0 ≤ N := by have := hN.out; omega
  have N1 : N < 6 := by have := hN.out; omega
  obtain ⟨A, hA⟩ : ∃ x, Hid (a1 % 500 = x) := ⟨_, hid rfl⟩
  have A0 : 0 ≤ A := by have := hA.out; omega
  have A1 : A < 500 := by have := hA.out; omega
  go_wp2_with fail
  refine (bucket_any a0 a1 hk0 hl0 hk1 hl1 _).mono ?_
  rintro e w2 ⟨rfl, b2⟩
  rw [hN.out, hA.out]
  have B2 := step_trans b1 b2
  have z2 := Blk.new w2 28 #[.int .i64 0, .string ⟨#[]⟩, .slice none 0 0, .int .u32 0, .int .u32 0, .int .u32 0, .int .u32 0, .int .u32 0, .int .u32 0, .int .u32 0, .int .u32 0, .int .u32 0, .int .u32 0, .int .u32 0, .int .u32 0, .int .u32 0, .int .u32 0, .int .u32 0, .int .u32 0, .slice none 0 0, .int .i64 0, .int .i64 0, .int .i64 0]
  clear b1 b2 hN hA
  obtain ⟨T, hT⟩ : ∃ x, Hid (a2 % 600 = x) := ⟨_, hid rfl⟩
  have T0 : 0 ≤ T := by have := hT.out; omega
  have T1 : T < 600 := by have := hT.out; omega
  go_wp2_with (refine wpList_store_blk rfl _ (.tmp 7) _ rfl _ rfl _ rfl (by simp [recA, Value.oneCell']) _ z2 rfl size_rec ?_; intro w3 g3 c3)
  have B3 := step_trans B2 (step_new g3)
  obtain ⟨g, hg⟩ : ∃ g, g = w2.heap.size := ⟨_, rfl⟩
  have HGL : Hid (w.heap.size ≤ g) := hid (by rw [hg]; exact B2.size)
  rw [← hg] at c3 ⊢
  clear z2 g3 B2 hg
  refine (within_eq hT.out (by omega) (by omega) hk2 hl2 _).mono ?_
  rintro e w4 ⟨rfl, b4⟩
  have c4 := c3.step b4
  have B4 := step_trans B3 b4
  clear c3 B3 b4 hT
  obtain ⟨K, hK⟩ : ∃ x, Hid (tokN N A T = x) := ⟨_, hid rfl⟩
  obtain ⟨TA, hTA⟩ : ∃ x, Hid (tokA N A T = x) := ⟨_, hid rfl⟩
  obtain ⟨t0, t5, t6, t7, t8⟩ := tok_bd N0 (by omega) A0 T0
  rw [hK.out] at t0 t5
  rw [hTA.out] at t6 t7 t8
  go_wp2_with (refine wpList_load_blk rfl _ (.tmp 7) rfl _ rfl _ _ _ c4 Try.underlying28 rfl size_rec ?_)
  refine (tokens_eq hK.out hTA.out N0 (by omega) A0 (by omega) T0 (by omega) _).mono ?_
  rintro e w5 ⟨rfl, b5⟩
  have c5 := c4.step b5
  have B5 := step_trans B4 b5
  clear c4 B4 b5
  go_wp2_with fail
  go_loopw [11] (fun i wr => ∃ q n a : Int, 0 ≤ q ∧ q ≤ 7 ∧ i = .int .i64 q ∧ 0 ≤ n ∧ n ≤ 5 ∧ 0 ≤ a ∧ a < 9223372036854775808 ∧ Hid (tokN n a T = (if q < K then K - q else 0) ∧ tokA n a T = TA) ∧ Blk wr g 28 (recA 1 ⟨#[117]⟩ n a 0) ∧ Below w.heap.size w wr) (fun i _ => 7 - (intOf i).toNat)
  case atStart => exact ⟨0, N, A, by omega, by omega, rfl, N0, by omega, A0, by omega, hid (by rw [hK.out, hTA.out]; refine ⟨?_, rfl⟩; split <;> omega), c5, B5⟩
  case round =>
    obtain ⟨q, n, a, hq0, hq7, rfl, n0, n5, a0', a1', hM, hc, hB⟩ := hrel
    clear c5 B5 hK hTA
    have lg := hc.lt
    by_cases hlt : q < 7
    · by_cases hk : q < K
      · have e1 : tokN n a T = K - q := by rw [hM.out.1, if_pos hk]
        have hz : tokN n a T ≠ 0 := by omega
        have e2 := hM.out.2
        have hl := tok_less n0 n5 a0' T0 hz
        rw [e1, e2] at hl
        have HM : Hid (tokN (K - q - 1) TA T = (if q + 1 < K then K - (q + 1) else 0) ∧ tokA (K - q - 1) TA T = TA) := hid (by rw [hl.1, hl.2]; refine ⟨?_, rfl⟩; split <;> omega)
        have E1 := hid e1
        have E2 := hid e2
        have HZ := hid hz
        clear e1 e2 hz hl hM
        go_wp2_with (refine wpList_load_blk rfl _ (.tmp 7) rfl _ rfl _ _ _ hc Try.underlying28 rfl size_rec ?_)
        refine (charge_some 1 ⟨#[117]⟩ n a 0 T n0 n5 a0' a1' T0 (by omega) HZ.out _).mono ?_
        rintro e w6 ⟨rfl, b6⟩
        rw [E1.out, E2.out]
        have c6 := hc.step b6
        have z6 := Blk.new w6 28 #[.int .i64 0, .string ⟨#[]⟩, .slice none 0 0, .int .u32 0, .int .u32 0, .int .u32 0, .int .u32 0, .int .u32 0, .int .u32 0, .int .u32 0, .int .u32 0, .int .u32 0, .int .u32 0, .int .u32 0, .int .u32 0, .int .u32 0, .int .u32 0, .int .u32 0, .int .u32 0, .slice none 0 0, .int .i64 0, .int .i64 0, .int .i64 0]
        have hgw : g ≠ w6.heap.size := by have := c6.lt; omega
        have B6 := hB.trans (b6.mono hB.size)
        clear E1 E2 HZ hc hB b6
        go_wp2_with (first | (refine wpList_store_blk rfl _ (.tmp 12) _ rfl _ rfl _ rfl (by simp [recA, Value.oneCell']) _ z6 rfl size_rec ?_; intro w7 g7 c7; have c67 := c6.step (step_new g7); have B7 := B6.trans ((step_new g7).mono B6.size); have p20 := c7.cell (k := 20) (v := .int .i64 (K - q - 1)) rfl) | (refine wpList_load_blk rfl _ (.tmp 12) rfl _ rfl _ _ _ c7 Try.underlying28 rfl size_rec ?_) | (refine wpList_store_blk rfl _ (.tmp 7) _ rfl _ rfl _ rfl (by simp [recA, Value.oneCell']) _ c67 rfl size_rec ?_; intro w8 g8 c8; have B8 := below_of_grown B7 g8 B7.size HGL.out))
        go_roundw
        case rel => exact ⟨q + 1, K - q - 1, TA, by omega, by omega, rfl, by omega, by omega, t6, by omega, HM, c8, B8⟩
        case measure => simp [intOf] <;> omega
      · have e1 : tokN n a T = 0 := by rw [hM.out.1, if_neg hk]
        have HM : Hid (tokN n a T = (if q + 1 < K then K - (q + 1) else 0) ∧ tokA n a T = TA) := hid (by rw [if_neg (by omega)]; exact ⟨e1, hM.out.2⟩)
        have E1 := hid e1
        clear e1 hM
        go_wp2_with (refine wpList_load_blk rfl _ (.tmp 7) rfl _ rfl _ _ _ hc Try.underlying28 rfl size_rec ?_)
        refine (charge_none 1 ⟨#[117]⟩ n a 0 T n0 n5 a0' a1' T0 (by omega) E1.out _).mono ?_
        rintro e w6 ⟨rfl, b6⟩
        have c6 := hc.step b6
        have z6 := Blk.new w6 28 #[.int .i64 0, .string ⟨#[]⟩, .slice none 0 0, .int .u32 0, .int .u32 0, .int .u32 0, .int .u32 0, .int .u32 0, .int .u32 0, .int .u32 0, .int .u32 0, .int .u32 0, .int .u32 0, .int .u32 0, .int .u32 0, .int .u32 0, .int .u32 0, .int .u32 0, .int .u32 0, .slice none 0 0, .int .i64 0, .int .i64 0, .int .i64 0]
        have B6 := hB.trans (b6.mono hB.size)
        clear E1 hc hB b6
        go_upto_region 10 with (refine wpList_store_blk rfl _ (.tmp 12) _ rfl _ rfl _ rfl (by simp [recA, Value.oneCell']) _ z6 rfl size_rec ?_; intro w7 g7 c7)
        have c67 := c6.step (step_new g7)
        have B7 := B6.trans ((step_new g7).mono B6.size)
        have hqk : ¬ q < K := by omega
        obtain ⟨g2, hg2⟩ : ∃ g2, g2 = w6.heap.size := ⟨_, rfl⟩
        rw [← hg2] at c7 ⊢
        clear hg2 g7 z6 c6 B6
        refine wp_region_stU [StK.eq (.bool false), StK.eq (.int .i64 q), StK.eq (.int .i64 K), StK.eq (.bool false), StK.eq (.bool false), StK.eq (.bool false), StK.eq (.bool false), StK.eq (.bool false), StK.eq (undef), StK.eq (undef), StK.eq (undef), StK.eq (undef), StK.eq (undef), StK.eq (undef), StK.eq (undef), StK.eq (.bool false), StK.eq (.bool false), StK.eq (.bool false), StK.eq (.bool false), StK.eq (.bool true), StK.eq (.bool true), StK.eq (.agg (recA 0 ⟨#[]⟩ 0 0 0)), StK.eq (.agg (recA 0 ⟨#[]⟩ 0 0 0)), StK.eq (.bool true), StK.eq (.bool false), StK.eq (.bool false), StK.eq (.bool false)] 27 66 rfl (by kernel_rfl) (by decide) ⟨?_, ?_, ?_, ?_, ?_, ?_, ?_, ?_, ?_, ?_, ?_, ?_, ?_, ?_, ?_, ?_, ?_, ?_, ?_, ?_, ?_, ?_, ?_, ?_, ?_, ?_, ?_, trivial⟩ ?_
        · intro a w hb hd
          have e13 : a.eval (.tmp 13) = .bool false := hd 13 (by decide)
          exact hop_runK (F := (StK.eq (.bool false)).F) (wanted_none rfl) _ (run_mv _ (.inl rfl) e13) rfl
        · intro a w hb hd
          have e11 : a.eval (.tmp 11) = .int .i64 q := hd 11 (by decide)
          exact hop_runK (F := (StK.eq (.int .i64 q)).F) (wanted_none rfl) _ (run_mv _ (.inl rfl) e11) rfl
        · intro a w hb hd
          have e9 : a.eval (.tmp 9) = .int .i64 K := hd 9 (by decide)
          exact hop_runK (F := (StK.eq (.int .i64 K)).F) (wanted_none rfl) _ (run_mv _ (.inl rfl) e9) rfl
        · intro a w hb hd
          have e38 : a.eval (.tmp 38) = .int .i64 q := hd 38 (by decide)
          have e39 : a.eval (.tmp 39) = .int .i64 K := hd 39 (by decide)
          exact hop_runK (F := (StK.eq (.bool false)).F) (wanted_none rfl) _ (by unfold execOp; simp only [e38, e39]; simp [go_sem, hqk]) rfl
        · intro a w hb hd
          have e37 : a.eval (.tmp 37) = .bool false := hd 37 (by decide)
          have e40 : a.eval (.tmp 40) = .bool false := hd 40 (by decide)
          exact hop_runK (F := (StK.eq (.bool false)).F) (wanted_none rfl) _ (by unfold execOp; simp only [e37, e40]; simp [go_sem]) rfl
        · intro a w hb hd
          have e41 : a.eval (.tmp 41) = .bool false := hd 41 (by decide)
          exact hop_runK (F := (StK.eq (.bool false)).F) (wanted_none rfl) _ (run_mv _ (.inl rfl) e41) rfl
        · intro a w hb hd
          have eg : a.eval (.tmp 42) = .bool false := hd 42 (by decide)
          have e13 : a.eval (.tmp 13) = .bool false := hd 13 (by decide)
          exact hop_runK (F := (StK.eq (.bool false)).F) (wanted_yes rfl rfl rfl eg) _ (run_mv _ (.inl rfl) e13) rfl
        · intro a w hb hd
          have eg : a.eval (.tmp 42) = .bool false := hd 42 (by decide)
          have e43 : a.eval (.tmp 43) = .bool false := hd 43 (by decide)
          exact hop_runK (F := (StK.eq (.bool false)).F) (wanted_yes rfl rfl rfl eg) _ (run_mv _ (.inl rfl) e43) rfl
        · intro a w hb hd
          have eg : a.eval (.tmp 44) = .bool false := hd 44 (by decide)
          exact hop_skipK (F := (StK.eq (undef)).F) rfl rfl rfl eg rfl
        · intro a w hb hd
          have eg : a.eval (.tmp 44) = .bool false := hd 44 (by decide)
          exact hop_skipK (F := (StK.eq (undef)).F) rfl rfl rfl eg rfl
        · intro a w hb hd
          have eg : a.eval (.tmp 44) = .bool false := hd 44 (by decide)
          exact hop_skipK (F := (StK.eq (undef)).F) rfl rfl rfl eg rfl
        · intro a w hb hd
          have eg : a.eval (.tmp 44) = .bool false := hd 44 (by decide)
          exact hop_skipK (F := (StK.eq (undef)).F) rfl rfl rfl eg rfl
        · intro a w hb hd
          have eg : a.eval (.tmp 44) = .bool false := hd 44 (by decide)
          exact hop_skipK (F := (StK.eq (undef)).F) rfl rfl rfl eg rfl
        · intro a w hb hd
          have eg : a.eval (.tmp 44) = .bool false := hd 44 (by decide)
          exact hop_skipK (F := (StK.eq (undef)).F) rfl rfl rfl eg rfl
        · intro a w hb hd
          have eg : a.eval (.tmp 44) = .bool false := hd 44 (by decide)
          exact hop_skipK (F := (StK.eq (undef)).F) rfl rfl rfl eg rfl
        · intro a w hb hd
          have eg : a.eval (.tmp 42) = .bool false := hd 42 (by decide)
          have e44 : a.eval (.tmp 44) = .bool false := hd 44 (by decide)
          have e51 : a.eval (.tmp 51) = undef := hd 51 (by decide)
          exact hop_runK (F := (StK.eq (.bool false)).F) (wanted_yes rfl rfl rfl eg) (.bool false) (run_pick_f rfl e44 rfl) rfl
        · intro a w hb hd
          have e42 : a.eval (.tmp 42) = .bool false := hd 42 (by decide)
          have e52 : a.eval (.tmp 52) = .bool false := hd 52 (by decide)
          exact hop_runK (F := (StK.eq (.bool false)).F) (wanted_none rfl) (.bool false) (run_pick_f rfl e42 e52) rfl
        · intro a w hb hd
          have e53 : a.eval (.tmp 53) = .bool false := hd 53 (by decide)
          exact hop_runK (F := (StK.eq (.bool false)).F) (wanted_none rfl) _ (run_mv _ (.inl rfl) e53) rfl
        · intro a w hb hd
          have eg : a.eval (.tmp 54) = .bool false := hd 54 (by decide)
          have e13 : a.eval (.tmp 13) = .bool false := hd 13 (by decide)
          exact hop_runK (F := (StK.eq (.bool false)).F) (wanted_yes rfl rfl rfl eg) _ (run_mv _ (.inl rfl) e13) rfl
        · intro a w hb hd
          have eg : a.eval (.tmp 54) = .bool false := hd 54 (by decide)
          have e55 : a.eval (.tmp 55) = .bool false := hd 55 (by decide)
          exact hop_runK (F := (StK.eq (.bool true)).F) (wanted_yes rfl rfl rfl eg) _ (run_not _ _ rfl e55) rfl
        · intro a w hb hd
          have eg : a.eval (.tmp 54) = .bool false := hd 54 (by decide)
          have e56 : a.eval (.tmp 56) = .bool true := hd 56 (by decide)
          exact hop_runK (F := (StK.eq (.bool true)).F) (wanted_yes rfl rfl rfl eg) _ (run_mv _ (.inl rfl) e56) rfl
        · intro a w hb hd
          have eg : a.eval (.tmp 57) = .bool true := hd 57 (by decide)
          have e12 : a.eval (.tmp 12) = .pointer (some ⟨g2, 0, none⟩) := hd 12 (by decide)
          exact hop_runK (F := (StK.eq (.agg (recA 0 ⟨#[]⟩ 0 0 0))).F) (wanted_yes rfl rfl rfl eg) _ (run_ldAll _ _ rfl e12 (c7.step hb) Try.underlying28 rfl size_rec) rfl
        · intro a w hb hd
          have eg : a.eval (.tmp 57) = .bool true := hd 57 (by decide)
          exact hop_runK (F := (StK.eq (.agg (recA 0 ⟨#[]⟩ 0 0 0))).F) (wanted_yes rfl rfl rfl eg) _ (by unfold execOp; kernel_rfl) rfl
        · intro a w hb hd
          have eg : a.eval (.tmp 57) = .bool true := hd 57 (by decide)
          have e58 : a.eval (.tmp 58) = .agg (recA 0 ⟨#[]⟩ 0 0 0) := hd 58 (by decide)
          have e59 : a.eval (.tmp 59) = .agg (recA 0 ⟨#[]⟩ 0 0 0) := hd 59 (by decide)
          exact hop_callK (F := (StK.eq (.bool true)).F) (wanted_yes rfl rfl rfl eg) hb.size rfl #[a.eval (.tmp 58), a.eval (.tmp 59)] (by first | (simp only [List.map_toArray, List.map_cons, List.map_nil]; done) | (simp only [List.map_toArray, List.map_cons, List.map_nil]; rfl)) (enters_of Try.func23 (by kernel_rfl) rfl) (by rw [e58]; rw [e59]; exact call_eq (rec_same 0 ⟨#[]⟩ 0 0 0 w))
        · intro a w hb hd
          have eg : a.eval (.tmp 57) = .bool true := hd 57 (by decide)
          have e60 : a.eval (.tmp 60) = .bool true := hd 60 (by decide)
          exact hop_runK (F := (StK.eq (.bool false)).F) (wanted_yes rfl rfl rfl eg) _ (run_not _ _ rfl e60) rfl
        · intro a w hb hd
          have eg : a.eval (.tmp 54) = .bool false := hd 54 (by decide)
          have e57 : a.eval (.tmp 57) = .bool true := hd 57 (by decide)
          have e61 : a.eval (.tmp 61) = .bool false := hd 61 (by decide)
          exact hop_runK (F := (StK.eq (.bool false)).F) (wanted_yes rfl rfl rfl eg) (.bool false) (run_pick_t rfl e57 e61) rfl
        · intro a w hb hd
          have e54 : a.eval (.tmp 54) = .bool false := hd 54 (by decide)
          have e62 : a.eval (.tmp 62) = .bool false := hd 62 (by decide)
          exact hop_runK (F := (StK.eq (.bool false)).F) (wanted_none rfl) (.bool false) (run_pick_f rfl e54 e62) rfl
        intro pw8 w8 bw8 hp
        obtain ⟨-, -, -, -, -, -, -, -, -, -, -, -, -, -, -, -, -, -, -, -, -, -, -, -, -, -, q26, -⟩ := hp
        have e26 : pw8 26 = .bool false := q26 (by decide)
        simp only [List.take_succ_cons, List.take_zero, List.drop_succ_cons, List.drop_zero, layAll, Act.put, List.setIfInBounds_toArray, List.set_cons_zero, List.set_cons_succ, Nat.zero_add, Nat.reduceAdd, e26]
        clear q26 e26
        have c8 := c67.step bw8
        have B8 := B7.trans (bw8.mono B7.size)
        clear c67 B7 bw8 c7
        go_wp2_with fail
        go_roundw
        case rel => exact ⟨q + 1, n, a, by omega, by omega, rfl, n0, n5, a0', a1', HM, c8, B8⟩
        case measure => simp [intOf] <;> omega
    · go_wp2
      go_ret
      exact ⟨rfl, hB⟩
end Go.Proofs.Ytffoekgopooeaaa
