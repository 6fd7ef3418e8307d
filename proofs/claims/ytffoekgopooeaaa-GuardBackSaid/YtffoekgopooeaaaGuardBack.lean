/- sentinellaw9.GuardBack: the walk. -/
import Derived.Test.YtffoekgopooeaaaGdReg
import Derived.Test.YtffoekgopooeaaaGdRecs
namespace Go.Proofs.Ytffoekgopooeaaa
set_option linter.unusedVariables false
set_option linter.unusedSimpArgs false
open Go.ChangeShapes Go.WideShapes Go.ChangeAt Go.RowKit Go.Shelf
set_option maxRecDepth 100000 in
set_option maxHeartbeats 16000000 in
theorem GuardBack_walk (a0 : Int) (hk0 : -9223372036854775808 ≤ a0) (hl0 : a0 < 9223372036854775808)
    (a1 : Int) (hk1 : -9223372036854775808 ≤ a1) (hl1 : a1 < 9223372036854775808)
    (a2 : Int) (hk2 : -9223372036854775808 ≤ a2) (hl2 : a2 < 9223372036854775808) (w : World)  :
    Calls Try.prog 12 #[.int .i64 a0, .int .i64 a1, .int .i64 a2] w fun e w' => e = .returned (.bool true) ∧ Below w.heap.size w w' := by
  go_enter Try.func12, Try.ntmps12
  go_wp2_with fail
  refine (known_any _).mono ?_
  rintro e w1 ⟨rfl, b1⟩
  obtain ⟨N, hN⟩ : ∃ x, Hid (a0 % 6 = x) := ⟨_, hid rfl⟩
  have N0 : 0 ≤ N := by have := hN.out; omega
  have N1 : N < 6 := by have := hN.out; omega
  obtain ⟨A, hA⟩ : ∃ x, Hid (a1 % 500 = x) := ⟨_, hid rfl⟩
  have A0 : 0 ≤ A := by have := hA.out; omega
  have A1 : A < 500 := by have := hA.out; omega
  go_wp2_with fail
  refine (bucket_any a0 a1 hk0 hl0 hk1 hl1 _).mono ?_
  rintro e w2 ⟨rfl, b2⟩
  rw [hN.out, hA.out]
  have B2 := step_trans b1 b2
  have z2 := Blk.new w2 28 #[.int .i64 0, .string ⟨#[]⟩, .slice none 0 0, .int .u32 0, .int .u32 0, .int .u32 0, .int .u32 0, .int .u32 0, .int .u32 0, .int .u32 0, .int .u32 0, .int .u32 0, .int .u32 0, .int .u32 0, .int .u32 0, .int .u32 0, .int .u32 0, .int .u32 0, .int .u32 0, .slice none 0 0, .int .i64 0, .int .i64 0, .int .i64 0]
  clear b1 b2 hN hA
  obtain ⟨K, hK⟩ : ∃ x, Hid (a2 % 600 = x) := ⟨_, hid rfl⟩
  have K0 : 0 ≤ K := by have := hK.out; omega
  have K1 : K < 600 := by have := hK.out; omega
  go_upto_region 4 with (refine wpList_store_blk rfl _ (.tmp 7) _ rfl _ rfl _ rfl (by simp [recA, Value.oneCell']) _ z2 rfl size_rec ?_; intro w3 g3 c3)
  have B3 := step_trans B2 (step_new g3)
  obtain ⟨S, hS⟩ : ∃ x, Hid (A - K = x) := ⟨_, hid rfl⟩
  obtain ⟨T, hT⟩ : ∃ x, Hid ((if 0 < S then S else 0) = x) := ⟨_, hid rfl⟩
  have S0 : -600 ≤ S ∧ S ≤ A := by have := hS.out; omega
  have T0 : 0 ≤ T ∧ T ≤ A := by have := hT.out; split at this <;> omega
  have HF : Hid (tokN N A T = N ∧ tokA N A T = A) := hid (by have := tok_ways N A T; omega)
  obtain ⟨g, hg⟩ : ∃ g, g = w2.heap.size := ⟨_, rfl⟩
  have G := hid hg
  rw [← hg] at c3 ⊢
  clear z2 g3 B2 hg
  refine wp_region_stT [StK.eq (.pointer (some ⟨g, 21, none⟩)), StK.eq (.int .i64 A), StK.eq (.int .i64 a2), StK.eq (.int .i64 K), StK.eq (.int .i64 S), StK.eq (.int .i64 T), StK.eq (.int .i64 T)] 7 78 rfl (by kernel_rfl) (by kernel_rfl) ⟨?_, ?_, ?_, ?_, ?_, ?_, ?_, trivial⟩ ?_
  · intro a w hb hd
    have e7 : a.eval (.tmp 7) = .pointer (some ⟨g, 0, none⟩) := hd 7 (by decide)
    exact hop_runK (F := (StK.eq (.pointer (some ⟨g, 21, none⟩))).F) (wanted_none rfl) _ (by unfold execOp; simp only [e7]; kernel_rfl) rfl
  · intro a w hb hd
    have e18 : a.eval (.tmp 18) = .pointer (some ⟨g, 21, none⟩) := hd 18 (by decide)
    exact hop_runK (F := (StK.eq (.int .i64 A)).F) (wanted_none rfl) _ (run_ldCell _ _ rfl e18 Try.underlying3 rfl ((c3.step hb).cell (k := 21) rfl)) rfl
  · intro a w hb hd
    have e2 : a.eval (.tmp 2) = .int .i64 a2 := hd 2 (by decide)
    exact hop_runK (F := (StK.eq (.int .i64 a2)).F) (wanted_none rfl) _ (run_mv _ (.inl rfl) e2) rfl
  · intro a w hb hd
    have e20 : a.eval (.tmp 20) = .int .i64 a2 := hd 20 (by decide)
    exact hop_callK (F := (StK.eq (.int .i64 K)).F) (wanted_none rfl) hb.size rfl #[a.eval (.tmp 20), .int .i64 600] (by first | (simp only [List.map_toArray, List.map_cons, List.map_nil]; done) | (simp only [List.map_toArray, List.map_cons, List.map_nil]; rfl)) (enters_of Try.func18 (by kernel_rfl) rfl) (by rw [e20]; exact call_eq (within_eq hK.out (by omega) (by omega) hk2 hl2 w))
  · intro a w hb hd
    have e19 : a.eval (.tmp 19) = .int .i64 A := hd 19 (by decide)
    have e21 : a.eval (.tmp 21) = .int .i64 K := hd 21 (by decide)
    exact hop_runK (F := (StK.eq (.int .i64 S)).F) (wanted_none rfl) _ (run_subI _ _ rfl e19 e21 hS.out (by omega) (by omega)) rfl
  · intro a w hb hd
    have e22 : a.eval (.tmp 22) = .int .i64 S := hd 22 (by decide)
    exact hop_runK (F := (StK.eq (.int .i64 T)).F) (wanted_none rfl) _ (run_maxI _ _ _ rfl rfl e22 hT.out) rfl
  · intro a w hb hd
    have e23 : a.eval (.tmp 23) = .int .i64 T := hd 23 (by decide)
    exact hop_runK (F := (StK.eq (.int .i64 T)).F) (wanted_none rfl) _ (run_mv _ (.inr rfl) e23) rfl
  intro pw4 w4 bw4 hp
  obtain ⟨-, -, -, -, -, -, q6, -⟩ := hp
  have e6 : pw4 6 = .int .i64 T := q6 (by decide)
  simp only [List.take_succ_cons, List.take_zero, List.drop_succ_cons, List.drop_zero, layAll, Act.put, List.setIfInBounds_toArray, List.set_cons_zero, List.set_cons_succ, Nat.zero_add, Nat.reduceAdd, e6]
  clear q6 e6
  have c4 := c3.step bw4
  have B4 := step_trans B3 bw4
  clear c3 B3 bw4
  go_wp2_with (refine wpList_load_blk rfl _ (.tmp 7) rfl _ rfl _ _ _ c4 Try.underlying28 rfl size_rec ?_)
  refine (tokens_eq HF.out.1 HF.out.2 N0 (by omega) A0 (by omega) (by omega) (by omega) _).mono ?_
  rintro e w5 ⟨rfl, b5⟩
  have c5 := c4.step b5
  have B5 := step_trans B4 b5
  clear c4 B4 b5
  go_wp2_with (refine wpList_load_blk rfl _ (.tmp 7) rfl _ rfl _ _ _ c5 Try.underlying28 rfl size_rec ?_)
  by_cases hz : N = 0
  · refine (charge_none 1 ⟨#[117]⟩ N A 0 T N0 (by omega) A0 (by omega) (by omega) (by omega) (by rw [HF.out.1]; exact hz) _).mono ?_
    rintro e w6 ⟨rfl, b6⟩
    have c6 := c5.step b6
    have z6 := Blk.new w6 28 #[.int .i64 0, .string ⟨#[]⟩, .slice none 0 0, .int .u32 0, .int .u32 0, .int .u32 0, .int .u32 0, .int .u32 0, .int .u32 0, .int .u32 0, .int .u32 0, .int .u32 0, .int .u32 0, .int .u32 0, .int .u32 0, .int .u32 0, .int .u32 0, .int .u32 0, .int .u32 0, .slice none 0 0, .int .i64 0, .int .i64 0, .int .i64 0]
    have B6 := step_trans B5 b6
    subst hz
    clear c5 B5 b6 hS hT HF S0 T0 hK K0 K1
    go_upto_region 7 with (refine wpList_store_blk rfl _ (.tmp 11) _ rfl _ rfl _ rfl (by simp [recA, Value.oneCell']) _ z6 rfl size_rec ?_; intro w7 g7 c7)
    have c67 := c6.step (step_new g7)
    have B7 := step_trans B6 (step_new g7)
    obtain ⟨g2, hg2⟩ : ∃ g2, g2 = w6.heap.size := ⟨_, rfl⟩
    rw [← hg2] at c7 ⊢
    clear hg2 g7 z6 c6 B6
    refine wp_region_stU [StK.eq (.int .i64 0), StK.eq (.pointer (some ⟨g, 20, none⟩)), StK.eq (.int .i64 0), StK.eq (.bool true), StK.eq (.bool true), StK.eq (.int .i64 A), StK.eq (.pointer (some ⟨g, 21, none⟩)), StK.eq (.int .i64 A), StK.eq (.bool true), StK.eq (.bool true), StK.eq (undef), StK.eq (undef), StK.eq (undef), StK.eq (undef), StK.eq (.bool true), StK.eq (.bool true), StK.eq (.bool true), StK.eq (.bool false), StK.eq (.pointer (some ⟨g, 20, none⟩)), StK.eq (.int .i64 0), StK.eq (.bool false), StK.eq (.bool true), StK.eq (.bool true), StK.eq (.bool true), StK.eq (.bool false), StK.eq (.bool true), StK.eq (.bool true), StK.eq (undef), StK.eq (undef), StK.eq (undef), StK.eq (undef), StK.eq (undef), StK.eq (undef), StK.eq (undef), StK.eq (undef), StK.eq (undef), StK.eq (undef), StK.eq (undef), StK.eq (undef), StK.eq (undef), StK.eq (.bool true), StK.eq (.bool true), StK.eq (.bool true)] 43 78 rfl (by kernel_rfl) (by decide) ⟨?_, ?_, ?_, ?_, ?_, ?_, ?_, ?_, ?_, ?_, ?_, ?_, ?_, ?_, ?_, ?_, ?_, ?_, ?_, ?_, ?_, ?_, ?_, ?_, ?_, ?_, ?_, ?_, ?_, ?_, ?_, ?_, ?_, ?_, ?_, ?_, ?_, ?_, ?_, ?_, ?_, ?_, ?_, trivial⟩ ?_
    · intro a w hb hd
      have e9 : a.eval (.tmp 9) = .int .i64 0 := hd 9 (by decide)
      exact hop_runK (F := (StK.eq (.int .i64 0)).F) (wanted_none rfl) _ (run_mv _ (.inl rfl) e9) rfl
    · intro a w hb hd
      have e7 : a.eval (.tmp 7) = .pointer (some ⟨g, 0, none⟩) := hd 7 (by decide)
      exact hop_runK (F := (StK.eq (.pointer (some ⟨g, 20, none⟩))).F) (wanted_none rfl) _ (by unfold execOp; simp only [e7]; kernel_rfl) rfl
    · intro a w hb hd
      have e37 : a.eval (.tmp 37) = .pointer (some ⟨g, 20, none⟩) := hd 37 (by decide)
      exact hop_runK (F := (StK.eq (.int .i64 0)).F) (wanted_none rfl) _ (run_ldCell _ _ rfl e37 Try.underlying3 rfl ((c67.step hb).cell (k := 20) rfl)) rfl
    · intro a w hb hd
      have e36 : a.eval (.tmp 36) = .int .i64 0 := hd 36 (by decide)
      have e38 : a.eval (.tmp 38) = .int .i64 0 := hd 38 (by decide)
      exact hop_runK (F := (StK.eq (.bool true)).F) (wanted_none rfl) _ (run_eqI _ _ rfl e36 e38 (b := true) (by simp)) rfl
    · intro a w hb hd
      have e39 : a.eval (.tmp 39) = .bool true := hd 39 (by decide)
      exact hop_runK (F := (StK.eq (.bool true)).F) (wanted_none rfl) _ (run_mv _ (.inl rfl) e39) rfl
    · intro a w hb hd
      have eg : a.eval (.tmp 40) = .bool true := hd 40 (by decide)
      have e10 : a.eval (.tmp 10) = .int .i64 A := hd 10 (by decide)
      exact hop_runK (F := (StK.eq (.int .i64 A)).F) (wanted_yes rfl rfl rfl eg) _ (run_mv _ (.inl rfl) e10) rfl
    · intro a w hb hd
      have eg : a.eval (.tmp 40) = .bool true := hd 40 (by decide)
      have e7 : a.eval (.tmp 7) = .pointer (some ⟨g, 0, none⟩) := hd 7 (by decide)
      exact hop_runK (F := (StK.eq (.pointer (some ⟨g, 21, none⟩))).F) (wanted_yes rfl rfl rfl eg) _ (by unfold execOp; simp only [e7]; kernel_rfl) rfl
    · intro a w hb hd
      have eg : a.eval (.tmp 40) = .bool true := hd 40 (by decide)
      have e42 : a.eval (.tmp 42) = .pointer (some ⟨g, 21, none⟩) := hd 42 (by decide)
      exact hop_runK (F := (StK.eq (.int .i64 A)).F) (wanted_yes rfl rfl rfl eg) _ (run_ldCell _ _ rfl e42 Try.underlying3 rfl ((c67.step hb).cell (k := 21) rfl)) rfl
    · intro a w hb hd
      have eg : a.eval (.tmp 40) = .bool true := hd 40 (by decide)
      have e41 : a.eval (.tmp 41) = .int .i64 A := hd 41 (by decide)
      have e43 : a.eval (.tmp 43) = .int .i64 A := hd 43 (by decide)
      exact hop_runK (F := (StK.eq (.bool true)).F) (wanted_yes rfl rfl rfl eg) _ (run_eqI _ _ rfl e41 e43 (b := true) (by simp)) rfl
    · intro a w hb hd
      have eg : a.eval (.tmp 40) = .bool true := hd 40 (by decide)
      have e44 : a.eval (.tmp 44) = .bool true := hd 44 (by decide)
      exact hop_runK (F := (StK.eq (.bool true)).F) (wanted_yes rfl rfl rfl eg) _ (run_mv _ (.inl rfl) e44) rfl
    · intro a w hb hd
      have eg : a.eval (.tmp 45) = .bool true := hd 45 (by decide)
      exact hop_skipK (F := (StK.eq (undef)).F) rfl rfl rfl eg rfl
    · intro a w hb hd
      have eg : a.eval (.tmp 45) = .bool true := hd 45 (by decide)
      exact hop_skipK (F := (StK.eq (undef)).F) rfl rfl rfl eg rfl
    · intro a w hb hd
      have eg : a.eval (.tmp 45) = .bool true := hd 45 (by decide)
      exact hop_skipK (F := (StK.eq (undef)).F) rfl rfl rfl eg rfl
    · intro a w hb hd
      have eg : a.eval (.tmp 45) = .bool true := hd 45 (by decide)
      exact hop_skipK (F := (StK.eq (undef)).F) rfl rfl rfl eg rfl
    · intro a w hb hd
      have eg : a.eval (.tmp 40) = .bool true := hd 40 (by decide)
      have e45 : a.eval (.tmp 45) = .bool true := hd 45 (by decide)
      have e49 : a.eval (.tmp 49) = undef := hd 49 (by decide)
      exact hop_runK (F := (StK.eq (.bool true)).F) (wanted_yes rfl rfl rfl eg) (.bool true) (run_pick_t rfl e45 rfl) rfl
    · intro a w hb hd
      have e40 : a.eval (.tmp 40) = .bool true := hd 40 (by decide)
      have e50 : a.eval (.tmp 50) = .bool true := hd 50 (by decide)
      exact hop_runK (F := (StK.eq (.bool true)).F) (wanted_none rfl) (.bool true) (run_pick_t rfl e40 e50) rfl
    · intro a w hb hd
      have e51 : a.eval (.tmp 51) = .bool true := hd 51 (by decide)
      exact hop_runK (F := (StK.eq (.bool true)).F) (wanted_none rfl) _ (run_mv _ (.inl rfl) e51) rfl
    · intro a w hb hd
      have eg : a.eval (.tmp 52) = .bool true := hd 52 (by decide)
      have e12 : a.eval (.tmp 12) = .bool false := hd 12 (by decide)
      exact hop_runK (F := (StK.eq (.bool false)).F) (wanted_yes rfl rfl rfl eg) _ (run_mv _ (.inl rfl) e12) rfl
    · intro a w hb hd
      have eg : a.eval (.tmp 52) = .bool true := hd 52 (by decide)
      have e7 : a.eval (.tmp 7) = .pointer (some ⟨g, 0, none⟩) := hd 7 (by decide)
      exact hop_runK (F := (StK.eq (.pointer (some ⟨g, 20, none⟩))).F) (wanted_yes rfl rfl rfl eg) _ (by unfold execOp; simp only [e7]; kernel_rfl) rfl
    · intro a w hb hd
      have eg : a.eval (.tmp 52) = .bool true := hd 52 (by decide)
      have e54 : a.eval (.tmp 54) = .pointer (some ⟨g, 20, none⟩) := hd 54 (by decide)
      exact hop_runK (F := (StK.eq (.int .i64 0)).F) (wanted_yes rfl rfl rfl eg) _ (run_ldCell _ _ rfl e54 Try.underlying3 rfl ((c67.step hb).cell (k := 20) rfl)) rfl
    · intro a w hb hd
      have eg : a.eval (.tmp 52) = .bool true := hd 52 (by decide)
      have e55 : a.eval (.tmp 55) = .int .i64 0 := hd 55 (by decide)
      exact hop_runK (F := (StK.eq (.bool false)).F) (wanted_yes rfl rfl rfl eg) _ (by unfold execOp; simp only [e55]; simp [go_sem]) rfl
    · intro a w hb hd
      have eg : a.eval (.tmp 52) = .bool true := hd 52 (by decide)
      have e53 : a.eval (.tmp 53) = .bool false := hd 53 (by decide)
      have e56 : a.eval (.tmp 56) = .bool false := hd 56 (by decide)
      exact hop_runK (F := (StK.eq (.bool true)).F) (wanted_yes rfl rfl rfl eg) _ (by unfold execOp; simp only [e53, e56]; simp [go_sem]) rfl
    · intro a w hb hd
      have e52 : a.eval (.tmp 52) = .bool true := hd 52 (by decide)
      have e57 : a.eval (.tmp 57) = .bool true := hd 57 (by decide)
      exact hop_runK (F := (StK.eq (.bool true)).F) (wanted_none rfl) (.bool true) (run_pick_t rfl e52 e57) rfl
    · intro a w hb hd
      have e58 : a.eval (.tmp 58) = .bool true := hd 58 (by decide)
      exact hop_runK (F := (StK.eq (.bool true)).F) (wanted_none rfl) _ (run_mv _ (.inl rfl) e58) rfl
    · intro a w hb hd
      have eg : a.eval (.tmp 59) = .bool true := hd 59 (by decide)
      have e12 : a.eval (.tmp 12) = .bool false := hd 12 (by decide)
      exact hop_runK (F := (StK.eq (.bool false)).F) (wanted_yes rfl rfl rfl eg) _ (run_mv _ (.inl rfl) e12) rfl
    · intro a w hb hd
      have eg : a.eval (.tmp 59) = .bool true := hd 59 (by decide)
      have e60 : a.eval (.tmp 60) = .bool false := hd 60 (by decide)
      exact hop_runK (F := (StK.eq (.bool true)).F) (wanted_yes rfl rfl rfl eg) _ (run_not _ _ rfl e60) rfl
    · intro a w hb hd
      have eg : a.eval (.tmp 59) = .bool true := hd 59 (by decide)
      have e61 : a.eval (.tmp 61) = .bool true := hd 61 (by decide)
      exact hop_runK (F := (StK.eq (.bool true)).F) (wanted_yes rfl rfl rfl eg) _ (run_mv _ (.inl rfl) e61) rfl
    · intro a w hb hd
      have eg : a.eval (.tmp 62) = .bool true := hd 62 (by decide)
      exact hop_skipK (F := (StK.eq (undef)).F) rfl rfl rfl eg rfl
    · intro a w hb hd
      have eg : a.eval (.tmp 62) = .bool true := hd 62 (by decide)
      exact hop_skipK (F := (StK.eq (undef)).F) rfl rfl rfl eg rfl
    · intro a w hb hd
      have eg : a.eval (.tmp 62) = .bool true := hd 62 (by decide)
      exact hop_skipK (F := (StK.eq (undef)).F) rfl rfl rfl eg rfl
    · intro a w hb hd
      have eg : a.eval (.tmp 62) = .bool true := hd 62 (by decide)
      exact hop_skipK (F := (StK.eq (undef)).F) rfl rfl rfl eg rfl
    · intro a w hb hd
      have eg : a.eval (.tmp 62) = .bool true := hd 62 (by decide)
      exact hop_skipK (F := (StK.eq (undef)).F) rfl rfl rfl eg rfl
    · intro a w hb hd
      have eg : a.eval (.tmp 62) = .bool true := hd 62 (by decide)
      exact hop_skipK (F := (StK.eq (undef)).F) rfl rfl rfl eg rfl
    · intro a w hb hd
      have eg : a.eval (.tmp 68) = undef := hd 68 (by decide)
      exact hop_skipU (F := (StK.eq (undef)).F) rfl rfl rfl eg rfl
    · intro a w hb hd
      have eg : a.eval (.tmp 68) = undef := hd 68 (by decide)
      exact hop_skipU (F := (StK.eq (undef)).F) rfl rfl rfl eg rfl
    · intro a w hb hd
      have eg : a.eval (.tmp 68) = undef := hd 68 (by decide)
      exact hop_skipU (F := (StK.eq (undef)).F) rfl rfl rfl eg rfl
    · intro a w hb hd
      have eg : a.eval (.tmp 68) = undef := hd 68 (by decide)
      exact hop_skipU (F := (StK.eq (undef)).F) rfl rfl rfl eg rfl
    · intro a w hb hd
      have eg : a.eval (.tmp 68) = undef := hd 68 (by decide)
      exact hop_skipU (F := (StK.eq (undef)).F) rfl rfl rfl eg rfl
    · intro a w hb hd
      have eg : a.eval (.tmp 68) = undef := hd 68 (by decide)
      exact hop_skipU (F := (StK.eq (undef)).F) rfl rfl rfl eg rfl
    · intro a w hb hd
      have eg : a.eval (.tmp 62) = .bool true := hd 62 (by decide)
      exact hop_skipK (F := (StK.eq (undef)).F) rfl rfl rfl eg rfl
    · intro a w hb hd
      have eg : a.eval (.tmp 59) = .bool true := hd 59 (by decide)
      have e62 : a.eval (.tmp 62) = .bool true := hd 62 (by decide)
      have e75 : a.eval (.tmp 75) = undef := hd 75 (by decide)
      exact hop_runK (F := (StK.eq (.bool true)).F) (wanted_yes rfl rfl rfl eg) (.bool true) (run_pick_t rfl e62 rfl) rfl
    · intro a w hb hd
      have e59 : a.eval (.tmp 59) = .bool true := hd 59 (by decide)
      have e76 : a.eval (.tmp 76) = .bool true := hd 76 (by decide)
      exact hop_runK (F := (StK.eq (.bool true)).F) (wanted_none rfl) (.bool true) (run_pick_t rfl e59 e76) rfl
    · intro a w hb hd
      have e77 : a.eval (.tmp 77) = .bool true := hd 77 (by decide)
      exact hop_runK (F := (StK.eq (.bool true)).F) (wanted_none rfl) _ (run_mv _ (.inr rfl) e77) rfl
    intro pw8 w8 bw8 hp
    obtain ⟨-, -, -, -, -, -, -, -, -, -, -, -, -, -, -, -, -, -, -, -, -, -, -, -, -, -, -, -, -, -, -, -, -, -, -, -, -, -, -, -, -, -, q42, -⟩ := hp
    have e42 : pw8 42 = .bool true := q42 (by decide)
    simp only [List.take_succ_cons, List.take_zero, List.drop_succ_cons, List.drop_zero, layAll, Act.put, List.setIfInBounds_toArray, List.set_cons_zero, List.set_cons_succ, Nat.zero_add, Nat.reduceAdd, e42]
    clear q42 e42
    have B8 := B7.trans (bw8.mono B7.size)
    go_wp2
    go_ret
    exact ⟨rfl, B8⟩
  · refine (charge_some 1 ⟨#[117]⟩ N A 0 T N0 (by omega) A0 (by omega) (by omega) (by omega) (by rw [HF.out.1]; exact hz) _).mono ?_
    rintro e w6 ⟨rfl, b6⟩
    rw [HF.out.1, HF.out.2]
    have c6 := c5.step b6
    have z6 := Blk.new w6 28 #[.int .i64 0, .string ⟨#[]⟩, .slice none 0 0, .int .u32 0, .int .u32 0, .int .u32 0, .int .u32 0, .int .u32 0, .int .u32 0, .int .u32 0, .int .u32 0, .int .u32 0, .int .u32 0, .int .u32 0, .int .u32 0, .int .u32 0, .int .u32 0, .int .u32 0, .int .u32 0, .slice none 0 0, .int .i64 0, .int .i64 0, .int .i64 0]
    have B6 := step_trans B5 b6
    have hn : 0 < N := by omega
    clear c5 B5 b6 hz hS hT HF S0 T0 hK K0 K1
    go_upto_region 7 with (refine wpList_store_blk rfl _ (.tmp 11) _ rfl _ rfl _ rfl (by simp [recA, Value.oneCell']) _ z6 rfl size_rec ?_; intro w7 g7 c7)
    have c67 := c6.step (step_new g7)
    have B7 := step_trans B6 (step_new g7)
    obtain ⟨g2, hg2⟩ : ∃ g2, g2 = w6.heap.size := ⟨_, rfl⟩
    rw [← hg2] at c7 ⊢
    clear hg2 g7 z6 c6 B6
    refine wp_region_stU [StK.eq (.int .i64 N), StK.eq (.pointer (some ⟨g, 20, none⟩)), StK.eq (.int .i64 N), StK.eq (.bool true), StK.eq (.bool true), StK.eq (.int .i64 A), StK.eq (.pointer (some ⟨g, 21, none⟩)), StK.eq (.int .i64 A), StK.eq (.bool true), StK.eq (.bool true), StK.eq (undef), StK.eq (undef), StK.eq (undef), StK.eq (undef), StK.eq (.bool true), StK.eq (.bool true), StK.eq (.bool true), StK.eq (.bool true), StK.eq (.pointer (some ⟨g, 20, none⟩)), StK.eq (.int .i64 N), StK.eq (.bool true), StK.eq (.bool true), StK.eq (.bool true), StK.eq (.bool true), StK.eq (.bool true), StK.eq (.bool false), StK.eq (.bool false), StK.eq (.pointer (some ⟨g2, 21, none⟩)), StK.eq (.int .i64 A), StK.eq (.pointer (some ⟨g, 21, none⟩)), StK.eq (.int .i64 A), StK.eq (.bool true), StK.eq (.bool true), StK.eq (.pointer (some ⟨g2, 20, none⟩)), StK.eq (.int .i64 (N - 1)), StK.eq (.pointer (some ⟨g, 20, none⟩)), StK.eq (.int .i64 N), StK.eq (.int .i64 (N - 1)), StK.eq (.bool true), StK.eq (.bool true), StK.eq (.bool true), StK.eq (.bool true), StK.eq (.bool true)] 43 78 rfl (by kernel_rfl) (by decide) ⟨?_, ?_, ?_, ?_, ?_, ?_, ?_, ?_, ?_, ?_, ?_, ?_, ?_, ?_, ?_, ?_, ?_, ?_, ?_, ?_, ?_, ?_, ?_, ?_, ?_, ?_, ?_, ?_, ?_, ?_, ?_, ?_, ?_, ?_, ?_, ?_, ?_, ?_, ?_, ?_, ?_, ?_, ?_, trivial⟩ ?_
    · intro a w hb hd
      have e9 : a.eval (.tmp 9) = .int .i64 N := hd 9 (by decide)
      exact hop_runK (F := (StK.eq (.int .i64 N)).F) (wanted_none rfl) _ (run_mv _ (.inl rfl) e9) rfl
    · intro a w hb hd
      have e7 : a.eval (.tmp 7) = .pointer (some ⟨g, 0, none⟩) := hd 7 (by decide)
      exact hop_runK (F := (StK.eq (.pointer (some ⟨g, 20, none⟩))).F) (wanted_none rfl) _ (by unfold execOp; simp only [e7]; kernel_rfl) rfl
    · intro a w hb hd
      have e37 : a.eval (.tmp 37) = .pointer (some ⟨g, 20, none⟩) := hd 37 (by decide)
      exact hop_runK (F := (StK.eq (.int .i64 N)).F) (wanted_none rfl) _ (run_ldCell _ _ rfl e37 Try.underlying3 rfl ((c67.step hb).cell (k := 20) rfl)) rfl
    · intro a w hb hd
      have e36 : a.eval (.tmp 36) = .int .i64 N := hd 36 (by decide)
      have e38 : a.eval (.tmp 38) = .int .i64 N := hd 38 (by decide)
      exact hop_runK (F := (StK.eq (.bool true)).F) (wanted_none rfl) _ (run_eqI _ _ rfl e36 e38 (b := true) (by simp)) rfl
    · intro a w hb hd
      have e39 : a.eval (.tmp 39) = .bool true := hd 39 (by decide)
      exact hop_runK (F := (StK.eq (.bool true)).F) (wanted_none rfl) _ (run_mv _ (.inl rfl) e39) rfl
    · intro a w hb hd
      have eg : a.eval (.tmp 40) = .bool true := hd 40 (by decide)
      have e10 : a.eval (.tmp 10) = .int .i64 A := hd 10 (by decide)
      exact hop_runK (F := (StK.eq (.int .i64 A)).F) (wanted_yes rfl rfl rfl eg) _ (run_mv _ (.inl rfl) e10) rfl
    · intro a w hb hd
      have eg : a.eval (.tmp 40) = .bool true := hd 40 (by decide)
      have e7 : a.eval (.tmp 7) = .pointer (some ⟨g, 0, none⟩) := hd 7 (by decide)
      exact hop_runK (F := (StK.eq (.pointer (some ⟨g, 21, none⟩))).F) (wanted_yes rfl rfl rfl eg) _ (by unfold execOp; simp only [e7]; kernel_rfl) rfl
    · intro a w hb hd
      have eg : a.eval (.tmp 40) = .bool true := hd 40 (by decide)
      have e42 : a.eval (.tmp 42) = .pointer (some ⟨g, 21, none⟩) := hd 42 (by decide)
      exact hop_runK (F := (StK.eq (.int .i64 A)).F) (wanted_yes rfl rfl rfl eg) _ (run_ldCell _ _ rfl e42 Try.underlying3 rfl ((c67.step hb).cell (k := 21) rfl)) rfl
    · intro a w hb hd
      have eg : a.eval (.tmp 40) = .bool true := hd 40 (by decide)
      have e41 : a.eval (.tmp 41) = .int .i64 A := hd 41 (by decide)
      have e43 : a.eval (.tmp 43) = .int .i64 A := hd 43 (by decide)
      exact hop_runK (F := (StK.eq (.bool true)).F) (wanted_yes rfl rfl rfl eg) _ (run_eqI _ _ rfl e41 e43 (b := true) (by simp)) rfl
    · intro a w hb hd
      have eg : a.eval (.tmp 40) = .bool true := hd 40 (by decide)
      have e44 : a.eval (.tmp 44) = .bool true := hd 44 (by decide)
      exact hop_runK (F := (StK.eq (.bool true)).F) (wanted_yes rfl rfl rfl eg) _ (run_mv _ (.inl rfl) e44) rfl
    · intro a w hb hd
      have eg : a.eval (.tmp 45) = .bool true := hd 45 (by decide)
      exact hop_skipK (F := (StK.eq (undef)).F) rfl rfl rfl eg rfl
    · intro a w hb hd
      have eg : a.eval (.tmp 45) = .bool true := hd 45 (by decide)
      exact hop_skipK (F := (StK.eq (undef)).F) rfl rfl rfl eg rfl
    · intro a w hb hd
      have eg : a.eval (.tmp 45) = .bool true := hd 45 (by decide)
      exact hop_skipK (F := (StK.eq (undef)).F) rfl rfl rfl eg rfl
    · intro a w hb hd
      have eg : a.eval (.tmp 45) = .bool true := hd 45 (by decide)
      exact hop_skipK (F := (StK.eq (undef)).F) rfl rfl rfl eg rfl
    · intro a w hb hd
      have eg : a.eval (.tmp 40) = .bool true := hd 40 (by decide)
      have e45 : a.eval (.tmp 45) = .bool true := hd 45 (by decide)
      have e49 : a.eval (.tmp 49) = undef := hd 49 (by decide)
      exact hop_runK (F := (StK.eq (.bool true)).F) (wanted_yes rfl rfl rfl eg) (.bool true) (run_pick_t rfl e45 rfl) rfl
    · intro a w hb hd
      have e40 : a.eval (.tmp 40) = .bool true := hd 40 (by decide)
      have e50 : a.eval (.tmp 50) = .bool true := hd 50 (by decide)
      exact hop_runK (F := (StK.eq (.bool true)).F) (wanted_none rfl) (.bool true) (run_pick_t rfl e40 e50) rfl
    · intro a w hb hd
      have e51 : a.eval (.tmp 51) = .bool true := hd 51 (by decide)
      exact hop_runK (F := (StK.eq (.bool true)).F) (wanted_none rfl) _ (run_mv _ (.inl rfl) e51) rfl
    · intro a w hb hd
      have eg : a.eval (.tmp 52) = .bool true := hd 52 (by decide)
      have e12 : a.eval (.tmp 12) = .bool true := hd 12 (by decide)
      exact hop_runK (F := (StK.eq (.bool true)).F) (wanted_yes rfl rfl rfl eg) _ (run_mv _ (.inl rfl) e12) rfl
    · intro a w hb hd
      have eg : a.eval (.tmp 52) = .bool true := hd 52 (by decide)
      have e7 : a.eval (.tmp 7) = .pointer (some ⟨g, 0, none⟩) := hd 7 (by decide)
      exact hop_runK (F := (StK.eq (.pointer (some ⟨g, 20, none⟩))).F) (wanted_yes rfl rfl rfl eg) _ (by unfold execOp; simp only [e7]; kernel_rfl) rfl
    · intro a w hb hd
      have eg : a.eval (.tmp 52) = .bool true := hd 52 (by decide)
      have e54 : a.eval (.tmp 54) = .pointer (some ⟨g, 20, none⟩) := hd 54 (by decide)
      exact hop_runK (F := (StK.eq (.int .i64 N)).F) (wanted_yes rfl rfl rfl eg) _ (run_ldCell _ _ rfl e54 Try.underlying3 rfl ((c67.step hb).cell (k := 20) rfl)) rfl
    · intro a w hb hd
      have eg : a.eval (.tmp 52) = .bool true := hd 52 (by decide)
      have e55 : a.eval (.tmp 55) = .int .i64 N := hd 55 (by decide)
      exact hop_runK (F := (StK.eq (.bool true)).F) (wanted_yes rfl rfl rfl eg) _ (by unfold execOp; simp only [e55]; simp [go_sem, hn]) rfl
    · intro a w hb hd
      have eg : a.eval (.tmp 52) = .bool true := hd 52 (by decide)
      have e53 : a.eval (.tmp 53) = .bool true := hd 53 (by decide)
      have e56 : a.eval (.tmp 56) = .bool true := hd 56 (by decide)
      exact hop_runK (F := (StK.eq (.bool true)).F) (wanted_yes rfl rfl rfl eg) _ (by unfold execOp; simp only [e53, e56]; simp [go_sem]) rfl
    · intro a w hb hd
      have e52 : a.eval (.tmp 52) = .bool true := hd 52 (by decide)
      have e57 : a.eval (.tmp 57) = .bool true := hd 57 (by decide)
      exact hop_runK (F := (StK.eq (.bool true)).F) (wanted_none rfl) (.bool true) (run_pick_t rfl e52 e57) rfl
    · intro a w hb hd
      have e58 : a.eval (.tmp 58) = .bool true := hd 58 (by decide)
      exact hop_runK (F := (StK.eq (.bool true)).F) (wanted_none rfl) _ (run_mv _ (.inl rfl) e58) rfl
    · intro a w hb hd
      have eg : a.eval (.tmp 59) = .bool true := hd 59 (by decide)
      have e12 : a.eval (.tmp 12) = .bool true := hd 12 (by decide)
      exact hop_runK (F := (StK.eq (.bool true)).F) (wanted_yes rfl rfl rfl eg) _ (run_mv _ (.inl rfl) e12) rfl
    · intro a w hb hd
      have eg : a.eval (.tmp 59) = .bool true := hd 59 (by decide)
      have e60 : a.eval (.tmp 60) = .bool true := hd 60 (by decide)
      exact hop_runK (F := (StK.eq (.bool false)).F) (wanted_yes rfl rfl rfl eg) _ (run_not _ _ rfl e60) rfl
    · intro a w hb hd
      have eg : a.eval (.tmp 59) = .bool true := hd 59 (by decide)
      have e61 : a.eval (.tmp 61) = .bool false := hd 61 (by decide)
      exact hop_runK (F := (StK.eq (.bool false)).F) (wanted_yes rfl rfl rfl eg) _ (run_mv _ (.inl rfl) e61) rfl
    · intro a w hb hd
      have eg : a.eval (.tmp 62) = .bool false := hd 62 (by decide)
      have e11 : a.eval (.tmp 11) = .pointer (some ⟨g2, 0, none⟩) := hd 11 (by decide)
      exact hop_runK (F := (StK.eq (.pointer (some ⟨g2, 21, none⟩))).F) (wanted_yes rfl rfl rfl eg) _ (by unfold execOp; simp only [e11]; kernel_rfl) rfl
    · intro a w hb hd
      have eg : a.eval (.tmp 62) = .bool false := hd 62 (by decide)
      have e63 : a.eval (.tmp 63) = .pointer (some ⟨g2, 21, none⟩) := hd 63 (by decide)
      exact hop_runK (F := (StK.eq (.int .i64 A)).F) (wanted_yes rfl rfl rfl eg) _ (run_ldCell _ _ rfl e63 Try.underlying3 rfl ((c7.step hb).cell (k := 21) rfl)) rfl
    · intro a w hb hd
      have eg : a.eval (.tmp 62) = .bool false := hd 62 (by decide)
      have e7 : a.eval (.tmp 7) = .pointer (some ⟨g, 0, none⟩) := hd 7 (by decide)
      exact hop_runK (F := (StK.eq (.pointer (some ⟨g, 21, none⟩))).F) (wanted_yes rfl rfl rfl eg) _ (by unfold execOp; simp only [e7]; kernel_rfl) rfl
    · intro a w hb hd
      have eg : a.eval (.tmp 62) = .bool false := hd 62 (by decide)
      have e65 : a.eval (.tmp 65) = .pointer (some ⟨g, 21, none⟩) := hd 65 (by decide)
      exact hop_runK (F := (StK.eq (.int .i64 A)).F) (wanted_yes rfl rfl rfl eg) _ (run_ldCell _ _ rfl e65 Try.underlying3 rfl ((c67.step hb).cell (k := 21) rfl)) rfl
    · intro a w hb hd
      have eg : a.eval (.tmp 62) = .bool false := hd 62 (by decide)
      have e64 : a.eval (.tmp 64) = .int .i64 A := hd 64 (by decide)
      have e66 : a.eval (.tmp 66) = .int .i64 A := hd 66 (by decide)
      exact hop_runK (F := (StK.eq (.bool true)).F) (wanted_yes rfl rfl rfl eg) _ (run_eqI _ _ rfl e64 e66 (b := true) (by simp)) rfl
    · intro a w hb hd
      have eg : a.eval (.tmp 62) = .bool false := hd 62 (by decide)
      have e67 : a.eval (.tmp 67) = .bool true := hd 67 (by decide)
      exact hop_runK (F := (StK.eq (.bool true)).F) (wanted_yes rfl rfl rfl eg) _ (run_mv _ (.inl rfl) e67) rfl
    · intro a w hb hd
      have eg : a.eval (.tmp 68) = .bool true := hd 68 (by decide)
      have e11 : a.eval (.tmp 11) = .pointer (some ⟨g2, 0, none⟩) := hd 11 (by decide)
      exact hop_runK (F := (StK.eq (.pointer (some ⟨g2, 20, none⟩))).F) (wanted_yes rfl rfl rfl eg) _ (by unfold execOp; simp only [e11]; kernel_rfl) rfl
    · intro a w hb hd
      have eg : a.eval (.tmp 68) = .bool true := hd 68 (by decide)
      have e69 : a.eval (.tmp 69) = .pointer (some ⟨g2, 20, none⟩) := hd 69 (by decide)
      exact hop_runK (F := (StK.eq (.int .i64 (N - 1))).F) (wanted_yes rfl rfl rfl eg) _ (run_ldCell _ _ rfl e69 Try.underlying3 rfl ((c7.step hb).cell (k := 20) rfl)) rfl
    · intro a w hb hd
      have eg : a.eval (.tmp 68) = .bool true := hd 68 (by decide)
      have e7 : a.eval (.tmp 7) = .pointer (some ⟨g, 0, none⟩) := hd 7 (by decide)
      exact hop_runK (F := (StK.eq (.pointer (some ⟨g, 20, none⟩))).F) (wanted_yes rfl rfl rfl eg) _ (by unfold execOp; simp only [e7]; kernel_rfl) rfl
    · intro a w hb hd
      have eg : a.eval (.tmp 68) = .bool true := hd 68 (by decide)
      have e71 : a.eval (.tmp 71) = .pointer (some ⟨g, 20, none⟩) := hd 71 (by decide)
      exact hop_runK (F := (StK.eq (.int .i64 N)).F) (wanted_yes rfl rfl rfl eg) _ (run_ldCell _ _ rfl e71 Try.underlying3 rfl ((c67.step hb).cell (k := 20) rfl)) rfl
    · intro a w hb hd
      have eg : a.eval (.tmp 68) = .bool true := hd 68 (by decide)
      have e72 : a.eval (.tmp 72) = .int .i64 N := hd 72 (by decide)
      exact hop_runK (F := (StK.eq (.int .i64 (N - 1))).F) (wanted_yes rfl rfl rfl eg) _ (run_subI _ _ rfl e72 rfl rfl (by omega) (by omega)) rfl
    · intro a w hb hd
      have eg : a.eval (.tmp 68) = .bool true := hd 68 (by decide)
      have e70 : a.eval (.tmp 70) = .int .i64 (N - 1) := hd 70 (by decide)
      have e73 : a.eval (.tmp 73) = .int .i64 (N - 1) := hd 73 (by decide)
      exact hop_runK (F := (StK.eq (.bool true)).F) (wanted_yes rfl rfl rfl eg) _ (run_eqI _ _ rfl e70 e73 (b := true) (by simp)) rfl
    · intro a w hb hd
      have eg : a.eval (.tmp 62) = .bool false := hd 62 (by decide)
      have e68 : a.eval (.tmp 68) = .bool true := hd 68 (by decide)
      have e74 : a.eval (.tmp 74) = .bool true := hd 74 (by decide)
      exact hop_runK (F := (StK.eq (.bool true)).F) (wanted_yes rfl rfl rfl eg) (.bool true) (run_pick_t rfl e68 e74) rfl
    · intro a w hb hd
      have eg : a.eval (.tmp 59) = .bool true := hd 59 (by decide)
      have e62 : a.eval (.tmp 62) = .bool false := hd 62 (by decide)
      have e75 : a.eval (.tmp 75) = .bool true := hd 75 (by decide)
      exact hop_runK (F := (StK.eq (.bool true)).F) (wanted_yes rfl rfl rfl eg) (.bool true) (run_pick_f rfl e62 e75) rfl
    · intro a w hb hd
      have e59 : a.eval (.tmp 59) = .bool true := hd 59 (by decide)
      have e76 : a.eval (.tmp 76) = .bool true := hd 76 (by decide)
      exact hop_runK (F := (StK.eq (.bool true)).F) (wanted_none rfl) (.bool true) (run_pick_t rfl e59 e76) rfl
    · intro a w hb hd
      have e77 : a.eval (.tmp 77) = .bool true := hd 77 (by decide)
      exact hop_runK (F := (StK.eq (.bool true)).F) (wanted_none rfl) _ (run_mv _ (.inr rfl) e77) rfl
    intro pw8 w8 bw8 hp
    obtain ⟨-, -, -, -, -, -, -, -, -, -, -, -, -, -, -, -, -, -, -, -, -, -, -, -, -, -, -, -, -, -, -, -, -, -, -, -, -, -, -, -, -, -, q42, -⟩ := hp
    have e42 : pw8 42 = .bool true := q42 (by decide)
    simp only [List.take_succ_cons, List.take_zero, List.drop_succ_cons, List.drop_zero, layAll, Act.put, List.setIfInBounds_toArray, List.set_cons_zero, List.set_cons_succ, Nat.zero_add, Nat.reduceAdd, e42]
    clear q42 e42
    have B8 := B7.trans (bw8.mono B7.size)
    go_wp2
    go_ret
    exact ⟨rfl, B8⟩
end Go.Proofs.Ytffoekgopooeaaa
