/- sentinellaw9.GuardFills: the walk. -/
import Derived.Test.YtffoekgopooeaaaGdReg
namespace Go.Proofs.Ytffoekgopooeaaa
set_option linter.unusedVariables false
set_option linter.unusedSimpArgs false
open Go.ChangeShapes Go.WideShapes Go.ChangeAt Go.RowKit Go.Shelf
set_option maxRecDepth 100000 in
set_option maxHeartbeats 16000000 in
theorem GuardFills_walk (a0 : Int) (hk0 : -9223372036854775808 ≤ a0) (hl0 : a0 < 9223372036854775808)
    (a1 : Int) (hk1 : -9223372036854775808 ≤ a1) (hl1 : a1 < 9223372036854775808) (w : World)  :
    Calls Try.prog 9 #[.int .i64 a0, .int .i64 a1] w fun e w' => e = .returned (.bool true) ∧ Below w.heap.size w w' := by
  go_enter Try.func9, Try.ntmps9
  go_wp2_with fail
  refine (known_any _).mono ?_
  rintro e w1 ⟨rfl, b1⟩
  obtain ⟨A, hA⟩ : ∃ x, Hid (a0 % 500 = x) := ⟨_, hid rfl⟩
  have A0 : 0 ≤ A := by have := hA.out; omega
  have A1 : A < 500 := by have := hA.out; omega
  obtain ⟨K, hK⟩ : ∃ x, Hid (a1 % 200 = x) := ⟨_, hid rfl⟩
  have K0 : 0 ≤ K := by have := hK.out; omega
  have K1 : K < 200 := by have := hK.out; omega
  go_wp2_with fail
  refine (bucket_any 0 a0 (by omega) (by omega) hk0 hl0 _).mono ?_
  rintro e w2 ⟨rfl, b2⟩
  rw [show (0 : Int) % 6 = 0 from rfl, hA.out]
  have B2 := step_trans b1 b2
  have z2 := Blk.new w2 28 #[.int .i64 0, .string ⟨#[]⟩, .slice none 0 0, .int .u32 0, .int .u32 0, .int .u32 0, .int .u32 0, .int .u32 0, .int .u32 0, .int .u32 0, .int .u32 0, .int .u32 0, .int .u32 0, .int .u32 0, .int .u32 0, .int .u32 0, .int .u32 0, .int .u32 0, .int .u32 0, .slice none 0 0, .int .i64 0, .int .i64 0, .int .i64 0]
  clear b1 b2 hA
  obtain ⟨X, hX⟩ : ∃ x, Hid (A + K = x) := ⟨_, hid rfl⟩
  have X0 : 0 ≤ X ∧ X < 9223372036854775808 := by have := hX.out; omega
  obtain ⟨P, hP⟩ : ∃ x, Hid (tokN 0 A X = x) := ⟨_, hid rfl⟩
  obtain ⟨Q, hQ⟩ : ∃ x, Hid (tokA 0 A X = x) := ⟨_, hid rfl⟩
  obtain ⟨D, hD⟩ : ∃ x, Hid (K / 10 = x) := ⟨_, hid rfl⟩
  have HF : Hid ((if D < 5 then D else 5) = P ∧ tokN 5 A X = 5 ∧ tokA 5 A X = X) := hid (by
    have h1 := tok_ways 0 A X
    have h2 := tok_ways 5 A X
    rw [hP.out, hQ.out] at h1
    have := hX.out
    have := hD.out
    refine ⟨?_, ?_, ?_⟩
    · split <;> omega
    · omega
    · omega)
  go_upto_region 4 with (refine wpList_store_blk rfl _ (.tmp 5) _ rfl _ rfl _ rfl (by simp [recA, Value.oneCell']) _ z2 rfl size_rec ?_; intro w3 g3 c3)
  have B3 := step_trans B2 (step_new g3)
  obtain ⟨g, hg⟩ : ∃ g, g = w2.heap.size := ⟨_, rfl⟩
  have G := hid hg
  have hgw := B2.size
  rw [← hg] at c3 hgw ⊢
  clear hg g3 z2 B2
  have k20 := c3.cell (k := 20) (v := .int .i64 0) rfl
  have f20 := c3.frozen 20
  go_upto_region 5 with fail
  have c4 := c3.set 20 (.int .i64 0) (c' := recA 1 ⟨#[117]⟩ 0 A 0) rfl
  have B4 := B3.setCell (p := ⟨g, 20, none⟩) hgw (.int .i64 0)
  clear k20 f20 c3 B3
  obtain ⟨w4, hw4⟩ : ∃ w4, Hid (w4 = w3.setCell ⟨g, 20, none⟩ (.int .i64 0)) := ⟨_, hid rfl⟩
  rw [← hw4.out] at c4 B4 ⊢
  clear hw4
  refine wp_region_stT [StK.eq (.agg (recA 1 ⟨#[117]⟩ 0 A 0)), StK.eq (.pointer (some ⟨g, 21, none⟩)), StK.eq (.int .i64 A), StK.eq (.int .i64 a1), StK.eq (.int .i64 K), StK.eq (.int .i64 X), StK.eq (.tuple #[.int .i64 P, .int .i64 Q]), StK.eq (.tuple #[.int .i64 P, .int .i64 Q]), StK.eq (.int .i64 P), StK.eq (.int .i64 Q), StK.eq (.int .i64 P), StK.eq (.int .i64 Q)] 12 55 rfl (by kernel_rfl) (by kernel_rfl) ⟨?_, ?_, ?_, ?_, ?_, ?_, ?_, ?_, ?_, ?_, ?_, ?_, trivial⟩ ?_
  · intro a w hb hd
    have e5 : a.eval (.tmp 5) = .pointer (some ⟨g, 0, none⟩) := hd 5 (by decide)
    exact hop_runK (F := (StK.eq (.agg (recA 1 ⟨#[117]⟩ 0 A 0))).F) (wanted_none rfl) _ (run_ldAll _ _ rfl e5 (c4.step hb) Try.underlying28 rfl size_rec) rfl
  · intro a w hb hd
    have e5 : a.eval (.tmp 5) = .pointer (some ⟨g, 0, none⟩) := hd 5 (by decide)
    exact hop_runK (F := (StK.eq (.pointer (some ⟨g, 21, none⟩))).F) (wanted_none rfl) _ (by unfold execOp; simp only [e5]; kernel_rfl) rfl
  · intro a w hb hd
    have e17 : a.eval (.tmp 17) = .pointer (some ⟨g, 21, none⟩) := hd 17 (by decide)
    exact hop_runK (F := (StK.eq (.int .i64 A)).F) (wanted_none rfl) _ (run_ldCell _ _ rfl e17 Try.underlying3 rfl ((c4.step hb).cell (k := 21) rfl)) rfl
  · intro a w hb hd
    have e1 : a.eval (.tmp 1) = .int .i64 a1 := hd 1 (by decide)
    exact hop_runK (F := (StK.eq (.int .i64 a1)).F) (wanted_none rfl) _ (run_mv _ (.inl rfl) e1) rfl
  · intro a w hb hd
    have e19 : a.eval (.tmp 19) = .int .i64 a1 := hd 19 (by decide)
    exact hop_callK (F := (StK.eq (.int .i64 K)).F) (wanted_none rfl) hb.size rfl #[a.eval (.tmp 19), .int .i64 200] (by first | (simp only [List.map_toArray, List.map_cons, List.map_nil]; done) | (simp only [List.map_toArray, List.map_cons, List.map_nil]; rfl)) (enters_of Try.func18 (by kernel_rfl) rfl) (by rw [e19]; exact call_eq (within_eq hK.out (by omega) (by omega) hk1 hl1 w))
  · intro a w hb hd
    have e18 : a.eval (.tmp 18) = .int .i64 A := hd 18 (by decide)
    have e20 : a.eval (.tmp 20) = .int .i64 K := hd 20 (by decide)
    exact hop_runK (F := (StK.eq (.int .i64 X)).F) (wanted_none rfl) _ (run_addI _ _ rfl e18 e20 hX.out (by omega) (by omega)) rfl
  · intro a w hb hd
    have e16 : a.eval (.tmp 16) = .agg (recA 1 ⟨#[117]⟩ 0 A 0) := hd 16 (by decide)
    have e21 : a.eval (.tmp 21) = .int .i64 X := hd 21 (by decide)
    exact hop_callK (F := (StK.eq (.tuple #[.int .i64 P, .int .i64 Q])).F) (wanted_none rfl) hb.size rfl #[a.eval (.tmp 16), a.eval (.tmp 21)] (by first | (simp only [List.map_toArray, List.map_cons, List.map_nil]; done) | (simp only [List.map_toArray, List.map_cons, List.map_nil]; rfl)) (enters_of Try.func19 (by kernel_rfl) rfl) (by rw [e16]; rw [e21]; exact call_eq (tokens_eq hP.out hQ.out (by omega) (by omega) A0 (by omega) X0.1 X0.2 w))
  · intro a w hb hd
    have e22 : a.eval (.tmp 22) = .tuple #[.int .i64 P, .int .i64 Q] := hd 22 (by decide)
    exact hop_runK (F := (StK.eq (.tuple #[.int .i64 P, .int .i64 Q])).F) (wanted_none rfl) _ (run_mv _ (.inl rfl) e22) rfl
  · intro a w hb hd
    have e15 : a.eval (.tmp 15) = .tuple #[.int .i64 P, .int .i64 Q] := hd 15 (by decide)
    exact hop_runK (F := (StK.eq (.int .i64 P)).F) (wanted_none rfl) _ (run_ext _ _ rfl e15 (vs := #[.int .i64 P, .int .i64 Q]) rfl) rfl
  · intro a w hb hd
    have e15 : a.eval (.tmp 15) = .tuple #[.int .i64 P, .int .i64 Q] := hd 15 (by decide)
    exact hop_runK (F := (StK.eq (.int .i64 Q)).F) (wanted_none rfl) _ (run_ext _ _ rfl e15 (vs := #[.int .i64 P, .int .i64 Q]) rfl) rfl
  · intro a w hb hd
    have e23 : a.eval (.tmp 23) = .int .i64 P := hd 23 (by decide)
    exact hop_runK (F := (StK.eq (.int .i64 P)).F) (wanted_none rfl) _ (run_mv _ (.inr rfl) e23) rfl
  · intro a w hb hd
    have e24 : a.eval (.tmp 24) = .int .i64 Q := hd 24 (by decide)
    exact hop_runK (F := (StK.eq (.int .i64 Q)).F) (wanted_none rfl) _ (run_mv _ (.inr rfl) e24) rfl
  intro pw5 w5 bw5 hp
  obtain ⟨-, -, -, -, -, -, -, -, -, -, q10, q11, -⟩ := hp
  have e10 : pw5 10 = .int .i64 P := q10 (by decide)
  have e11 : pw5 11 = .int .i64 Q := q11 (by decide)
  simp only [List.take_succ_cons, List.take_zero, List.drop_succ_cons, List.drop_zero, layAll, Act.put, List.setIfInBounds_toArray, List.set_cons_zero, List.set_cons_succ, Nat.zero_add, Nat.reduceAdd, e10, e11]
  clear q10 e10 q11 e11
  have c5 := c4.step bw5
  have B5 := B4.trans (bw5.mono B4.size)
  clear c4 B4 bw5
  have k20 := c5.cell (k := 20) (v := .int .i64 0) rfl
  have f20 := c5.frozen 20
  go_upto_region 7 with fail
  have c6 := c5.set 20 (.int .i64 5) (c' := recA 1 ⟨#[117]⟩ 5 A 0) rfl
  have B6 := B5.setCell (p := ⟨g, 20, none⟩) hgw (.int .i64 5)
  clear k20 f20 c5 B5
  obtain ⟨w6, hw6⟩ : ∃ w6, Hid (w6 = w5.setCell ⟨g, 20, none⟩ (.int .i64 5)) := ⟨_, hid rfl⟩
  rw [← hw6.out] at c6 B6 ⊢
  clear hw6
  refine wp_region_stT [StK.eq (.agg (recA 1 ⟨#[117]⟩ 5 A 0)), StK.eq (.pointer (some ⟨g, 21, none⟩)), StK.eq (.int .i64 A), StK.eq (.int .i64 a1), StK.eq (.int .i64 K), StK.eq (.int .i64 X), StK.eq (.tuple #[.int .i64 5, .int .i64 X]), StK.eq (.tuple #[.int .i64 5, .int .i64 X]), StK.eq (.int .i64 5), StK.eq (.int .i64 X), StK.eq (.int .i64 5), StK.eq (.int .i64 X)] 12 55 rfl (by kernel_rfl) (by kernel_rfl) ⟨?_, ?_, ?_, ?_, ?_, ?_, ?_, ?_, ?_, ?_, ?_, ?_, trivial⟩ ?_
  · intro a w hb hd
    have e5 : a.eval (.tmp 5) = .pointer (some ⟨g, 0, none⟩) := hd 5 (by decide)
    exact hop_runK (F := (StK.eq (.agg (recA 1 ⟨#[117]⟩ 5 A 0))).F) (wanted_none rfl) _ (run_ldAll _ _ rfl e5 (c6.step hb) Try.underlying28 rfl size_rec) rfl
  · intro a w hb hd
    have e5 : a.eval (.tmp 5) = .pointer (some ⟨g, 0, none⟩) := hd 5 (by decide)
    exact hop_runK (F := (StK.eq (.pointer (some ⟨g, 21, none⟩))).F) (wanted_none rfl) _ (by unfold execOp; simp only [e5]; kernel_rfl) rfl
  · intro a w hb hd
    have e28 : a.eval (.tmp 28) = .pointer (some ⟨g, 21, none⟩) := hd 28 (by decide)
    exact hop_runK (F := (StK.eq (.int .i64 A)).F) (wanted_none rfl) _ (run_ldCell _ _ rfl e28 Try.underlying3 rfl ((c6.step hb).cell (k := 21) rfl)) rfl
  · intro a w hb hd
    have e1 : a.eval (.tmp 1) = .int .i64 a1 := hd 1 (by decide)
    exact hop_runK (F := (StK.eq (.int .i64 a1)).F) (wanted_none rfl) _ (run_mv _ (.inl rfl) e1) rfl
  · intro a w hb hd
    have e30 : a.eval (.tmp 30) = .int .i64 a1 := hd 30 (by decide)
    exact hop_callK (F := (StK.eq (.int .i64 K)).F) (wanted_none rfl) hb.size rfl #[a.eval (.tmp 30), .int .i64 200] (by first | (simp only [List.map_toArray, List.map_cons, List.map_nil]; done) | (simp only [List.map_toArray, List.map_cons, List.map_nil]; rfl)) (enters_of Try.func18 (by kernel_rfl) rfl) (by rw [e30]; exact call_eq (within_eq hK.out (by omega) (by omega) hk1 hl1 w))
  · intro a w hb hd
    have e29 : a.eval (.tmp 29) = .int .i64 A := hd 29 (by decide)
    have e31 : a.eval (.tmp 31) = .int .i64 K := hd 31 (by decide)
    exact hop_runK (F := (StK.eq (.int .i64 X)).F) (wanted_none rfl) _ (run_addI _ _ rfl e29 e31 hX.out (by omega) (by omega)) rfl
  · intro a w hb hd
    have e27 : a.eval (.tmp 27) = .agg (recA 1 ⟨#[117]⟩ 5 A 0) := hd 27 (by decide)
    have e32 : a.eval (.tmp 32) = .int .i64 X := hd 32 (by decide)
    exact hop_callK (F := (StK.eq (.tuple #[.int .i64 5, .int .i64 X])).F) (wanted_none rfl) hb.size rfl #[a.eval (.tmp 27), a.eval (.tmp 32)] (by first | (simp only [List.map_toArray, List.map_cons, List.map_nil]; done) | (simp only [List.map_toArray, List.map_cons, List.map_nil]; rfl)) (enters_of Try.func19 (by kernel_rfl) rfl) (by rw [e27]; rw [e32]; exact call_eq (tokens_eq HF.out.2.1 HF.out.2.2 (by omega) (by omega) A0 (by omega) X0.1 X0.2 w))
  · intro a w hb hd
    have e33 : a.eval (.tmp 33) = .tuple #[.int .i64 5, .int .i64 X] := hd 33 (by decide)
    exact hop_runK (F := (StK.eq (.tuple #[.int .i64 5, .int .i64 X])).F) (wanted_none rfl) _ (run_mv _ (.inl rfl) e33) rfl
  · intro a w hb hd
    have e26 : a.eval (.tmp 26) = .tuple #[.int .i64 5, .int .i64 X] := hd 26 (by decide)
    exact hop_runK (F := (StK.eq (.int .i64 5)).F) (wanted_none rfl) _ (run_ext _ _ rfl e26 (vs := #[.int .i64 5, .int .i64 X]) rfl) rfl
  · intro a w hb hd
    have e26 : a.eval (.tmp 26) = .tuple #[.int .i64 5, .int .i64 X] := hd 26 (by decide)
    exact hop_runK (F := (StK.eq (.int .i64 X)).F) (wanted_none rfl) _ (run_ext _ _ rfl e26 (vs := #[.int .i64 5, .int .i64 X]) rfl) rfl
  · intro a w hb hd
    have e34 : a.eval (.tmp 34) = .int .i64 5 := hd 34 (by decide)
    exact hop_runK (F := (StK.eq (.int .i64 5)).F) (wanted_none rfl) _ (run_mv _ (.inr rfl) e34) rfl
  · intro a w hb hd
    have e35 : a.eval (.tmp 35) = .int .i64 X := hd 35 (by decide)
    exact hop_runK (F := (StK.eq (.int .i64 X)).F) (wanted_none rfl) _ (run_mv _ (.inr rfl) e35) rfl
  intro pw7 w7 bw7 hp
  obtain ⟨-, -, -, -, -, -, -, -, -, -, q10, q11, -⟩ := hp
  have e10 : pw7 10 = .int .i64 5 := q10 (by decide)
  have e11 : pw7 11 = .int .i64 X := q11 (by decide)
  simp only [List.take_succ_cons, List.take_zero, List.drop_succ_cons, List.drop_zero, layAll, Act.put, List.setIfInBounds_toArray, List.set_cons_zero, List.set_cons_succ, Nat.zero_add, Nat.reduceAdd, e10, e11]
  clear q10 e10 q11 e11
  have c7 := c6.step bw7
  have B7 := B6.trans (bw7.mono B6.size)
  clear c6 B6 bw7
  go_upto_region 8 with fail
  refine wp_region_stT [StK.eq (.int .i64 P), StK.eq (.int .i64 a1), StK.eq (.int .i64 K), StK.eq (.int .i64 D), StK.eq (.int .i64 P), StK.eq (.bool true), StK.eq (.bool true), StK.eq (.int .i64 5), StK.eq (.bool true), StK.eq (.bool true), StK.eq (.bool true), StK.eq (.int .i64 X), StK.eq (.pointer (some ⟨g, 21, none⟩)), StK.eq (.int .i64 A), StK.eq (.int .i64 a1), StK.eq (.int .i64 K), StK.eq (.int .i64 X), StK.eq (.bool true), StK.eq (.bool true), StK.eq (.bool true)] 20 55 rfl (by kernel_rfl) (by kernel_rfl) ⟨?_, ?_, ?_, ?_, ?_, ?_, ?_, ?_, ?_, ?_, ?_, ?_, ?_, ?_, ?_, ?_, ?_, ?_, ?_, ?_, trivial⟩ ?_
  · intro a w hb hd
    have e6 : a.eval (.tmp 6) = .int .i64 P := hd 6 (by decide)
    exact hop_runK (F := (StK.eq (.int .i64 P)).F) (wanted_none rfl) _ (run_mv _ (.inl rfl) e6) rfl
  · intro a w hb hd
    have e1 : a.eval (.tmp 1) = .int .i64 a1 := hd 1 (by decide)
    exact hop_runK (F := (StK.eq (.int .i64 a1)).F) (wanted_none rfl) _ (run_mv _ (.inl rfl) e1) rfl
  · intro a w hb hd
    have e37 : a.eval (.tmp 37) = .int .i64 a1 := hd 37 (by decide)
    exact hop_callK (F := (StK.eq (.int .i64 K)).F) (wanted_none rfl) hb.size rfl #[a.eval (.tmp 37), .int .i64 200] (by first | (simp only [List.map_toArray, List.map_cons, List.map_nil]; done) | (simp only [List.map_toArray, List.map_cons, List.map_nil]; rfl)) (enters_of Try.func18 (by kernel_rfl) rfl) (by rw [e37]; exact call_eq (within_eq hK.out (by omega) (by omega) hk1 hl1 w))
  · intro a w hb hd
    have e38 : a.eval (.tmp 38) = .int .i64 K := hd 38 (by decide)
    exact hop_runK (F := (StK.eq (.int .i64 D)).F) (wanted_none rfl) _ (run_quo10 _ _ rfl e38 rfl hD.out K0 (by omega)) rfl
  · intro a w hb hd
    have e39 : a.eval (.tmp 39) = .int .i64 D := hd 39 (by decide)
    exact hop_runK (F := (StK.eq (.int .i64 P)).F) (wanted_none rfl) _ (run_minI _ _ _ rfl rfl e39 HF.out.1) rfl
  · intro a w hb hd
    have e36 : a.eval (.tmp 36) = .int .i64 P := hd 36 (by decide)
    have e40 : a.eval (.tmp 40) = .int .i64 P := hd 40 (by decide)
    exact hop_runK (F := (StK.eq (.bool true)).F) (wanted_none rfl) _ (run_eqI _ _ rfl e36 e40 (b := true) (by simp)) rfl
  · intro a w hb hd
    have e41 : a.eval (.tmp 41) = .bool true := hd 41 (by decide)
    exact hop_runK (F := (StK.eq (.bool true)).F) (wanted_none rfl) _ (run_mv _ (.inl rfl) e41) rfl
  · intro a w hb hd
    have eg : a.eval (.tmp 42) = .bool true := hd 42 (by decide)
    have e8 : a.eval (.tmp 8) = .int .i64 5 := hd 8 (by decide)
    exact hop_runK (F := (StK.eq (.int .i64 5)).F) (wanted_yes rfl rfl rfl eg) _ (run_mv _ (.inl rfl) e8) rfl
  · intro a w hb hd
    have eg : a.eval (.tmp 42) = .bool true := hd 42 (by decide)
    have e43 : a.eval (.tmp 43) = .int .i64 5 := hd 43 (by decide)
    exact hop_runK (F := (StK.eq (.bool true)).F) (wanted_yes rfl rfl rfl eg) _ (run_eqI _ _ rfl e43 rfl (b := true) (by simp)) rfl
  · intro a w hb hd
    have e42 : a.eval (.tmp 42) = .bool true := hd 42 (by decide)
    have e44 : a.eval (.tmp 44) = .bool true := hd 44 (by decide)
    exact hop_runK (F := (StK.eq (.bool true)).F) (wanted_none rfl) _ (run_pick_t rfl e42 e44) rfl
  · intro a w hb hd
    have e45 : a.eval (.tmp 45) = .bool true := hd 45 (by decide)
    exact hop_runK (F := (StK.eq (.bool true)).F) (wanted_none rfl) _ (run_mv _ (.inl rfl) e45) rfl
  · intro a w hb hd
    have eg : a.eval (.tmp 46) = .bool true := hd 46 (by decide)
    have e9 : a.eval (.tmp 9) = .int .i64 X := hd 9 (by decide)
    exact hop_runK (F := (StK.eq (.int .i64 X)).F) (wanted_yes rfl rfl rfl eg) _ (run_mv _ (.inl rfl) e9) rfl
  · intro a w hb hd
    have eg : a.eval (.tmp 46) = .bool true := hd 46 (by decide)
    have e5 : a.eval (.tmp 5) = .pointer (some ⟨g, 0, none⟩) := hd 5 (by decide)
    exact hop_runK (F := (StK.eq (.pointer (some ⟨g, 21, none⟩))).F) (wanted_yes rfl rfl rfl eg) _ (by unfold execOp; simp only [e5]; kernel_rfl) rfl
  · intro a w hb hd
    have eg : a.eval (.tmp 46) = .bool true := hd 46 (by decide)
    have e48 : a.eval (.tmp 48) = .pointer (some ⟨g, 21, none⟩) := hd 48 (by decide)
    exact hop_runK (F := (StK.eq (.int .i64 A)).F) (wanted_yes rfl rfl rfl eg) _ (run_ldCell _ _ rfl e48 Try.underlying3 rfl ((c7.step hb).cell (k := 21) rfl)) rfl
  · intro a w hb hd
    have eg : a.eval (.tmp 46) = .bool true := hd 46 (by decide)
    have e1 : a.eval (.tmp 1) = .int .i64 a1 := hd 1 (by decide)
    exact hop_runK (F := (StK.eq (.int .i64 a1)).F) (wanted_yes rfl rfl rfl eg) _ (run_mv _ (.inl rfl) e1) rfl
  · intro a w hb hd
    have eg : a.eval (.tmp 46) = .bool true := hd 46 (by decide)
    have e50 : a.eval (.tmp 50) = .int .i64 a1 := hd 50 (by decide)
    exact hop_callK (F := (StK.eq (.int .i64 K)).F) (wanted_yes rfl rfl rfl eg) hb.size rfl #[a.eval (.tmp 50), .int .i64 200] (by first | (simp only [List.map_toArray, List.map_cons, List.map_nil]; done) | (simp only [List.map_toArray, List.map_cons, List.map_nil]; rfl)) (enters_of Try.func18 (by kernel_rfl) rfl) (by rw [e50]; exact call_eq (within_eq hK.out (by omega) (by omega) hk1 hl1 w))
  · intro a w hb hd
    have eg : a.eval (.tmp 46) = .bool true := hd 46 (by decide)
    have e49 : a.eval (.tmp 49) = .int .i64 A := hd 49 (by decide)
    have e51 : a.eval (.tmp 51) = .int .i64 K := hd 51 (by decide)
    exact hop_runK (F := (StK.eq (.int .i64 X)).F) (wanted_yes rfl rfl rfl eg) _ (run_addI _ _ rfl e49 e51 hX.out (by omega) (by omega)) rfl
  · intro a w hb hd
    have eg : a.eval (.tmp 46) = .bool true := hd 46 (by decide)
    have e47 : a.eval (.tmp 47) = .int .i64 X := hd 47 (by decide)
    have e52 : a.eval (.tmp 52) = .int .i64 X := hd 52 (by decide)
    exact hop_runK (F := (StK.eq (.bool true)).F) (wanted_yes rfl rfl rfl eg) _ (run_eqI _ _ rfl e47 e52 (b := true) (by simp)) rfl
  · intro a w hb hd
    have e46 : a.eval (.tmp 46) = .bool true := hd 46 (by decide)
    have e53 : a.eval (.tmp 53) = .bool true := hd 53 (by decide)
    exact hop_runK (F := (StK.eq (.bool true)).F) (wanted_none rfl) _ (run_pick_t rfl e46 e53) rfl
  · intro a w hb hd
    have e54 : a.eval (.tmp 54) = .bool true := hd 54 (by decide)
    exact hop_runK (F := (StK.eq (.bool true)).F) (wanted_none rfl) _ (run_mv _ (.inr rfl) e54) rfl
  intro pw8 w8 bw8 hp
  obtain ⟨-, -, -, -, -, -, -, -, -, -, -, -, -, -, -, -, -, -, -, q19, -⟩ := hp
  have e19 : pw8 19 = .bool true := q19 (by decide)
  simp only [List.take_succ_cons, List.take_zero, List.drop_succ_cons, List.drop_zero, layAll, Act.put, List.setIfInBounds_toArray, List.set_cons_zero, List.set_cons_succ, Nat.zero_add, Nat.reduceAdd, e19]
  clear q19 e19
  have B8 := B7.trans (bw8.mono B7.size)
  go_wp2
  go_ret
  exact ⟨rfl, B8⟩
end Go.Proofs.Ytffoekgopooeaaa
