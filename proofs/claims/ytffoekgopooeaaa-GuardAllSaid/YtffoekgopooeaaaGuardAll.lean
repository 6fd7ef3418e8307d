/- sentinellaw9.GuardAll: the walk. -/
import Derived.Test.YtffoekgopooeaaaGdReg
import Derived.Test.YtffoekgopooeaaaGdRecs
import Derived.Test.YtffoekgopooeaaaGenL
namespace Go.Proofs.Ytffoekgopooeaaa
set_option linter.unusedVariables false
set_option linter.unusedSimpArgs false
open Go.ChangeShapes Go.WideShapes Go.ChangeAt Go.RowKit Go.Shelf
theorem all_pack (N A T : Int) (N0 : 0 ≤ N) (N5 : N ≤ 5) (A0 : 0 ≤ A) (A1 : A < 9223372036854775808) (T0 : 0 ≤ T) (T1 : T < 9223372036854775808) :
    ∃ (TN TA m q p : Int) (s : ByteArray) (n a r : Int) (b : Bool), Hid (∀ w, Calls Try.prog 19 #[.agg (recA 1 ⟨#[117]⟩ N A 0), .int .i64 T] w fun e w' => e = .returned (.tuple #[.int .i64 TN, .int .i64 TA]) ∧ Below w.heap.size w w') ∧ Hid (∀ w, Calls Try.prog 20 #[.agg (recA 1 ⟨#[117]⟩ N A 0), .int .i64 T] w fun e w' => e = .returned (.tuple #[.int .i64 TN, .int .i64 TA]) ∧ Below w.heap.size w w') ∧ Hid (∀ w, Calls Try.prog 21 #[.agg (recA 1 ⟨#[117]⟩ N A 0), .int .i64 T] w fun e w' => e = .returned (.tuple #[.agg (recA p s n a r), .bool b]) ∧ Below w.heap.size w w') ∧ Hid (∀ w, Calls Try.prog 22 #[.agg (recA 1 ⟨#[117]⟩ N A 0), .int .i64 T] w fun e w' => e = .returned (.tuple #[.agg (recA p s n a r), .bool b]) ∧ Below w.heap.size w w') ∧ Hid (∀ w, Calls Try.prog 24 #[.agg (recA 1 ⟨#[117]⟩ N A 0), .int .i64 T] w fun e w' => e = .returned (.agg (recA 1 ⟨#[117]⟩ m q 0)) ∧ Below w.heap.size w w') ∧ Hid (∀ w, Calls Try.prog 25 #[.agg (recA 1 ⟨#[117]⟩ N A 0), .int .i64 T] w fun e w' => e = .returned (.agg (recA 1 ⟨#[117]⟩ m q 0)) ∧ Below w.heap.size w w') := by
  by_cases hz : tokN N A T = 0
  · exact ⟨_, _, _, _, _, _, _, _, _, _, hid fun w => tokens_any 1 ⟨#[117]⟩ N A 0 T N0 N5 A0 A1 T0 T1 w, hid fun w => rtokens_any 1 ⟨#[117]⟩ N A 0 T N0 N5 A0 A1 T0 T1 w, hid fun w => charge_none 1 ⟨#[117]⟩ N A 0 T N0 N5 A0 A1 T0 T1 hz w, hid fun w => rcharge_none 1 ⟨#[117]⟩ N A 0 T N0 N5 A0 A1 T0 T1 hz w, hid fun w => refund_any 1 ⟨#[117]⟩ N A 0 T N0 N5 A0 A1 T0 T1 w, hid fun w => rrefund_any 1 ⟨#[117]⟩ N A 0 T N0 N5 A0 A1 T0 T1 w⟩
  · exact ⟨_, _, _, _, _, _, _, _, _, _, hid fun w => tokens_any 1 ⟨#[117]⟩ N A 0 T N0 N5 A0 A1 T0 T1 w, hid fun w => rtokens_any 1 ⟨#[117]⟩ N A 0 T N0 N5 A0 A1 T0 T1 w, hid fun w => charge_some 1 ⟨#[117]⟩ N A 0 T N0 N5 A0 A1 T0 T1 hz w, hid fun w => rcharge_some 1 ⟨#[117]⟩ N A 0 T N0 N5 A0 A1 T0 T1 hz w, hid fun w => refund_any 1 ⟨#[117]⟩ N A 0 T N0 N5 A0 A1 T0 T1 w, hid fun w => rrefund_any 1 ⟨#[117]⟩ N A 0 T N0 N5 A0 A1 T0 T1 w⟩
set_option maxRecDepth 100000 in
set_option maxHeartbeats 16000000 in
theorem GuardAll_walk (a0 : Int) (hk0 : -9223372036854775808 ≤ a0) (hl0 : a0 < 9223372036854775808)
    (a1 : Int) (hk1 : -9223372036854775808 ≤ a1) (hl1 : a1 < 9223372036854775808)
    (a2 : Int) (hk2 : -9223372036854775808 ≤ a2) (hl2 : a2 < 9223372036854775808)
    (a3 : Int) (hk3 : -9223372036854775808 ≤ a3) (hl3 : a3 < 9223372036854775808) (w : World)  :
    Calls Try.prog 3 #[.int .i64 a0, .int .i64 a1, .int .i64 a2, .int .i64 a3] w fun e w' => e = .returned (.bool true) ∧ Below w.heap.size w w' := by
  go_enter Try.func3, Try.ntmps3
  go_wp2_with fail
  refine (known_any _).mono ?_
  rintro e w1 ⟨rfl, b1⟩
  obtain ⟨N, hN⟩ : ∃ x, Hid (a0 % 6 = x) := ⟨_, hid rfl⟩
  have N0 : 0 ≤ N := by have := hN.out; omega
  have N1 : N < 6 := by have := hN.out; omega
  obtain ⟨A, hA⟩ : ∃ x, Hid (a1 % 500 = x) := ⟨_, hid rfl⟩
  have A0 : 0 ≤ A := by have := hA.out; omega
  have A1 : A < 500 := by have := hA.out; omega
  go_wp2_with fail
  refine (bucket_any a0 a1 hk0 hl0 hk1 hl1 _).mono ?_
  rintro e w2 ⟨rfl, b2⟩
  rw [hN.out, hA.out]
  have B2 := step_trans b1 b2
  have z2 := Blk.new w2 28 #[.int .i64 0, .string ⟨#[]⟩, .slice none 0 0, .int .u32 0, .int .u32 0, .int .u32 0, .int .u32 0, .int .u32 0, .int .u32 0, .int .u32 0, .int .u32 0, .int .u32 0, .int .u32 0, .int .u32 0, .int .u32 0, .int .u32 0, .int .u32 0, .int .u32 0, .int .u32 0, .slice none 0 0, .int .i64 0, .int .i64 0, .int .i64 0]
  clear b1 b2 hN hA
  obtain ⟨X, hX⟩ : ∃ x, Hid (a2 % 700 = x) := ⟨_, hid rfl⟩
  have X0 : 0 ≤ X := by have := hX.out; omega
  have X1 : X < 700 := by have := hX.out; omega
  obtain ⟨Y, hY⟩ : ∃ x, Hid ((if a3 < 0 then 0 else a3) = x) := ⟨_, hid rfl⟩
  have Y0 : 0 ≤ Y ∧ Y < 9223372036854775808 := by have := hY.out; split at this <;> omega
  go_upto_region 4 with (refine wpList_store_blk rfl _ (.tmp 9) _ rfl _ rfl _ rfl (by simp [recA, Value.oneCell']) _ z2 rfl size_rec ?_; intro w3 g3 c3)
  have B3 := step_trans B2 (step_new g3)
  obtain ⟨g, hg⟩ : ∃ g, g = w2.heap.size := ⟨_, rfl⟩
  rw [← hg] at c3 ⊢
  clear z2 g3 B2 hg
  refine wp_region_stU [StK.eq (.int .i64 a2), StK.eq (.int .i64 X), StK.eq (.int .i64 a3), StK.eq (.int .i64 Y)] 4 105 rfl (by kernel_rfl) (by decide) ⟨?_, ?_, ?_, ?_, trivial⟩ ?_
  · intro a w hb hd
    have e2 : a.eval (.tmp 2) = .int .i64 a2 := hd 2 (by decide)
    exact hop_runK (F := (StK.eq (.int .i64 a2)).F) (wanted_none rfl) _ (run_mv _ (.inl rfl) e2) rfl
  · intro a w hb hd
    have e25 : a.eval (.tmp 25) = .int .i64 a2 := hd 25 (by decide)
    exact hop_callK (F := (StK.eq (.int .i64 X)).F) (wanted_none rfl) hb.size rfl #[a.eval (.tmp 25), .int .i64 700] (by first | (simp only [List.map_toArray, List.map_cons, List.map_nil]; done) | (simp only [List.map_toArray, List.map_cons, List.map_nil]; rfl)) (enters_of Try.func18 (by kernel_rfl) rfl) (by rw [e25]; exact call_eq (within_eq hX.out (by omega) (by omega) hk2 hl2 w))
  · intro a w hb hd
    have e3 : a.eval (.tmp 3) = .int .i64 a3 := hd 3 (by decide)
    exact hop_runK (F := (StK.eq (.int .i64 a3)).F) (wanted_none rfl) _ (run_mv _ (.inl rfl) e3) rfl
  · intro a w hb hd
    have e27 : a.eval (.tmp 27) = .int .i64 a3 := hd 27 (by decide)
    exact hop_runK (F := (StK.eq (.int .i64 Y)).F) (wanted_none rfl) _ (run_maxI _ _ _ rfl e27 rfl hY.out) rfl
  intro pw4 w4 bw4 hp
  obtain ⟨-, q1, -, q3, -⟩ := hp
  have e1 : pw4 1 = .int .i64 X := q1 (by decide)
  have e3 : pw4 3 = .int .i64 Y := q3 (by decide)
  simp only [List.take_succ_cons, List.take_zero, List.drop_succ_cons, List.drop_zero, layAll, Act.put, List.setIfInBounds_toArray, List.set_cons_zero, List.set_cons_succ, Nat.zero_add, Nat.reduceAdd, e1, e3]
  clear q1 e1 q3 e3
  have c4 := c3.step bw4
  have B4 := step_trans B3 bw4
  clear c3 B3 bw4
  go_wp2_with fail
  obtain ⟨w5, hw5⟩ : ∃ w5, w5 = w4.alloc (.cells #[.int .i64 X, .int .i64 Y] 3) := ⟨_, rfl⟩
  have d5 : Blk w5 w4.heap.size 3 #[.int .i64 X, .int .i64 Y] := by rw [hw5]; exact Blk.new _ _ _
  have c5 : Blk w5 g 28 (recA 1 ⟨#[117]⟩ N A 0) := by rw [hw5]; exact c4.alloc _
  have B5 : Below w.heap.size w w5 := by rw [hw5]; exact step_trans B4 (step_alloc _ _)
  rw [← hw5]
  obtain ⟨gl, hgl⟩ : ∃ gl, gl = w4.heap.size := ⟨_, rfl⟩
  rw [← hgl] at d5 ⊢
  clear hw5 hgl c4 B4
  go_loopw [11] (fun i wr => ∃ q : Int, (q = 0 ∨ q = 1 ∨ q = 2) ∧ i = .int .i64 q ∧ Blk wr g 28 (recA 1 ⟨#[117]⟩ N A 0) ∧ Blk wr gl 3 #[.int .i64 X, .int .i64 Y] ∧ Below w.heap.size w wr) (fun i _ => 2 - (intOf i).toNat)
  case atStart => exact ⟨0, .inl rfl, rfl, c5, d5, B5⟩
  case round =>
    obtain ⟨q, hq, rfl, hrc, hli, hB⟩ := hrel
    clear c5 d5 B5
    rcases hq with rfl | rfl | rfl
    · obtain ⟨TN, TA, m, q, p, s, n, a6, r6, b, h1, h2, h3, h4, h5, h6⟩ := all_pack N A X N0 (by omega) A0 (by omega) X0 (by omega)
      go_upto_region 8 with fail
      refine wp_region_stT [StK.eq (.agg (recA 1 ⟨#[117]⟩ N A 0)), StK.eq (.slice (some ⟨gl, 0, none⟩) 2 2), StK.eq (.int .i64 0), StK.eq (.pointer (some ⟨gl, 0, none⟩)), StK.eq (.int .i64 X), StK.eq (.tuple #[.int .i64 TN, .int .i64 TA]), StK.eq (.tuple #[.int .i64 TN, .int .i64 TA]), StK.eq (.int .i64 TN), StK.eq (.int .i64 TA), StK.eq (.int .i64 TN), StK.eq (.int .i64 TA)] 11 105 rfl (by kernel_rfl) (by kernel_rfl) ⟨?_, ?_, ?_, ?_, ?_, ?_, ?_, ?_, ?_, ?_, ?_, trivial⟩ ?_
      · intro a w hb hd
        have e9 : a.eval (.tmp 9) = .pointer (some ⟨g, 0, none⟩) := hd 9 (by decide)
        exact hop_runK (F := (StK.eq (.agg (recA 1 ⟨#[117]⟩ N A 0))).F) (wanted_none rfl) _ (run_ldAll _ _ rfl e9 (hrc.step hb) Try.underlying28 rfl size_rec) rfl
      · intro a w hb hd
        have e10 : a.eval (.tmp 10) = .slice (some ⟨gl, 0, none⟩) 2 2 := hd 10 (by decide)
        exact hop_runK (F := (StK.eq (.slice (some ⟨gl, 0, none⟩) 2 2)).F) (wanted_none rfl) _ (run_mv _ (.inl rfl) e10) rfl
      · intro a w hb hd
        have e11 : a.eval (.tmp 11) = .int .i64 0 := hd 11 (by decide)
        exact hop_runK (F := (StK.eq (.int .i64 0)).F) (wanted_none rfl) _ (run_mv _ (.inl rfl) e11) rfl
      · intro a w hb hd
        have e36 : a.eval (.tmp 36) = .slice (some ⟨gl, 0, none⟩) 2 2 := hd 36 (by decide)
        have e37 : a.eval (.tmp 37) = .int .i64 0 := hd 37 (by decide)
        exact hop_runK (F := (StK.eq (.pointer (some ⟨gl, 0, none⟩))).F) (wanted_none rfl) _ (by unfold execOp; simp only [e36, e37]; kernel_rfl) rfl
      · intro a w hb hd
        have e38 : a.eval (.tmp 38) = .pointer (some ⟨gl, 0, none⟩) := hd 38 (by decide)
        exact hop_runK (F := (StK.eq (.int .i64 X)).F) (wanted_none rfl) _ (run_ldCell _ _ rfl e38 Try.underlying3 rfl ((hli.step hb).cell (k := 0) rfl)) rfl
      · intro a w hb hd
        have e35 : a.eval (.tmp 35) = .agg (recA 1 ⟨#[117]⟩ N A 0) := hd 35 (by decide)
        have e39 : a.eval (.tmp 39) = .int .i64 X := hd 39 (by decide)
        exact hop_callK (F := (StK.eq (.tuple #[.int .i64 TN, .int .i64 TA])).F) (wanted_none rfl) hb.size rfl #[a.eval (.tmp 35), a.eval (.tmp 39)] (by first | (simp only [List.map_toArray, List.map_cons, List.map_nil]; done) | (simp only [List.map_toArray, List.map_cons, List.map_nil]; rfl)) (enters_of Try.func19 (by kernel_rfl) rfl) (by rw [e35]; rw [e39]; exact call_eq (h1.out w))
      · intro a w hb hd
        have e40 : a.eval (.tmp 40) = .tuple #[.int .i64 TN, .int .i64 TA] := hd 40 (by decide)
        exact hop_runK (F := (StK.eq (.tuple #[.int .i64 TN, .int .i64 TA])).F) (wanted_none rfl) _ (run_mv _ (.inl rfl) e40) rfl
      · intro a w hb hd
        have e34 : a.eval (.tmp 34) = .tuple #[.int .i64 TN, .int .i64 TA] := hd 34 (by decide)
        exact hop_runK (F := (StK.eq (.int .i64 TN)).F) (wanted_none rfl) _ (run_ext _ _ rfl e34 (vs := #[.int .i64 TN, .int .i64 TA]) rfl) rfl
      · intro a w hb hd
        have e34 : a.eval (.tmp 34) = .tuple #[.int .i64 TN, .int .i64 TA] := hd 34 (by decide)
        exact hop_runK (F := (StK.eq (.int .i64 TA)).F) (wanted_none rfl) _ (run_ext _ _ rfl e34 (vs := #[.int .i64 TN, .int .i64 TA]) rfl) rfl
      · intro a w hb hd
        have e41 : a.eval (.tmp 41) = .int .i64 TN := hd 41 (by decide)
        exact hop_runK (F := (StK.eq (.int .i64 TN)).F) (wanted_none rfl) _ (run_mv _ (.inr rfl) e41) rfl
      · intro a w hb hd
        have e42 : a.eval (.tmp 42) = .int .i64 TA := hd 42 (by decide)
        exact hop_runK (F := (StK.eq (.int .i64 TA)).F) (wanted_none rfl) _ (run_mv _ (.inr rfl) e42) rfl
      intro pwa wa bwa hp
      obtain ⟨-, -, -, -, -, -, -, -, -, q9, q10, -⟩ := hp
      have e9 : pwa 9 = .int .i64 TN := q9 (by decide)
      have e10 : pwa 10 = .int .i64 TA := q10 (by decide)
      simp only [List.take_succ_cons, List.take_zero, List.drop_succ_cons, List.drop_zero, layAll, Act.put, List.setIfInBounds_toArray, List.set_cons_zero, List.set_cons_succ, Nat.zero_add, Nat.reduceAdd, e9, e10]
      clear q9 e9 q10 e10
      have nwac := hrc.step bwa
      have nwad := hli.step bwa
      have nwaB := hB.trans (bwa.mono hB.size)
      clear hrc hli hB bwa
      go_upto_region 9 with fail
      refine wp_region_stT [StK.eq (.agg (recA 1 ⟨#[117]⟩ N A 0)), StK.eq (.slice (some ⟨gl, 0, none⟩) 2 2), StK.eq (.int .i64 0), StK.eq (.pointer (some ⟨gl, 0, none⟩)), StK.eq (.int .i64 X), StK.eq (.tuple #[.int .i64 TN, .int .i64 TA]), StK.eq (.tuple #[.int .i64 TN, .int .i64 TA]), StK.eq (.int .i64 TN), StK.eq (.int .i64 TA), StK.eq (.int .i64 TN), StK.eq (.int .i64 TA)] 11 105 rfl (by kernel_rfl) (by kernel_rfl) ⟨?_, ?_, ?_, ?_, ?_, ?_, ?_, ?_, ?_, ?_, ?_, trivial⟩ ?_
      · intro a w hb hd
        have e9 : a.eval (.tmp 9) = .pointer (some ⟨g, 0, none⟩) := hd 9 (by decide)
        exact hop_runK (F := (StK.eq (.agg (recA 1 ⟨#[117]⟩ N A 0))).F) (wanted_none rfl) _ (run_ldAll _ _ rfl e9 (nwac.step hb) Try.underlying28 rfl size_rec) rfl
      · intro a w hb hd
        have e10 : a.eval (.tmp 10) = .slice (some ⟨gl, 0, none⟩) 2 2 := hd 10 (by decide)
        exact hop_runK (F := (StK.eq (.slice (some ⟨gl, 0, none⟩) 2 2)).F) (wanted_none rfl) _ (run_mv _ (.inl rfl) e10) rfl
      · intro a w hb hd
        have e11 : a.eval (.tmp 11) = .int .i64 0 := hd 11 (by decide)
        exact hop_runK (F := (StK.eq (.int .i64 0)).F) (wanted_none rfl) _ (run_mv _ (.inl rfl) e11) rfl
      · intro a w hb hd
        have e45 : a.eval (.tmp 45) = .slice (some ⟨gl, 0, none⟩) 2 2 := hd 45 (by decide)
        have e46 : a.eval (.tmp 46) = .int .i64 0 := hd 46 (by decide)
        exact hop_runK (F := (StK.eq (.pointer (some ⟨gl, 0, none⟩))).F) (wanted_none rfl) _ (by unfold execOp; simp only [e45, e46]; kernel_rfl) rfl
      · intro a w hb hd
        have e47 : a.eval (.tmp 47) = .pointer (some ⟨gl, 0, none⟩) := hd 47 (by decide)
        exact hop_runK (F := (StK.eq (.int .i64 X)).F) (wanted_none rfl) _ (run_ldCell _ _ rfl e47 Try.underlying3 rfl ((nwad.step hb).cell (k := 0) rfl)) rfl
      · intro a w hb hd
        have e44 : a.eval (.tmp 44) = .agg (recA 1 ⟨#[117]⟩ N A 0) := hd 44 (by decide)
        have e48 : a.eval (.tmp 48) = .int .i64 X := hd 48 (by decide)
        exact hop_callK (F := (StK.eq (.tuple #[.int .i64 TN, .int .i64 TA])).F) (wanted_none rfl) hb.size rfl #[a.eval (.tmp 44), a.eval (.tmp 48)] (by first | (simp only [List.map_toArray, List.map_cons, List.map_nil]; done) | (simp only [List.map_toArray, List.map_cons, List.map_nil]; rfl)) (enters_of Try.func20 (by kernel_rfl) rfl) (by rw [e44]; rw [e48]; exact call_eq (h2.out w))
      · intro a w hb hd
        have e49 : a.eval (.tmp 49) = .tuple #[.int .i64 TN, .int .i64 TA] := hd 49 (by decide)
        exact hop_runK (F := (StK.eq (.tuple #[.int .i64 TN, .int .i64 TA])).F) (wanted_none rfl) _ (run_mv _ (.inl rfl) e49) rfl
      · intro a w hb hd
        have e43 : a.eval (.tmp 43) = .tuple #[.int .i64 TN, .int .i64 TA] := hd 43 (by decide)
        exact hop_runK (F := (StK.eq (.int .i64 TN)).F) (wanted_none rfl) _ (run_ext _ _ rfl e43 (vs := #[.int .i64 TN, .int .i64 TA]) rfl) rfl
      · intro a w hb hd
        have e43 : a.eval (.tmp 43) = .tuple #[.int .i64 TN, .int .i64 TA] := hd 43 (by decide)
        exact hop_runK (F := (StK.eq (.int .i64 TA)).F) (wanted_none rfl) _ (run_ext _ _ rfl e43 (vs := #[.int .i64 TN, .int .i64 TA]) rfl) rfl
      · intro a w hb hd
        have e50 : a.eval (.tmp 50) = .int .i64 TN := hd 50 (by decide)
        exact hop_runK (F := (StK.eq (.int .i64 TN)).F) (wanted_none rfl) _ (run_mv _ (.inr rfl) e50) rfl
      · intro a w hb hd
        have e51 : a.eval (.tmp 51) = .int .i64 TA := hd 51 (by decide)
        exact hop_runK (F := (StK.eq (.int .i64 TA)).F) (wanted_none rfl) _ (run_mv _ (.inr rfl) e51) rfl
      intro pwb wb bwb hp
      obtain ⟨-, -, -, -, -, -, -, -, -, q9, q10, -⟩ := hp
      have e9 : pwb 9 = .int .i64 TN := q9 (by decide)
      have e10 : pwb 10 = .int .i64 TA := q10 (by decide)
      simp only [List.take_succ_cons, List.take_zero, List.drop_succ_cons, List.drop_zero, layAll, Act.put, List.setIfInBounds_toArray, List.set_cons_zero, List.set_cons_succ, Nat.zero_add, Nat.reduceAdd, e9, e10]
      clear q9 e9 q10 e10
      have nwbc := nwac.step bwb
      have nwbd := nwad.step bwb
      have nwbB := nwaB.trans (bwb.mono nwaB.size)
      clear nwac nwad nwaB bwb
      go_upto_region 10 with fail
      have hL16 := nwbc.lt
      have hM16 := nwbd.lt
      have hN16 := nwbB.size
      refine wp_region_stL [StK.eq (.agg (recA 1 ⟨#[117]⟩ N A 0)), StK.eq (.slice (some ⟨gl, 0, none⟩) 2 2), StK.eq (.int .i64 0), StK.eq (.pointer (some ⟨gl, 0, none⟩)), StK.eq (.int .i64 X), StK.eq (.tuple #[.agg (recA p s n a6 r6), .bool b]), StK.eq (.tuple #[.agg (recA p s n a6 r6), .bool b]), StK.eq (.agg (recA p s n a6 r6)), StK.eq (.bool b), StK.new wb.heap.size (#[.int .i64 0, .string ⟨#[]⟩, .slice none 0 0, .int .u32 0, .int .u32 0, .int .u32 0, .int .u32 0, .int .u32 0, .int .u32 0, .int .u32 0, .int .u32 0, .int .u32 0, .int .u32 0, .int .u32 0, .int .u32 0, .int .u32 0, .int .u32 0, .int .u32 0, .int .u32 0, .slice none 0 0, .int .i64 0, .int .i64 0, .int .i64 0]) 28 (by decide)] 10 105 8 52 1 6 #[.agg (recA p s n a6 r6), .bool b] (.bool b) rfl (by kernel_rfl) (by kernel_rfl) rfl (by kernel_rfl) (fun _ _ h => h) rfl (fun _ _ => Iff.rfl) rfl ⟨?_, ?_, ?_, ?_, ?_, ?_, ?_, ?_, ?_, ?_, trivial⟩ ?_
      · intro a w hb hd
        have e9 : a.eval (.tmp 9) = .pointer (some ⟨g, 0, none⟩) := hd 9 (by decide)
        exact hop_runK (F := (StK.eq (.agg (recA 1 ⟨#[117]⟩ N A 0))).F) (wanted_none rfl) _ (run_ldAll _ _ rfl e9 (nwbc.step hb) Try.underlying28 rfl size_rec) rfl
      · intro a w hb hd
        have e10 : a.eval (.tmp 10) = .slice (some ⟨gl, 0, none⟩) 2 2 := hd 10 (by decide)
        exact hop_runK (F := (StK.eq (.slice (some ⟨gl, 0, none⟩) 2 2)).F) (wanted_none rfl) _ (run_mv _ (.inl rfl) e10) rfl
      · intro a w hb hd
        have e11 : a.eval (.tmp 11) = .int .i64 0 := hd 11 (by decide)
        exact hop_runK (F := (StK.eq (.int .i64 0)).F) (wanted_none rfl) _ (run_mv _ (.inl rfl) e11) rfl
      · intro a w hb hd
        have e54 : a.eval (.tmp 54) = .slice (some ⟨gl, 0, none⟩) 2 2 := hd 54 (by decide)
        have e55 : a.eval (.tmp 55) = .int .i64 0 := hd 55 (by decide)
        exact hop_runK (F := (StK.eq (.pointer (some ⟨gl, 0, none⟩))).F) (wanted_none rfl) _ (by unfold execOp; simp only [e54, e55]; kernel_rfl) rfl
      · intro a w hb hd
        have e56 : a.eval (.tmp 56) = .pointer (some ⟨gl, 0, none⟩) := hd 56 (by decide)
        exact hop_runK (F := (StK.eq (.int .i64 X)).F) (wanted_none rfl) _ (run_ldCell _ _ rfl e56 Try.underlying3 rfl ((nwbd.step hb).cell (k := 0) rfl)) rfl
      · intro a w hb hd
        have e53 : a.eval (.tmp 53) = .agg (recA 1 ⟨#[117]⟩ N A 0) := hd 53 (by decide)
        have e57 : a.eval (.tmp 57) = .int .i64 X := hd 57 (by decide)
        exact hop_callK (F := (StK.eq (.tuple #[.agg (recA p s n a6 r6), .bool b])).F) (wanted_none rfl) hb.size rfl #[a.eval (.tmp 53), a.eval (.tmp 57)] (by first | (simp only [List.map_toArray, List.map_cons, List.map_nil]; done) | (simp only [List.map_toArray, List.map_cons, List.map_nil]; rfl)) (enters_of Try.func21 (by kernel_rfl) rfl) (by rw [e53]; rw [e57]; exact call_eq (h3.out w))
      · intro a w hb hd
        have e58 : a.eval (.tmp 58) = .tuple #[.agg (recA p s n a6 r6), .bool b] := hd 58 (by decide)
        exact hop_runK (F := (StK.eq (.tuple #[.agg (recA p s n a6 r6), .bool b])).F) (wanted_none rfl) _ (run_mv _ (.inl rfl) e58) rfl
      · intro a w hb hd
        have e52 : a.eval (.tmp 52) = .tuple #[.agg (recA p s n a6 r6), .bool b] := hd 52 (by decide)
        exact hop_runK (F := (StK.eq (.agg (recA p s n a6 r6))).F) (wanted_none rfl) _ (run_ext _ _ rfl e52 (vs := #[.agg (recA p s n a6 r6), .bool b]) rfl) rfl
      · intro a w hb hd
        have e52 : a.eval (.tmp 52) = .tuple #[.agg (recA p s n a6 r6), .bool b] := hd 52 (by decide)
        exact hop_runK (F := (StK.eq (.bool b)).F) (wanted_none rfl) _ (run_ext _ _ rfl e52 (vs := #[.agg (recA p s n a6 r6), .bool b]) rfl) rfl
      · intro a w hb hd
        exact hop_new (wanted_none rfl) hb.size hb.size (by decide) (rec_newB rfl)
      intro pwc wc bwc hp
      obtain ⟨-, -, -, -, -, -, -, q7, q8, q9, -⟩ := hp
      have e7 : pwc 7 = .agg (recA p s n a6 r6) := q7 (by decide)
      have e8 : pwc 8 = .bool b := q8 (by decide)
      obtain ⟨g16, e9, hg16, c16⟩ := q9 (by decide)
      simp only [List.take_succ_cons, List.take_zero, List.drop_succ_cons, List.drop_zero, layAll, Act.put, List.setIfInBounds_toArray, List.set_cons_zero, List.set_cons_succ, Nat.zero_add, Nat.reduceAdd, e7, e8, show pwc 9 = .pointer (some ⟨g16, 0, none⟩) from e9]
      clear q7 e7 q8 e8 e9
      have nwcc := nwbc.step bwc
      have nwcd := nwbd.step bwc
      have nwcB := nwbB.trans (bwc.mono nwbB.size)
      clear nwbc nwbd nwbB bwc
      have Z16 : Blk wc g16 28 #[.int .i64 0, .string ⟨#[]⟩, .slice none 0 0, .int .u32 0, .int .u32 0, .int .u32 0, .int .u32 0, .int .u32 0, .int .u32 0, .int .u32 0, .int .u32 0, .int .u32 0, .int .u32 0, .int .u32 0, .int .u32 0, .int .u32 0, .int .u32 0, .int .u32 0, .int .u32 0, .slice none 0 0, .int .i64 0, .int .i64 0, .int .i64 0] := c16
      refine store_then 28 (.tmp 16) (.tmp 59) rfl _ rfl _ rfl (by simp [recA, Value.oneCell']) _ Z16 rfl size_rec ?_
      intro w16 G16 C16
      have k16c := nwcc.grown G16 (ne_some (by omega))
      have k16d := nwcd.grown G16 (ne_some (by omega))
      have k16B := below_of_grown nwcB G16 nwcB.size (by omega)
      clear nwcc nwcd nwcB G16 Z16 c16 hL16 hM16 hN16 hg16
      go_upto_region 11 with fail
      have hL18 := k16c.lt
      have hM18 := k16d.lt
      have hN18 := k16B.size
      have hO18 := C16.lt
      refine wp_region_stL [StK.eq (.agg (recA 1 ⟨#[117]⟩ N A 0)), StK.eq (.slice (some ⟨gl, 0, none⟩) 2 2), StK.eq (.int .i64 0), StK.eq (.pointer (some ⟨gl, 0, none⟩)), StK.eq (.int .i64 X), StK.eq (.tuple #[.agg (recA p s n a6 r6), .bool b]), StK.eq (.tuple #[.agg (recA p s n a6 r6), .bool b]), StK.eq (.agg (recA p s n a6 r6)), StK.eq (.bool b), StK.new w16.heap.size (#[.int .i64 0, .string ⟨#[]⟩, .slice none 0 0, .int .u32 0, .int .u32 0, .int .u32 0, .int .u32 0, .int .u32 0, .int .u32 0, .int .u32 0, .int .u32 0, .int .u32 0, .int .u32 0, .int .u32 0, .int .u32 0, .int .u32 0, .int .u32 0, .int .u32 0, .int .u32 0, .slice none 0 0, .int .i64 0, .int .i64 0, .int .i64 0]) 28 (by decide)] 10 105 8 61 1 6 #[.agg (recA p s n a6 r6), .bool b] (.bool b) rfl (by kernel_rfl) (by kernel_rfl) rfl (by kernel_rfl) (fun _ _ h => h) rfl (fun _ _ => Iff.rfl) rfl ⟨?_, ?_, ?_, ?_, ?_, ?_, ?_, ?_, ?_, ?_, trivial⟩ ?_
      · intro a w hb hd
        have e9 : a.eval (.tmp 9) = .pointer (some ⟨g, 0, none⟩) := hd 9 (by decide)
        exact hop_runK (F := (StK.eq (.agg (recA 1 ⟨#[117]⟩ N A 0))).F) (wanted_none rfl) _ (run_ldAll _ _ rfl e9 (k16c.step hb) Try.underlying28 rfl size_rec) rfl
      · intro a w hb hd
        have e10 : a.eval (.tmp 10) = .slice (some ⟨gl, 0, none⟩) 2 2 := hd 10 (by decide)
        exact hop_runK (F := (StK.eq (.slice (some ⟨gl, 0, none⟩) 2 2)).F) (wanted_none rfl) _ (run_mv _ (.inl rfl) e10) rfl
      · intro a w hb hd
        have e11 : a.eval (.tmp 11) = .int .i64 0 := hd 11 (by decide)
        exact hop_runK (F := (StK.eq (.int .i64 0)).F) (wanted_none rfl) _ (run_mv _ (.inl rfl) e11) rfl
      · intro a w hb hd
        have e63 : a.eval (.tmp 63) = .slice (some ⟨gl, 0, none⟩) 2 2 := hd 63 (by decide)
        have e64 : a.eval (.tmp 64) = .int .i64 0 := hd 64 (by decide)
        exact hop_runK (F := (StK.eq (.pointer (some ⟨gl, 0, none⟩))).F) (wanted_none rfl) _ (by unfold execOp; simp only [e63, e64]; kernel_rfl) rfl
      · intro a w hb hd
        have e65 : a.eval (.tmp 65) = .pointer (some ⟨gl, 0, none⟩) := hd 65 (by decide)
        exact hop_runK (F := (StK.eq (.int .i64 X)).F) (wanted_none rfl) _ (run_ldCell _ _ rfl e65 Try.underlying3 rfl ((k16d.step hb).cell (k := 0) rfl)) rfl
      · intro a w hb hd
        have e62 : a.eval (.tmp 62) = .agg (recA 1 ⟨#[117]⟩ N A 0) := hd 62 (by decide)
        have e66 : a.eval (.tmp 66) = .int .i64 X := hd 66 (by decide)
        exact hop_callK (F := (StK.eq (.tuple #[.agg (recA p s n a6 r6), .bool b])).F) (wanted_none rfl) hb.size rfl #[a.eval (.tmp 62), a.eval (.tmp 66)] (by first | (simp only [List.map_toArray, List.map_cons, List.map_nil]; done) | (simp only [List.map_toArray, List.map_cons, List.map_nil]; rfl)) (enters_of Try.func22 (by kernel_rfl) rfl) (by rw [e62]; rw [e66]; exact call_eq (h4.out w))
      · intro a w hb hd
        have e67 : a.eval (.tmp 67) = .tuple #[.agg (recA p s n a6 r6), .bool b] := hd 67 (by decide)
        exact hop_runK (F := (StK.eq (.tuple #[.agg (recA p s n a6 r6), .bool b])).F) (wanted_none rfl) _ (run_mv _ (.inl rfl) e67) rfl
      · intro a w hb hd
        have e61 : a.eval (.tmp 61) = .tuple #[.agg (recA p s n a6 r6), .bool b] := hd 61 (by decide)
        exact hop_runK (F := (StK.eq (.agg (recA p s n a6 r6))).F) (wanted_none rfl) _ (run_ext _ _ rfl e61 (vs := #[.agg (recA p s n a6 r6), .bool b]) rfl) rfl
      · intro a w hb hd
        have e61 : a.eval (.tmp 61) = .tuple #[.agg (recA p s n a6 r6), .bool b] := hd 61 (by decide)
        exact hop_runK (F := (StK.eq (.bool b)).F) (wanted_none rfl) _ (run_ext _ _ rfl e61 (vs := #[.agg (recA p s n a6 r6), .bool b]) rfl) rfl
      · intro a w hb hd
        exact hop_new (wanted_none rfl) hb.size hb.size (by decide) (rec_newB rfl)
      intro pwd wd bwd hp
      obtain ⟨-, -, -, -, -, -, -, q7, q8, q9, -⟩ := hp
      have e7 : pwd 7 = .agg (recA p s n a6 r6) := q7 (by decide)
      have e8 : pwd 8 = .bool b := q8 (by decide)
      obtain ⟨g18, e9, hg18, c18⟩ := q9 (by decide)
      simp only [List.take_succ_cons, List.take_zero, List.drop_succ_cons, List.drop_zero, layAll, Act.put, List.setIfInBounds_toArray, List.set_cons_zero, List.set_cons_succ, Nat.zero_add, Nat.reduceAdd, e7, e8, show pwd 9 = .pointer (some ⟨g18, 0, none⟩) from e9]
      clear q7 e7 q8 e8 e9
      have nwdc := k16c.step bwd
      have nwdd := k16d.step bwd
      have nwdB := k16B.trans (bwd.mono k16B.size)
      have p16wd := C16.step bwd
      clear k16c k16d k16B bwd C16
      have Z18 : Blk wd g18 28 #[.int .i64 0, .string ⟨#[]⟩, .slice none 0 0, .int .u32 0, .int .u32 0, .int .u32 0, .int .u32 0, .int .u32 0, .int .u32 0, .int .u32 0, .int .u32 0, .int .u32 0, .int .u32 0, .int .u32 0, .int .u32 0, .int .u32 0, .int .u32 0, .int .u32 0, .int .u32 0, .slice none 0 0, .int .i64 0, .int .i64 0, .int .i64 0] := c18
      refine store_then 28 (.tmp 18) (.tmp 68) rfl _ rfl _ rfl (by simp [recA, Value.oneCell']) _ Z18 rfl size_rec ?_
      intro w18 G18 C18
      have k18c := nwdc.grown G18 (ne_some (by omega))
      have k18d := nwdd.grown G18 (ne_some (by omega))
      have k18B := below_of_grown nwdB G18 nwdB.size (by omega)
      have k18p := p16wd.grown G18 (ne_some (by omega))
      clear nwdc nwdd nwdB G18 Z18 c18 hL18 hM18 hN18 hg18 p16wd hO18
      go_upto_region 12 with fail
      refine wp_region_stT [StK.eq (.int .i64 TN), StK.eq (.int .i64 TN), StK.eq (.bool false), StK.eq (.bool false), StK.eq (.int .i64 TA), StK.eq (.int .i64 TA), StK.eq (.bool false), StK.eq (.bool false), StK.eq (.bool false), StK.eq (.bool b), StK.eq (.bool b), StK.eq (.bool false), StK.eq (.bool false), StK.eq (.bool false), StK.eq (.agg (recA p s n a6 r6)), StK.eq (.agg (recA p s n a6 r6)), StK.eq (.bool true), StK.eq (.bool false), StK.eq (.bool false), StK.eq (.bool false), StK.eq (.agg (recA 1 ⟨#[117]⟩ N A 0)), StK.eq (.slice (some ⟨gl, 0, none⟩) 2 2), StK.eq (.int .i64 0), StK.eq (.pointer (some ⟨gl, 0, none⟩)), StK.eq (.int .i64 X), StK.eq (.agg (recA 1 ⟨#[117]⟩ m q 0)), StK.eq (.agg (recA 1 ⟨#[117]⟩ N A 0)), StK.eq (.slice (some ⟨gl, 0, none⟩) 2 2), StK.eq (.int .i64 0), StK.eq (.pointer (some ⟨gl, 0, none⟩)), StK.eq (.int .i64 X), StK.eq (.agg (recA 1 ⟨#[117]⟩ m q 0)), StK.eq (.bool true), StK.eq (.bool false), StK.eq (.bool false)] 35 105 rfl (by kernel_rfl) (by kernel_rfl) ⟨?_, ?_, ?_, ?_, ?_, ?_, ?_, ?_, ?_, ?_, ?_, ?_, ?_, ?_, ?_, ?_, ?_, ?_, ?_, ?_, ?_, ?_, ?_, ?_, ?_, ?_, ?_, ?_, ?_, ?_, ?_, ?_, ?_, ?_, ?_, trivial⟩ ?_
      · intro a w hb hd
        have e12 : a.eval (.tmp 12) = .int .i64 TN := hd 12 (by decide)
        exact hop_runK (F := (StK.eq (.int .i64 TN)).F) (wanted_none rfl) _ (run_mv _ (.inl rfl) e12) rfl
      · intro a w hb hd
        have e14 : a.eval (.tmp 14) = .int .i64 TN := hd 14 (by decide)
        exact hop_runK (F := (StK.eq (.int .i64 TN)).F) (wanted_none rfl) _ (run_mv _ (.inl rfl) e14) rfl
      · intro a w hb hd
        have e70 : a.eval (.tmp 70) = .int .i64 TN := hd 70 (by decide)
        have e71 : a.eval (.tmp 71) = .int .i64 TN := hd 71 (by decide)
        exact hop_runK (F := (StK.eq (.bool false)).F) (wanted_none rfl) _ (by unfold execOp; simp only [e70, e71]; simp [go_sem]) rfl
      · intro a w hb hd
        have e72 : a.eval (.tmp 72) = .bool false := hd 72 (by decide)
        exact hop_runK (F := (StK.eq (.bool false)).F) (wanted_none rfl) _ (run_mv _ (.inl rfl) e72) rfl
      · intro a w hb hd
        have eg : a.eval (.tmp 73) = .bool false := hd 73 (by decide)
        have e13 : a.eval (.tmp 13) = .int .i64 TA := hd 13 (by decide)
        exact hop_runK (F := (StK.eq (.int .i64 TA)).F) (wanted_yes rfl rfl rfl eg) _ (run_mv _ (.inl rfl) e13) rfl
      · intro a w hb hd
        have eg : a.eval (.tmp 73) = .bool false := hd 73 (by decide)
        have e15 : a.eval (.tmp 15) = .int .i64 TA := hd 15 (by decide)
        exact hop_runK (F := (StK.eq (.int .i64 TA)).F) (wanted_yes rfl rfl rfl eg) _ (run_mv _ (.inl rfl) e15) rfl
      · intro a w hb hd
        have eg : a.eval (.tmp 73) = .bool false := hd 73 (by decide)
        have e74 : a.eval (.tmp 74) = .int .i64 TA := hd 74 (by decide)
        have e75 : a.eval (.tmp 75) = .int .i64 TA := hd 75 (by decide)
        exact hop_runK (F := (StK.eq (.bool false)).F) (wanted_yes rfl rfl rfl eg) _ (by unfold execOp; simp only [e74, e75]; simp [go_sem]) rfl
      · intro a w hb hd
        have e73 : a.eval (.tmp 73) = .bool false := hd 73 (by decide)
        have e76 : a.eval (.tmp 76) = .bool false := hd 76 (by decide)
        exact hop_runK (F := (StK.eq (.bool false)).F) (wanted_none rfl) (.bool false) (run_pick_f rfl e73 e76) rfl
      · intro a w hb hd
        have e77 : a.eval (.tmp 77) = .bool false := hd 77 (by decide)
        exact hop_runK (F := (StK.eq (.bool false)).F) (wanted_none rfl) _ (run_mv _ (.inl rfl) e77) rfl
      · intro a w hb hd
        have eg : a.eval (.tmp 78) = .bool false := hd 78 (by decide)
        have e17 : a.eval (.tmp 17) = .bool b := hd 17 (by decide)
        exact hop_runK (F := (StK.eq (.bool b)).F) (wanted_yes rfl rfl rfl eg) _ (run_mv _ (.inl rfl) e17) rfl
      · intro a w hb hd
        have eg : a.eval (.tmp 78) = .bool false := hd 78 (by decide)
        have e19 : a.eval (.tmp 19) = .bool b := hd 19 (by decide)
        exact hop_runK (F := (StK.eq (.bool b)).F) (wanted_yes rfl rfl rfl eg) _ (run_mv _ (.inl rfl) e19) rfl
      · intro a w hb hd
        have eg : a.eval (.tmp 78) = .bool false := hd 78 (by decide)
        have e79 : a.eval (.tmp 79) = .bool b := hd 79 (by decide)
        have e80 : a.eval (.tmp 80) = .bool b := hd 80 (by decide)
        exact hop_runK (F := (StK.eq (.bool false)).F) (wanted_yes rfl rfl rfl eg) _ (by unfold execOp; simp only [e79, e80]; simp [go_sem]) rfl
      · intro a w hb hd
        have e78 : a.eval (.tmp 78) = .bool false := hd 78 (by decide)
        have e81 : a.eval (.tmp 81) = .bool false := hd 81 (by decide)
        exact hop_runK (F := (StK.eq (.bool false)).F) (wanted_none rfl) (.bool false) (run_pick_f rfl e78 e81) rfl
      · intro a w hb hd
        have e82 : a.eval (.tmp 82) = .bool false := hd 82 (by decide)
        exact hop_runK (F := (StK.eq (.bool false)).F) (wanted_none rfl) _ (run_mv _ (.inl rfl) e82) rfl
      · intro a w hb hd
        have eg : a.eval (.tmp 83) = .bool false := hd 83 (by decide)
        have e16 : a.eval (.tmp 16) = .pointer (some ⟨g16, 0, none⟩) := hd 16 (by decide)
        exact hop_runK (F := (StK.eq (.agg (recA p s n a6 r6))).F) (wanted_yes rfl rfl rfl eg) _ (run_ldAll _ _ rfl e16 (k18p.step hb) Try.underlying28 rfl size_rec) rfl
      · intro a w hb hd
        have eg : a.eval (.tmp 83) = .bool false := hd 83 (by decide)
        have e18 : a.eval (.tmp 18) = .pointer (some ⟨g18, 0, none⟩) := hd 18 (by decide)
        exact hop_runK (F := (StK.eq (.agg (recA p s n a6 r6))).F) (wanted_yes rfl rfl rfl eg) _ (run_ldAll _ _ rfl e18 (C18.step hb) Try.underlying28 rfl size_rec) rfl
      · intro a w hb hd
        have eg : a.eval (.tmp 83) = .bool false := hd 83 (by decide)
        have e84 : a.eval (.tmp 84) = .agg (recA p s n a6 r6) := hd 84 (by decide)
        have e85 : a.eval (.tmp 85) = .agg (recA p s n a6 r6) := hd 85 (by decide)
        exact hop_callK (F := (StK.eq (.bool true)).F) (wanted_yes rfl rfl rfl eg) hb.size rfl #[a.eval (.tmp 84), a.eval (.tmp 85)] (by first | (simp only [List.map_toArray, List.map_cons, List.map_nil]; done) | (simp only [List.map_toArray, List.map_cons, List.map_nil]; rfl)) (enters_of Try.func23 (by kernel_rfl) rfl) (by rw [e84]; rw [e85]; exact call_eq (rec_same p s n a6 r6 w))
      · intro a w hb hd
        have eg : a.eval (.tmp 83) = .bool false := hd 83 (by decide)
        have e86 : a.eval (.tmp 86) = .bool true := hd 86 (by decide)
        exact hop_runK (F := (StK.eq (.bool false)).F) (wanted_yes rfl rfl rfl eg) _ (run_not _ _ rfl e86) rfl
      · intro a w hb hd
        have e83 : a.eval (.tmp 83) = .bool false := hd 83 (by decide)
        have e87 : a.eval (.tmp 87) = .bool false := hd 87 (by decide)
        exact hop_runK (F := (StK.eq (.bool false)).F) (wanted_none rfl) (.bool false) (run_pick_f rfl e83 e87) rfl
      · intro a w hb hd
        have e88 : a.eval (.tmp 88) = .bool false := hd 88 (by decide)
        exact hop_runK (F := (StK.eq (.bool false)).F) (wanted_none rfl) _ (run_mv _ (.inl rfl) e88) rfl
      · intro a w hb hd
        have eg : a.eval (.tmp 89) = .bool false := hd 89 (by decide)
        have e9 : a.eval (.tmp 9) = .pointer (some ⟨g, 0, none⟩) := hd 9 (by decide)
        exact hop_runK (F := (StK.eq (.agg (recA 1 ⟨#[117]⟩ N A 0))).F) (wanted_yes rfl rfl rfl eg) _ (run_ldAll _ _ rfl e9 (k18c.step hb) Try.underlying28 rfl size_rec) rfl
      · intro a w hb hd
        have eg : a.eval (.tmp 89) = .bool false := hd 89 (by decide)
        have e10 : a.eval (.tmp 10) = .slice (some ⟨gl, 0, none⟩) 2 2 := hd 10 (by decide)
        exact hop_runK (F := (StK.eq (.slice (some ⟨gl, 0, none⟩) 2 2)).F) (wanted_yes rfl rfl rfl eg) _ (run_mv _ (.inl rfl) e10) rfl
      · intro a w hb hd
        have eg : a.eval (.tmp 89) = .bool false := hd 89 (by decide)
        have e11 : a.eval (.tmp 11) = .int .i64 0 := hd 11 (by decide)
        exact hop_runK (F := (StK.eq (.int .i64 0)).F) (wanted_yes rfl rfl rfl eg) _ (run_mv _ (.inl rfl) e11) rfl
      · intro a w hb hd
        have eg : a.eval (.tmp 89) = .bool false := hd 89 (by decide)
        have e91 : a.eval (.tmp 91) = .slice (some ⟨gl, 0, none⟩) 2 2 := hd 91 (by decide)
        have e92 : a.eval (.tmp 92) = .int .i64 0 := hd 92 (by decide)
        exact hop_runK (F := (StK.eq (.pointer (some ⟨gl, 0, none⟩))).F) (wanted_yes rfl rfl rfl eg) _ (by unfold execOp; simp only [e91, e92]; kernel_rfl) rfl
      · intro a w hb hd
        have eg : a.eval (.tmp 89) = .bool false := hd 89 (by decide)
        have e93 : a.eval (.tmp 93) = .pointer (some ⟨gl, 0, none⟩) := hd 93 (by decide)
        exact hop_runK (F := (StK.eq (.int .i64 X)).F) (wanted_yes rfl rfl rfl eg) _ (run_ldCell _ _ rfl e93 Try.underlying3 rfl ((k18d.step hb).cell (k := 0) rfl)) rfl
      · intro a w hb hd
        have eg : a.eval (.tmp 89) = .bool false := hd 89 (by decide)
        have e90 : a.eval (.tmp 90) = .agg (recA 1 ⟨#[117]⟩ N A 0) := hd 90 (by decide)
        have e94 : a.eval (.tmp 94) = .int .i64 X := hd 94 (by decide)
        exact hop_callK (F := (StK.eq (.agg (recA 1 ⟨#[117]⟩ m q 0))).F) (wanted_yes rfl rfl rfl eg) hb.size rfl #[a.eval (.tmp 90), a.eval (.tmp 94)] (by first | (simp only [List.map_toArray, List.map_cons, List.map_nil]; done) | (simp only [List.map_toArray, List.map_cons, List.map_nil]; rfl)) (enters_of Try.func24 (by kernel_rfl) rfl) (by rw [e90]; rw [e94]; exact call_eq (h5.out w))
      · intro a w hb hd
        have eg : a.eval (.tmp 89) = .bool false := hd 89 (by decide)
        have e9 : a.eval (.tmp 9) = .pointer (some ⟨g, 0, none⟩) := hd 9 (by decide)
        exact hop_runK (F := (StK.eq (.agg (recA 1 ⟨#[117]⟩ N A 0))).F) (wanted_yes rfl rfl rfl eg) _ (run_ldAll _ _ rfl e9 (k18c.step hb) Try.underlying28 rfl size_rec) rfl
      · intro a w hb hd
        have eg : a.eval (.tmp 89) = .bool false := hd 89 (by decide)
        have e10 : a.eval (.tmp 10) = .slice (some ⟨gl, 0, none⟩) 2 2 := hd 10 (by decide)
        exact hop_runK (F := (StK.eq (.slice (some ⟨gl, 0, none⟩) 2 2)).F) (wanted_yes rfl rfl rfl eg) _ (run_mv _ (.inl rfl) e10) rfl
      · intro a w hb hd
        have eg : a.eval (.tmp 89) = .bool false := hd 89 (by decide)
        have e11 : a.eval (.tmp 11) = .int .i64 0 := hd 11 (by decide)
        exact hop_runK (F := (StK.eq (.int .i64 0)).F) (wanted_yes rfl rfl rfl eg) _ (run_mv _ (.inl rfl) e11) rfl
      · intro a w hb hd
        have eg : a.eval (.tmp 89) = .bool false := hd 89 (by decide)
        have e97 : a.eval (.tmp 97) = .slice (some ⟨gl, 0, none⟩) 2 2 := hd 97 (by decide)
        have e98 : a.eval (.tmp 98) = .int .i64 0 := hd 98 (by decide)
        exact hop_runK (F := (StK.eq (.pointer (some ⟨gl, 0, none⟩))).F) (wanted_yes rfl rfl rfl eg) _ (by unfold execOp; simp only [e97, e98]; kernel_rfl) rfl
      · intro a w hb hd
        have eg : a.eval (.tmp 89) = .bool false := hd 89 (by decide)
        have e99 : a.eval (.tmp 99) = .pointer (some ⟨gl, 0, none⟩) := hd 99 (by decide)
        exact hop_runK (F := (StK.eq (.int .i64 X)).F) (wanted_yes rfl rfl rfl eg) _ (run_ldCell _ _ rfl e99 Try.underlying3 rfl ((k18d.step hb).cell (k := 0) rfl)) rfl
      · intro a w hb hd
        have eg : a.eval (.tmp 89) = .bool false := hd 89 (by decide)
        have e96 : a.eval (.tmp 96) = .agg (recA 1 ⟨#[117]⟩ N A 0) := hd 96 (by decide)
        have e100 : a.eval (.tmp 100) = .int .i64 X := hd 100 (by decide)
        exact hop_callK (F := (StK.eq (.agg (recA 1 ⟨#[117]⟩ m q 0))).F) (wanted_yes rfl rfl rfl eg) hb.size rfl #[a.eval (.tmp 96), a.eval (.tmp 100)] (by first | (simp only [List.map_toArray, List.map_cons, List.map_nil]; done) | (simp only [List.map_toArray, List.map_cons, List.map_nil]; rfl)) (enters_of Try.func25 (by kernel_rfl) rfl) (by rw [e96]; rw [e100]; exact call_eq (h6.out w))
      · intro a w hb hd
        have eg : a.eval (.tmp 89) = .bool false := hd 89 (by decide)
        have e95 : a.eval (.tmp 95) = .agg (recA 1 ⟨#[117]⟩ m q 0) := hd 95 (by decide)
        have e101 : a.eval (.tmp 101) = .agg (recA 1 ⟨#[117]⟩ m q 0) := hd 101 (by decide)
        exact hop_callK (F := (StK.eq (.bool true)).F) (wanted_yes rfl rfl rfl eg) hb.size rfl #[a.eval (.tmp 95), a.eval (.tmp 101)] (by first | (simp only [List.map_toArray, List.map_cons, List.map_nil]; done) | (simp only [List.map_toArray, List.map_cons, List.map_nil]; rfl)) (enters_of Try.func23 (by kernel_rfl) rfl) (by rw [e95]; rw [e101]; exact call_eq (rec_same 1 ⟨#[117]⟩ m q 0 w))
      · intro a w hb hd
        have eg : a.eval (.tmp 89) = .bool false := hd 89 (by decide)
        have e102 : a.eval (.tmp 102) = .bool true := hd 102 (by decide)
        exact hop_runK (F := (StK.eq (.bool false)).F) (wanted_yes rfl rfl rfl eg) _ (run_not _ _ rfl e102) rfl
      · intro a w hb hd
        have e89 : a.eval (.tmp 89) = .bool false := hd 89 (by decide)
        have e103 : a.eval (.tmp 103) = .bool false := hd 103 (by decide)
        exact hop_runK (F := (StK.eq (.bool false)).F) (wanted_none rfl) (.bool false) (run_pick_f rfl e89 e103) rfl
      intro pwe we bwe hp
      obtain ⟨-, -, -, -, -, -, -, -, -, -, -, -, -, -, -, -, -, -, -, -, -, -, -, -, -, -, -, -, -, -, -, -, -, -, q34, -⟩ := hp
      have e34 : pwe 34 = .bool false := q34 (by decide)
      simp only [List.take_succ_cons, List.take_zero, List.drop_succ_cons, List.drop_zero, layAll, Act.put, List.setIfInBounds_toArray, List.set_cons_zero, List.set_cons_succ, Nat.zero_add, Nat.reduceAdd, e34]
      clear q34 e34
      have nwec := k18c.step bwe
      have nwed := k18d.step bwe
      have nweB := k18B.trans (bwe.mono k18B.size)
      clear k18c k18d k18B bwe
      go_wp2_with fail
      go_roundw
      case rel => exact ⟨1, by omega, rfl, nwec, nwed, nweB⟩
      case measure => simp [intOf]
    · obtain ⟨TN, TA, m, q, p, s, n, a6, r6, b, h1, h2, h3, h4, h5, h6⟩ := all_pack N A Y N0 (by omega) A0 (by omega) Y0.1 Y0.2
      go_upto_region 8 with fail
      refine wp_region_stT [StK.eq (.agg (recA 1 ⟨#[117]⟩ N A 0)), StK.eq (.slice (some ⟨gl, 0, none⟩) 2 2), StK.eq (.int .i64 1), StK.eq (.pointer (some ⟨gl, 1, none⟩)), StK.eq (.int .i64 Y), StK.eq (.tuple #[.int .i64 TN, .int .i64 TA]), StK.eq (.tuple #[.int .i64 TN, .int .i64 TA]), StK.eq (.int .i64 TN), StK.eq (.int .i64 TA), StK.eq (.int .i64 TN), StK.eq (.int .i64 TA)] 11 105 rfl (by kernel_rfl) (by kernel_rfl) ⟨?_, ?_, ?_, ?_, ?_, ?_, ?_, ?_, ?_, ?_, ?_, trivial⟩ ?_
      · intro a w hb hd
        have e9 : a.eval (.tmp 9) = .pointer (some ⟨g, 0, none⟩) := hd 9 (by decide)
        exact hop_runK (F := (StK.eq (.agg (recA 1 ⟨#[117]⟩ N A 0))).F) (wanted_none rfl) _ (run_ldAll _ _ rfl e9 (hrc.step hb) Try.underlying28 rfl size_rec) rfl
      · intro a w hb hd
        have e10 : a.eval (.tmp 10) = .slice (some ⟨gl, 0, none⟩) 2 2 := hd 10 (by decide)
        exact hop_runK (F := (StK.eq (.slice (some ⟨gl, 0, none⟩) 2 2)).F) (wanted_none rfl) _ (run_mv _ (.inl rfl) e10) rfl
      · intro a w hb hd
        have e11 : a.eval (.tmp 11) = .int .i64 1 := hd 11 (by decide)
        exact hop_runK (F := (StK.eq (.int .i64 1)).F) (wanted_none rfl) _ (run_mv _ (.inl rfl) e11) rfl
      · intro a w hb hd
        have e36 : a.eval (.tmp 36) = .slice (some ⟨gl, 0, none⟩) 2 2 := hd 36 (by decide)
        have e37 : a.eval (.tmp 37) = .int .i64 1 := hd 37 (by decide)
        exact hop_runK (F := (StK.eq (.pointer (some ⟨gl, 1, none⟩))).F) (wanted_none rfl) _ (by unfold execOp; simp only [e36, e37]; kernel_rfl) rfl
      · intro a w hb hd
        have e38 : a.eval (.tmp 38) = .pointer (some ⟨gl, 1, none⟩) := hd 38 (by decide)
        exact hop_runK (F := (StK.eq (.int .i64 Y)).F) (wanted_none rfl) _ (run_ldCell _ _ rfl e38 Try.underlying3 rfl ((hli.step hb).cell (k := 1) rfl)) rfl
      · intro a w hb hd
        have e35 : a.eval (.tmp 35) = .agg (recA 1 ⟨#[117]⟩ N A 0) := hd 35 (by decide)
        have e39 : a.eval (.tmp 39) = .int .i64 Y := hd 39 (by decide)
        exact hop_callK (F := (StK.eq (.tuple #[.int .i64 TN, .int .i64 TA])).F) (wanted_none rfl) hb.size rfl #[a.eval (.tmp 35), a.eval (.tmp 39)] (by first | (simp only [List.map_toArray, List.map_cons, List.map_nil]; done) | (simp only [List.map_toArray, List.map_cons, List.map_nil]; rfl)) (enters_of Try.func19 (by kernel_rfl) rfl) (by rw [e35]; rw [e39]; exact call_eq (h1.out w))
      · intro a w hb hd
        have e40 : a.eval (.tmp 40) = .tuple #[.int .i64 TN, .int .i64 TA] := hd 40 (by decide)
        exact hop_runK (F := (StK.eq (.tuple #[.int .i64 TN, .int .i64 TA])).F) (wanted_none rfl) _ (run_mv _ (.inl rfl) e40) rfl
      · intro a w hb hd
        have e34 : a.eval (.tmp 34) = .tuple #[.int .i64 TN, .int .i64 TA] := hd 34 (by decide)
        exact hop_runK (F := (StK.eq (.int .i64 TN)).F) (wanted_none rfl) _ (run_ext _ _ rfl e34 (vs := #[.int .i64 TN, .int .i64 TA]) rfl) rfl
      · intro a w hb hd
        have e34 : a.eval (.tmp 34) = .tuple #[.int .i64 TN, .int .i64 TA] := hd 34 (by decide)
        exact hop_runK (F := (StK.eq (.int .i64 TA)).F) (wanted_none rfl) _ (run_ext _ _ rfl e34 (vs := #[.int .i64 TN, .int .i64 TA]) rfl) rfl
      · intro a w hb hd
        have e41 : a.eval (.tmp 41) = .int .i64 TN := hd 41 (by decide)
        exact hop_runK (F := (StK.eq (.int .i64 TN)).F) (wanted_none rfl) _ (run_mv _ (.inr rfl) e41) rfl
      · intro a w hb hd
        have e42 : a.eval (.tmp 42) = .int .i64 TA := hd 42 (by decide)
        exact hop_runK (F := (StK.eq (.int .i64 TA)).F) (wanted_none rfl) _ (run_mv _ (.inr rfl) e42) rfl
      intro pwa wa bwa hp
      obtain ⟨-, -, -, -, -, -, -, -, -, q9, q10, -⟩ := hp
      have e9 : pwa 9 = .int .i64 TN := q9 (by decide)
      have e10 : pwa 10 = .int .i64 TA := q10 (by decide)
      simp only [List.take_succ_cons, List.take_zero, List.drop_succ_cons, List.drop_zero, layAll, Act.put, List.setIfInBounds_toArray, List.set_cons_zero, List.set_cons_succ, Nat.zero_add, Nat.reduceAdd, e9, e10]
      clear q9 e9 q10 e10
      have nwac := hrc.step bwa
      have nwad := hli.step bwa
      have nwaB := hB.trans (bwa.mono hB.size)
      clear hrc hli hB bwa
      go_upto_region 9 with fail
      refine wp_region_stT [StK.eq (.agg (recA 1 ⟨#[117]⟩ N A 0)), StK.eq (.slice (some ⟨gl, 0, none⟩) 2 2), StK.eq (.int .i64 1), StK.eq (.pointer (some ⟨gl, 1, none⟩)), StK.eq (.int .i64 Y), StK.eq (.tuple #[.int .i64 TN, .int .i64 TA]), StK.eq (.tuple #[.int .i64 TN, .int .i64 TA]), StK.eq (.int .i64 TN), StK.eq (.int .i64 TA), StK.eq (.int .i64 TN), StK.eq (.int .i64 TA)] 11 105 rfl (by kernel_rfl) (by kernel_rfl) ⟨?_, ?_, ?_, ?_, ?_, ?_, ?_, ?_, ?_, ?_, ?_, trivial⟩ ?_
      · intro a w hb hd
        have e9 : a.eval (.tmp 9) = .pointer (some ⟨g, 0, none⟩) := hd 9 (by decide)
        exact hop_runK (F := (StK.eq (.agg (recA 1 ⟨#[117]⟩ N A 0))).F) (wanted_none rfl) _ (run_ldAll _ _ rfl e9 (nwac.step hb) Try.underlying28 rfl size_rec) rfl
      · intro a w hb hd
        have e10 : a.eval (.tmp 10) = .slice (some ⟨gl, 0, none⟩) 2 2 := hd 10 (by decide)
        exact hop_runK (F := (StK.eq (.slice (some ⟨gl, 0, none⟩) 2 2)).F) (wanted_none rfl) _ (run_mv _ (.inl rfl) e10) rfl
      · intro a w hb hd
        have e11 : a.eval (.tmp 11) = .int .i64 1 := hd 11 (by decide)
        exact hop_runK (F := (StK.eq (.int .i64 1)).F) (wanted_none rfl) _ (run_mv _ (.inl rfl) e11) rfl
      · intro a w hb hd
        have e45 : a.eval (.tmp 45) = .slice (some ⟨gl, 0, none⟩) 2 2 := hd 45 (by decide)
        have e46 : a.eval (.tmp 46) = .int .i64 1 := hd 46 (by decide)
        exact hop_runK (F := (StK.eq (.pointer (some ⟨gl, 1, none⟩))).F) (wanted_none rfl) _ (by unfold execOp; simp only [e45, e46]; kernel_rfl) rfl
      · intro a w hb hd
        have e47 : a.eval (.tmp 47) = .pointer (some ⟨gl, 1, none⟩) := hd 47 (by decide)
        exact hop_runK (F := (StK.eq (.int .i64 Y)).F) (wanted_none rfl) _ (run_ldCell _ _ rfl e47 Try.underlying3 rfl ((nwad.step hb).cell (k := 1) rfl)) rfl
      · intro a w hb hd
        have e44 : a.eval (.tmp 44) = .agg (recA 1 ⟨#[117]⟩ N A 0) := hd 44 (by decide)
        have e48 : a.eval (.tmp 48) = .int .i64 Y := hd 48 (by decide)
        exact hop_callK (F := (StK.eq (.tuple #[.int .i64 TN, .int .i64 TA])).F) (wanted_none rfl) hb.size rfl #[a.eval (.tmp 44), a.eval (.tmp 48)] (by first | (simp only [List.map_toArray, List.map_cons, List.map_nil]; done) | (simp only [List.map_toArray, List.map_cons, List.map_nil]; rfl)) (enters_of Try.func20 (by kernel_rfl) rfl) (by rw [e44]; rw [e48]; exact call_eq (h2.out w))
      · intro a w hb hd
        have e49 : a.eval (.tmp 49) = .tuple #[.int .i64 TN, .int .i64 TA] := hd 49 (by decide)
        exact hop_runK (F := (StK.eq (.tuple #[.int .i64 TN, .int .i64 TA])).F) (wanted_none rfl) _ (run_mv _ (.inl rfl) e49) rfl
      · intro a w hb hd
        have e43 : a.eval (.tmp 43) = .tuple #[.int .i64 TN, .int .i64 TA] := hd 43 (by decide)
        exact hop_runK (F := (StK.eq (.int .i64 TN)).F) (wanted_none rfl) _ (run_ext _ _ rfl e43 (vs := #[.int .i64 TN, .int .i64 TA]) rfl) rfl
      · intro a w hb hd
        have e43 : a.eval (.tmp 43) = .tuple #[.int .i64 TN, .int .i64 TA] := hd 43 (by decide)
        exact hop_runK (F := (StK.eq (.int .i64 TA)).F) (wanted_none rfl) _ (run_ext _ _ rfl e43 (vs := #[.int .i64 TN, .int .i64 TA]) rfl) rfl
      · intro a w hb hd
        have e50 : a.eval (.tmp 50) = .int .i64 TN := hd 50 (by decide)
        exact hop_runK (F := (StK.eq (.int .i64 TN)).F) (wanted_none rfl) _ (run_mv _ (.inr rfl) e50) rfl
      · intro a w hb hd
        have e51 : a.eval (.tmp 51) = .int .i64 TA := hd 51 (by decide)
        exact hop_runK (F := (StK.eq (.int .i64 TA)).F) (wanted_none rfl) _ (run_mv _ (.inr rfl) e51) rfl
      intro pwb wb bwb hp
      obtain ⟨-, -, -, -, -, -, -, -, -, q9, q10, -⟩ := hp
      have e9 : pwb 9 = .int .i64 TN := q9 (by decide)
      have e10 : pwb 10 = .int .i64 TA := q10 (by decide)
      simp only [List.take_succ_cons, List.take_zero, List.drop_succ_cons, List.drop_zero, layAll, Act.put, List.setIfInBounds_toArray, List.set_cons_zero, List.set_cons_succ, Nat.zero_add, Nat.reduceAdd, e9, e10]
      clear q9 e9 q10 e10
      have nwbc := nwac.step bwb
      have nwbd := nwad.step bwb
      have nwbB := nwaB.trans (bwb.mono nwaB.size)
      clear nwac nwad nwaB bwb
      go_upto_region 10 with fail
      have hL16 := nwbc.lt
      have hM16 := nwbd.lt
      have hN16 := nwbB.size
      refine wp_region_stL [StK.eq (.agg (recA 1 ⟨#[117]⟩ N A 0)), StK.eq (.slice (some ⟨gl, 0, none⟩) 2 2), StK.eq (.int .i64 1), StK.eq (.pointer (some ⟨gl, 1, none⟩)), StK.eq (.int .i64 Y), StK.eq (.tuple #[.agg (recA p s n a6 r6), .bool b]), StK.eq (.tuple #[.agg (recA p s n a6 r6), .bool b]), StK.eq (.agg (recA p s n a6 r6)), StK.eq (.bool b), StK.new wb.heap.size (#[.int .i64 0, .string ⟨#[]⟩, .slice none 0 0, .int .u32 0, .int .u32 0, .int .u32 0, .int .u32 0, .int .u32 0, .int .u32 0, .int .u32 0, .int .u32 0, .int .u32 0, .int .u32 0, .int .u32 0, .int .u32 0, .int .u32 0, .int .u32 0, .int .u32 0, .int .u32 0, .slice none 0 0, .int .i64 0, .int .i64 0, .int .i64 0]) 28 (by decide)] 10 105 8 52 1 6 #[.agg (recA p s n a6 r6), .bool b] (.bool b) rfl (by kernel_rfl) (by kernel_rfl) rfl (by kernel_rfl) (fun _ _ h => h) rfl (fun _ _ => Iff.rfl) rfl ⟨?_, ?_, ?_, ?_, ?_, ?_, ?_, ?_, ?_, ?_, trivial⟩ ?_
      · intro a w hb hd
        have e9 : a.eval (.tmp 9) = .pointer (some ⟨g, 0, none⟩) := hd 9 (by decide)
        exact hop_runK (F := (StK.eq (.agg (recA 1 ⟨#[117]⟩ N A 0))).F) (wanted_none rfl) _ (run_ldAll _ _ rfl e9 (nwbc.step hb) Try.underlying28 rfl size_rec) rfl
      · intro a w hb hd
        have e10 : a.eval (.tmp 10) = .slice (some ⟨gl, 0, none⟩) 2 2 := hd 10 (by decide)
        exact hop_runK (F := (StK.eq (.slice (some ⟨gl, 0, none⟩) 2 2)).F) (wanted_none rfl) _ (run_mv _ (.inl rfl) e10) rfl
      · intro a w hb hd
        have e11 : a.eval (.tmp 11) = .int .i64 1 := hd 11 (by decide)
        exact hop_runK (F := (StK.eq (.int .i64 1)).F) (wanted_none rfl) _ (run_mv _ (.inl rfl) e11) rfl
      · intro a w hb hd
        have e54 : a.eval (.tmp 54) = .slice (some ⟨gl, 0, none⟩) 2 2 := hd 54 (by decide)
        have e55 : a.eval (.tmp 55) = .int .i64 1 := hd 55 (by decide)
        exact hop_runK (F := (StK.eq (.pointer (some ⟨gl, 1, none⟩))).F) (wanted_none rfl) _ (by unfold execOp; simp only [e54, e55]; kernel_rfl) rfl
      · intro a w hb hd
        have e56 : a.eval (.tmp 56) = .pointer (some ⟨gl, 1, none⟩) := hd 56 (by decide)
        exact hop_runK (F := (StK.eq (.int .i64 Y)).F) (wanted_none rfl) _ (run_ldCell _ _ rfl e56 Try.underlying3 rfl ((nwbd.step hb).cell (k := 1) rfl)) rfl
      · intro a w hb hd
        have e53 : a.eval (.tmp 53) = .agg (recA 1 ⟨#[117]⟩ N A 0) := hd 53 (by decide)
        have e57 : a.eval (.tmp 57) = .int .i64 Y := hd 57 (by decide)
        exact hop_callK (F := (StK.eq (.tuple #[.agg (recA p s n a6 r6), .bool b])).F) (wanted_none rfl) hb.size rfl #[a.eval (.tmp 53), a.eval (.tmp 57)] (by first | (simp only [List.map_toArray, List.map_cons, List.map_nil]; done) | (simp only [List.map_toArray, List.map_cons, List.map_nil]; rfl)) (enters_of Try.func21 (by kernel_rfl) rfl) (by rw [e53]; rw [e57]; exact call_eq (h3.out w))
      · intro a w hb hd
        have e58 : a.eval (.tmp 58) = .tuple #[.agg (recA p s n a6 r6), .bool b] := hd 58 (by decide)
        exact hop_runK (F := (StK.eq (.tuple #[.agg (recA p s n a6 r6), .bool b])).F) (wanted_none rfl) _ (run_mv _ (.inl rfl) e58) rfl
      · intro a w hb hd
        have e52 : a.eval (.tmp 52) = .tuple #[.agg (recA p s n a6 r6), .bool b] := hd 52 (by decide)
        exact hop_runK (F := (StK.eq (.agg (recA p s n a6 r6))).F) (wanted_none rfl) _ (run_ext _ _ rfl e52 (vs := #[.agg (recA p s n a6 r6), .bool b]) rfl) rfl
      · intro a w hb hd
        have e52 : a.eval (.tmp 52) = .tuple #[.agg (recA p s n a6 r6), .bool b] := hd 52 (by decide)
        exact hop_runK (F := (StK.eq (.bool b)).F) (wanted_none rfl) _ (run_ext _ _ rfl e52 (vs := #[.agg (recA p s n a6 r6), .bool b]) rfl) rfl
      · intro a w hb hd
        exact hop_new (wanted_none rfl) hb.size hb.size (by decide) (rec_newB rfl)
      intro pwc wc bwc hp
      obtain ⟨-, -, -, -, -, -, -, q7, q8, q9, -⟩ := hp
      have e7 : pwc 7 = .agg (recA p s n a6 r6) := q7 (by decide)
      have e8 : pwc 8 = .bool b := q8 (by decide)
      obtain ⟨g16, e9, hg16, c16⟩ := q9 (by decide)
      simp only [List.take_succ_cons, List.take_zero, List.drop_succ_cons, List.drop_zero, layAll, Act.put, List.setIfInBounds_toArray, List.set_cons_zero, List.set_cons_succ, Nat.zero_add, Nat.reduceAdd, e7, e8, show pwc 9 = .pointer (some ⟨g16, 0, none⟩) from e9]
      clear q7 e7 q8 e8 e9
      have nwcc := nwbc.step bwc
      have nwcd := nwbd.step bwc
      have nwcB := nwbB.trans (bwc.mono nwbB.size)
      clear nwbc nwbd nwbB bwc
      have Z16 : Blk wc g16 28 #[.int .i64 0, .string ⟨#[]⟩, .slice none 0 0, .int .u32 0, .int .u32 0, .int .u32 0, .int .u32 0, .int .u32 0, .int .u32 0, .int .u32 0, .int .u32 0, .int .u32 0, .int .u32 0, .int .u32 0, .int .u32 0, .int .u32 0, .int .u32 0, .int .u32 0, .int .u32 0, .slice none 0 0, .int .i64 0, .int .i64 0, .int .i64 0] := c16
      refine store_then 28 (.tmp 16) (.tmp 59) rfl _ rfl _ rfl (by simp [recA, Value.oneCell']) _ Z16 rfl size_rec ?_
      intro w16 G16 C16
      have k16c := nwcc.grown G16 (ne_some (by omega))
      have k16d := nwcd.grown G16 (ne_some (by omega))
      have k16B := below_of_grown nwcB G16 nwcB.size (by omega)
      clear nwcc nwcd nwcB G16 Z16 c16 hL16 hM16 hN16 hg16
      go_upto_region 11 with fail
      have hL18 := k16c.lt
      have hM18 := k16d.lt
      have hN18 := k16B.size
      have hO18 := C16.lt
      refine wp_region_stL [StK.eq (.agg (recA 1 ⟨#[117]⟩ N A 0)), StK.eq (.slice (some ⟨gl, 0, none⟩) 2 2), StK.eq (.int .i64 1), StK.eq (.pointer (some ⟨gl, 1, none⟩)), StK.eq (.int .i64 Y), StK.eq (.tuple #[.agg (recA p s n a6 r6), .bool b]), StK.eq (.tuple #[.agg (recA p s n a6 r6), .bool b]), StK.eq (.agg (recA p s n a6 r6)), StK.eq (.bool b), StK.new w16.heap.size (#[.int .i64 0, .string ⟨#[]⟩, .slice none 0 0, .int .u32 0, .int .u32 0, .int .u32 0, .int .u32 0, .int .u32 0, .int .u32 0, .int .u32 0, .int .u32 0, .int .u32 0, .int .u32 0, .int .u32 0, .int .u32 0, .int .u32 0, .int .u32 0, .int .u32 0, .int .u32 0, .slice none 0 0, .int .i64 0, .int .i64 0, .int .i64 0]) 28 (by decide)] 10 105 8 61 1 6 #[.agg (recA p s n a6 r6), .bool b] (.bool b) rfl (by kernel_rfl) (by kernel_rfl) rfl (by kernel_rfl) (fun _ _ h => h) rfl (fun _ _ => Iff.rfl) rfl ⟨?_, ?_, ?_, ?_, ?_, ?_, ?_, ?_, ?_, ?_, trivial⟩ ?_
      · intro a w hb hd
        have e9 : a.eval (.tmp 9) = .pointer (some ⟨g, 0, none⟩) := hd 9 (by decide)
        exact hop_runK (F := (StK.eq (.agg (recA 1 ⟨#[117]⟩ N A 0))).F) (wanted_none rfl) _ (run_ldAll _ _ rfl e9 (k16c.step hb) Try.underlying28 rfl size_rec) rfl
      · intro a w hb hd
        have e10 : a.eval (.tmp 10) = .slice (some ⟨gl, 0, none⟩) 2 2 := hd 10 (by decide)
        exact hop_runK (F := (StK.eq (.slice (some ⟨gl, 0, none⟩) 2 2)).F) (wanted_none rfl) _ (run_mv _ (.inl rfl) e10) rfl
      · intro a w hb hd
        have e11 : a.eval (.tmp 11) = .int .i64 1 := hd 11 (by decide)
        exact hop_runK (F := (StK.eq (.int .i64 1)).F) (wanted_none rfl) _ (run_mv _ (.inl rfl) e11) rfl
      · intro a w hb hd
        have e63 : a.eval (.tmp 63) = .slice (some ⟨gl, 0, none⟩) 2 2 := hd 63 (by decide)
        have e64 : a.eval (.tmp 64) = .int .i64 1 := hd 64 (by decide)
        exact hop_runK (F := (StK.eq (.pointer (some ⟨gl, 1, none⟩))).F) (wanted_none rfl) _ (by unfold execOp; simp only [e63, e64]; kernel_rfl) rfl
      · intro a w hb hd
        have e65 : a.eval (.tmp 65) = .pointer (some ⟨gl, 1, none⟩) := hd 65 (by decide)
        exact hop_runK (F := (StK.eq (.int .i64 Y)).F) (wanted_none rfl) _ (run_ldCell _ _ rfl e65 Try.underlying3 rfl ((k16d.step hb).cell (k := 1) rfl)) rfl
      · intro a w hb hd
        have e62 : a.eval (.tmp 62) = .agg (recA 1 ⟨#[117]⟩ N A 0) := hd 62 (by decide)
        have e66 : a.eval (.tmp 66) = .int .i64 Y := hd 66 (by decide)
        exact hop_callK (F := (StK.eq (.tuple #[.agg (recA p s n a6 r6), .bool b])).F) (wanted_none rfl) hb.size rfl #[a.eval (.tmp 62), a.eval (.tmp 66)] (by first | (simp only [List.map_toArray, List.map_cons, List.map_nil]; done) | (simp only [List.map_toArray, List.map_cons, List.map_nil]; rfl)) (enters_of Try.func22 (by kernel_rfl) rfl) (by rw [e62]; rw [e66]; exact call_eq (h4.out w))
      · intro a w hb hd
        have e67 : a.eval (.tmp 67) = .tuple #[.agg (recA p s n a6 r6), .bool b] := hd 67 (by decide)
        exact hop_runK (F := (StK.eq (.tuple #[.agg (recA p s n a6 r6), .bool b])).F) (wanted_none rfl) _ (run_mv _ (.inl rfl) e67) rfl
      · intro a w hb hd
        have e61 : a.eval (.tmp 61) = .tuple #[.agg (recA p s n a6 r6), .bool b] := hd 61 (by decide)
        exact hop_runK (F := (StK.eq (.agg (recA p s n a6 r6))).F) (wanted_none rfl) _ (run_ext _ _ rfl e61 (vs := #[.agg (recA p s n a6 r6), .bool b]) rfl) rfl
      · intro a w hb hd
        have e61 : a.eval (.tmp 61) = .tuple #[.agg (recA p s n a6 r6), .bool b] := hd 61 (by decide)
        exact hop_runK (F := (StK.eq (.bool b)).F) (wanted_none rfl) _ (run_ext _ _ rfl e61 (vs := #[.agg (recA p s n a6 r6), .bool b]) rfl) rfl
      · intro a w hb hd
        exact hop_new (wanted_none rfl) hb.size hb.size (by decide) (rec_newB rfl)
      intro pwd wd bwd hp
      obtain ⟨-, -, -, -, -, -, -, q7, q8, q9, -⟩ := hp
      have e7 : pwd 7 = .agg (recA p s n a6 r6) := q7 (by decide)
      have e8 : pwd 8 = .bool b := q8 (by decide)
      obtain ⟨g18, e9, hg18, c18⟩ := q9 (by decide)
      simp only [List.take_succ_cons, List.take_zero, List.drop_succ_cons, List.drop_zero, layAll, Act.put, List.setIfInBounds_toArray, List.set_cons_zero, List.set_cons_succ, Nat.zero_add, Nat.reduceAdd, e7, e8, show pwd 9 = .pointer (some ⟨g18, 0, none⟩) from e9]
      clear q7 e7 q8 e8 e9
      have nwdc := k16c.step bwd
      have nwdd := k16d.step bwd
      have nwdB := k16B.trans (bwd.mono k16B.size)
      have p16wd := C16.step bwd
      clear k16c k16d k16B bwd C16
      have Z18 : Blk wd g18 28 #[.int .i64 0, .string ⟨#[]⟩, .slice none 0 0, .int .u32 0, .int .u32 0, .int .u32 0, .int .u32 0, .int .u32 0, .int .u32 0, .int .u32 0, .int .u32 0, .int .u32 0, .int .u32 0, .int .u32 0, .int .u32 0, .int .u32 0, .int .u32 0, .int .u32 0, .int .u32 0, .slice none 0 0, .int .i64 0, .int .i64 0, .int .i64 0] := c18
      refine store_then 28 (.tmp 18) (.tmp 68) rfl _ rfl _ rfl (by simp [recA, Value.oneCell']) _ Z18 rfl size_rec ?_
      intro w18 G18 C18
      have k18c := nwdc.grown G18 (ne_some (by omega))
      have k18d := nwdd.grown G18 (ne_some (by omega))
      have k18B := below_of_grown nwdB G18 nwdB.size (by omega)
      have k18p := p16wd.grown G18 (ne_some (by omega))
      clear nwdc nwdd nwdB G18 Z18 c18 hL18 hM18 hN18 hg18 p16wd hO18
      go_upto_region 12 with fail
      refine wp_region_stT [StK.eq (.int .i64 TN), StK.eq (.int .i64 TN), StK.eq (.bool false), StK.eq (.bool false), StK.eq (.int .i64 TA), StK.eq (.int .i64 TA), StK.eq (.bool false), StK.eq (.bool false), StK.eq (.bool false), StK.eq (.bool b), StK.eq (.bool b), StK.eq (.bool false), StK.eq (.bool false), StK.eq (.bool false), StK.eq (.agg (recA p s n a6 r6)), StK.eq (.agg (recA p s n a6 r6)), StK.eq (.bool true), StK.eq (.bool false), StK.eq (.bool false), StK.eq (.bool false), StK.eq (.agg (recA 1 ⟨#[117]⟩ N A 0)), StK.eq (.slice (some ⟨gl, 0, none⟩) 2 2), StK.eq (.int .i64 1), StK.eq (.pointer (some ⟨gl, 1, none⟩)), StK.eq (.int .i64 Y), StK.eq (.agg (recA 1 ⟨#[117]⟩ m q 0)), StK.eq (.agg (recA 1 ⟨#[117]⟩ N A 0)), StK.eq (.slice (some ⟨gl, 0, none⟩) 2 2), StK.eq (.int .i64 1), StK.eq (.pointer (some ⟨gl, 1, none⟩)), StK.eq (.int .i64 Y), StK.eq (.agg (recA 1 ⟨#[117]⟩ m q 0)), StK.eq (.bool true), StK.eq (.bool false), StK.eq (.bool false)] 35 105 rfl (by kernel_rfl) (by kernel_rfl) ⟨?_, ?_, ?_, ?_, ?_, ?_, ?_, ?_, ?_, ?_, ?_, ?_, ?_, ?_, ?_, ?_, ?_, ?_, ?_, ?_, ?_, ?_, ?_, ?_, ?_, ?_, ?_, ?_, ?_, ?_, ?_, ?_, ?_, ?_, ?_, trivial⟩ ?_
      · intro a w hb hd
        have e12 : a.eval (.tmp 12) = .int .i64 TN := hd 12 (by decide)
        exact hop_runK (F := (StK.eq (.int .i64 TN)).F) (wanted_none rfl) _ (run_mv _ (.inl rfl) e12) rfl
      · intro a w hb hd
        have e14 : a.eval (.tmp 14) = .int .i64 TN := hd 14 (by decide)
        exact hop_runK (F := (StK.eq (.int .i64 TN)).F) (wanted_none rfl) _ (run_mv _ (.inl rfl) e14) rfl
      · intro a w hb hd
        have e70 : a.eval (.tmp 70) = .int .i64 TN := hd 70 (by decide)
        have e71 : a.eval (.tmp 71) = .int .i64 TN := hd 71 (by decide)
        exact hop_runK (F := (StK.eq (.bool false)).F) (wanted_none rfl) _ (by unfold execOp; simp only [e70, e71]; simp [go_sem]) rfl
      · intro a w hb hd
        have e72 : a.eval (.tmp 72) = .bool false := hd 72 (by decide)
        exact hop_runK (F := (StK.eq (.bool false)).F) (wanted_none rfl) _ (run_mv _ (.inl rfl) e72) rfl
      · intro a w hb hd
        have eg : a.eval (.tmp 73) = .bool false := hd 73 (by decide)
        have e13 : a.eval (.tmp 13) = .int .i64 TA := hd 13 (by decide)
        exact hop_runK (F := (StK.eq (.int .i64 TA)).F) (wanted_yes rfl rfl rfl eg) _ (run_mv _ (.inl rfl) e13) rfl
      · intro a w hb hd
        have eg : a.eval (.tmp 73) = .bool false := hd 73 (by decide)
        have e15 : a.eval (.tmp 15) = .int .i64 TA := hd 15 (by decide)
        exact hop_runK (F := (StK.eq (.int .i64 TA)).F) (wanted_yes rfl rfl rfl eg) _ (run_mv _ (.inl rfl) e15) rfl
      · intro a w hb hd
        have eg : a.eval (.tmp 73) = .bool false := hd 73 (by decide)
        have e74 : a.eval (.tmp 74) = .int .i64 TA := hd 74 (by decide)
        have e75 : a.eval (.tmp 75) = .int .i64 TA := hd 75 (by decide)
        exact hop_runK (F := (StK.eq (.bool false)).F) (wanted_yes rfl rfl rfl eg) _ (by unfold execOp; simp only [e74, e75]; simp [go_sem]) rfl
      · intro a w hb hd
        have e73 : a.eval (.tmp 73) = .bool false := hd 73 (by decide)
        have e76 : a.eval (.tmp 76) = .bool false := hd 76 (by decide)
        exact hop_runK (F := (StK.eq (.bool false)).F) (wanted_none rfl) (.bool false) (run_pick_f rfl e73 e76) rfl
      · intro a w hb hd
        have e77 : a.eval (.tmp 77) = .bool false := hd 77 (by decide)
        exact hop_runK (F := (StK.eq (.bool false)).F) (wanted_none rfl) _ (run_mv _ (.inl rfl) e77) rfl
      · intro a w hb hd
        have eg : a.eval (.tmp 78) = .bool false := hd 78 (by decide)
        have e17 : a.eval (.tmp 17) = .bool b := hd 17 (by decide)
        exact hop_runK (F := (StK.eq (.bool b)).F) (wanted_yes rfl rfl rfl eg) _ (run_mv _ (.inl rfl) e17) rfl
      · intro a w hb hd
        have eg : a.eval (.tmp 78) = .bool false := hd 78 (by decide)
        have e19 : a.eval (.tmp 19) = .bool b := hd 19 (by decide)
        exact hop_runK (F := (StK.eq (.bool b)).F) (wanted_yes rfl rfl rfl eg) _ (run_mv _ (.inl rfl) e19) rfl
      · intro a w hb hd
        have eg : a.eval (.tmp 78) = .bool false := hd 78 (by decide)
        have e79 : a.eval (.tmp 79) = .bool b := hd 79 (by decide)
        have e80 : a.eval (.tmp 80) = .bool b := hd 80 (by decide)
        exact hop_runK (F := (StK.eq (.bool false)).F) (wanted_yes rfl rfl rfl eg) _ (by unfold execOp; simp only [e79, e80]; simp [go_sem]) rfl
      · intro a w hb hd
        have e78 : a.eval (.tmp 78) = .bool false := hd 78 (by decide)
        have e81 : a.eval (.tmp 81) = .bool false := hd 81 (by decide)
        exact hop_runK (F := (StK.eq (.bool false)).F) (wanted_none rfl) (.bool false) (run_pick_f rfl e78 e81) rfl
      · intro a w hb hd
        have e82 : a.eval (.tmp 82) = .bool false := hd 82 (by decide)
        exact hop_runK (F := (StK.eq (.bool false)).F) (wanted_none rfl) _ (run_mv _ (.inl rfl) e82) rfl
      · intro a w hb hd
        have eg : a.eval (.tmp 83) = .bool false := hd 83 (by decide)
        have e16 : a.eval (.tmp 16) = .pointer (some ⟨g16, 0, none⟩) := hd 16 (by decide)
        exact hop_runK (F := (StK.eq (.agg (recA p s n a6 r6))).F) (wanted_yes rfl rfl rfl eg) _ (run_ldAll _ _ rfl e16 (k18p.step hb) Try.underlying28 rfl size_rec) rfl
      · intro a w hb hd
        have eg : a.eval (.tmp 83) = .bool false := hd 83 (by decide)
        have e18 : a.eval (.tmp 18) = .pointer (some ⟨g18, 0, none⟩) := hd 18 (by decide)
        exact hop_runK (F := (StK.eq (.agg (recA p s n a6 r6))).F) (wanted_yes rfl rfl rfl eg) _ (run_ldAll _ _ rfl e18 (C18.step hb) Try.underlying28 rfl size_rec) rfl
      · intro a w hb hd
        have eg : a.eval (.tmp 83) = .bool false := hd 83 (by decide)
        have e84 : a.eval (.tmp 84) = .agg (recA p s n a6 r6) := hd 84 (by decide)
        have e85 : a.eval (.tmp 85) = .agg (recA p s n a6 r6) := hd 85 (by decide)
        exact hop_callK (F := (StK.eq (.bool true)).F) (wanted_yes rfl rfl rfl eg) hb.size rfl #[a.eval (.tmp 84), a.eval (.tmp 85)] (by first | (simp only [List.map_toArray, List.map_cons, List.map_nil]; done) | (simp only [List.map_toArray, List.map_cons, List.map_nil]; rfl)) (enters_of Try.func23 (by kernel_rfl) rfl) (by rw [e84]; rw [e85]; exact call_eq (rec_same p s n a6 r6 w))
      · intro a w hb hd
        have eg : a.eval (.tmp 83) = .bool false := hd 83 (by decide)
        have e86 : a.eval (.tmp 86) = .bool true := hd 86 (by decide)
        exact hop_runK (F := (StK.eq (.bool false)).F) (wanted_yes rfl rfl rfl eg) _ (run_not _ _ rfl e86) rfl
      · intro a w hb hd
        have e83 : a.eval (.tmp 83) = .bool false := hd 83 (by decide)
        have e87 : a.eval (.tmp 87) = .bool false := hd 87 (by decide)
        exact hop_runK (F := (StK.eq (.bool false)).F) (wanted_none rfl) (.bool false) (run_pick_f rfl e83 e87) rfl
      · intro a w hb hd
        have e88 : a.eval (.tmp 88) = .bool false := hd 88 (by decide)
        exact hop_runK (F := (StK.eq (.bool false)).F) (wanted_none rfl) _ (run_mv _ (.inl rfl) e88) rfl
      · intro a w hb hd
        have eg : a.eval (.tmp 89) = .bool false := hd 89 (by decide)
        have e9 : a.eval (.tmp 9) = .pointer (some ⟨g, 0, none⟩) := hd 9 (by decide)
        exact hop_runK (F := (StK.eq (.agg (recA 1 ⟨#[117]⟩ N A 0))).F) (wanted_yes rfl rfl rfl eg) _ (run_ldAll _ _ rfl e9 (k18c.step hb) Try.underlying28 rfl size_rec) rfl
      · intro a w hb hd
        have eg : a.eval (.tmp 89) = .bool false := hd 89 (by decide)
        have e10 : a.eval (.tmp 10) = .slice (some ⟨gl, 0, none⟩) 2 2 := hd 10 (by decide)
        exact hop_runK (F := (StK.eq (.slice (some ⟨gl, 0, none⟩) 2 2)).F) (wanted_yes rfl rfl rfl eg) _ (run_mv _ (.inl rfl) e10) rfl
      · intro a w hb hd
        have eg : a.eval (.tmp 89) = .bool false := hd 89 (by decide)
        have e11 : a.eval (.tmp 11) = .int .i64 1 := hd 11 (by decide)
        exact hop_runK (F := (StK.eq (.int .i64 1)).F) (wanted_yes rfl rfl rfl eg) _ (run_mv _ (.inl rfl) e11) rfl
      · intro a w hb hd
        have eg : a.eval (.tmp 89) = .bool false := hd 89 (by decide)
        have e91 : a.eval (.tmp 91) = .slice (some ⟨gl, 0, none⟩) 2 2 := hd 91 (by decide)
        have e92 : a.eval (.tmp 92) = .int .i64 1 := hd 92 (by decide)
        exact hop_runK (F := (StK.eq (.pointer (some ⟨gl, 1, none⟩))).F) (wanted_yes rfl rfl rfl eg) _ (by unfold execOp; simp only [e91, e92]; kernel_rfl) rfl
      · intro a w hb hd
        have eg : a.eval (.tmp 89) = .bool false := hd 89 (by decide)
        have e93 : a.eval (.tmp 93) = .pointer (some ⟨gl, 1, none⟩) := hd 93 (by decide)
        exact hop_runK (F := (StK.eq (.int .i64 Y)).F) (wanted_yes rfl rfl rfl eg) _ (run_ldCell _ _ rfl e93 Try.underlying3 rfl ((k18d.step hb).cell (k := 1) rfl)) rfl
      · intro a w hb hd
        have eg : a.eval (.tmp 89) = .bool false := hd 89 (by decide)
        have e90 : a.eval (.tmp 90) = .agg (recA 1 ⟨#[117]⟩ N A 0) := hd 90 (by decide)
        have e94 : a.eval (.tmp 94) = .int .i64 Y := hd 94 (by decide)
        exact hop_callK (F := (StK.eq (.agg (recA 1 ⟨#[117]⟩ m q 0))).F) (wanted_yes rfl rfl rfl eg) hb.size rfl #[a.eval (.tmp 90), a.eval (.tmp 94)] (by first | (simp only [List.map_toArray, List.map_cons, List.map_nil]; done) | (simp only [List.map_toArray, List.map_cons, List.map_nil]; rfl)) (enters_of Try.func24 (by kernel_rfl) rfl) (by rw [e90]; rw [e94]; exact call_eq (h5.out w))
      · intro a w hb hd
        have eg : a.eval (.tmp 89) = .bool false := hd 89 (by decide)
        have e9 : a.eval (.tmp 9) = .pointer (some ⟨g, 0, none⟩) := hd 9 (by decide)
        exact hop_runK (F := (StK.eq (.agg (recA 1 ⟨#[117]⟩ N A 0))).F) (wanted_yes rfl rfl rfl eg) _ (run_ldAll _ _ rfl e9 (k18c.step hb) Try.underlying28 rfl size_rec) rfl
      · intro a w hb hd
        have eg : a.eval (.tmp 89) = .bool false := hd 89 (by decide)
        have e10 : a.eval (.tmp 10) = .slice (some ⟨gl, 0, none⟩) 2 2 := hd 10 (by decide)
        exact hop_runK (F := (StK.eq (.slice (some ⟨gl, 0, none⟩) 2 2)).F) (wanted_yes rfl rfl rfl eg) _ (run_mv _ (.inl rfl) e10) rfl
      · intro a w hb hd
        have eg : a.eval (.tmp 89) = .bool false := hd 89 (by decide)
        have e11 : a.eval (.tmp 11) = .int .i64 1 := hd 11 (by decide)
        exact hop_runK (F := (StK.eq (.int .i64 1)).F) (wanted_yes rfl rfl rfl eg) _ (run_mv _ (.inl rfl) e11) rfl
      · intro a w hb hd
        have eg : a.eval (.tmp 89) = .bool false := hd 89 (by decide)
        have e97 : a.eval (.tmp 97) = .slice (some ⟨gl, 0, none⟩) 2 2 := hd 97 (by decide)
        have e98 : a.eval (.tmp 98) = .int .i64 1 := hd 98 (by decide)
        exact hop_runK (F := (StK.eq (.pointer (some ⟨gl, 1, none⟩))).F) (wanted_yes rfl rfl rfl eg) _ (by unfold execOp; simp only [e97, e98]; kernel_rfl) rfl
      · intro a w hb hd
        have eg : a.eval (.tmp 89) = .bool false := hd 89 (by decide)
        have e99 : a.eval (.tmp 99) = .pointer (some ⟨gl, 1, none⟩) := hd 99 (by decide)
        exact hop_runK (F := (StK.eq (.int .i64 Y)).F) (wanted_yes rfl rfl rfl eg) _ (run_ldCell _ _ rfl e99 Try.underlying3 rfl ((k18d.step hb).cell (k := 1) rfl)) rfl
      · intro a w hb hd
        have eg : a.eval (.tmp 89) = .bool false := hd 89 (by decide)
        have e96 : a.eval (.tmp 96) = .agg (recA 1 ⟨#[117]⟩ N A 0) := hd 96 (by decide)
        have e100 : a.eval (.tmp 100) = .int .i64 Y := hd 100 (by decide)
        exact hop_callK (F := (StK.eq (.agg (recA 1 ⟨#[117]⟩ m q 0))).F) (wanted_yes rfl rfl rfl eg) hb.size rfl #[a.eval (.tmp 96), a.eval (.tmp 100)] (by first | (simp only [List.map_toArray, List.map_cons, List.map_nil]; done) | (simp only [List.map_toArray, List.map_cons, List.map_nil]; rfl)) (enters_of Try.func25 (by kernel_rfl) rfl) (by rw [e96]; rw [e100]; exact call_eq (h6.out w))
      · intro a w hb hd
        have eg : a.eval (.tmp 89) = .bool false := hd 89 (by decide)
        have e95 : a.eval (.tmp 95) = .agg (recA 1 ⟨#[117]⟩ m q 0) := hd 95 (by decide)
        have e101 : a.eval (.tmp 101) = .agg (recA 1 ⟨#[117]⟩ m q 0) := hd 101 (by decide)
        exact hop_callK (F := (StK.eq (.bool true)).F) (wanted_yes rfl rfl rfl eg) hb.size rfl #[a.eval (.tmp 95), a.eval (.tmp 101)] (by first | (simp only [List.map_toArray, List.map_cons, List.map_nil]; done) | (simp only [List.map_toArray, List.map_cons, List.map_nil]; rfl)) (enters_of Try.func23 (by kernel_rfl) rfl) (by rw [e95]; rw [e101]; exact call_eq (rec_same 1 ⟨#[117]⟩ m q 0 w))
      · intro a w hb hd
        have eg : a.eval (.tmp 89) = .bool false := hd 89 (by decide)
        have e102 : a.eval (.tmp 102) = .bool true := hd 102 (by decide)
        exact hop_runK (F := (StK.eq (.bool false)).F) (wanted_yes rfl rfl rfl eg) _ (run_not _ _ rfl e102) rfl
      · intro a w hb hd
        have e89 : a.eval (.tmp 89) = .bool false := hd 89 (by decide)
        have e103 : a.eval (.tmp 103) = .bool false := hd 103 (by decide)
        exact hop_runK (F := (StK.eq (.bool false)).F) (wanted_none rfl) (.bool false) (run_pick_f rfl e89 e103) rfl
      intro pwe we bwe hp
      obtain ⟨-, -, -, -, -, -, -, -, -, -, -, -, -, -, -, -, -, -, -, -, -, -, -, -, -, -, -, -, -, -, -, -, -, -, q34, -⟩ := hp
      have e34 : pwe 34 = .bool false := q34 (by decide)
      simp only [List.take_succ_cons, List.take_zero, List.drop_succ_cons, List.drop_zero, layAll, Act.put, List.setIfInBounds_toArray, List.set_cons_zero, List.set_cons_succ, Nat.zero_add, Nat.reduceAdd, e34]
      clear q34 e34
      have nwec := k18c.step bwe
      have nwed := k18d.step bwe
      have nweB := k18B.trans (bwe.mono k18B.size)
      clear k18c k18d k18B bwe
      go_wp2_with fail
      go_roundw
      case rel => exact ⟨2, by omega, rfl, nwec, nwed, nweB⟩
      case measure => simp [intOf]
    · go_wp2
      go_ret
      exact ⟨rfl, hB⟩
end Go.Proofs.Ytffoekgopooeaaa
