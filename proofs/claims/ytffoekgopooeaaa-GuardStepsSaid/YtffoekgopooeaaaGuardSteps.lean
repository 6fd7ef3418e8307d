/- sentinellaw9.GuardSteps: the walk. -/
import Derived.Test.YtffoekgopooeaaaGdReg
namespace Go.Proofs.Ytffoekgopooeaaa
set_option linter.unusedVariables false
set_option linter.unusedSimpArgs false
open Go.ChangeShapes Go.WideShapes Go.ChangeAt Go.RowKit Go.Shelf
theorem tok_two {n a x y : Int} (h0 : 0 ≤ n) (h5 : n ≤ 5) (ha : 0 ≤ a) (hx : a ≤ x) (hy : x ≤ y) :
    tokN (tokN n a x) (tokA n a x) y = tokN n a y ∧ tokA (tokN n a x) (tokA n a x) y = tokA n a y := by
  have w1 := tok_ways n a x
  have w3 := tok_ways n a y
  generalize tokN n a x = p at *
  generalize tokA n a x = q at *
  have w2 := tok_ways p q y
  generalize tokN p q y = u at *
  generalize tokA p q y = v at *
  generalize tokN n a y = c at *
  generalize tokA n a y = d at *
  omega
set_option maxRecDepth 100000 in
set_option maxHeartbeats 16000000 in
theorem GuardSteps_walk (a0 : Int) (hk0 : -9223372036854775808 ≤ a0) (hl0 : a0 < 9223372036854775808)
    (a1 : Int) (hk1 : -9223372036854775808 ≤ a1) (hl1 : a1 < 9223372036854775808)
    (a2 : Int) (hk2 : -9223372036854775808 ≤ a2) (hl2 : a2 < 9223372036854775808)
    (a3 : Int) (hk3 : -9223372036854775808 ≤ a3) (hl3 : a3 < 9223372036854775808) (w : World)  :
    Calls Try.prog 4 #[.int .i64 a0, .int .i64 a1, .int .i64 a2, .int .i64 a3] w fun e w' => e = .returned (.bool true) ∧ Below w.heap.size w w' := by
  go_enter Try.func4, Try.ntmps4
  go_wp2_with fail
  refine (known_any _).mono ?_
  rintro e w1 ⟨rfl, b1⟩
  obtain ⟨N, hN⟩ : ∃ x, Hid (a0 % 6 = x) := ⟨_, hid rfl⟩
  have N0 : 0 ≤ N := by have := hN.out; omega
  have N1 : N < 6 := by have := hN.out; omega
  obtain ⟨A, hA⟩ : ∃ x, Hid (a1 % 500 = x) := ⟨_, hid rfl⟩
  have A0 : 0 ≤ A := by have := hA.out; omega
  have A1 : A < 500 := by have := hA.out; omega
  go_wp2_with fail
  refine (bucket_any a0 a1 hk0 hl0 hk1 hl1 _).mono ?_
  rintro e w2 ⟨rfl, b2⟩
  rw [hN.out, hA.out]
  have B2 := step_trans b1 b2
  have z2 := Blk.new w2 28 #[.int .i64 0, .string ⟨#[]⟩, .slice none 0 0, .int .u32 0, .int .u32 0, .int .u32 0, .int .u32 0, .int .u32 0, .int .u32 0, .int .u32 0, .int .u32 0, .int .u32 0, .int .u32 0, .int .u32 0, .int .u32 0, .int .u32 0, .int .u32 0, .int .u32 0, .int .u32 0, .slice none 0 0, .int .i64 0, .int .i64 0, .int .i64 0]
  clear b1 b2 hN hA
  obtain ⟨K, hK⟩ : ∃ x, Hid (a2 % 100 = x) := ⟨_, hid rfl⟩
  have K0 : 0 ≤ K := by have := hK.out; omega
  have K1 : K < 100 := by have := hK.out; omega
  obtain ⟨L, hL⟩ : ∃ x, Hid (a3 % 100 = x) := ⟨_, hid rfl⟩
  have L0 : 0 ≤ L := by have := hL.out; omega
  have L1 : L < 100 := by have := hL.out; omega
  go_wp2_with (refine wpList_store_blk rfl _ (.tmp 9) _ rfl _ rfl _ rfl (by simp [recA, Value.oneCell']) _ z2 rfl size_rec ?_; intro w3 g3 c3)
  have B3 := step_trans B2 (step_new g3)
  obtain ⟨X, hX⟩ : ∃ x, Hid (A + K = x) := ⟨_, hid rfl⟩
  obtain ⟨Y, hY⟩ : ∃ x, Hid (X + L = x) := ⟨_, hid rfl⟩
  have X0 : 0 ≤ X ∧ X < 9223372036854775808 ∧ A ≤ X := by have := hX.out; omega
  have Y0 : 0 ≤ Y ∧ Y < 9223372036854775808 ∧ X ≤ Y := by have := hY.out; have := hX.out; omega
  obtain ⟨TN, hTN⟩ : ∃ x, Hid (tokN N A X = x) := ⟨_, hid rfl⟩
  obtain ⟨TA, hTA⟩ : ∃ x, Hid (tokA N A X = x) := ⟨_, hid rfl⟩
  obtain ⟨t0, t5, t6, t7, t8⟩ := tok_bd (n := N) (a := A) (now := X) N0 (by omega) A0 (by omega)
  rw [hTN.out] at t0 t5
  rw [hTA.out] at t6 t7 t8
  obtain ⟨P, hP⟩ : ∃ x, Hid (tokN N A Y = x) := ⟨_, hid rfl⟩
  obtain ⟨Q, hQ⟩ : ∃ x, Hid (tokA N A Y = x) := ⟨_, hid rfl⟩
  obtain ⟨u0, u5, u6, u7, u8⟩ := tok_bd (n := N) (a := A) (now := Y) N0 (by omega) A0 (by omega)
  rw [hP.out] at u0 u5
  rw [hQ.out] at u6 u7 u8
  have HS : Hid (tokN TN TA Y = P ∧ tokA TN TA Y = Q) := hid (by
    have := tok_two (n := N) (a := A) (x := X) (y := Y) N0 (by omega) A0 (by omega) (by omega)
    rw [hTN.out, hTA.out, hP.out, hQ.out] at this; exact this)
  obtain ⟨g, hg⟩ : ∃ g, g = w2.heap.size := ⟨_, rfl⟩
  rw [← hg] at c3 ⊢
  clear z2 g3 B2 hg
  go_upto_region 4 with (fail)
  refine wp_region_stT [StK.eq (.pointer (some ⟨g, 21, none⟩)), StK.eq (.int .i64 A), StK.eq (.int .i64 a2), StK.eq (.int .i64 K), StK.eq (.int .i64 X), StK.eq (.int .i64 X)] 6 77 rfl (by kernel_rfl) (by kernel_rfl) ⟨?_, ?_, ?_, ?_, ?_, ?_, trivial⟩ ?_
  · intro a w hb hd
    have e9 : a.eval (.tmp 9) = .pointer (some ⟨g, 0, none⟩) := hd 9 (by decide)
    exact hop_runK (F := (StK.eq (.pointer (some ⟨g, 21, none⟩))).F) (wanted_none rfl) _ (by unfold execOp; simp only [e9]; kernel_rfl) rfl
  · intro a w hb hd
    have e24 : a.eval (.tmp 24) = .pointer (some ⟨g, 21, none⟩) := hd 24 (by decide)
    exact hop_runK (F := (StK.eq (.int .i64 A)).F) (wanted_none rfl) _ (run_ldCell _ _ rfl e24 Try.underlying3 rfl ((c3.step hb).cell (k := 21) rfl)) rfl
  · intro a w hb hd
    have e2 : a.eval (.tmp 2) = .int .i64 a2 := hd 2 (by decide)
    exact hop_runK (F := (StK.eq (.int .i64 a2)).F) (wanted_none rfl) _ (run_mv _ (.inl rfl) e2) rfl
  · intro a w hb hd
    have e26 : a.eval (.tmp 26) = .int .i64 a2 := hd 26 (by decide)
    exact hop_callK (F := (StK.eq (.int .i64 K)).F) (wanted_none rfl) hb.size rfl #[a.eval (.tmp 26), .int .i64 100] (by first | (simp only [List.map_toArray, List.map_cons, List.map_nil]; done) | (simp only [List.map_toArray, List.map_cons, List.map_nil]; rfl)) (enters_of Try.func18 (by kernel_rfl) rfl) (by rw [e26]; exact call_eq (within_eq hK.out (by omega) (by omega) hk2 hl2 w))
  · intro a w hb hd
    have e25 : a.eval (.tmp 25) = .int .i64 A := hd 25 (by decide)
    have e27 : a.eval (.tmp 27) = .int .i64 K := hd 27 (by decide)
    exact hop_runK (F := (StK.eq (.int .i64 X)).F) (wanted_none rfl) _ (run_addI _ _ rfl e25 e27 hX.out (by omega) (by omega)) rfl
  · intro a w hb hd
    have e28 : a.eval (.tmp 28) = .int .i64 X := hd 28 (by decide)
    exact hop_runK (F := (StK.eq (.int .i64 X)).F) (wanted_none rfl) _ (run_mv _ (.inr rfl) e28) rfl
  intro pw4 w4 bw4 hp
  obtain ⟨-, -, -, -, -, q5, -⟩ := hp
  have e5 : pw4 5 = .int .i64 X := q5 (by decide)
  simp only [List.take_succ_cons, List.take_zero, List.drop_succ_cons, List.drop_zero, layAll, Act.put, List.setIfInBounds_toArray, List.set_cons_zero, List.set_cons_succ, Nat.zero_add, Nat.reduceAdd, e5]
  clear q5 e5
  have c4 := c3.step bw4
  have B4 := step_trans B3 bw4
  clear c3 B3 bw4
  go_wp2_with fail
  refine (within_eq hL.out (by omega) (by omega) hk3 hl3 _).mono ?_
  rintro e w5 ⟨rfl, b5⟩
  have c5 := c4.step b5
  have B5 := step_trans B4 b5
  have hXL : X + L = Y := hY.out
  clear c4 B4 b5
  go_wp2_with (refine wpList_load_blk rfl _ (.tmp 9) rfl _ rfl _ _ _ c5 Try.underlying28 rfl size_rec ?_)
  clear hXL
  refine (tokens_eq hTN.out hTA.out N0 (by omega) A0 (by omega) X0.1 X0.2.1 _).mono ?_
  rintro e w6 ⟨rfl, b6⟩
  have c6 := c5.step b6
  have B6 := step_trans B5 b6
  have z6 := Blk.new w6 28 #[.int .i64 0, .string ⟨#[]⟩, .slice none 0 0, .int .u32 0, .int .u32 0, .int .u32 0, .int .u32 0, .int .u32 0, .int .u32 0, .int .u32 0, .int .u32 0, .int .u32 0, .int .u32 0, .int .u32 0, .int .u32 0, .int .u32 0, .int .u32 0, .int .u32 0, .int .u32 0, .slice none 0 0, .int .i64 0, .int .i64 0, .int .i64 0]
  clear c5 B5 b6
  go_upto_region 8 with (first | (refine wpList_load_blk rfl _ (.tmp 9) rfl _ rfl _ _ _ c6 Try.underlying28 rfl size_rec ?_) | (refine wpList_store_blk rfl _ (.tmp 14) _ rfl _ rfl _ rfl (by simp [recA, Value.oneCell']) _ z6 rfl size_rec ?_; intro w7 g7 c7))
  have c67 := c6.step (step_new g7)
  have B7 := step_trans B6 (step_new g7)
  have hne : g ≠ w6.heap.size := by have := c6.lt; omega
  obtain ⟨g2, hg2⟩ : ∃ g2, g2 = w6.heap.size := ⟨_, rfl⟩
  have hgw : w.heap.size ≤ g2 := by rw [hg2]; exact B6.size
  rw [← hg2] at c7 hne ⊢
  have k20 := c7.cell (k := 20) (v := .int .i64 N) rfl
  have k21 := c7.cell (k := 21) (v := .int .i64 A) rfl
  have f20 := c7.frozen 20
  have f21 := c7.frozen 21
  have c8 := (c7.set 20 (.int .i64 TN) (c' := recA 1 ⟨#[117]⟩ TN A 0) rfl).set 21 (.int .i64 TA) (c' := recA 1 ⟨#[117]⟩ TN TA 0) rfl
  have c68 := (c67.far (a := ⟨g2, 20, none⟩) (.int .i64 TN) hne).far (a := ⟨g2, 21, none⟩) (.int .i64 TA) hne
  have B8 := (B7.setCell (p := ⟨g2, 20, none⟩) hgw (.int .i64 TN)).setCell (p := ⟨g2, 21, none⟩) hgw (.int .i64 TA)
  clear c67 B7 hne hg2 c7 g7 z6 c6 B6
  go_wp2_with (refine wpList_load_blk rfl _ (.tmp 14) rfl _ rfl _ _ _ c8 Try.underlying28 rfl size_rec ?_)
  refine (tokens_eq HS.out.1 HS.out.2 t0 t5 t6 (by omega) Y0.1 Y0.2.1 _).mono ?_
  rintro e w9 ⟨rfl, b9⟩
  have c69 := c68.step b9
  have B9 := B8.trans (b9.mono B8.size)
  clear c8 c68 B8 b9 k20 k21 f20 f21
  go_wp2_with (refine wpList_load_blk rfl _ (.tmp 9) rfl _ rfl _ _ _ c69 Try.underlying28 rfl size_rec ?_)
  refine (tokens_eq hP.out hQ.out N0 (by omega) A0 (by omega) Y0.1 Y0.2.1 _).mono ?_
  rintro e wa ⟨rfl, ba⟩
  have Ba := B9.trans (ba.mono B9.size)
  have q1 : 0 ≤ P := u0
  have q2 : P ≤ 5 := u5
  have q3 : Q ≤ Y := by omega
  clear hTN hTA hP hQ HS
  go_wp2
  go_ret
  exact ⟨rfl, Ba⟩
end Go.Proofs.Ytffoekgopooeaaa
