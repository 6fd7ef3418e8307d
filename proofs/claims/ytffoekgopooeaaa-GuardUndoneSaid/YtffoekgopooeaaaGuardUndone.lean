/- sentinellaw9.GuardUndone: the walk. -/
import Derived.Test.YtffoekgopooeaaaGdReg
namespace Go.Proofs.Ytffoekgopooeaaa
set_option linter.unusedVariables false
set_option linter.unusedSimpArgs false
open Go.ChangeShapes Go.WideShapes Go.ChangeAt Go.RowKit Go.Shelf
theorem tok_undo {n a now : Int} (h0 : 0 ≤ n) (h5 : n ≤ 5) (ha : 0 ≤ a) (hn : 0 ≤ now) (hz : tokN n a now ≠ 0) :
    tokN (min (tokN (tokN n a now - 1) (tokA n a now) now + 1) 5) (tokA (tokN n a now - 1) (tokA n a now) now) now = tokN n a now ∧
    tokA (min (tokN (tokN n a now - 1) (tokA n a now) now + 1) 5) (tokA (tokN n a now - 1) (tokA n a now) now) now = tokA n a now := by
  obtain ⟨t0, t5, t6, t7, t8⟩ := tok_bd h0 h5 ha hn
  have w1 := tok_ways n a now
  generalize tokN n a now = x at *
  generalize tokA n a now = y at *
  have w2 := tok_ways (x - 1) y now
  generalize tokN (x - 1) y now = u at *
  generalize tokA (x - 1) y now = v at *
  have w3 := tok_ways (min (u + 1) 5) v now
  generalize tokN (min (u + 1) 5) v now = p at *
  generalize tokA (min (u + 1) 5) v now = q at *
  omega
set_option maxRecDepth 100000 in
set_option maxHeartbeats 16000000 in
theorem GuardUndone_walk (a0 : Int) (hk0 : -9223372036854775808 ≤ a0) (hl0 : a0 < 9223372036854775808)
    (a1 : Int) (hk1 : -9223372036854775808 ≤ a1) (hl1 : a1 < 9223372036854775808)
    (a2 : Int) (hk2 : -9223372036854775808 ≤ a2) (hl2 : a2 < 9223372036854775808) (w : World)  :
    Calls Try.prog 11 #[.int .i64 a0, .int .i64 a1, .int .i64 a2] w fun e w' => e = .returned (.bool true) ∧ Below w.heap.size w w' := by
  go_enter Try.func11, Try.ntmps11
  go_wp2_with fail
  refine (known_any _).mono ?_
  rintro e w1 ⟨rfl, b1⟩
  obtain ⟨N, hN⟩ : ∃ x, Hid (a0 % 6 = x) := ⟨_, hid rfl⟩
  have N0 : 0 ≤ N := by have := hN.out; omega
  have N1 : N < 6 := by have := hN.out; omega
  obtain ⟨A, hA⟩ : ∃ x, Hid (a1 % 500 = x) := ⟨_, hid rfl⟩
  have A0 : 0 ≤ A := by have := hA.out; omega
  have A1 : A < 500 := by have := hA.out; omega
  go_wp2_with fail
  refine (bucket_any a0 a1 hk0 hl0 hk1 hl1 _).mono ?_
  rintro e w2 ⟨rfl, b2⟩
  rw [hN.out, hA.out]
  have B2 := step_trans b1 b2
  have z2 := Blk.new w2 28 #[.int .i64 0, .string ⟨#[]⟩, .slice none 0 0, .int .u32 0, .int .u32 0, .int .u32 0, .int .u32 0, .int .u32 0, .int .u32 0, .int .u32 0, .int .u32 0, .int .u32 0, .int .u32 0, .int .u32 0, .int .u32 0, .int .u32 0, .int .u32 0, .int .u32 0, .int .u32 0, .slice none 0 0, .int .i64 0, .int .i64 0, .int .i64 0]
  clear b1 b2 hN hA
  obtain ⟨T, hT⟩ : ∃ x, Hid (a2 % 600 = x) := ⟨_, hid rfl⟩
  have T0 : 0 ≤ T := by have := hT.out; omega
  have T1 : T < 600 := by have := hT.out; omega
  go_wp2_with (refine wpList_store_blk rfl _ (.tmp 7) _ rfl _ rfl _ rfl (by simp [recA, Value.oneCell']) _ z2 rfl size_rec ?_; intro w3 g3 c3)
  have B3 := step_trans B2 (step_new g3)
  refine (within_eq hT.out (by omega) (by omega) hk2 hl2 _).mono ?_
  rintro e w4 ⟨rfl, b4⟩
  have c4 := c3.step b4
  have B4 := step_trans B3 b4
  clear z2 g3 c3 B3 B2 b4 hT
  obtain ⟨TN, hTN⟩ : ∃ x, Hid (tokN N A T = x) := ⟨_, hid rfl⟩
  obtain ⟨TA, hTA⟩ : ∃ x, Hid (tokA N A T = x) := ⟨_, hid rfl⟩
  obtain ⟨t0, t5, t6, t7, t8⟩ := tok_bd N0 (by omega) A0 T0
  rw [hTN.out] at t0 t5
  rw [hTA.out] at t6 t7 t8
  go_wp2_with (refine wpList_load_blk rfl _ (.tmp 7) rfl _ rfl _ _ _ c4 Try.underlying28 rfl size_rec ?_)
  by_cases hz : tokN N A T = 0
  · refine (charge_none 1 ⟨#[117]⟩ N A 0 T N0 (by omega) A0 (by omega) T0 (by omega) hz _).mono ?_
    rintro e w5 ⟨rfl, b5⟩
    have z5 := Blk.new w5 28 #[.int .i64 0, .string ⟨#[]⟩, .slice none 0 0, .int .u32 0, .int .u32 0, .int .u32 0, .int .u32 0, .int .u32 0, .int .u32 0, .int .u32 0, .int .u32 0, .int .u32 0, .int .u32 0, .int .u32 0, .int .u32 0, .int .u32 0, .int .u32 0, .int .u32 0, .int .u32 0, .slice none 0 0, .int .i64 0, .int .i64 0, .int .i64 0]
    have B5 := step_trans B4 b5
    clear hz
    go_wp2_with (refine wpList_store_blk rfl _ (.tmp 9) _ rfl _ rfl _ rfl (by simp [recA, Value.oneCell']) _ z5 rfl size_rec ?_; intro w6 g6 c6)
    go_ret
    exact ⟨rfl, step_trans B5 (step_new g6)⟩
  · have hTNo := hTN.out
    have hTAo := hTA.out
    have hu := tok_undo N0 (by omega) A0 T0 hz
    have hM0 : 0 ≤ tokN (tokN N A T - 1) (tokA N A T) T := (tok_bd (by omega) (by omega) (by rw [hTA.out]; omega) T0).1
    refine (charge_some 1 ⟨#[117]⟩ N A 0 T N0 (by omega) A0 (by omega) T0 (by omega) hz _).mono ?_
    rintro e w5 ⟨rfl, b5⟩
    have hp : 0 < tokN N A T := by omega
    clear hTNo hTAo
    rw [hTN.out, hTA.out] at hu hM0 ⊢
    rw [hTN.out] at hp
    have z5 := Blk.new w5 28 #[.int .i64 0, .string ⟨#[]⟩, .slice none 0 0, .int .u32 0, .int .u32 0, .int .u32 0, .int .u32 0, .int .u32 0, .int .u32 0, .int .u32 0, .int .u32 0, .int .u32 0, .int .u32 0, .int .u32 0, .int .u32 0, .int .u32 0, .int .u32 0, .int .u32 0, .int .u32 0, .slice none 0 0, .int .i64 0, .int .i64 0, .int .i64 0]
    have c5 := c4.step b5
    have B5 := step_trans B4 b5
    have HU := hid hu
    clear hz c4 B4 b5 hu
    go_wp2_with (first | (refine wpList_store_blk rfl _ (.tmp 9) _ rfl _ rfl _ rfl (by simp [recA, Value.oneCell']) _ z5 rfl size_rec ?_; intro w6 g6 c6; have c56 := c5.step (step_new g6); have B6 := step_trans B5 (step_new g6)) | (refine wpList_load_blk rfl _ (.tmp 9) rfl _ rfl _ _ _ c6 Try.underlying28 rfl size_rec ?_))
    refine (refund_any 1 ⟨#[117]⟩ (TN - 1) TA 0 T (by omega) (by omega) t6 (by omega) T0 (by omega) _).mono ?_
    rintro e w7 ⟨rfl, b7⟩
    obtain ⟨M, hM⟩ : ∃ x, Hid (min (tokN (TN - 1) TA T + 1) 5 = x) := ⟨_, hid rfl⟩
    obtain ⟨Q, hQ⟩ : ∃ x, Hid (tokA (TN - 1) TA T = x) := ⟨_, hid rfl⟩
    have hM1 : 0 ≤ M ∧ M ≤ 5 := by have := hM.out; omega
    have hQ1 : 0 ≤ Q ∧ Q < 9223372036854775808 := by
      have := tok_bd (n := TN - 1) (a := TA) (now := T) (by omega) (by omega) t6 T0
      have := hQ.out; omega
    have HU2 : Hid (tokN M Q T = TN ∧ tokA M Q T = TA) := hid (by rw [← hM.out, ← hQ.out]; exact HU.out)
    rw [hM.out, hQ.out]
    have z7 := Blk.new w7 28 #[.int .i64 0, .string ⟨#[]⟩, .slice none 0 0, .int .u32 0, .int .u32 0, .int .u32 0, .int .u32 0, .int .u32 0, .int .u32 0, .int .u32 0, .int .u32 0, .int .u32 0, .int .u32 0, .int .u32 0, .int .u32 0, .int .u32 0, .int .u32 0, .int .u32 0, .int .u32 0, .slice none 0 0, .int .i64 0, .int .i64 0, .int .i64 0]
    have c57 := c56.step b7
    have B7 := step_trans B6 b7
    clear z5 c5 B5 g6 c6 c56 B6 b7 HU hM hQ hM0
    go_wp2_with (first | (refine wpList_store_blk rfl _ (.tmp 11) _ rfl _ rfl _ rfl (by simp [recA, Value.oneCell']) _ z7 rfl size_rec ?_; intro w8 g8 c8; have c58 := c57.step (step_new g8); have B8 := step_trans B7 (step_new g8)) | (refine wpList_load_blk rfl _ (.tmp 7) rfl _ rfl _ _ _ c58 Try.underlying28 rfl size_rec ?_))
    refine (tokens_eq hTN.out hTA.out N0 (by omega) A0 (by omega) T0 (by omega) _).mono ?_
    rintro e w9 ⟨rfl, b9⟩
    have c59 := c58.step b9
    have c89 := c8.step b9
    have B9 := step_trans B8 b9
    clear z7 c57 B7 g8 c8 c58 B8 b9
    go_wp2_with (refine wpList_load_blk rfl _ (.tmp 11) rfl _ rfl _ _ _ c89 Try.underlying28 rfl size_rec ?_)
    refine (tokens_eq HU2.out.1 HU2.out.2 hM1.1 hM1.2 hQ1.1 hQ1.2 T0 (by omega) _).mono ?_
    rintro e wa ⟨rfl, ba⟩
    have c5a := c59.step ba
    have c8a := c89.step ba
    have Ba := step_trans B9 ba
    have p0 := c5a.cell (k := 0) (v := .int .i64 1) rfl
    have p1 := c5a.cell (k := 1) (v := .string ⟨#[117]⟩) rfl
    have q0 := c8a.cell (k := 0) (v := .int .i64 1) rfl
    have q1 := c8a.cell (k := 1) (v := .string ⟨#[117]⟩) rfl
    go_wp2
    go_ret
    exact ⟨rfl, Ba⟩
end Go.Proofs.Ytffoekgopooeaaa
