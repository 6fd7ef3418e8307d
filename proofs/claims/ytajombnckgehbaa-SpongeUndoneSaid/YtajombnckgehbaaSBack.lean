/- sentinellaw3.back: a mix undone. -/
import Derived.Test.YtajombnckgehbaaSUndo
namespace Go.Proofs.Ytajombnckgehbaa
set_option linter.unusedVariables false
set_option linter.unusedSimpArgs false
open Go.ChangeShapes Go.WideShapes Go.ChangeAt Go.RowKit

theorem undo_w0 (s : W8) (h : s.ok) (w : World) :
    Calls Try.prog 37 #[.agg (arrW s.p0), .int .i64 0, .int .i64 1, .int .i64 2, .int .i64 3] w fun e w' => e = .returned (.agg (arrW s)) ∧ Below w.heap.size w w' := by
  obtain ⟨h0, h1, h2, h3, h4, h5, h6, h7⟩ := h
  exact undo_p0 _ _ _ _ _ _ _ _ h0 h1 h2 h3 h4 h5 h6 h7 w
theorem undo_w1 (s : W8) (h : s.ok) (w : World) :
    Calls Try.prog 37 #[.agg (arrW s.p1), .int .i64 4, .int .i64 5, .int .i64 6, .int .i64 7] w fun e w' => e = .returned (.agg (arrW s)) ∧ Below w.heap.size w w' := by
  obtain ⟨h0, h1, h2, h3, h4, h5, h6, h7⟩ := h
  exact undo_p1 _ _ _ _ _ _ _ _ h0 h1 h2 h3 h4 h5 h6 h7 w
theorem undo_w2 (s : W8) (h : s.ok) (w : World) :
    Calls Try.prog 37 #[.agg (arrW s.p2), .int .i64 0, .int .i64 5, .int .i64 2, .int .i64 7] w fun e w' => e = .returned (.agg (arrW s)) ∧ Below w.heap.size w w' := by
  obtain ⟨h0, h1, h2, h3, h4, h5, h6, h7⟩ := h
  exact undo_p2 _ _ _ _ _ _ _ _ h0 h1 h2 h3 h4 h5 h6 h7 w
theorem undo_w3 (s : W8) (h : s.ok) (w : World) :
    Calls Try.prog 37 #[.agg (arrW s.p3), .int .i64 4, .int .i64 1, .int .i64 6, .int .i64 3] w fun e w' => e = .returned (.agg (arrW s)) ∧ Below w.heap.size w w' := by
  obtain ⟨h0, h1, h2, h3, h4, h5, h6, h7⟩ := h
  exact undo_p3 _ _ _ _ _ _ _ _ h0 h1 h2 h3 h4 h5 h6 h7 w
theorem Blk.unr {w : World} {b : Nat} {t : TypeId} {s : W8} {k : Nat} (h : Blk w b t (arrW (s.r k))) : Blk (w.setCell ⟨b, 0, none⟩ (.int .u32 s.x0)) b t (arrW s) := h.set 0 _ rfl
theorem mix_succ (n : Nat) (s : W8) : mixN (n + 1) s = (((((mixN n s).r n).p0).p1).p2).p3 := rfl
set_option maxHeartbeats 4000000 in
theorem back_any (s : W8) (hs : s.ok) (w : World) :
    Calls Try.prog 18 #[.agg (arrW (mixW s))] w fun e w' => e = .returned (.agg (arrW s)) ∧ Below w.heap.size w w' := by
  have OK := hid (ok_mixN hs)
  clear hs
  obtain ⟨M, hM⟩ : ∃ M, M = mixW s := ⟨_, rfl⟩
  rw [← hM]
  have HM : Hid (M = mixN 8 s) := hid hM
  clear hM
  go_enter Try.func18, Try.ntmps18
  go_wp2
  go_loopw [3] (fun u wr => ∃ k : Nat, k ≤ 8 ∧ u = .int .i64 (k : Int) ∧ Below w.heap.size w wr ∧ Blk wr w.heap.size 25 (arrW (mixN k s)) ∧ Blk wr (w.heap.size + 1) 25 #[Value.int .u32 0, .int .u32 0, .int .u32 0, .int .u32 0, .int .u32 0, .int .u32 0, .int .u32 0, .int .u32 0]) (fun u _ => (intOf u).toNat)
  case atStart =>
    refine ⟨8, by omega, rfl, ((Below.refl _ _).alloc (Nat.le_refl _) _).alloc (by simp) _, by rw [← HM.out]; exact (Blk.new w _ (arrW M)).alloc _, ?_⟩
    have := Blk.new (w.alloc (.cells (arrW M) 25)) 25 #[Value.int .u32 0, .int .u32 0, .int .u32 0, .int .u32 0, .int .u32 0, .int .u32 0, .int .u32 0, .int .u32 0]
    rw [World.size_alloc] at this
    exact this
  case round =>
    obtain ⟨k, hk, rfl, hB, hb, hz⟩ := hrel
    by_cases hlt : 1 ≤ k
    · obtain ⟨j, rfl⟩ : ∃ j, k = j + 1 := ⟨k - 1, by omega⟩
      have ok := OK.out j
      rw [mix_succ] at hb
      obtain ⟨S, hS⟩ : ∃ S, S = mixN j s := ⟨_, rfl⟩
      rw [← hS] at hb ok
      have HS := hid hS
      clear hS
      have o0 := ok_r ok j
      have o1 := ok_p0 o0
      have o2 := ok_p1 o1
      have o3 := ok_p2 o2
      have n1 : some (w.heap.size + 1) ≠ some w.heap.size := by simp
      go_wp2_with (refine wpList_load_blk rfl _ _ rfl _ rfl _ _ _ hb Try.underlying25 rfl (sizeW _) ?_)
      refine (undo_w3 _ o3 _).mono ?_
      rintro e v1 ⟨rfl, g1⟩
      have hb1 := hb.step g1
      have hz1 := hz.step g1
      have B1 := hB.trans (g1.mono hB.size)
      clear hb hz hB g1
      go_wp2_with (first | (refine wpList_load_blk rfl _ _ rfl _ rfl _ _ _ hb2 Try.underlying25 rfl (sizeW _) ?_) | (refine wpList_store_blk rfl _ _ _ rfl _ rfl _ rfl (arrW_one _) _ hb1 rfl (sizeW _) ?_; intro v2 g2 hb2))
      have hz2 := hz1.grown g2 n1
      have B2 := below_of_grown B1 g2 B1.size (Nat.le_refl _)
      clear hb1 hz1 B1 g2
      refine (undo_w2 _ o2 _).mono ?_
      rintro e v3 ⟨rfl, g3⟩
      have hb3 := hb2.step g3
      have hz3 := hz2.step g3
      have B3 := B2.trans (g3.mono B2.size)
      clear hb2 hz2 B2 g3
      go_wp2_with (first | (refine wpList_load_blk rfl _ _ rfl _ rfl _ _ _ hb4 Try.underlying25 rfl (sizeW _) ?_) | (refine wpList_store_blk rfl _ _ _ rfl _ rfl _ rfl (arrW_one _) _ hb3 rfl (sizeW _) ?_; intro v4 g4 hb4))
      have hz4 := hz3.grown g4 n1
      have B4 := below_of_grown B3 g4 B3.size (Nat.le_refl _)
      clear hb3 hz3 B3 g4
      refine (undo_w1 _ o1 _).mono ?_
      rintro e v5 ⟨rfl, g5⟩
      have hb5 := hb4.step g5
      have hz5 := hz4.step g5
      have B5 := B4.trans (g5.mono B4.size)
      clear hb4 hz4 B4 g5
      go_wp2_with (first | (refine wpList_load_blk rfl _ _ rfl _ rfl _ _ _ hb6 Try.underlying25 rfl (sizeW _) ?_) | (refine wpList_store_blk rfl _ _ _ rfl _ rfl _ rfl (arrW_one _) _ hb5 rfl (sizeW _) ?_; intro v6 g6 hb6))
      have hz6 := hz5.grown g6 n1
      have B6 := below_of_grown B5 g6 B5.size (Nat.le_refl _)
      clear hb5 hz5 B5 g6
      refine (undo_w0 _ o0 _).mono ?_
      rintro e v7 ⟨rfl, g7⟩
      have hb7 := hb6.step g7
      have hz7 := hz6.step g7
      have B7 := B6.trans (g7.mono B6.size)
      clear hb6 hz6 B6 g7
      have e1 : bits .xor .u32 (S.r j).x0 ((j : Int) + 1) = S.x0 := by rw [xor_fold]; exact xor_xor ok.1 ⟨by omega, by omega⟩
      have q1 := (o0.1).1
      have q2 := (o0.1).2
      go_upto_region 8 with (refine wpList_store_blk rfl _ _ _ rfl _ rfl _ rfl (arrW_one _) _ hb7 rfl (sizeW _) ?_; intro v8 g8 hb8)
      have hz8 := hz7.grown g8 n1
      have B8 := below_of_grown B7 g8 B7.size (Nat.le_refl _)
      have c0 := hb8.cell0
      have f0 := hb8.frozen 0
      clear hb7 hz7 B7 g8
      go_wp2
      go_roundw
      case rel => exact ⟨j, by omega, by go_num, B8.setCell (p := ⟨w.heap.size, 0, none⟩) (Nat.le_refl _) _, by rw [← HS.out]; exact hb8.unr, (hz8.grown (grown_set (p := ⟨w.heap.size, 0, none⟩) (World.grownBy.refl v8 (some w.heap.size)) rfl _) n1)⟩
      case measure => simp [intOf]
    · obtain rfl : k = 0 := by omega
      go_wp2_with (first | (refine wpList_load_blk rfl _ _ rfl _ rfl _ _ _ hb Try.underlying25 rfl (sizeW _) ?_) | (refine wpList_store_blk rfl _ _ _ rfl _ rfl _ rfl (arrW_one _) _ hz rfl (sizeW _) ?_; intro v gv mv))
      exact bodyPost_ret (results_blk rfl rfl mv Try.underlying25 rfl (sizeW _)) rfl ⟨rfl, below_of_grown hB gv hB.size (by omega)⟩
end Go.Proofs.Ytajombnckgehbaa
