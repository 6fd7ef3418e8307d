/- sentinelref3.Mix. -/
import Derived.Test.YtajombnckgehbaaSRquarter
namespace Go.Proofs.Ytajombnckgehbaa
set_option linter.unusedVariables false
set_option linter.unusedSimpArgs false
open Go.ChangeShapes Go.WideShapes Go.ChangeAt Go.RowKit

theorem rquarter_w0 (s : W8) (h : s.ok) (w : World) :
    Calls Try.prog 36 #[.agg (arrW s), .int .i64 0, .int .i64 1, .int .i64 2, .int .i64 3] w fun e w' => e = .returned (.agg (arrW s.p0)) ∧ Below w.heap.size w w' := by
  obtain ⟨h0, h1, h2, h3, h4, h5, h6, h7⟩ := h
  exact rquarter_p0 _ _ _ _ _ _ _ _ h0 h1 h2 h3 h4 h5 h6 h7 w
theorem rquarter_w1 (s : W8) (h : s.ok) (w : World) :
    Calls Try.prog 36 #[.agg (arrW s), .int .i64 4, .int .i64 5, .int .i64 6, .int .i64 7] w fun e w' => e = .returned (.agg (arrW s.p1)) ∧ Below w.heap.size w w' := by
  obtain ⟨h0, h1, h2, h3, h4, h5, h6, h7⟩ := h
  exact rquarter_p1 _ _ _ _ _ _ _ _ h0 h1 h2 h3 h4 h5 h6 h7 w
theorem rquarter_w2 (s : W8) (h : s.ok) (w : World) :
    Calls Try.prog 36 #[.agg (arrW s), .int .i64 0, .int .i64 5, .int .i64 2, .int .i64 7] w fun e w' => e = .returned (.agg (arrW s.p2)) ∧ Below w.heap.size w w' := by
  obtain ⟨h0, h1, h2, h3, h4, h5, h6, h7⟩ := h
  exact rquarter_p2 _ _ _ _ _ _ _ _ h0 h1 h2 h3 h4 h5 h6 h7 w
theorem rquarter_w3 (s : W8) (h : s.ok) (w : World) :
    Calls Try.prog 36 #[.agg (arrW s), .int .i64 4, .int .i64 1, .int .i64 6, .int .i64 3] w fun e w' => e = .returned (.agg (arrW s.p3)) ∧ Below w.heap.size w w' := by
  obtain ⟨h0, h1, h2, h3, h4, h5, h6, h7⟩ := h
  exact rquarter_p3 _ _ _ _ _ _ _ _ h0 h1 h2 h3 h4 h5 h6 h7 w
set_option maxHeartbeats 2000000 in
set_option maxRecDepth 100000 in
theorem rmix_any (s : W8) (hs : s.ok) (w : World) :
    Calls Try.prog 17 #[.agg (arrW s)] w fun e w' => e = .returned (.agg (arrW (mixW s))) ∧ Below w.heap.size w w' := by
  have OK := hid (ok_mixN hs)
  clear hs
  go_enter Try.func17, Try.ntmps17
  go_wp2
  go_loopw [3] (fun u wr => ∃ k : Nat, k ≤ 8 ∧ u = .int .i64 ((k : Int) + 1) ∧ Below w.heap.size w wr ∧ Blk wr w.heap.size 25 (arrW (mixN k s)) ∧ Blk wr (w.heap.size + 1) 25 #[Value.int .u32 0, .int .u32 0, .int .u32 0, .int .u32 0, .int .u32 0, .int .u32 0, .int .u32 0, .int .u32 0]) (fun u _ => 9 - (intOf u).toNat)
  case atStart =>
    refine ⟨0, by omega, rfl, ((Below.refl _ _).alloc (Nat.le_refl _) _).alloc (by simp) _, (Blk.new w _ (arrW s)).alloc _, ?_⟩
    have := Blk.new (w.alloc (.cells (arrW s) 25)) 25 #[Value.int .u32 0, .int .u32 0, .int .u32 0, .int .u32 0, .int .u32 0, .int .u32 0, .int .u32 0, .int .u32 0]
    rw [World.size_alloc] at this
    exact this
  case round =>
    obtain ⟨k, hk, rfl, hB, hb, hz⟩ := hrel
    by_cases hlt : k < 8
    · have c0 := hb.cell0
      have f0 := hb.frozen 0
      have ok := OK.out k
      have o1 := ok.1.1
      have o2 := ok.1.2
      have OK' := hid ok
      clear ok
      have e1 : bits .xor .u32 (mixN k s).x0 ((k : Int) + 1) = ((mixN k s).r k).x0 := by unfold W8.r xorW; rfl
      go_upto_region 5 with fail
      have b1 := hb.setr k
      have g1 := grown_set (p := ⟨w.heap.size, 0, none⟩) (World.grownBy.refl wr (some w.heap.size)) rfl (.int .u32 ((mixN k s).r k).x0)
      generalize World.setCell _ _ _ = v1 at *
      clear c0 f0 e1 o1 o2 hb
      have n1 : some (w.heap.size + 1) ≠ some w.heap.size := by simp
      have z1 := hz.grown g1 n1
      have B1 := below_of_grown hB g1 hB.size (Nat.le_refl _)
      clear hz hB g1
      go_wp2_with (refine wpList_load_blk rfl _ _ rfl _ rfl _ _ _ b1 Try.underlying25 rfl (sizeW _) ?_)
      refine (rquarter_w0 _ (ok_r OK'.out k) _).mono ?_
      rintro e v2 ⟨rfl, g2⟩
      go_wp2_with fail
      refine (rquarter_w1 _ (ok_p0 (ok_r OK'.out k)) _).mono ?_
      rintro e v3 ⟨rfl, g3⟩
      go_wp2_with fail
      refine (rquarter_w2 _ (ok_p1 (ok_p0 (ok_r OK'.out k))) _).mono ?_
      rintro e v4 ⟨rfl, g4⟩
      go_wp2_with fail
      refine (rquarter_w3 _ (ok_p2 (ok_p1 (ok_p0 (ok_r OK'.out k)))) _).mono ?_
      rintro e v5 ⟨rfl, g5⟩
      have G := step_trans (step_trans (step_trans g2 g3) g4) g5
      have b2 := b1.step G
      have z2 := z1.step G
      have B2 := B1.trans (G.mono B1.size)
      clear g2 g3 g4 g5 G b1 z1 B1
      go_wp2_with (refine wpList_store_blk rfl _ _ _ rfl _ rfl _ rfl (arrW_one _) _ b2 rfl (sizeW _) ?_; intro v6 g6 b6)
      go_roundw
      case rel => exact ⟨k + 1, by omega, by go_num, below_of_grown B2 g6 B2.size (Nat.le_refl _), b6, z2.grown g6 n1⟩
      case measure => simp [intOf]; omega
    · have : k = 8 := by omega
      subst this
      go_wp2_with (first | (refine wpList_load_blk rfl _ _ rfl _ rfl _ _ _ hb Try.underlying25 rfl (sizeW _) ?_) | (refine wpList_store_blk rfl _ _ _ rfl _ rfl _ rfl (arrW_one _) _ hz rfl (sizeW _) ?_; intro v gv mv))
      exact bodyPost_ret (results_blk rfl rfl mv Try.underlying25 rfl (sizeW _)) rfl ⟨rfl, below_of_grown hB gv hB.size (by omega)⟩
end Go.Proofs.Ytajombnckgehbaa
