/- sentinelref3.quarter: four words of eight. -/
import Derived.Test.YtgccbfkofkohpaaGaSa
namespace Go.Proofs.Ytgccbfkofkohpaa
set_option linter.unusedVariables false
set_option maxRecDepth 20000
set_option linter.unusedSimpArgs false
open Go.ChangeShapes Go.WideShapes Go.ChangeAt Go.RowKit

theorem one8 (a b c d e f g h : Int) : (#[Value.int .u32 a, .int .u32 b, .int .u32 c, .int .u32 d, .int .u32 e, .int .u32 f, .int .u32 g, .int .u32 h] : Array Value).all (·.oneCell') = true := by simp [Value.oneCell']
set_option maxHeartbeats 2000000 in
set_option maxRecDepth 100000 in
theorem rquarter_p0 (x0 x1 x2 x3 x4 x5 x6 x7 : Int) (h0 : 0 ≤ x0 ∧ x0 < 4294967296) (h1 : 0 ≤ x1 ∧ x1 < 4294967296) (h2 : 0 ≤ x2 ∧ x2 < 4294967296) (h3 : 0 ≤ x3 ∧ x3 < 4294967296) (h4 : 0 ≤ x4 ∧ x4 < 4294967296) (h5 : 0 ≤ x5 ∧ x5 < 4294967296) (h6 : 0 ≤ x6 ∧ x6 < 4294967296) (h7 : 0 ≤ x7 ∧ x7 < 4294967296) (w : World) :
    Calls Try.prog 111 #[.agg #[Value.int .u32 x0, .int .u32 x1, .int .u32 x2, .int .u32 x3, .int .u32 x4, .int .u32 x5, .int .u32 x6, .int .u32 x7], .int .i64 0, .int .i64 1, .int .i64 2, .int .i64 3] w fun e w' => e = .returned (.agg #[Value.int .u32 (qa x0 x1 x2 x3), .int .u32 (qb x0 x1 x2 x3), .int .u32 (qc x0 x1 x2 x3), .int .u32 (qd x0 x1 x2 x3), .int .u32 x4, .int .u32 x5, .int .u32 x6, .int .u32 x7]) ∧ Below w.heap.size w w' := by
  obtain ⟨b, eb⟩ : ∃ b, b = w.heap.size := ⟨_, rfl⟩
  have hb := (Blk.new w 25 #[Value.int .u32 x0, .int .u32 x1, .int .u32 x2, .int .u32 x3, .int .u32 x4, .int .u32 x5, .int .u32 x6, .int .u32 x7]).alloc (.cells #[Value.int .u32 0, .int .u32 0, .int .u32 0, .int .u32 0, .int .u32 0, .int .u32 0, .int .u32 0, .int .u32 0] 25)
  have hz := Blk.new (w.alloc (.cells #[Value.int .u32 x0, .int .u32 x1, .int .u32 x2, .int .u32 x3, .int .u32 x4, .int .u32 x5, .int .u32 x6, .int .u32 x7] 25)) 25 #[Value.int .u32 0, .int .u32 0, .int .u32 0, .int .u32 0, .int .u32 0, .int .u32 0, .int .u32 0, .int .u32 0]
  rw [World.size_alloc] at hz
  have hB : Below w.heap.size w ((w.alloc (.cells #[Value.int .u32 x0, .int .u32 x1, .int .u32 x2, .int .u32 x3, .int .u32 x4, .int .u32 x5, .int .u32 x6, .int .u32 x7] 25)).alloc (.cells #[Value.int .u32 0, .int .u32 0, .int .u32 0, .int .u32 0, .int .u32 0, .int .u32 0, .int .u32 0, .int .u32 0] 25)) := ((Below.refl _ _).alloc (Nat.le_refl _) _).alloc (by simp) _
  go_enter Try.func111, Try.ntmps111
  go_wp2
  have g := World.grownBy.refl ((w.alloc (.cells #[Value.int .u32 x0, .int .u32 x1, .int .u32 x2, .int .u32 x3, .int .u32 x4, .int .u32 x5, .int .u32 x6, .int .u32 x7] 25)).alloc (.cells #[Value.int .u32 0, .int .u32 0, .int .u32 0, .int .u32 0, .int .u32 0, .int .u32 0, .int .u32 0, .int .u32 0] 25)) (some w.heap.size)
  generalize World.alloc (World.alloc _ _) _ = w0 at *
  rw [← eb] at hb hz g ⊢
  have EB := hid eb
  clear eb
  have k1 := (hb.drew).cell (k := 0) (v := .int .u32 x0) rfl
  have k2 := (hb.drew).cell (k := 1) (v := .int .u32 x1) rfl
  have k3 := (hb.drew).frozen 0
  have e1 : IntKind.u32.wrap (x0 + x1) = (q1a x0 x1 x2 x3) := by rw [IntKind.wrap_u32]; unfold q1a addW; rfl
  have := h0.1
  have := h0.2
  have := h1.1
  have := h1.2
  refine wp_region_still_tail 9 (by kernel_rfl) (by kernel_rfl) ?_
  simp only [List.take_succ_cons, List.take_zero, List.drop_succ_cons, List.drop_zero]
  change wpStill _ _ (World.drew _) _ _ _
  still_step; still_step; still_step; still_step; still_step; still_step; still_step; still_step; still_step
  refine wpStill_nil ?_
  change wpList _ _ _ _ _ (World.drew _)
  clear e1
  go_wp2
  have hbx := (hb.set 0 (.int .u32 (q1a x0 x1 x2 x3)) (c' := #[Value.int .u32 ((q1a x0 x1 x2 x3)), .int .u32 x1, .int .u32 x2, .int .u32 x3, .int .u32 x4, .int .u32 x5, .int .u32 x6, .int .u32 x7]) rfl).drew
  have gx := drewR (grown_set (p := ⟨b, 0, none⟩) g rfl (.int .u32 (q1a x0 x1 x2 x3)))
  generalize World.drew (World.setCell _ _ _) = w1 at *
  clear k1 k2 k3 hb g
  have k1 := (hbx.drew).cell (k := 3) (v := .int .u32 x3) rfl
  have k2 := (hbx.drew).cell (k := 0) (v := .int .u32 (q1a x0 x1 x2 x3)) rfl
  have k3 := (hbx.drew).frozen 3
  have e1 : bits .xor .u32 x3 (q1a x0 x1 x2 x3) = xorW x3 (q1a x0 x1 x2 x3) := by unfold xorW; rfl
  have := (q1a_bd x0 x1 x2 x3).1
  have := (q1a_bd x0 x1 x2 x3).2
  have := h3.1
  have := h3.2
  refine wp_region_still_tail 10 (by kernel_rfl) (by kernel_rfl) ?_
  simp only [List.take_succ_cons, List.take_zero, List.drop_succ_cons, List.drop_zero]
  change wpStill _ _ (World.drew _) _ _ _
  still_step; still_step; still_step; still_step; still_step; still_step; still_step; still_step
  still_call (turn16 _ (xorW_bd _ _).1 (xorW_bd _ _).2 _)
  still_step
  refine wpStill_nil ?_
  change wpList _ _ _ _ _ (World.drew _)
  rw [show rotW 65536 (xorW x3 (q1a x0 x1 x2 x3)) = (q1d x0 x1 x2 x3) by unfold q1d; rfl]
  clear e1
  go_wp2
  have hbxx := (hbx.set 3 (.int .u32 (q1d x0 x1 x2 x3)) (c' := #[Value.int .u32 ((q1a x0 x1 x2 x3)), .int .u32 x1, .int .u32 x2, .int .u32 ((q1d x0 x1 x2 x3)), .int .u32 x4, .int .u32 x5, .int .u32 x6, .int .u32 x7]) rfl).drew
  have gxx := drewR (grown_set (p := ⟨b, 3, none⟩) gx rfl (.int .u32 (q1d x0 x1 x2 x3)))
  generalize World.drew (World.setCell _ _ _) = w2 at *
  clear k1 k2 k3 hbx gx
  have k1 := (hbxx.drew).cell (k := 2) (v := .int .u32 x2) rfl
  have k2 := (hbxx.drew).cell (k := 3) (v := .int .u32 (q1d x0 x1 x2 x3)) rfl
  have k3 := (hbxx.drew).frozen 2
  have e1 : IntKind.u32.wrap (x2 + (q1d x0 x1 x2 x3)) = (q1c x0 x1 x2 x3) := by rw [IntKind.wrap_u32]; unfold q1c addW; rfl
  have := (q1d_bd x0 x1 x2 x3).1
  have := (q1d_bd x0 x1 x2 x3).2
  have := h2.1
  have := h2.2
  refine wp_region_still_tail 9 (by kernel_rfl) (by kernel_rfl) ?_
  simp only [List.take_succ_cons, List.take_zero, List.drop_succ_cons, List.drop_zero]
  change wpStill _ _ (World.drew _) _ _ _
  still_step; still_step; still_step; still_step; still_step; still_step; still_step; still_step; still_step
  refine wpStill_nil ?_
  change wpList _ _ _ _ _ (World.drew _)
  clear e1
  go_wp2
  have hbxxx := (hbxx.set 2 (.int .u32 (q1c x0 x1 x2 x3)) (c' := #[Value.int .u32 ((q1a x0 x1 x2 x3)), .int .u32 x1, .int .u32 ((q1c x0 x1 x2 x3)), .int .u32 ((q1d x0 x1 x2 x3)), .int .u32 x4, .int .u32 x5, .int .u32 x6, .int .u32 x7]) rfl).drew
  have gxxx := drewR (grown_set (p := ⟨b, 2, none⟩) gxx rfl (.int .u32 (q1c x0 x1 x2 x3)))
  generalize World.drew (World.setCell _ _ _) = w3 at *
  clear k1 k2 k3 hbxx gxx
  have k1 := (hbxxx.drew).cell (k := 1) (v := .int .u32 x1) rfl
  have k2 := (hbxxx.drew).cell (k := 2) (v := .int .u32 (q1c x0 x1 x2 x3)) rfl
  have k3 := (hbxxx.drew).frozen 1
  have e1 : bits .xor .u32 x1 (q1c x0 x1 x2 x3) = xorW x1 (q1c x0 x1 x2 x3) := by unfold xorW; rfl
  have := (q1c_bd x0 x1 x2 x3).1
  have := (q1c_bd x0 x1 x2 x3).2
  have := h1.1
  have := h1.2
  refine wp_region_still_tail 10 (by kernel_rfl) (by kernel_rfl) ?_
  simp only [List.take_succ_cons, List.take_zero, List.drop_succ_cons, List.drop_zero]
  change wpStill _ _ (World.drew _) _ _ _
  still_step; still_step; still_step; still_step; still_step; still_step; still_step; still_step
  still_call (turn12 _ (xorW_bd _ _).1 (xorW_bd _ _).2 _)
  still_step
  refine wpStill_nil ?_
  change wpList _ _ _ _ _ (World.drew _)
  rw [show rotW 4096 (xorW x1 (q1c x0 x1 x2 x3)) = (q1b x0 x1 x2 x3) by unfold q1b; rfl]
  clear e1
  go_wp2
  have hbxxxx := (hbxxx.set 1 (.int .u32 (q1b x0 x1 x2 x3)) (c' := #[Value.int .u32 ((q1a x0 x1 x2 x3)), .int .u32 ((q1b x0 x1 x2 x3)), .int .u32 ((q1c x0 x1 x2 x3)), .int .u32 ((q1d x0 x1 x2 x3)), .int .u32 x4, .int .u32 x5, .int .u32 x6, .int .u32 x7]) rfl).drew
  have gxxxx := drewR (grown_set (p := ⟨b, 1, none⟩) gxxx rfl (.int .u32 (q1b x0 x1 x2 x3)))
  generalize World.drew (World.setCell _ _ _) = w4 at *
  clear k1 k2 k3 hbxxx gxxx
  have k1 := (hbxxxx.drew).cell (k := 0) (v := .int .u32 (q1a x0 x1 x2 x3)) rfl
  have k2 := (hbxxxx.drew).cell (k := 1) (v := .int .u32 (q1b x0 x1 x2 x3)) rfl
  have k3 := (hbxxxx.drew).frozen 0
  have e1 : IntKind.u32.wrap ((q1a x0 x1 x2 x3) + (q1b x0 x1 x2 x3)) = (qa x0 x1 x2 x3) := by rw [IntKind.wrap_u32]; unfold qa addW; rfl
  have := (q1a_bd x0 x1 x2 x3).1
  have := (q1a_bd x0 x1 x2 x3).2
  have := (q1b_bd x0 x1 x2 x3).1
  have := (q1b_bd x0 x1 x2 x3).2
  refine wp_region_still_tail 9 (by kernel_rfl) (by kernel_rfl) ?_
  simp only [List.take_succ_cons, List.take_zero, List.drop_succ_cons, List.drop_zero]
  change wpStill _ _ (World.drew _) _ _ _
  still_step; still_step; still_step; still_step; still_step; still_step; still_step; still_step; still_step
  refine wpStill_nil ?_
  change wpList _ _ _ _ _ (World.drew _)
  clear e1
  go_wp2
  have hbxxxxx := (hbxxxx.set 0 (.int .u32 (qa x0 x1 x2 x3)) (c' := #[Value.int .u32 ((qa x0 x1 x2 x3)), .int .u32 ((q1b x0 x1 x2 x3)), .int .u32 ((q1c x0 x1 x2 x3)), .int .u32 ((q1d x0 x1 x2 x3)), .int .u32 x4, .int .u32 x5, .int .u32 x6, .int .u32 x7]) rfl).drew
  have gxxxxx := drewR (grown_set (p := ⟨b, 0, none⟩) gxxxx rfl (.int .u32 (qa x0 x1 x2 x3)))
  generalize World.drew (World.setCell _ _ _) = w5 at *
  clear k1 k2 k3 hbxxxx gxxxx
  have k1 := (hbxxxxx.drew).cell (k := 3) (v := .int .u32 (q1d x0 x1 x2 x3)) rfl
  have k2 := (hbxxxxx.drew).cell (k := 0) (v := .int .u32 (qa x0 x1 x2 x3)) rfl
  have k3 := (hbxxxxx.drew).frozen 3
  have e1 : bits .xor .u32 (q1d x0 x1 x2 x3) (qa x0 x1 x2 x3) = xorW (q1d x0 x1 x2 x3) (qa x0 x1 x2 x3) := by unfold xorW; rfl
  have := (q1d_bd x0 x1 x2 x3).1
  have := (q1d_bd x0 x1 x2 x3).2
  have := (qa_bd x0 x1 x2 x3).1
  have := (qa_bd x0 x1 x2 x3).2
  refine wp_region_still_tail 10 (by kernel_rfl) (by kernel_rfl) ?_
  simp only [List.take_succ_cons, List.take_zero, List.drop_succ_cons, List.drop_zero]
  change wpStill _ _ (World.drew _) _ _ _
  still_step; still_step; still_step; still_step; still_step; still_step; still_step; still_step
  still_call (turn8 _ (xorW_bd _ _).1 (xorW_bd _ _).2 _)
  still_step
  refine wpStill_nil ?_
  change wpList _ _ _ _ _ (World.drew _)
  rw [show rotW 256 (xorW (q1d x0 x1 x2 x3) (qa x0 x1 x2 x3)) = (qd x0 x1 x2 x3) by unfold qd; rfl]
  clear e1
  go_wp2
  have hbxxxxxx := (hbxxxxx.set 3 (.int .u32 (qd x0 x1 x2 x3)) (c' := #[Value.int .u32 ((qa x0 x1 x2 x3)), .int .u32 ((q1b x0 x1 x2 x3)), .int .u32 ((q1c x0 x1 x2 x3)), .int .u32 ((qd x0 x1 x2 x3)), .int .u32 x4, .int .u32 x5, .int .u32 x6, .int .u32 x7]) rfl).drew
  have gxxxxxx := drewR (grown_set (p := ⟨b, 3, none⟩) gxxxxx rfl (.int .u32 (qd x0 x1 x2 x3)))
  generalize World.drew (World.setCell _ _ _) = w6 at *
  clear k1 k2 k3 hbxxxxx gxxxxx
  have k1 := (hbxxxxxx.drew).cell (k := 2) (v := .int .u32 (q1c x0 x1 x2 x3)) rfl
  have k2 := (hbxxxxxx.drew).cell (k := 3) (v := .int .u32 (qd x0 x1 x2 x3)) rfl
  have k3 := (hbxxxxxx.drew).frozen 2
  have e1 : IntKind.u32.wrap ((q1c x0 x1 x2 x3) + (qd x0 x1 x2 x3)) = (qc x0 x1 x2 x3) := by rw [IntKind.wrap_u32]; unfold qc addW; rfl
  have := (q1c_bd x0 x1 x2 x3).1
  have := (q1c_bd x0 x1 x2 x3).2
  have := (qd_bd x0 x1 x2 x3).1
  have := (qd_bd x0 x1 x2 x3).2
  refine wp_region_still_tail 9 (by kernel_rfl) (by kernel_rfl) ?_
  simp only [List.take_succ_cons, List.take_zero, List.drop_succ_cons, List.drop_zero]
  change wpStill _ _ (World.drew _) _ _ _
  still_step; still_step; still_step; still_step; still_step; still_step; still_step; still_step; still_step
  refine wpStill_nil ?_
  change wpList _ _ _ _ _ (World.drew _)
  clear e1
  go_wp2
  have hbxxxxxxx := (hbxxxxxx.set 2 (.int .u32 (qc x0 x1 x2 x3)) (c' := #[Value.int .u32 ((qa x0 x1 x2 x3)), .int .u32 ((q1b x0 x1 x2 x3)), .int .u32 ((qc x0 x1 x2 x3)), .int .u32 ((qd x0 x1 x2 x3)), .int .u32 x4, .int .u32 x5, .int .u32 x6, .int .u32 x7]) rfl).drew
  have gxxxxxxx := drewR (grown_set (p := ⟨b, 2, none⟩) gxxxxxx rfl (.int .u32 (qc x0 x1 x2 x3)))
  generalize World.drew (World.setCell _ _ _) = w7 at *
  clear k1 k2 k3 hbxxxxxx gxxxxxx
  have k1 := (hbxxxxxxx.drew).cell (k := 1) (v := .int .u32 (q1b x0 x1 x2 x3)) rfl
  have k2 := (hbxxxxxxx.drew).cell (k := 2) (v := .int .u32 (qc x0 x1 x2 x3)) rfl
  have k3 := (hbxxxxxxx.drew).frozen 1
  have e1 : bits .xor .u32 (q1b x0 x1 x2 x3) (qc x0 x1 x2 x3) = xorW (q1b x0 x1 x2 x3) (qc x0 x1 x2 x3) := by unfold xorW; rfl
  have := (q1b_bd x0 x1 x2 x3).1
  have := (q1b_bd x0 x1 x2 x3).2
  have := (qc_bd x0 x1 x2 x3).1
  have := (qc_bd x0 x1 x2 x3).2
  refine wp_region_still_tail 10 (by kernel_rfl) (by kernel_rfl) ?_
  simp only [List.take_succ_cons, List.take_zero, List.drop_succ_cons, List.drop_zero]
  change wpStill _ _ (World.drew _) _ _ _
  still_step; still_step; still_step; still_step; still_step; still_step; still_step; still_step
  still_call (turn7 _ (xorW_bd _ _).1 (xorW_bd _ _).2 _)
  still_step
  refine wpStill_nil ?_
  change wpList _ _ _ _ _ (World.drew _)
  rw [show rotW 128 (xorW (q1b x0 x1 x2 x3) (qc x0 x1 x2 x3)) = (qb x0 x1 x2 x3) by unfold qb; rfl]
  clear e1
  go_upto_region 9 with fail
  have hbxxxxxxxx := (hbxxxxxxx.set 1 (.int .u32 (qb x0 x1 x2 x3)) (c' := #[Value.int .u32 ((qa x0 x1 x2 x3)), .int .u32 ((qb x0 x1 x2 x3)), .int .u32 ((qc x0 x1 x2 x3)), .int .u32 ((qd x0 x1 x2 x3)), .int .u32 x4, .int .u32 x5, .int .u32 x6, .int .u32 x7]) rfl).drew
  have gxxxxxxxx := drewR (grown_set (p := ⟨b, 1, none⟩) gxxxxxxx rfl (.int .u32 (qb x0 x1 x2 x3)))
  generalize World.drew (World.setCell _ _ _) = w8 at *
  clear k1 k2 k3 hbxxxxxxx gxxxxxxx
  have hz2 := hz.grown gxxxxxxxx (by simp)
  have hB2 := below_of_grown hB gxxxxxxxx hB.size (Nat.le_of_eq EB.out.symm)
  go_wp2_with (first | (refine wpList_load_blk rfl _ _ rfl _ rfl _ _ _ hbxxxxxxxx Try.underlying25 rfl size8 ?_) | (refine wpList_store_blk rfl _ _ _ rfl _ rfl _ rfl (one8 _ _ _ _ _ _ _ _) _ hz2 rfl size8 ?_; intro v gv mv))
  exact bodyPost_ret (results_blk rfl rfl mv Try.underlying25 rfl size8) rfl ⟨rfl, below_of_grown hB2 gv hB2.size (by have := EB.out; omega)⟩
set_option maxHeartbeats 2000000 in
set_option maxRecDepth 100000 in
theorem rquarter_p1 (x0 x1 x2 x3 x4 x5 x6 x7 : Int) (h0 : 0 ≤ x0 ∧ x0 < 4294967296) (h1 : 0 ≤ x1 ∧ x1 < 4294967296) (h2 : 0 ≤ x2 ∧ x2 < 4294967296) (h3 : 0 ≤ x3 ∧ x3 < 4294967296) (h4 : 0 ≤ x4 ∧ x4 < 4294967296) (h5 : 0 ≤ x5 ∧ x5 < 4294967296) (h6 : 0 ≤ x6 ∧ x6 < 4294967296) (h7 : 0 ≤ x7 ∧ x7 < 4294967296) (w : World) :
    Calls Try.prog 111 #[.agg #[Value.int .u32 x0, .int .u32 x1, .int .u32 x2, .int .u32 x3, .int .u32 x4, .int .u32 x5, .int .u32 x6, .int .u32 x7], .int .i64 4, .int .i64 5, .int .i64 6, .int .i64 7] w fun e w' => e = .returned (.agg #[Value.int .u32 x0, .int .u32 x1, .int .u32 x2, .int .u32 x3, .int .u32 (qa x4 x5 x6 x7), .int .u32 (qb x4 x5 x6 x7), .int .u32 (qc x4 x5 x6 x7), .int .u32 (qd x4 x5 x6 x7)]) ∧ Below w.heap.size w w' := by
  obtain ⟨b, eb⟩ : ∃ b, b = w.heap.size := ⟨_, rfl⟩
  have hb := (Blk.new w 25 #[Value.int .u32 x0, .int .u32 x1, .int .u32 x2, .int .u32 x3, .int .u32 x4, .int .u32 x5, .int .u32 x6, .int .u32 x7]).alloc (.cells #[Value.int .u32 0, .int .u32 0, .int .u32 0, .int .u32 0, .int .u32 0, .int .u32 0, .int .u32 0, .int .u32 0] 25)
  have hz := Blk.new (w.alloc (.cells #[Value.int .u32 x0, .int .u32 x1, .int .u32 x2, .int .u32 x3, .int .u32 x4, .int .u32 x5, .int .u32 x6, .int .u32 x7] 25)) 25 #[Value.int .u32 0, .int .u32 0, .int .u32 0, .int .u32 0, .int .u32 0, .int .u32 0, .int .u32 0, .int .u32 0]
  rw [World.size_alloc] at hz
  have hB : Below w.heap.size w ((w.alloc (.cells #[Value.int .u32 x0, .int .u32 x1, .int .u32 x2, .int .u32 x3, .int .u32 x4, .int .u32 x5, .int .u32 x6, .int .u32 x7] 25)).alloc (.cells #[Value.int .u32 0, .int .u32 0, .int .u32 0, .int .u32 0, .int .u32 0, .int .u32 0, .int .u32 0, .int .u32 0] 25)) := ((Below.refl _ _).alloc (Nat.le_refl _) _).alloc (by simp) _
  go_enter Try.func111, Try.ntmps111
  go_wp2
  have g := World.grownBy.refl ((w.alloc (.cells #[Value.int .u32 x0, .int .u32 x1, .int .u32 x2, .int .u32 x3, .int .u32 x4, .int .u32 x5, .int .u32 x6, .int .u32 x7] 25)).alloc (.cells #[Value.int .u32 0, .int .u32 0, .int .u32 0, .int .u32 0, .int .u32 0, .int .u32 0, .int .u32 0, .int .u32 0] 25)) (some w.heap.size)
  generalize World.alloc (World.alloc _ _) _ = w0 at *
  rw [← eb] at hb hz g ⊢
  have EB := hid eb
  clear eb
  have k1 := (hb.drew).cell (k := 4) (v := .int .u32 x4) rfl
  have k2 := (hb.drew).cell (k := 5) (v := .int .u32 x5) rfl
  have k3 := (hb.drew).frozen 4
  have e1 : IntKind.u32.wrap (x4 + x5) = (q1a x4 x5 x6 x7) := by rw [IntKind.wrap_u32]; unfold q1a addW; rfl
  have := h4.1
  have := h4.2
  have := h5.1
  have := h5.2
  refine wp_region_still_tail 9 (by kernel_rfl) (by kernel_rfl) ?_
  simp only [List.take_succ_cons, List.take_zero, List.drop_succ_cons, List.drop_zero]
  change wpStill _ _ (World.drew _) _ _ _
  still_step; still_step; still_step; still_step; still_step; still_step; still_step; still_step; still_step
  refine wpStill_nil ?_
  change wpList _ _ _ _ _ (World.drew _)
  clear e1
  go_wp2
  have hbx := (hb.set 4 (.int .u32 (q1a x4 x5 x6 x7)) (c' := #[Value.int .u32 x0, .int .u32 x1, .int .u32 x2, .int .u32 x3, .int .u32 ((q1a x4 x5 x6 x7)), .int .u32 x5, .int .u32 x6, .int .u32 x7]) rfl).drew
  have gx := drewR (grown_set (p := ⟨b, 4, none⟩) g rfl (.int .u32 (q1a x4 x5 x6 x7)))
  generalize World.drew (World.setCell _ _ _) = w1 at *
  clear k1 k2 k3 hb g
  have k1 := (hbx.drew).cell (k := 7) (v := .int .u32 x7) rfl
  have k2 := (hbx.drew).cell (k := 4) (v := .int .u32 (q1a x4 x5 x6 x7)) rfl
  have k3 := (hbx.drew).frozen 7
  have e1 : bits .xor .u32 x7 (q1a x4 x5 x6 x7) = xorW x7 (q1a x4 x5 x6 x7) := by unfold xorW; rfl
  have := (q1a_bd x4 x5 x6 x7).1
  have := (q1a_bd x4 x5 x6 x7).2
  have := h7.1
  have := h7.2
  refine wp_region_still_tail 10 (by kernel_rfl) (by kernel_rfl) ?_
  simp only [List.take_succ_cons, List.take_zero, List.drop_succ_cons, List.drop_zero]
  change wpStill _ _ (World.drew _) _ _ _
  still_step; still_step; still_step; still_step; still_step; still_step; still_step; still_step
  still_call (turn16 _ (xorW_bd _ _).1 (xorW_bd _ _).2 _)
  still_step
  refine wpStill_nil ?_
  change wpList _ _ _ _ _ (World.drew _)
  rw [show rotW 65536 (xorW x7 (q1a x4 x5 x6 x7)) = (q1d x4 x5 x6 x7) by unfold q1d; rfl]
  clear e1
  go_wp2
  have hbxx := (hbx.set 7 (.int .u32 (q1d x4 x5 x6 x7)) (c' := #[Value.int .u32 x0, .int .u32 x1, .int .u32 x2, .int .u32 x3, .int .u32 ((q1a x4 x5 x6 x7)), .int .u32 x5, .int .u32 x6, .int .u32 ((q1d x4 x5 x6 x7))]) rfl).drew
  have gxx := drewR (grown_set (p := ⟨b, 7, none⟩) gx rfl (.int .u32 (q1d x4 x5 x6 x7)))
  generalize World.drew (World.setCell _ _ _) = w2 at *
  clear k1 k2 k3 hbx gx
  have k1 := (hbxx.drew).cell (k := 6) (v := .int .u32 x6) rfl
  have k2 := (hbxx.drew).cell (k := 7) (v := .int .u32 (q1d x4 x5 x6 x7)) rfl
  have k3 := (hbxx.drew).frozen 6
  have e1 : IntKind.u32.wrap (x6 + (q1d x4 x5 x6 x7)) = (q1c x4 x5 x6 x7) := by rw [IntKind.wrap_u32]; unfold q1c addW; rfl
  have := (q1d_bd x4 x5 x6 x7).1
  have := (q1d_bd x4 x5 x6 x7).2
  have := h6.1
  have := h6.2
  refine wp_region_still_tail 9 (by kernel_rfl) (by kernel_rfl) ?_
  simp only [List.take_succ_cons, List.take_zero, List.drop_succ_cons, List.drop_zero]
  change wpStill _ _ (World.drew _) _ _ _
  still_step; still_step; still_step; still_step; still_step; still_step; still_step; still_step; still_step
  refine wpStill_nil ?_
  change wpList _ _ _ _ _ (World.drew _)
  clear e1
  go_wp2
  have hbxxx := (hbxx.set 6 (.int .u32 (q1c x4 x5 x6 x7)) (c' := #[Value.int .u32 x0, .int .u32 x1, .int .u32 x2, .int .u32 x3, .int .u32 ((q1a x4 x5 x6 x7)), .int .u32 x5, .int .u32 ((q1c x4 x5 x6 x7)), .int .u32 ((q1d x4 x5 x6 x7))]) rfl).drew
  have gxxx := drewR (grown_set (p := ⟨b, 6, none⟩) gxx rfl (.int .u32 (q1c x4 x5 x6 x7)))
  generalize World.drew (World.setCell _ _ _) = w3 at *
  clear k1 k2 k3 hbxx gxx
  have k1 := (hbxxx.drew).cell (k := 5) (v := .int .u32 x5) rfl
  have k2 := (hbxxx.drew).cell (k := 6) (v := .int .u32 (q1c x4 x5 x6 x7)) rfl
  have k3 := (hbxxx.drew).frozen 5
  have e1 : bits .xor .u32 x5 (q1c x4 x5 x6 x7) = xorW x5 (q1c x4 x5 x6 x7) := by unfold xorW; rfl
  have := (q1c_bd x4 x5 x6 x7).1
  have := (q1c_bd x4 x5 x6 x7).2
  have := h5.1
  have := h5.2
  refine wp_region_still_tail 10 (by kernel_rfl) (by kernel_rfl) ?_
  simp only [List.take_succ_cons, List.take_zero, List.drop_succ_cons, List.drop_zero]
  change wpStill _ _ (World.drew _) _ _ _
  still_step; still_step; still_step; still_step; still_step; still_step; still_step; still_step
  still_call (turn12 _ (xorW_bd _ _).1 (xorW_bd _ _).2 _)
  still_step
  refine wpStill_nil ?_
  change wpList _ _ _ _ _ (World.drew _)
  rw [show rotW 4096 (xorW x5 (q1c x4 x5 x6 x7)) = (q1b x4 x5 x6 x7) by unfold q1b; rfl]
  clear e1
  go_wp2
  have hbxxxx := (hbxxx.set 5 (.int .u32 (q1b x4 x5 x6 x7)) (c' := #[Value.int .u32 x0, .int .u32 x1, .int .u32 x2, .int .u32 x3, .int .u32 ((q1a x4 x5 x6 x7)), .int .u32 ((q1b x4 x5 x6 x7)), .int .u32 ((q1c x4 x5 x6 x7)), .int .u32 ((q1d x4 x5 x6 x7))]) rfl).drew
  have gxxxx := drewR (grown_set (p := ⟨b, 5, none⟩) gxxx rfl (.int .u32 (q1b x4 x5 x6 x7)))
  generalize World.drew (World.setCell _ _ _) = w4 at *
  clear k1 k2 k3 hbxxx gxxx
  have k1 := (hbxxxx.drew).cell (k := 4) (v := .int .u32 (q1a x4 x5 x6 x7)) rfl
  have k2 := (hbxxxx.drew).cell (k := 5) (v := .int .u32 (q1b x4 x5 x6 x7)) rfl
  have k3 := (hbxxxx.drew).frozen 4
  have e1 : IntKind.u32.wrap ((q1a x4 x5 x6 x7) + (q1b x4 x5 x6 x7)) = (qa x4 x5 x6 x7) := by rw [IntKind.wrap_u32]; unfold qa addW; rfl
  have := (q1a_bd x4 x5 x6 x7).1
  have := (q1a_bd x4 x5 x6 x7).2
  have := (q1b_bd x4 x5 x6 x7).1
  have := (q1b_bd x4 x5 x6 x7).2
  refine wp_region_still_tail 9 (by kernel_rfl) (by kernel_rfl) ?_
  simp only [List.take_succ_cons, List.take_zero, List.drop_succ_cons, List.drop_zero]
  change wpStill _ _ (World.drew _) _ _ _
  still_step; still_step; still_step; still_step; still_step; still_step; still_step; still_step; still_step
  refine wpStill_nil ?_
  change wpList _ _ _ _ _ (World.drew _)
  clear e1
  go_wp2
  have hbxxxxx := (hbxxxx.set 4 (.int .u32 (qa x4 x5 x6 x7)) (c' := #[Value.int .u32 x0, .int .u32 x1, .int .u32 x2, .int .u32 x3, .int .u32 ((qa x4 x5 x6 x7)), .int .u32 ((q1b x4 x5 x6 x7)), .int .u32 ((q1c x4 x5 x6 x7)), .int .u32 ((q1d x4 x5 x6 x7))]) rfl).drew
  have gxxxxx := drewR (grown_set (p := ⟨b, 4, none⟩) gxxxx rfl (.int .u32 (qa x4 x5 x6 x7)))
  generalize World.drew (World.setCell _ _ _) = w5 at *
  clear k1 k2 k3 hbxxxx gxxxx
  have k1 := (hbxxxxx.drew).cell (k := 7) (v := .int .u32 (q1d x4 x5 x6 x7)) rfl
  have k2 := (hbxxxxx.drew).cell (k := 4) (v := .int .u32 (qa x4 x5 x6 x7)) rfl
  have k3 := (hbxxxxx.drew).frozen 7
  have e1 : bits .xor .u32 (q1d x4 x5 x6 x7) (qa x4 x5 x6 x7) = xorW (q1d x4 x5 x6 x7) (qa x4 x5 x6 x7) := by unfold xorW; rfl
  have := (q1d_bd x4 x5 x6 x7).1
  have := (q1d_bd x4 x5 x6 x7).2
  have := (qa_bd x4 x5 x6 x7).1
  have := (qa_bd x4 x5 x6 x7).2
  refine wp_region_still_tail 10 (by kernel_rfl) (by kernel_rfl) ?_
  simp only [List.take_succ_cons, List.take_zero, List.drop_succ_cons, List.drop_zero]
  change wpStill _ _ (World.drew _) _ _ _
  still_step; still_step; still_step; still_step; still_step; still_step; still_step; still_step
  still_call (turn8 _ (xorW_bd _ _).1 (xorW_bd _ _).2 _)
  still_step
  refine wpStill_nil ?_
  change wpList _ _ _ _ _ (World.drew _)
  rw [show rotW 256 (xorW (q1d x4 x5 x6 x7) (qa x4 x5 x6 x7)) = (qd x4 x5 x6 x7) by unfold qd; rfl]
  clear e1
  go_wp2
  have hbxxxxxx := (hbxxxxx.set 7 (.int .u32 (qd x4 x5 x6 x7)) (c' := #[Value.int .u32 x0, .int .u32 x1, .int .u32 x2, .int .u32 x3, .int .u32 ((qa x4 x5 x6 x7)), .int .u32 ((q1b x4 x5 x6 x7)), .int .u32 ((q1c x4 x5 x6 x7)), .int .u32 ((qd x4 x5 x6 x7))]) rfl).drew
  have gxxxxxx := drewR (grown_set (p := ⟨b, 7, none⟩) gxxxxx rfl (.int .u32 (qd x4 x5 x6 x7)))
  generalize World.drew (World.setCell _ _ _) = w6 at *
  clear k1 k2 k3 hbxxxxx gxxxxx
  have k1 := (hbxxxxxx.drew).cell (k := 6) (v := .int .u32 (q1c x4 x5 x6 x7)) rfl
  have k2 := (hbxxxxxx.drew).cell (k := 7) (v := .int .u32 (qd x4 x5 x6 x7)) rfl
  have k3 := (hbxxxxxx.drew).frozen 6
  have e1 : IntKind.u32.wrap ((q1c x4 x5 x6 x7) + (qd x4 x5 x6 x7)) = (qc x4 x5 x6 x7) := by rw [IntKind.wrap_u32]; unfold qc addW; rfl
  have := (q1c_bd x4 x5 x6 x7).1
  have := (q1c_bd x4 x5 x6 x7).2
  have := (qd_bd x4 x5 x6 x7).1
  have := (qd_bd x4 x5 x6 x7).2
  refine wp_region_still_tail 9 (by kernel_rfl) (by kernel_rfl) ?_
  simp only [List.take_succ_cons, List.take_zero, List.drop_succ_cons, List.drop_zero]
  change wpStill _ _ (World.drew _) _ _ _
  still_step; still_step; still_step; still_step; still_step; still_step; still_step; still_step; still_step
  refine wpStill_nil ?_
  change wpList _ _ _ _ _ (World.drew _)
  clear e1
  go_wp2
  have hbxxxxxxx := (hbxxxxxx.set 6 (.int .u32 (qc x4 x5 x6 x7)) (c' := #[Value.int .u32 x0, .int .u32 x1, .int .u32 x2, .int .u32 x3, .int .u32 ((qa x4 x5 x6 x7)), .int .u32 ((q1b x4 x5 x6 x7)), .int .u32 ((qc x4 x5 x6 x7)), .int .u32 ((qd x4 x5 x6 x7))]) rfl).drew
  have gxxxxxxx := drewR (grown_set (p := ⟨b, 6, none⟩) gxxxxxx rfl (.int .u32 (qc x4 x5 x6 x7)))
  generalize World.drew (World.setCell _ _ _) = w7 at *
  clear k1 k2 k3 hbxxxxxx gxxxxxx
  have k1 := (hbxxxxxxx.drew).cell (k := 5) (v := .int .u32 (q1b x4 x5 x6 x7)) rfl
  have k2 := (hbxxxxxxx.drew).cell (k := 6) (v := .int .u32 (qc x4 x5 x6 x7)) rfl
  have k3 := (hbxxxxxxx.drew).frozen 5
  have e1 : bits .xor .u32 (q1b x4 x5 x6 x7) (qc x4 x5 x6 x7) = xorW (q1b x4 x5 x6 x7) (qc x4 x5 x6 x7) := by unfold xorW; rfl
  have := (q1b_bd x4 x5 x6 x7).1
  have := (q1b_bd x4 x5 x6 x7).2
  have := (qc_bd x4 x5 x6 x7).1
  have := (qc_bd x4 x5 x6 x7).2
  refine wp_region_still_tail 10 (by kernel_rfl) (by kernel_rfl) ?_
  simp only [List.take_succ_cons, List.take_zero, List.drop_succ_cons, List.drop_zero]
  change wpStill _ _ (World.drew _) _ _ _
  still_step; still_step; still_step; still_step; still_step; still_step; still_step; still_step
  still_call (turn7 _ (xorW_bd _ _).1 (xorW_bd _ _).2 _)
  still_step
  refine wpStill_nil ?_
  change wpList _ _ _ _ _ (World.drew _)
  rw [show rotW 128 (xorW (q1b x4 x5 x6 x7) (qc x4 x5 x6 x7)) = (qb x4 x5 x6 x7) by unfold qb; rfl]
  clear e1
  go_upto_region 9 with fail
  have hbxxxxxxxx := (hbxxxxxxx.set 5 (.int .u32 (qb x4 x5 x6 x7)) (c' := #[Value.int .u32 x0, .int .u32 x1, .int .u32 x2, .int .u32 x3, .int .u32 ((qa x4 x5 x6 x7)), .int .u32 ((qb x4 x5 x6 x7)), .int .u32 ((qc x4 x5 x6 x7)), .int .u32 ((qd x4 x5 x6 x7))]) rfl).drew
  have gxxxxxxxx := drewR (grown_set (p := ⟨b, 5, none⟩) gxxxxxxx rfl (.int .u32 (qb x4 x5 x6 x7)))
  generalize World.drew (World.setCell _ _ _) = w8 at *
  clear k1 k2 k3 hbxxxxxxx gxxxxxxx
  have hz2 := hz.grown gxxxxxxxx (by simp)
  have hB2 := below_of_grown hB gxxxxxxxx hB.size (Nat.le_of_eq EB.out.symm)
  go_wp2_with (first | (refine wpList_load_blk rfl _ _ rfl _ rfl _ _ _ hbxxxxxxxx Try.underlying25 rfl size8 ?_) | (refine wpList_store_blk rfl _ _ _ rfl _ rfl _ rfl (one8 _ _ _ _ _ _ _ _) _ hz2 rfl size8 ?_; intro v gv mv))
  exact bodyPost_ret (results_blk rfl rfl mv Try.underlying25 rfl size8) rfl ⟨rfl, below_of_grown hB2 gv hB2.size (by have := EB.out; omega)⟩
set_option maxHeartbeats 2000000 in
set_option maxRecDepth 100000 in
theorem rquarter_p2 (x0 x1 x2 x3 x4 x5 x6 x7 : Int) (h0 : 0 ≤ x0 ∧ x0 < 4294967296) (h1 : 0 ≤ x1 ∧ x1 < 4294967296) (h2 : 0 ≤ x2 ∧ x2 < 4294967296) (h3 : 0 ≤ x3 ∧ x3 < 4294967296) (h4 : 0 ≤ x4 ∧ x4 < 4294967296) (h5 : 0 ≤ x5 ∧ x5 < 4294967296) (h6 : 0 ≤ x6 ∧ x6 < 4294967296) (h7 : 0 ≤ x7 ∧ x7 < 4294967296) (w : World) :
    Calls Try.prog 111 #[.agg #[Value.int .u32 x0, .int .u32 x1, .int .u32 x2, .int .u32 x3, .int .u32 x4, .int .u32 x5, .int .u32 x6, .int .u32 x7], .int .i64 0, .int .i64 5, .int .i64 2, .int .i64 7] w fun e w' => e = .returned (.agg #[Value.int .u32 (qa x0 x5 x2 x7), .int .u32 x1, .int .u32 (qc x0 x5 x2 x7), .int .u32 x3, .int .u32 x4, .int .u32 (qb x0 x5 x2 x7), .int .u32 x6, .int .u32 (qd x0 x5 x2 x7)]) ∧ Below w.heap.size w w' := by
  obtain ⟨b, eb⟩ : ∃ b, b = w.heap.size := ⟨_, rfl⟩
  have hb := (Blk.new w 25 #[Value.int .u32 x0, .int .u32 x1, .int .u32 x2, .int .u32 x3, .int .u32 x4, .int .u32 x5, .int .u32 x6, .int .u32 x7]).alloc (.cells #[Value.int .u32 0, .int .u32 0, .int .u32 0, .int .u32 0, .int .u32 0, .int .u32 0, .int .u32 0, .int .u32 0] 25)
  have hz := Blk.new (w.alloc (.cells #[Value.int .u32 x0, .int .u32 x1, .int .u32 x2, .int .u32 x3, .int .u32 x4, .int .u32 x5, .int .u32 x6, .int .u32 x7] 25)) 25 #[Value.int .u32 0, .int .u32 0, .int .u32 0, .int .u32 0, .int .u32 0, .int .u32 0, .int .u32 0, .int .u32 0]
  rw [World.size_alloc] at hz
  have hB : Below w.heap.size w ((w.alloc (.cells #[Value.int .u32 x0, .int .u32 x1, .int .u32 x2, .int .u32 x3, .int .u32 x4, .int .u32 x5, .int .u32 x6, .int .u32 x7] 25)).alloc (.cells #[Value.int .u32 0, .int .u32 0, .int .u32 0, .int .u32 0, .int .u32 0, .int .u32 0, .int .u32 0, .int .u32 0] 25)) := ((Below.refl _ _).alloc (Nat.le_refl _) _).alloc (by simp) _
  go_enter Try.func111, Try.ntmps111
  go_wp2
  have g := World.grownBy.refl ((w.alloc (.cells #[Value.int .u32 x0, .int .u32 x1, .int .u32 x2, .int .u32 x3, .int .u32 x4, .int .u32 x5, .int .u32 x6, .int .u32 x7] 25)).alloc (.cells #[Value.int .u32 0, .int .u32 0, .int .u32 0, .int .u32 0, .int .u32 0, .int .u32 0, .int .u32 0, .int .u32 0] 25)) (some w.heap.size)
  generalize World.alloc (World.alloc _ _) _ = w0 at *
  rw [← eb] at hb hz g ⊢
  have EB := hid eb
  clear eb
  have k1 := (hb.drew).cell (k := 0) (v := .int .u32 x0) rfl
  have k2 := (hb.drew).cell (k := 5) (v := .int .u32 x5) rfl
  have k3 := (hb.drew).frozen 0
  have e1 : IntKind.u32.wrap (x0 + x5) = (q1a x0 x5 x2 x7) := by rw [IntKind.wrap_u32]; unfold q1a addW; rfl
  have := h0.1
  have := h0.2
  have := h5.1
  have := h5.2
  refine wp_region_still_tail 9 (by kernel_rfl) (by kernel_rfl) ?_
  simp only [List.take_succ_cons, List.take_zero, List.drop_succ_cons, List.drop_zero]
  change wpStill _ _ (World.drew _) _ _ _
  still_step; still_step; still_step; still_step; still_step; still_step; still_step; still_step; still_step
  refine wpStill_nil ?_
  change wpList _ _ _ _ _ (World.drew _)
  clear e1
  go_wp2
  have hbx := (hb.set 0 (.int .u32 (q1a x0 x5 x2 x7)) (c' := #[Value.int .u32 ((q1a x0 x5 x2 x7)), .int .u32 x1, .int .u32 x2, .int .u32 x3, .int .u32 x4, .int .u32 x5, .int .u32 x6, .int .u32 x7]) rfl).drew
  have gx := drewR (grown_set (p := ⟨b, 0, none⟩) g rfl (.int .u32 (q1a x0 x5 x2 x7)))
  generalize World.drew (World.setCell _ _ _) = w1 at *
  clear k1 k2 k3 hb g
  have k1 := (hbx.drew).cell (k := 7) (v := .int .u32 x7) rfl
  have k2 := (hbx.drew).cell (k := 0) (v := .int .u32 (q1a x0 x5 x2 x7)) rfl
  have k3 := (hbx.drew).frozen 7
  have e1 : bits .xor .u32 x7 (q1a x0 x5 x2 x7) = xorW x7 (q1a x0 x5 x2 x7) := by unfold xorW; rfl
  have := (q1a_bd x0 x5 x2 x7).1
  have := (q1a_bd x0 x5 x2 x7).2
  have := h7.1
  have := h7.2
  refine wp_region_still_tail 10 (by kernel_rfl) (by kernel_rfl) ?_
  simp only [List.take_succ_cons, List.take_zero, List.drop_succ_cons, List.drop_zero]
  change wpStill _ _ (World.drew _) _ _ _
  still_step; still_step; still_step; still_step; still_step; still_step; still_step; still_step
  still_call (turn16 _ (xorW_bd _ _).1 (xorW_bd _ _).2 _)
  still_step
  refine wpStill_nil ?_
  change wpList _ _ _ _ _ (World.drew _)
  rw [show rotW 65536 (xorW x7 (q1a x0 x5 x2 x7)) = (q1d x0 x5 x2 x7) by unfold q1d; rfl]
  clear e1
  go_wp2
  have hbxx := (hbx.set 7 (.int .u32 (q1d x0 x5 x2 x7)) (c' := #[Value.int .u32 ((q1a x0 x5 x2 x7)), .int .u32 x1, .int .u32 x2, .int .u32 x3, .int .u32 x4, .int .u32 x5, .int .u32 x6, .int .u32 ((q1d x0 x5 x2 x7))]) rfl).drew
  have gxx := drewR (grown_set (p := ⟨b, 7, none⟩) gx rfl (.int .u32 (q1d x0 x5 x2 x7)))
  generalize World.drew (World.setCell _ _ _) = w2 at *
  clear k1 k2 k3 hbx gx
  have k1 := (hbxx.drew).cell (k := 2) (v := .int .u32 x2) rfl
  have k2 := (hbxx.drew).cell (k := 7) (v := .int .u32 (q1d x0 x5 x2 x7)) rfl
  have k3 := (hbxx.drew).frozen 2
  have e1 : IntKind.u32.wrap (x2 + (q1d x0 x5 x2 x7)) = (q1c x0 x5 x2 x7) := by rw [IntKind.wrap_u32]; unfold q1c addW; rfl
  have := (q1d_bd x0 x5 x2 x7).1
  have := (q1d_bd x0 x5 x2 x7).2
  have := h2.1
  have := h2.2
  refine wp_region_still_tail 9 (by kernel_rfl) (by kernel_rfl) ?_
  simp only [List.take_succ_cons, List.take_zero, List.drop_succ_cons, List.drop_zero]
  change wpStill _ _ (World.drew _) _ _ _
  still_step; still_step; still_step; still_step; still_step; still_step; still_step; still_step; still_step
  refine wpStill_nil ?_
  change wpList _ _ _ _ _ (World.drew _)
  clear e1
  go_wp2
  have hbxxx := (hbxx.set 2 (.int .u32 (q1c x0 x5 x2 x7)) (c' := #[Value.int .u32 ((q1a x0 x5 x2 x7)), .int .u32 x1, .int .u32 ((q1c x0 x5 x2 x7)), .int .u32 x3, .int .u32 x4, .int .u32 x5, .int .u32 x6, .int .u32 ((q1d x0 x5 x2 x7))]) rfl).drew
  have gxxx := drewR (grown_set (p := ⟨b, 2, none⟩) gxx rfl (.int .u32 (q1c x0 x5 x2 x7)))
  generalize World.drew (World.setCell _ _ _) = w3 at *
  clear k1 k2 k3 hbxx gxx
  have k1 := (hbxxx.drew).cell (k := 5) (v := .int .u32 x5) rfl
  have k2 := (hbxxx.drew).cell (k := 2) (v := .int .u32 (q1c x0 x5 x2 x7)) rfl
  have k3 := (hbxxx.drew).frozen 5
  have e1 : bits .xor .u32 x5 (q1c x0 x5 x2 x7) = xorW x5 (q1c x0 x5 x2 x7) := by unfold xorW; rfl
  have := (q1c_bd x0 x5 x2 x7).1
  have := (q1c_bd x0 x5 x2 x7).2
  have := h5.1
  have := h5.2
  refine wp_region_still_tail 10 (by kernel_rfl) (by kernel_rfl) ?_
  simp only [List.take_succ_cons, List.take_zero, List.drop_succ_cons, List.drop_zero]
  change wpStill _ _ (World.drew _) _ _ _
  still_step; still_step; still_step; still_step; still_step; still_step; still_step; still_step
  still_call (turn12 _ (xorW_bd _ _).1 (xorW_bd _ _).2 _)
  still_step
  refine wpStill_nil ?_
  change wpList _ _ _ _ _ (World.drew _)
  rw [show rotW 4096 (xorW x5 (q1c x0 x5 x2 x7)) = (q1b x0 x5 x2 x7) by unfold q1b; rfl]
  clear e1
  go_wp2
  have hbxxxx := (hbxxx.set 5 (.int .u32 (q1b x0 x5 x2 x7)) (c' := #[Value.int .u32 ((q1a x0 x5 x2 x7)), .int .u32 x1, .int .u32 ((q1c x0 x5 x2 x7)), .int .u32 x3, .int .u32 x4, .int .u32 ((q1b x0 x5 x2 x7)), .int .u32 x6, .int .u32 ((q1d x0 x5 x2 x7))]) rfl).drew
  have gxxxx := drewR (grown_set (p := ⟨b, 5, none⟩) gxxx rfl (.int .u32 (q1b x0 x5 x2 x7)))
  generalize World.drew (World.setCell _ _ _) = w4 at *
  clear k1 k2 k3 hbxxx gxxx
  have k1 := (hbxxxx.drew).cell (k := 0) (v := .int .u32 (q1a x0 x5 x2 x7)) rfl
  have k2 := (hbxxxx.drew).cell (k := 5) (v := .int .u32 (q1b x0 x5 x2 x7)) rfl
  have k3 := (hbxxxx.drew).frozen 0
  have e1 : IntKind.u32.wrap ((q1a x0 x5 x2 x7) + (q1b x0 x5 x2 x7)) = (qa x0 x5 x2 x7) := by rw [IntKind.wrap_u32]; unfold qa addW; rfl
  have := (q1a_bd x0 x5 x2 x7).1
  have := (q1a_bd x0 x5 x2 x7).2
  have := (q1b_bd x0 x5 x2 x7).1
  have := (q1b_bd x0 x5 x2 x7).2
  refine wp_region_still_tail 9 (by kernel_rfl) (by kernel_rfl) ?_
  simp only [List.take_succ_cons, List.take_zero, List.drop_succ_cons, List.drop_zero]
  change wpStill _ _ (World.drew _) _ _ _
  still_step; still_step; still_step; still_step; still_step; still_step; still_step; still_step; still_step
  refine wpStill_nil ?_
  change wpList _ _ _ _ _ (World.drew _)
  clear e1
  go_wp2
  have hbxxxxx := (hbxxxx.set 0 (.int .u32 (qa x0 x5 x2 x7)) (c' := #[Value.int .u32 ((qa x0 x5 x2 x7)), .int .u32 x1, .int .u32 ((q1c x0 x5 x2 x7)), .int .u32 x3, .int .u32 x4, .int .u32 ((q1b x0 x5 x2 x7)), .int .u32 x6, .int .u32 ((q1d x0 x5 x2 x7))]) rfl).drew
  have gxxxxx := drewR (grown_set (p := ⟨b, 0, none⟩) gxxxx rfl (.int .u32 (qa x0 x5 x2 x7)))
  generalize World.drew (World.setCell _ _ _) = w5 at *
  clear k1 k2 k3 hbxxxx gxxxx
  have k1 := (hbxxxxx.drew).cell (k := 7) (v := .int .u32 (q1d x0 x5 x2 x7)) rfl
  have k2 := (hbxxxxx.drew).cell (k := 0) (v := .int .u32 (qa x0 x5 x2 x7)) rfl
  have k3 := (hbxxxxx.drew).frozen 7
  have e1 : bits .xor .u32 (q1d x0 x5 x2 x7) (qa x0 x5 x2 x7) = xorW (q1d x0 x5 x2 x7) (qa x0 x5 x2 x7) := by unfold xorW; rfl
  have := (q1d_bd x0 x5 x2 x7).1
  have := (q1d_bd x0 x5 x2 x7).2
  have := (qa_bd x0 x5 x2 x7).1
  have := (qa_bd x0 x5 x2 x7).2
  refine wp_region_still_tail 10 (by kernel_rfl) (by kernel_rfl) ?_
  simp only [List.take_succ_cons, List.take_zero, List.drop_succ_cons, List.drop_zero]
  change wpStill _ _ (World.drew _) _ _ _
  still_step; still_step; still_step; still_step; still_step; still_step; still_step; still_step
  still_call (turn8 _ (xorW_bd _ _).1 (xorW_bd _ _).2 _)
  still_step
  refine wpStill_nil ?_
  change wpList _ _ _ _ _ (World.drew _)
  rw [show rotW 256 (xorW (q1d x0 x5 x2 x7) (qa x0 x5 x2 x7)) = (qd x0 x5 x2 x7) by unfold qd; rfl]
  clear e1
  go_wp2
  have hbxxxxxx := (hbxxxxx.set 7 (.int .u32 (qd x0 x5 x2 x7)) (c' := #[Value.int .u32 ((qa x0 x5 x2 x7)), .int .u32 x1, .int .u32 ((q1c x0 x5 x2 x7)), .int .u32 x3, .int .u32 x4, .int .u32 ((q1b x0 x5 x2 x7)), .int .u32 x6, .int .u32 ((qd x0 x5 x2 x7))]) rfl).drew
  have gxxxxxx := drewR (grown_set (p := ⟨b, 7, none⟩) gxxxxx rfl (.int .u32 (qd x0 x5 x2 x7)))
  generalize World.drew (World.setCell _ _ _) = w6 at *
  clear k1 k2 k3 hbxxxxx gxxxxx
  have k1 := (hbxxxxxx.drew).cell (k := 2) (v := .int .u32 (q1c x0 x5 x2 x7)) rfl
  have k2 := (hbxxxxxx.drew).cell (k := 7) (v := .int .u32 (qd x0 x5 x2 x7)) rfl
  have k3 := (hbxxxxxx.drew).frozen 2
  have e1 : IntKind.u32.wrap ((q1c x0 x5 x2 x7) + (qd x0 x5 x2 x7)) = (qc x0 x5 x2 x7) := by rw [IntKind.wrap_u32]; unfold qc addW; rfl
  have := (q1c_bd x0 x5 x2 x7).1
  have := (q1c_bd x0 x5 x2 x7).2
  have := (qd_bd x0 x5 x2 x7).1
  have := (qd_bd x0 x5 x2 x7).2
  refine wp_region_still_tail 9 (by kernel_rfl) (by kernel_rfl) ?_
  simp only [List.take_succ_cons, List.take_zero, List.drop_succ_cons, List.drop_zero]
  change wpStill _ _ (World.drew _) _ _ _
  still_step; still_step; still_step; still_step; still_step; still_step; still_step; still_step; still_step
  refine wpStill_nil ?_
  change wpList _ _ _ _ _ (World.drew _)
  clear e1
  go_wp2
  have hbxxxxxxx := (hbxxxxxx.set 2 (.int .u32 (qc x0 x5 x2 x7)) (c' := #[Value.int .u32 ((qa x0 x5 x2 x7)), .int .u32 x1, .int .u32 ((qc x0 x5 x2 x7)), .int .u32 x3, .int .u32 x4, .int .u32 ((q1b x0 x5 x2 x7)), .int .u32 x6, .int .u32 ((qd x0 x5 x2 x7))]) rfl).drew
  have gxxxxxxx := drewR (grown_set (p := ⟨b, 2, none⟩) gxxxxxx rfl (.int .u32 (qc x0 x5 x2 x7)))
  generalize World.drew (World.setCell _ _ _) = w7 at *
  clear k1 k2 k3 hbxxxxxx gxxxxxx
  have k1 := (hbxxxxxxx.drew).cell (k := 5) (v := .int .u32 (q1b x0 x5 x2 x7)) rfl
  have k2 := (hbxxxxxxx.drew).cell (k := 2) (v := .int .u32 (qc x0 x5 x2 x7)) rfl
  have k3 := (hbxxxxxxx.drew).frozen 5
  have e1 : bits .xor .u32 (q1b x0 x5 x2 x7) (qc x0 x5 x2 x7) = xorW (q1b x0 x5 x2 x7) (qc x0 x5 x2 x7) := by unfold xorW; rfl
  have := (q1b_bd x0 x5 x2 x7).1
  have := (q1b_bd x0 x5 x2 x7).2
  have := (qc_bd x0 x5 x2 x7).1
  have := (qc_bd x0 x5 x2 x7).2
  refine wp_region_still_tail 10 (by kernel_rfl) (by kernel_rfl) ?_
  simp only [List.take_succ_cons, List.take_zero, List.drop_succ_cons, List.drop_zero]
  change wpStill _ _ (World.drew _) _ _ _
  still_step; still_step; still_step; still_step; still_step; still_step; still_step; still_step
  still_call (turn7 _ (xorW_bd _ _).1 (xorW_bd _ _).2 _)
  still_step
  refine wpStill_nil ?_
  change wpList _ _ _ _ _ (World.drew _)
  rw [show rotW 128 (xorW (q1b x0 x5 x2 x7) (qc x0 x5 x2 x7)) = (qb x0 x5 x2 x7) by unfold qb; rfl]
  clear e1
  go_upto_region 9 with fail
  have hbxxxxxxxx := (hbxxxxxxx.set 5 (.int .u32 (qb x0 x5 x2 x7)) (c' := #[Value.int .u32 ((qa x0 x5 x2 x7)), .int .u32 x1, .int .u32 ((qc x0 x5 x2 x7)), .int .u32 x3, .int .u32 x4, .int .u32 ((qb x0 x5 x2 x7)), .int .u32 x6, .int .u32 ((qd x0 x5 x2 x7))]) rfl).drew
  have gxxxxxxxx := drewR (grown_set (p := ⟨b, 5, none⟩) gxxxxxxx rfl (.int .u32 (qb x0 x5 x2 x7)))
  generalize World.drew (World.setCell _ _ _) = w8 at *
  clear k1 k2 k3 hbxxxxxxx gxxxxxxx
  have hz2 := hz.grown gxxxxxxxx (by simp)
  have hB2 := below_of_grown hB gxxxxxxxx hB.size (Nat.le_of_eq EB.out.symm)
  go_wp2_with (first | (refine wpList_load_blk rfl _ _ rfl _ rfl _ _ _ hbxxxxxxxx Try.underlying25 rfl size8 ?_) | (refine wpList_store_blk rfl _ _ _ rfl _ rfl _ rfl (one8 _ _ _ _ _ _ _ _) _ hz2 rfl size8 ?_; intro v gv mv))
  exact bodyPost_ret (results_blk rfl rfl mv Try.underlying25 rfl size8) rfl ⟨rfl, below_of_grown hB2 gv hB2.size (by have := EB.out; omega)⟩
set_option maxHeartbeats 2000000 in
set_option maxRecDepth 100000 in
theorem rquarter_p3 (x0 x1 x2 x3 x4 x5 x6 x7 : Int) (h0 : 0 ≤ x0 ∧ x0 < 4294967296) (h1 : 0 ≤ x1 ∧ x1 < 4294967296) (h2 : 0 ≤ x2 ∧ x2 < 4294967296) (h3 : 0 ≤ x3 ∧ x3 < 4294967296) (h4 : 0 ≤ x4 ∧ x4 < 4294967296) (h5 : 0 ≤ x5 ∧ x5 < 4294967296) (h6 : 0 ≤ x6 ∧ x6 < 4294967296) (h7 : 0 ≤ x7 ∧ x7 < 4294967296) (w : World) :
    Calls Try.prog 111 #[.agg #[Value.int .u32 x0, .int .u32 x1, .int .u32 x2, .int .u32 x3, .int .u32 x4, .int .u32 x5, .int .u32 x6, .int .u32 x7], .int .i64 4, .int .i64 1, .int .i64 6, .int .i64 3] w fun e w' => e = .returned (.agg #[Value.int .u32 x0, .int .u32 (qb x4 x1 x6 x3), .int .u32 x2, .int .u32 (qd x4 x1 x6 x3), .int .u32 (qa x4 x1 x6 x3), .int .u32 x5, .int .u32 (qc x4 x1 x6 x3), .int .u32 x7]) ∧ Below w.heap.size w w' := by
  obtain ⟨b, eb⟩ : ∃ b, b = w.heap.size := ⟨_, rfl⟩
  have hb := (Blk.new w 25 #[Value.int .u32 x0, .int .u32 x1, .int .u32 x2, .int .u32 x3, .int .u32 x4, .int .u32 x5, .int .u32 x6, .int .u32 x7]).alloc (.cells #[Value.int .u32 0, .int .u32 0, .int .u32 0, .int .u32 0, .int .u32 0, .int .u32 0, .int .u32 0, .int .u32 0] 25)
  have hz := Blk.new (w.alloc (.cells #[Value.int .u32 x0, .int .u32 x1, .int .u32 x2, .int .u32 x3, .int .u32 x4, .int .u32 x5, .int .u32 x6, .int .u32 x7] 25)) 25 #[Value.int .u32 0, .int .u32 0, .int .u32 0, .int .u32 0, .int .u32 0, .int .u32 0, .int .u32 0, .int .u32 0]
  rw [World.size_alloc] at hz
  have hB : Below w.heap.size w ((w.alloc (.cells #[Value.int .u32 x0, .int .u32 x1, .int .u32 x2, .int .u32 x3, .int .u32 x4, .int .u32 x5, .int .u32 x6, .int .u32 x7] 25)).alloc (.cells #[Value.int .u32 0, .int .u32 0, .int .u32 0, .int .u32 0, .int .u32 0, .int .u32 0, .int .u32 0, .int .u32 0] 25)) := ((Below.refl _ _).alloc (Nat.le_refl _) _).alloc (by simp) _
  go_enter Try.func111, Try.ntmps111
  go_wp2
  have g := World.grownBy.refl ((w.alloc (.cells #[Value.int .u32 x0, .int .u32 x1, .int .u32 x2, .int .u32 x3, .int .u32 x4, .int .u32 x5, .int .u32 x6, .int .u32 x7] 25)).alloc (.cells #[Value.int .u32 0, .int .u32 0, .int .u32 0, .int .u32 0, .int .u32 0, .int .u32 0, .int .u32 0, .int .u32 0] 25)) (some w.heap.size)
  generalize World.alloc (World.alloc _ _) _ = w0 at *
  rw [← eb] at hb hz g ⊢
  have EB := hid eb
  clear eb
  have k1 := (hb.drew).cell (k := 4) (v := .int .u32 x4) rfl
  have k2 := (hb.drew).cell (k := 1) (v := .int .u32 x1) rfl
  have k3 := (hb.drew).frozen 4
  have e1 : IntKind.u32.wrap (x4 + x1) = (q1a x4 x1 x6 x3) := by rw [IntKind.wrap_u32]; unfold q1a addW; rfl
  have := h1.1
  have := h1.2
  have := h4.1
  have := h4.2
  refine wp_region_still_tail 9 (by kernel_rfl) (by kernel_rfl) ?_
  simp only [List.take_succ_cons, List.take_zero, List.drop_succ_cons, List.drop_zero]
  change wpStill _ _ (World.drew _) _ _ _
  still_step; still_step; still_step; still_step; still_step; still_step; still_step; still_step; still_step
  refine wpStill_nil ?_
  change wpList _ _ _ _ _ (World.drew _)
  clear e1
  go_wp2
  have hbx := (hb.set 4 (.int .u32 (q1a x4 x1 x6 x3)) (c' := #[Value.int .u32 x0, .int .u32 x1, .int .u32 x2, .int .u32 x3, .int .u32 ((q1a x4 x1 x6 x3)), .int .u32 x5, .int .u32 x6, .int .u32 x7]) rfl).drew
  have gx := drewR (grown_set (p := ⟨b, 4, none⟩) g rfl (.int .u32 (q1a x4 x1 x6 x3)))
  generalize World.drew (World.setCell _ _ _) = w1 at *
  clear k1 k2 k3 hb g
  have k1 := (hbx.drew).cell (k := 3) (v := .int .u32 x3) rfl
  have k2 := (hbx.drew).cell (k := 4) (v := .int .u32 (q1a x4 x1 x6 x3)) rfl
  have k3 := (hbx.drew).frozen 3
  have e1 : bits .xor .u32 x3 (q1a x4 x1 x6 x3) = xorW x3 (q1a x4 x1 x6 x3) := by unfold xorW; rfl
  have := (q1a_bd x4 x1 x6 x3).1
  have := (q1a_bd x4 x1 x6 x3).2
  have := h3.1
  have := h3.2
  refine wp_region_still_tail 10 (by kernel_rfl) (by kernel_rfl) ?_
  simp only [List.take_succ_cons, List.take_zero, List.drop_succ_cons, List.drop_zero]
  change wpStill _ _ (World.drew _) _ _ _
  still_step; still_step; still_step; still_step; still_step; still_step; still_step; still_step
  still_call (turn16 _ (xorW_bd _ _).1 (xorW_bd _ _).2 _)
  still_step
  refine wpStill_nil ?_
  change wpList _ _ _ _ _ (World.drew _)
  rw [show rotW 65536 (xorW x3 (q1a x4 x1 x6 x3)) = (q1d x4 x1 x6 x3) by unfold q1d; rfl]
  clear e1
  go_wp2
  have hbxx := (hbx.set 3 (.int .u32 (q1d x4 x1 x6 x3)) (c' := #[Value.int .u32 x0, .int .u32 x1, .int .u32 x2, .int .u32 ((q1d x4 x1 x6 x3)), .int .u32 ((q1a x4 x1 x6 x3)), .int .u32 x5, .int .u32 x6, .int .u32 x7]) rfl).drew
  have gxx := drewR (grown_set (p := ⟨b, 3, none⟩) gx rfl (.int .u32 (q1d x4 x1 x6 x3)))
  generalize World.drew (World.setCell _ _ _) = w2 at *
  clear k1 k2 k3 hbx gx
  have k1 := (hbxx.drew).cell (k := 6) (v := .int .u32 x6) rfl
  have k2 := (hbxx.drew).cell (k := 3) (v := .int .u32 (q1d x4 x1 x6 x3)) rfl
  have k3 := (hbxx.drew).frozen 6
  have e1 : IntKind.u32.wrap (x6 + (q1d x4 x1 x6 x3)) = (q1c x4 x1 x6 x3) := by rw [IntKind.wrap_u32]; unfold q1c addW; rfl
  have := (q1d_bd x4 x1 x6 x3).1
  have := (q1d_bd x4 x1 x6 x3).2
  have := h6.1
  have := h6.2
  refine wp_region_still_tail 9 (by kernel_rfl) (by kernel_rfl) ?_
  simp only [List.take_succ_cons, List.take_zero, List.drop_succ_cons, List.drop_zero]
  change wpStill _ _ (World.drew _) _ _ _
  still_step; still_step; still_step; still_step; still_step; still_step; still_step; still_step; still_step
  refine wpStill_nil ?_
  change wpList _ _ _ _ _ (World.drew _)
  clear e1
  go_wp2
  have hbxxx := (hbxx.set 6 (.int .u32 (q1c x4 x1 x6 x3)) (c' := #[Value.int .u32 x0, .int .u32 x1, .int .u32 x2, .int .u32 ((q1d x4 x1 x6 x3)), .int .u32 ((q1a x4 x1 x6 x3)), .int .u32 x5, .int .u32 ((q1c x4 x1 x6 x3)), .int .u32 x7]) rfl).drew
  have gxxx := drewR (grown_set (p := ⟨b, 6, none⟩) gxx rfl (.int .u32 (q1c x4 x1 x6 x3)))
  generalize World.drew (World.setCell _ _ _) = w3 at *
  clear k1 k2 k3 hbxx gxx
  have k1 := (hbxxx.drew).cell (k := 1) (v := .int .u32 x1) rfl
  have k2 := (hbxxx.drew).cell (k := 6) (v := .int .u32 (q1c x4 x1 x6 x3)) rfl
  have k3 := (hbxxx.drew).frozen 1
  have e1 : bits .xor .u32 x1 (q1c x4 x1 x6 x3) = xorW x1 (q1c x4 x1 x6 x3) := by unfold xorW; rfl
  have := (q1c_bd x4 x1 x6 x3).1
  have := (q1c_bd x4 x1 x6 x3).2
  have := h1.1
  have := h1.2
  refine wp_region_still_tail 10 (by kernel_rfl) (by kernel_rfl) ?_
  simp only [List.take_succ_cons, List.take_zero, List.drop_succ_cons, List.drop_zero]
  change wpStill _ _ (World.drew _) _ _ _
  still_step; still_step; still_step; still_step; still_step; still_step; still_step; still_step
  still_call (turn12 _ (xorW_bd _ _).1 (xorW_bd _ _).2 _)
  still_step
  refine wpStill_nil ?_
  change wpList _ _ _ _ _ (World.drew _)
  rw [show rotW 4096 (xorW x1 (q1c x4 x1 x6 x3)) = (q1b x4 x1 x6 x3) by unfold q1b; rfl]
  clear e1
  go_wp2
  have hbxxxx := (hbxxx.set 1 (.int .u32 (q1b x4 x1 x6 x3)) (c' := #[Value.int .u32 x0, .int .u32 ((q1b x4 x1 x6 x3)), .int .u32 x2, .int .u32 ((q1d x4 x1 x6 x3)), .int .u32 ((q1a x4 x1 x6 x3)), .int .u32 x5, .int .u32 ((q1c x4 x1 x6 x3)), .int .u32 x7]) rfl).drew
  have gxxxx := drewR (grown_set (p := ⟨b, 1, none⟩) gxxx rfl (.int .u32 (q1b x4 x1 x6 x3)))
  generalize World.drew (World.setCell _ _ _) = w4 at *
  clear k1 k2 k3 hbxxx gxxx
  have k1 := (hbxxxx.drew).cell (k := 4) (v := .int .u32 (q1a x4 x1 x6 x3)) rfl
  have k2 := (hbxxxx.drew).cell (k := 1) (v := .int .u32 (q1b x4 x1 x6 x3)) rfl
  have k3 := (hbxxxx.drew).frozen 4
  have e1 : IntKind.u32.wrap ((q1a x4 x1 x6 x3) + (q1b x4 x1 x6 x3)) = (qa x4 x1 x6 x3) := by rw [IntKind.wrap_u32]; unfold qa addW; rfl
  have := (q1a_bd x4 x1 x6 x3).1
  have := (q1a_bd x4 x1 x6 x3).2
  have := (q1b_bd x4 x1 x6 x3).1
  have := (q1b_bd x4 x1 x6 x3).2
  refine wp_region_still_tail 9 (by kernel_rfl) (by kernel_rfl) ?_
  simp only [List.take_succ_cons, List.take_zero, List.drop_succ_cons, List.drop_zero]
  change wpStill _ _ (World.drew _) _ _ _
  still_step; still_step; still_step; still_step; still_step; still_step; still_step; still_step; still_step
  refine wpStill_nil ?_
  change wpList _ _ _ _ _ (World.drew _)
  clear e1
  go_wp2
  have hbxxxxx := (hbxxxx.set 4 (.int .u32 (qa x4 x1 x6 x3)) (c' := #[Value.int .u32 x0, .int .u32 ((q1b x4 x1 x6 x3)), .int .u32 x2, .int .u32 ((q1d x4 x1 x6 x3)), .int .u32 ((qa x4 x1 x6 x3)), .int .u32 x5, .int .u32 ((q1c x4 x1 x6 x3)), .int .u32 x7]) rfl).drew
  have gxxxxx := drewR (grown_set (p := ⟨b, 4, none⟩) gxxxx rfl (.int .u32 (qa x4 x1 x6 x3)))
  generalize World.drew (World.setCell _ _ _) = w5 at *
  clear k1 k2 k3 hbxxxx gxxxx
  have k1 := (hbxxxxx.drew).cell (k := 3) (v := .int .u32 (q1d x4 x1 x6 x3)) rfl
  have k2 := (hbxxxxx.drew).cell (k := 4) (v := .int .u32 (qa x4 x1 x6 x3)) rfl
  have k3 := (hbxxxxx.drew).frozen 3
  have e1 : bits .xor .u32 (q1d x4 x1 x6 x3) (qa x4 x1 x6 x3) = xorW (q1d x4 x1 x6 x3) (qa x4 x1 x6 x3) := by unfold xorW; rfl
  have := (q1d_bd x4 x1 x6 x3).1
  have := (q1d_bd x4 x1 x6 x3).2
  have := (qa_bd x4 x1 x6 x3).1
  have := (qa_bd x4 x1 x6 x3).2
  refine wp_region_still_tail 10 (by kernel_rfl) (by kernel_rfl) ?_
  simp only [List.take_succ_cons, List.take_zero, List.drop_succ_cons, List.drop_zero]
  change wpStill _ _ (World.drew _) _ _ _
  still_step; still_step; still_step; still_step; still_step; still_step; still_step; still_step
  still_call (turn8 _ (xorW_bd _ _).1 (xorW_bd _ _).2 _)
  still_step
  refine wpStill_nil ?_
  change wpList _ _ _ _ _ (World.drew _)
  rw [show rotW 256 (xorW (q1d x4 x1 x6 x3) (qa x4 x1 x6 x3)) = (qd x4 x1 x6 x3) by unfold qd; rfl]
  clear e1
  go_wp2
  have hbxxxxxx := (hbxxxxx.set 3 (.int .u32 (qd x4 x1 x6 x3)) (c' := #[Value.int .u32 x0, .int .u32 ((q1b x4 x1 x6 x3)), .int .u32 x2, .int .u32 ((qd x4 x1 x6 x3)), .int .u32 ((qa x4 x1 x6 x3)), .int .u32 x5, .int .u32 ((q1c x4 x1 x6 x3)), .int .u32 x7]) rfl).drew
  have gxxxxxx := drewR (grown_set (p := ⟨b, 3, none⟩) gxxxxx rfl (.int .u32 (qd x4 x1 x6 x3)))
  generalize World.drew (World.setCell _ _ _) = w6 at *
  clear k1 k2 k3 hbxxxxx gxxxxx
  have k1 := (hbxxxxxx.drew).cell (k := 6) (v := .int .u32 (q1c x4 x1 x6 x3)) rfl
  have k2 := (hbxxxxxx.drew).cell (k := 3) (v := .int .u32 (qd x4 x1 x6 x3)) rfl
  have k3 := (hbxxxxxx.drew).frozen 6
  have e1 : IntKind.u32.wrap ((q1c x4 x1 x6 x3) + (qd x4 x1 x6 x3)) = (qc x4 x1 x6 x3) := by rw [IntKind.wrap_u32]; unfold qc addW; rfl
  have := (q1c_bd x4 x1 x6 x3).1
  have := (q1c_bd x4 x1 x6 x3).2
  have := (qd_bd x4 x1 x6 x3).1
  have := (qd_bd x4 x1 x6 x3).2
  refine wp_region_still_tail 9 (by kernel_rfl) (by kernel_rfl) ?_
  simp only [List.take_succ_cons, List.take_zero, List.drop_succ_cons, List.drop_zero]
  change wpStill _ _ (World.drew _) _ _ _
  still_step; still_step; still_step; still_step; still_step; still_step; still_step; still_step; still_step
  refine wpStill_nil ?_
  change wpList _ _ _ _ _ (World.drew _)
  clear e1
  go_wp2
  have hbxxxxxxx := (hbxxxxxx.set 6 (.int .u32 (qc x4 x1 x6 x3)) (c' := #[Value.int .u32 x0, .int .u32 ((q1b x4 x1 x6 x3)), .int .u32 x2, .int .u32 ((qd x4 x1 x6 x3)), .int .u32 ((qa x4 x1 x6 x3)), .int .u32 x5, .int .u32 ((qc x4 x1 x6 x3)), .int .u32 x7]) rfl).drew
  have gxxxxxxx := drewR (grown_set (p := ⟨b, 6, none⟩) gxxxxxx rfl (.int .u32 (qc x4 x1 x6 x3)))
  generalize World.drew (World.setCell _ _ _) = w7 at *
  clear k1 k2 k3 hbxxxxxx gxxxxxx
  have k1 := (hbxxxxxxx.drew).cell (k := 1) (v := .int .u32 (q1b x4 x1 x6 x3)) rfl
  have k2 := (hbxxxxxxx.drew).cell (k := 6) (v := .int .u32 (qc x4 x1 x6 x3)) rfl
  have k3 := (hbxxxxxxx.drew).frozen 1
  have e1 : bits .xor .u32 (q1b x4 x1 x6 x3) (qc x4 x1 x6 x3) = xorW (q1b x4 x1 x6 x3) (qc x4 x1 x6 x3) := by unfold xorW; rfl
  have := (q1b_bd x4 x1 x6 x3).1
  have := (q1b_bd x4 x1 x6 x3).2
  have := (qc_bd x4 x1 x6 x3).1
  have := (qc_bd x4 x1 x6 x3).2
  refine wp_region_still_tail 10 (by kernel_rfl) (by kernel_rfl) ?_
  simp only [List.take_succ_cons, List.take_zero, List.drop_succ_cons, List.drop_zero]
  change wpStill _ _ (World.drew _) _ _ _
  still_step; still_step; still_step; still_step; still_step; still_step; still_step; still_step
  still_call (turn7 _ (xorW_bd _ _).1 (xorW_bd _ _).2 _)
  still_step
  refine wpStill_nil ?_
  change wpList _ _ _ _ _ (World.drew _)
  rw [show rotW 128 (xorW (q1b x4 x1 x6 x3) (qc x4 x1 x6 x3)) = (qb x4 x1 x6 x3) by unfold qb; rfl]
  clear e1
  go_upto_region 9 with fail
  have hbxxxxxxxx := (hbxxxxxxx.set 1 (.int .u32 (qb x4 x1 x6 x3)) (c' := #[Value.int .u32 x0, .int .u32 ((qb x4 x1 x6 x3)), .int .u32 x2, .int .u32 ((qd x4 x1 x6 x3)), .int .u32 ((qa x4 x1 x6 x3)), .int .u32 x5, .int .u32 ((qc x4 x1 x6 x3)), .int .u32 x7]) rfl).drew
  have gxxxxxxxx := drewR (grown_set (p := ⟨b, 1, none⟩) gxxxxxxx rfl (.int .u32 (qb x4 x1 x6 x3)))
  generalize World.drew (World.setCell _ _ _) = w8 at *
  clear k1 k2 k3 hbxxxxxxx gxxxxxxx
  have hz2 := hz.grown gxxxxxxxx (by simp)
  have hB2 := below_of_grown hB gxxxxxxxx hB.size (Nat.le_of_eq EB.out.symm)
  go_wp2_with (first | (refine wpList_load_blk rfl _ _ rfl _ rfl _ _ _ hbxxxxxxxx Try.underlying25 rfl size8 ?_) | (refine wpList_store_blk rfl _ _ _ rfl _ rfl _ rfl (one8 _ _ _ _ _ _ _ _) _ hz2 rfl size8 ?_; intro v gv mv))
  exact bodyPost_ret (results_blk rfl rfl mv Try.underlying25 rfl size8) rfl ⟨rfl, below_of_grown hB2 gv hB2.size (by have := EB.out; omega)⟩
end Go.Proofs.Ytgccbfkofkohpaa
namespace Go.Proofs.Ytgccbfkofkohpaa
set_option linter.unusedVariables false
set_option maxRecDepth 20000
set_option linter.unusedSimpArgs false
open Go.ChangeShapes Go.WideShapes Go.ChangeAt Go.RowKit

theorem rquarter_w0 (s : W8) (h : s.ok) (w : World) :
    Calls Try.prog 111 #[.agg (arrW s), .int .i64 0, .int .i64 1, .int .i64 2, .int .i64 3] w fun e w' => e = .returned (.agg (arrW s.p0)) ∧ Below w.heap.size w w' := by
  obtain ⟨h0, h1, h2, h3, h4, h5, h6, h7⟩ := h
  exact rquarter_p0 _ _ _ _ _ _ _ _ h0 h1 h2 h3 h4 h5 h6 h7 w
theorem rquarter_w1 (s : W8) (h : s.ok) (w : World) :
    Calls Try.prog 111 #[.agg (arrW s), .int .i64 4, .int .i64 5, .int .i64 6, .int .i64 7] w fun e w' => e = .returned (.agg (arrW s.p1)) ∧ Below w.heap.size w w' := by
  obtain ⟨h0, h1, h2, h3, h4, h5, h6, h7⟩ := h
  exact rquarter_p1 _ _ _ _ _ _ _ _ h0 h1 h2 h3 h4 h5 h6 h7 w
theorem rquarter_w2 (s : W8) (h : s.ok) (w : World) :
    Calls Try.prog 111 #[.agg (arrW s), .int .i64 0, .int .i64 5, .int .i64 2, .int .i64 7] w fun e w' => e = .returned (.agg (arrW s.p2)) ∧ Below w.heap.size w w' := by
  obtain ⟨h0, h1, h2, h3, h4, h5, h6, h7⟩ := h
  exact rquarter_p2 _ _ _ _ _ _ _ _ h0 h1 h2 h3 h4 h5 h6 h7 w
theorem rquarter_w3 (s : W8) (h : s.ok) (w : World) :
    Calls Try.prog 111 #[.agg (arrW s), .int .i64 4, .int .i64 1, .int .i64 6, .int .i64 3] w fun e w' => e = .returned (.agg (arrW s.p3)) ∧ Below w.heap.size w w' := by
  obtain ⟨h0, h1, h2, h3, h4, h5, h6, h7⟩ := h
  exact rquarter_p3 _ _ _ _ _ _ _ _ h0 h1 h2 h3 h4 h5 h6 h7 w
set_option maxHeartbeats 2000000 in
set_option maxRecDepth 100000 in
theorem rmix_any (s : W8) (hs : s.ok) (w : World) :
    Calls Try.prog 96 #[.agg (arrW s)] w fun e w' => e = .returned (.agg (arrW (mixW s))) ∧ Below w.heap.size w w' := by
  have OK := hid (ok_mixN hs)
  clear hs
  go_enter Try.func96, Try.ntmps96
  go_wp2
  go_loopw [3] (fun u wr => ∃ k : Nat, k ≤ 8 ∧ u = .int .i64 ((k : Int) + 1) ∧ Below w.heap.size w wr ∧ Blk wr w.heap.size 25 (arrW (mixN k s)) ∧ Blk wr (w.heap.size + 1) 25 #[Value.int .u32 0, .int .u32 0, .int .u32 0, .int .u32 0, .int .u32 0, .int .u32 0, .int .u32 0, .int .u32 0]) (fun u _ => 9 - (intOf u).toNat)
  case atStart =>
    refine ⟨0, by omega, rfl, ((Below.refl _ _).alloc (Nat.le_refl _) _).alloc (by simp) _, (Blk.new w _ (arrW s)).alloc _, ?_⟩
    have := Blk.new (w.alloc (.cells (arrW s) 25)) 25 #[Value.int .u32 0, .int .u32 0, .int .u32 0, .int .u32 0, .int .u32 0, .int .u32 0, .int .u32 0, .int .u32 0]
    rw [World.size_alloc] at this
    exact this
  case round =>
    obtain ⟨k, hk, rfl, hB, hb, hz⟩ := hrel
    by_cases hlt : k < 8
    · have c0 := hb.cell0
      have f0 := hb.frozen 0
      have ok := OK.out k
      have o1 := ok.1.1
      have o2 := ok.1.2
      have OK' := hid ok
      clear ok
      have e1 : bits .xor .u32 (mixN k s).x0 ((k : Int) + 1) = ((mixN k s).r k).x0 := by unfold W8.r xorW; rfl
      go_upto_region 5 with fail
      have b1 := hb.setr k
      have g1 := grown_set (p := ⟨w.heap.size, 0, none⟩) (World.grownBy.refl wr (some w.heap.size)) rfl (.int .u32 ((mixN k s).r k).x0)
      generalize World.setCell _ _ _ = v1 at *
      clear c0 f0 e1 o1 o2 hb
      have n1 : some (w.heap.size + 1) ≠ some w.heap.size := by simp
      have z1 := hz.grown g1 n1
      have B1 := below_of_grown hB g1 hB.size (Nat.le_refl _)
      clear hz hB g1
      go_wp2_with (refine wpList_load_blk rfl _ _ rfl _ rfl _ _ _ b1 Try.underlying25 rfl (sizeW _) ?_)
      refine (rquarter_w0 _ (ok_r OK'.out k) _).mono ?_
      rintro e v2 ⟨rfl, g2⟩
      go_wp2_with fail
      refine (rquarter_w1 _ (ok_p0 (ok_r OK'.out k)) _).mono ?_
      rintro e v3 ⟨rfl, g3⟩
      go_wp2_with fail
      refine (rquarter_w2 _ (ok_p1 (ok_p0 (ok_r OK'.out k))) _).mono ?_
      rintro e v4 ⟨rfl, g4⟩
      go_wp2_with fail
      refine (rquarter_w3 _ (ok_p2 (ok_p1 (ok_p0 (ok_r OK'.out k)))) _).mono ?_
      rintro e v5 ⟨rfl, g5⟩
      have G := step_trans (step_trans (step_trans g2 g3) g4) g5
      have b2 := b1.step G
      have z2 := z1.step G
      have B2 := B1.trans (G.mono B1.size)
      clear g2 g3 g4 g5 G b1 z1 B1
      go_wp2_with (refine wpList_store_blk rfl _ _ _ rfl _ rfl _ rfl (arrW_one _) _ b2 rfl (sizeW _) ?_; intro v6 g6 b6)
      go_roundw
      case rel => exact ⟨k + 1, by omega, by go_num, below_of_grown B2 g6 B2.size (Nat.le_refl _), b6, z2.grown g6 n1⟩
      case measure => simp [intOf]; omega
    · have : k = 8 := by omega
      subst this
      go_wp2_with (first | (refine wpList_load_blk rfl _ _ rfl _ rfl _ _ _ hb Try.underlying25 rfl (sizeW _) ?_) | (refine wpList_store_blk rfl _ _ _ rfl _ rfl _ rfl (arrW_one _) _ hz rfl (sizeW _) ?_; intro v gv mv))
      exact bodyPost_ret (results_blk rfl rfl mv Try.underlying25 rfl (sizeW _)) rfl ⟨rfl, below_of_grown hB gv hB.size (by omega)⟩
end Go.Proofs.Ytgccbfkofkohpaa
