/- sentinellaw3.undo: a quarter undone. -/
import Derived.Test.YtajombnckgehbaaSTurns
namespace Go.Proofs.Ytajombnckgehbaa
set_option linter.unusedVariables false
set_option linter.unusedSimpArgs false
open Go.ChangeShapes Go.WideShapes Go.ChangeAt Go.RowKit

set_option maxHeartbeats 4000000 in
theorem undo_p0 (x0 x1 x2 x3 x4 x5 x6 x7 : Int) (h0 : 0 ≤ x0 ∧ x0 < 4294967296) (h1 : 0 ≤ x1 ∧ x1 < 4294967296) (h2 : 0 ≤ x2 ∧ x2 < 4294967296) (h3 : 0 ≤ x3 ∧ x3 < 4294967296) (h4 : 0 ≤ x4 ∧ x4 < 4294967296) (h5 : 0 ≤ x5 ∧ x5 < 4294967296) (h6 : 0 ≤ x6 ∧ x6 < 4294967296) (h7 : 0 ≤ x7 ∧ x7 < 4294967296) (w : World) :
    Calls Try.prog 37 #[.agg #[Value.int .u32 ((qa x0 x1 x2 x3)), .int .u32 ((qb x0 x1 x2 x3)), .int .u32 ((qc x0 x1 x2 x3)), .int .u32 ((qd x0 x1 x2 x3)), .int .u32 x4, .int .u32 x5, .int .u32 x6, .int .u32 x7], .int .i64 0, .int .i64 1, .int .i64 2, .int .i64 3] w fun e w' => e = .returned (.agg #[Value.int .u32 x0, .int .u32 x1, .int .u32 x2, .int .u32 x3, .int .u32 x4, .int .u32 x5, .int .u32 x6, .int .u32 x7]) ∧ Below w.heap.size w w' := by
  obtain ⟨b, eb⟩ : ∃ b, b = w.heap.size := ⟨_, rfl⟩
  have hb := (Blk.new w 25 #[Value.int .u32 ((qa x0 x1 x2 x3)), .int .u32 ((qb x0 x1 x2 x3)), .int .u32 ((qc x0 x1 x2 x3)), .int .u32 ((qd x0 x1 x2 x3)), .int .u32 x4, .int .u32 x5, .int .u32 x6, .int .u32 x7]).alloc (.cells #[Value.int .u32 0, .int .u32 0, .int .u32 0, .int .u32 0, .int .u32 0, .int .u32 0, .int .u32 0, .int .u32 0] 25)
  have hz := Blk.new (w.alloc (.cells #[Value.int .u32 ((qa x0 x1 x2 x3)), .int .u32 ((qb x0 x1 x2 x3)), .int .u32 ((qc x0 x1 x2 x3)), .int .u32 ((qd x0 x1 x2 x3)), .int .u32 x4, .int .u32 x5, .int .u32 x6, .int .u32 x7] 25)) 25 #[Value.int .u32 0, .int .u32 0, .int .u32 0, .int .u32 0, .int .u32 0, .int .u32 0, .int .u32 0, .int .u32 0]
  rw [World.size_alloc] at hz
  have hB : Below w.heap.size w ((w.alloc (.cells #[Value.int .u32 ((qa x0 x1 x2 x3)), .int .u32 ((qb x0 x1 x2 x3)), .int .u32 ((qc x0 x1 x2 x3)), .int .u32 ((qd x0 x1 x2 x3)), .int .u32 x4, .int .u32 x5, .int .u32 x6, .int .u32 x7] 25)).alloc (.cells #[Value.int .u32 0, .int .u32 0, .int .u32 0, .int .u32 0, .int .u32 0, .int .u32 0, .int .u32 0, .int .u32 0] 25)) := ((Below.refl _ _).alloc (Nat.le_refl _) _).alloc (by simp) _
  go_enter Try.func37, Try.ntmps37
  go_wp2
  have g := World.grownBy.refl ((w.alloc (.cells #[Value.int .u32 ((qa x0 x1 x2 x3)), .int .u32 ((qb x0 x1 x2 x3)), .int .u32 ((qc x0 x1 x2 x3)), .int .u32 ((qd x0 x1 x2 x3)), .int .u32 x4, .int .u32 x5, .int .u32 x6, .int .u32 x7] 25)).alloc (.cells #[Value.int .u32 0, .int .u32 0, .int .u32 0, .int .u32 0, .int .u32 0, .int .u32 0, .int .u32 0, .int .u32 0] 25)) (some w.heap.size)
  generalize World.alloc (World.alloc _ _) _ = w0 at *
  rw [← eb] at hb hz g ⊢
  have EB := hid eb
  clear eb
  have k1 := (hb.drew).cell (k := 1) (v := .int .u32 (qb x0 x1 x2 x3)) rfl
  have k2 := (hb.drew).cell (k := 2) (v := .int .u32 (qc x0 x1 x2 x3)) rfl
  have k3 := (hb.drew).frozen 1
  have e1 : bits .xor .u32 (xorW (q1b x0 x1 x2 x3) (qc x0 x1 x2 x3)) (qc x0 x1 x2 x3) = (q1b x0 x1 x2 x3) := by rw [xor_fold]; exact xor_xor (q1b_bd x0 x1 x2 x3) (qc_bd x0 x1 x2 x3)
  have hr : ∀ w, Calls Try.prog 48 #[.int .u32 (qb x0 x1 x2 x3), .int .i64 7] w fun e w' => e = .returned (.int .u32 (xorW (q1b x0 x1 x2 x3) (qc x0 x1 x2 x3))) ∧ w' = w := fun w => by
    have := right7 (xorW_bd (q1b x0 x1 x2 x3) (qc x0 x1 x2 x3)) w
    rwa [show rotW 128 (xorW (q1b x0 x1 x2 x3) (qc x0 x1 x2 x3)) = (qb x0 x1 x2 x3) by unfold qb; rfl] at this
  have := (qb_bd x0 x1 x2 x3).1
  have := (qb_bd x0 x1 x2 x3).2
  have := (qc_bd x0 x1 x2 x3).1
  have := (qc_bd x0 x1 x2 x3).2
  refine wp_region_still_tail 10 (by kernel_rfl) (by kernel_rfl) ?_
  simp only [List.take_succ_cons, List.take_zero, List.drop_succ_cons, List.drop_zero]
  change wpStill _ _ (World.drew _) _ _ _
  still_step; still_step; still_step; still_step
  still_call (hr _)
  still_step; still_step; still_step; still_step; still_step
  refine wpStill_nil ?_
  change wpList _ _ _ _ _ (World.drew _)
  clear e1
  clear hr
  go_wp2
  have hbx := (hb.set 1 (.int .u32 (q1b x0 x1 x2 x3)) (c' := #[Value.int .u32 ((qa x0 x1 x2 x3)), .int .u32 ((q1b x0 x1 x2 x3)), .int .u32 ((qc x0 x1 x2 x3)), .int .u32 ((qd x0 x1 x2 x3)), .int .u32 x4, .int .u32 x5, .int .u32 x6, .int .u32 x7]) rfl).drew
  have gx := drewR (grown_set (p := ⟨b, 1, none⟩) g rfl (.int .u32 (q1b x0 x1 x2 x3)))
  generalize World.drew (World.setCell _ _ _) = w1 at *
  clear k1 k2 k3 hb g
  have k1 := (hbx.drew).cell (k := 2) (v := .int .u32 (qc x0 x1 x2 x3)) rfl
  have k2 := (hbx.drew).cell (k := 3) (v := .int .u32 (qd x0 x1 x2 x3)) rfl
  have k3 := (hbx.drew).frozen 2
  have e1 : IntKind.u32.wrap ((qc x0 x1 x2 x3) - (qd x0 x1 x2 x3)) = (q1c x0 x1 x2 x3) := by rw [IntKind.wrap_u32, show (qc x0 x1 x2 x3) = addW (q1c x0 x1 x2 x3) (qd x0 x1 x2 x3) by unfold qc; rfl]; exact sub_add (q1c_bd x0 x1 x2 x3).1 (q1c_bd x0 x1 x2 x3).2
  have := (qc_bd x0 x1 x2 x3).1
  have := (qc_bd x0 x1 x2 x3).2
  have := (qd_bd x0 x1 x2 x3).1
  have := (qd_bd x0 x1 x2 x3).2
  refine wp_region_still_tail 9 (by kernel_rfl) (by kernel_rfl) ?_
  simp only [List.take_succ_cons, List.take_zero, List.drop_succ_cons, List.drop_zero]
  change wpStill _ _ (World.drew _) _ _ _
  still_step; still_step; still_step; still_step; still_step; still_step; still_step; still_step; still_step
  refine wpStill_nil ?_
  change wpList _ _ _ _ _ (World.drew _)
  clear e1
  go_wp2
  have hbxx := (hbx.set 2 (.int .u32 (q1c x0 x1 x2 x3)) (c' := #[Value.int .u32 ((qa x0 x1 x2 x3)), .int .u32 ((q1b x0 x1 x2 x3)), .int .u32 ((q1c x0 x1 x2 x3)), .int .u32 ((qd x0 x1 x2 x3)), .int .u32 x4, .int .u32 x5, .int .u32 x6, .int .u32 x7]) rfl).drew
  have gxx := drewR (grown_set (p := ⟨b, 2, none⟩) gx rfl (.int .u32 (q1c x0 x1 x2 x3)))
  generalize World.drew (World.setCell _ _ _) = w2 at *
  clear k1 k2 k3 hbx gx
  have k1 := (hbxx.drew).cell (k := 3) (v := .int .u32 (qd x0 x1 x2 x3)) rfl
  have k2 := (hbxx.drew).cell (k := 0) (v := .int .u32 (qa x0 x1 x2 x3)) rfl
  have k3 := (hbxx.drew).frozen 3
  have e1 : bits .xor .u32 (xorW (q1d x0 x1 x2 x3) (qa x0 x1 x2 x3)) (qa x0 x1 x2 x3) = (q1d x0 x1 x2 x3) := by rw [xor_fold]; exact xor_xor (q1d_bd x0 x1 x2 x3) (qa_bd x0 x1 x2 x3)
  have hr : ∀ w, Calls Try.prog 48 #[.int .u32 (qd x0 x1 x2 x3), .int .i64 8] w fun e w' => e = .returned (.int .u32 (xorW (q1d x0 x1 x2 x3) (qa x0 x1 x2 x3))) ∧ w' = w := fun w => by
    have := right8 (xorW_bd (q1d x0 x1 x2 x3) (qa x0 x1 x2 x3)) w
    rwa [show rotW 256 (xorW (q1d x0 x1 x2 x3) (qa x0 x1 x2 x3)) = (qd x0 x1 x2 x3) by unfold qd; rfl] at this
  have := (qa_bd x0 x1 x2 x3).1
  have := (qa_bd x0 x1 x2 x3).2
  have := (qd_bd x0 x1 x2 x3).1
  have := (qd_bd x0 x1 x2 x3).2
  refine wp_region_still_tail 10 (by kernel_rfl) (by kernel_rfl) ?_
  simp only [List.take_succ_cons, List.take_zero, List.drop_succ_cons, List.drop_zero]
  change wpStill _ _ (World.drew _) _ _ _
  still_step; still_step; still_step; still_step
  still_call (hr _)
  still_step; still_step; still_step; still_step; still_step
  refine wpStill_nil ?_
  change wpList _ _ _ _ _ (World.drew _)
  clear e1
  clear hr
  go_wp2
  have hbxxx := (hbxx.set 3 (.int .u32 (q1d x0 x1 x2 x3)) (c' := #[Value.int .u32 ((qa x0 x1 x2 x3)), .int .u32 ((q1b x0 x1 x2 x3)), .int .u32 ((q1c x0 x1 x2 x3)), .int .u32 ((q1d x0 x1 x2 x3)), .int .u32 x4, .int .u32 x5, .int .u32 x6, .int .u32 x7]) rfl).drew
  have gxxx := drewR (grown_set (p := ⟨b, 3, none⟩) gxx rfl (.int .u32 (q1d x0 x1 x2 x3)))
  generalize World.drew (World.setCell _ _ _) = w3 at *
  clear k1 k2 k3 hbxx gxx
  have k1 := (hbxxx.drew).cell (k := 0) (v := .int .u32 (qa x0 x1 x2 x3)) rfl
  have k2 := (hbxxx.drew).cell (k := 1) (v := .int .u32 (q1b x0 x1 x2 x3)) rfl
  have k3 := (hbxxx.drew).frozen 0
  have e1 : IntKind.u32.wrap ((qa x0 x1 x2 x3) - (q1b x0 x1 x2 x3)) = (q1a x0 x1 x2 x3) := by rw [IntKind.wrap_u32, show (qa x0 x1 x2 x3) = addW (q1a x0 x1 x2 x3) (q1b x0 x1 x2 x3) by unfold qa; rfl]; exact sub_add (q1a_bd x0 x1 x2 x3).1 (q1a_bd x0 x1 x2 x3).2
  have := (q1b_bd x0 x1 x2 x3).1
  have := (q1b_bd x0 x1 x2 x3).2
  have := (qa_bd x0 x1 x2 x3).1
  have := (qa_bd x0 x1 x2 x3).2
  refine wp_region_still_tail 9 (by kernel_rfl) (by kernel_rfl) ?_
  simp only [List.take_succ_cons, List.take_zero, List.drop_succ_cons, List.drop_zero]
  change wpStill _ _ (World.drew _) _ _ _
  still_step; still_step; still_step; still_step; still_step; still_step; still_step; still_step; still_step
  refine wpStill_nil ?_
  change wpList _ _ _ _ _ (World.drew _)
  clear e1
  go_wp2
  have hbxxxx := (hbxxx.set 0 (.int .u32 (q1a x0 x1 x2 x3)) (c' := #[Value.int .u32 ((q1a x0 x1 x2 x3)), .int .u32 ((q1b x0 x1 x2 x3)), .int .u32 ((q1c x0 x1 x2 x3)), .int .u32 ((q1d x0 x1 x2 x3)), .int .u32 x4, .int .u32 x5, .int .u32 x6, .int .u32 x7]) rfl).drew
  have gxxxx := drewR (grown_set (p := ⟨b, 0, none⟩) gxxx rfl (.int .u32 (q1a x0 x1 x2 x3)))
  generalize World.drew (World.setCell _ _ _) = w4 at *
  clear k1 k2 k3 hbxxx gxxx
  have k1 := (hbxxxx.drew).cell (k := 1) (v := .int .u32 (q1b x0 x1 x2 x3)) rfl
  have k2 := (hbxxxx.drew).cell (k := 2) (v := .int .u32 (q1c x0 x1 x2 x3)) rfl
  have k3 := (hbxxxx.drew).frozen 1
  have e1 : bits .xor .u32 (xorW x1 (q1c x0 x1 x2 x3)) (q1c x0 x1 x2 x3) = x1 := by rw [xor_fold]; exact xor_xor h1 (q1c_bd x0 x1 x2 x3)
  have hr : ∀ w, Calls Try.prog 48 #[.int .u32 (q1b x0 x1 x2 x3), .int .i64 12] w fun e w' => e = .returned (.int .u32 (xorW x1 (q1c x0 x1 x2 x3))) ∧ w' = w := fun w => by
    have := right12 (xorW_bd x1 (q1c x0 x1 x2 x3)) w
    rwa [show rotW 4096 (xorW x1 (q1c x0 x1 x2 x3)) = (q1b x0 x1 x2 x3) by unfold q1b; rfl] at this
  have := (q1b_bd x0 x1 x2 x3).1
  have := (q1b_bd x0 x1 x2 x3).2
  have := (q1c_bd x0 x1 x2 x3).1
  have := (q1c_bd x0 x1 x2 x3).2
  refine wp_region_still_tail 10 (by kernel_rfl) (by kernel_rfl) ?_
  simp only [List.take_succ_cons, List.take_zero, List.drop_succ_cons, List.drop_zero]
  change wpStill _ _ (World.drew _) _ _ _
  still_step; still_step; still_step; still_step
  still_call (hr _)
  still_step; still_step; still_step; still_step; still_step
  refine wpStill_nil ?_
  change wpList _ _ _ _ _ (World.drew _)
  clear e1
  clear hr
  go_wp2
  have hbxxxxx := (hbxxxx.set 1 (.int .u32 x1) (c' := #[Value.int .u32 ((q1a x0 x1 x2 x3)), .int .u32 x1, .int .u32 ((q1c x0 x1 x2 x3)), .int .u32 ((q1d x0 x1 x2 x3)), .int .u32 x4, .int .u32 x5, .int .u32 x6, .int .u32 x7]) rfl).drew
  have gxxxxx := drewR (grown_set (p := ⟨b, 1, none⟩) gxxxx rfl (.int .u32 x1))
  generalize World.drew (World.setCell _ _ _) = w5 at *
  clear k1 k2 k3 hbxxxx gxxxx
  have k1 := (hbxxxxx.drew).cell (k := 2) (v := .int .u32 (q1c x0 x1 x2 x3)) rfl
  have k2 := (hbxxxxx.drew).cell (k := 3) (v := .int .u32 (q1d x0 x1 x2 x3)) rfl
  have k3 := (hbxxxxx.drew).frozen 2
  have e1 : IntKind.u32.wrap ((q1c x0 x1 x2 x3) - (q1d x0 x1 x2 x3)) = x2 := by rw [IntKind.wrap_u32, show (q1c x0 x1 x2 x3) = addW x2 (q1d x0 x1 x2 x3) by unfold q1c; rfl]; exact sub_add h2.1 h2.2
  have := (q1c_bd x0 x1 x2 x3).1
  have := (q1c_bd x0 x1 x2 x3).2
  have := (q1d_bd x0 x1 x2 x3).1
  have := (q1d_bd x0 x1 x2 x3).2
  refine wp_region_still_tail 9 (by kernel_rfl) (by kernel_rfl) ?_
  simp only [List.take_succ_cons, List.take_zero, List.drop_succ_cons, List.drop_zero]
  change wpStill _ _ (World.drew _) _ _ _
  still_step; still_step; still_step; still_step; still_step; still_step; still_step; still_step; still_step
  refine wpStill_nil ?_
  change wpList _ _ _ _ _ (World.drew _)
  clear e1
  go_wp2
  have hbxxxxxx := (hbxxxxx.set 2 (.int .u32 x2) (c' := #[Value.int .u32 ((q1a x0 x1 x2 x3)), .int .u32 x1, .int .u32 x2, .int .u32 ((q1d x0 x1 x2 x3)), .int .u32 x4, .int .u32 x5, .int .u32 x6, .int .u32 x7]) rfl).drew
  have gxxxxxx := drewR (grown_set (p := ⟨b, 2, none⟩) gxxxxx rfl (.int .u32 x2))
  generalize World.drew (World.setCell _ _ _) = w6 at *
  clear k1 k2 k3 hbxxxxx gxxxxx
  have k1 := (hbxxxxxx.drew).cell (k := 3) (v := .int .u32 (q1d x0 x1 x2 x3)) rfl
  have k2 := (hbxxxxxx.drew).cell (k := 0) (v := .int .u32 (q1a x0 x1 x2 x3)) rfl
  have k3 := (hbxxxxxx.drew).frozen 3
  have e1 : bits .xor .u32 (xorW x3 (q1a x0 x1 x2 x3)) (q1a x0 x1 x2 x3) = x3 := by rw [xor_fold]; exact xor_xor h3 (q1a_bd x0 x1 x2 x3)
  have hr : ∀ w, Calls Try.prog 48 #[.int .u32 (q1d x0 x1 x2 x3), .int .i64 16] w fun e w' => e = .returned (.int .u32 (xorW x3 (q1a x0 x1 x2 x3))) ∧ w' = w := fun w => by
    have := right16 (xorW_bd x3 (q1a x0 x1 x2 x3)) w
    rwa [show rotW 65536 (xorW x3 (q1a x0 x1 x2 x3)) = (q1d x0 x1 x2 x3) by unfold q1d; rfl] at this
  have := (q1a_bd x0 x1 x2 x3).1
  have := (q1a_bd x0 x1 x2 x3).2
  have := (q1d_bd x0 x1 x2 x3).1
  have := (q1d_bd x0 x1 x2 x3).2
  refine wp_region_still_tail 10 (by kernel_rfl) (by kernel_rfl) ?_
  simp only [List.take_succ_cons, List.take_zero, List.drop_succ_cons, List.drop_zero]
  change wpStill _ _ (World.drew _) _ _ _
  still_step; still_step; still_step; still_step
  still_call (hr _)
  still_step; still_step; still_step; still_step; still_step
  refine wpStill_nil ?_
  change wpList _ _ _ _ _ (World.drew _)
  clear e1
  clear hr
  go_wp2
  have hbxxxxxxx := (hbxxxxxx.set 3 (.int .u32 x3) (c' := #[Value.int .u32 ((q1a x0 x1 x2 x3)), .int .u32 x1, .int .u32 x2, .int .u32 x3, .int .u32 x4, .int .u32 x5, .int .u32 x6, .int .u32 x7]) rfl).drew
  have gxxxxxxx := drewR (grown_set (p := ⟨b, 3, none⟩) gxxxxxx rfl (.int .u32 x3))
  generalize World.drew (World.setCell _ _ _) = w7 at *
  clear k1 k2 k3 hbxxxxxx gxxxxxx
  have k1 := (hbxxxxxxx.drew).cell (k := 0) (v := .int .u32 (q1a x0 x1 x2 x3)) rfl
  have k2 := (hbxxxxxxx.drew).cell (k := 1) (v := .int .u32 x1) rfl
  have k3 := (hbxxxxxxx.drew).frozen 0
  have e1 : IntKind.u32.wrap ((q1a x0 x1 x2 x3) - x1) = x0 := by rw [IntKind.wrap_u32, show (q1a x0 x1 x2 x3) = addW x0 x1 by unfold q1a; rfl]; exact sub_add h0.1 h0.2
  have := (q1a_bd x0 x1 x2 x3).1
  have := (q1a_bd x0 x1 x2 x3).2
  have := h1.1
  have := h1.2
  refine wp_region_still_tail 9 (by kernel_rfl) (by kernel_rfl) ?_
  simp only [List.take_succ_cons, List.take_zero, List.drop_succ_cons, List.drop_zero]
  change wpStill _ _ (World.drew _) _ _ _
  still_step; still_step; still_step; still_step; still_step; still_step; still_step; still_step; still_step
  refine wpStill_nil ?_
  change wpList _ _ _ _ _ (World.drew _)
  clear e1
  go_upto_region 9 with fail
  have hbxxxxxxxx := (hbxxxxxxx.set 0 (.int .u32 x0) (c' := #[Value.int .u32 x0, .int .u32 x1, .int .u32 x2, .int .u32 x3, .int .u32 x4, .int .u32 x5, .int .u32 x6, .int .u32 x7]) rfl).drew
  have gxxxxxxxx := drewR (grown_set (p := ⟨b, 0, none⟩) gxxxxxxx rfl (.int .u32 x0))
  generalize World.drew (World.setCell _ _ _) = w8 at *
  clear k1 k2 k3 hbxxxxxxx gxxxxxxx
  have hz2 := hz.grown gxxxxxxxx (by simp)
  have hB2 := below_of_grown hB gxxxxxxxx hB.size (Nat.le_of_eq EB.out.symm)
  go_wp2_with (first | (refine wpList_load_blk rfl _ _ rfl _ rfl _ _ _ hbxxxxxxxx Try.underlying25 rfl size8 ?_) | (refine wpList_store_blk rfl _ _ _ rfl _ rfl _ rfl (one8 _ _ _ _ _ _ _ _) _ hz2 rfl size8 ?_; intro v gv mv))
  exact bodyPost_ret (results_blk rfl rfl mv Try.underlying25 rfl size8) rfl ⟨rfl, below_of_grown hB2 gv hB2.size (by have := EB.out; omega)⟩
set_option maxHeartbeats 4000000 in
theorem undo_p1 (x0 x1 x2 x3 x4 x5 x6 x7 : Int) (h0 : 0 ≤ x0 ∧ x0 < 4294967296) (h1 : 0 ≤ x1 ∧ x1 < 4294967296) (h2 : 0 ≤ x2 ∧ x2 < 4294967296) (h3 : 0 ≤ x3 ∧ x3 < 4294967296) (h4 : 0 ≤ x4 ∧ x4 < 4294967296) (h5 : 0 ≤ x5 ∧ x5 < 4294967296) (h6 : 0 ≤ x6 ∧ x6 < 4294967296) (h7 : 0 ≤ x7 ∧ x7 < 4294967296) (w : World) :
    Calls Try.prog 37 #[.agg #[Value.int .u32 x0, .int .u32 x1, .int .u32 x2, .int .u32 x3, .int .u32 ((qa x4 x5 x6 x7)), .int .u32 ((qb x4 x5 x6 x7)), .int .u32 ((qc x4 x5 x6 x7)), .int .u32 ((qd x4 x5 x6 x7))], .int .i64 4, .int .i64 5, .int .i64 6, .int .i64 7] w fun e w' => e = .returned (.agg #[Value.int .u32 x0, .int .u32 x1, .int .u32 x2, .int .u32 x3, .int .u32 x4, .int .u32 x5, .int .u32 x6, .int .u32 x7]) ∧ Below w.heap.size w w' := by
  obtain ⟨b, eb⟩ : ∃ b, b = w.heap.size := ⟨_, rfl⟩
  have hb := (Blk.new w 25 #[Value.int .u32 x0, .int .u32 x1, .int .u32 x2, .int .u32 x3, .int .u32 ((qa x4 x5 x6 x7)), .int .u32 ((qb x4 x5 x6 x7)), .int .u32 ((qc x4 x5 x6 x7)), .int .u32 ((qd x4 x5 x6 x7))]).alloc (.cells #[Value.int .u32 0, .int .u32 0, .int .u32 0, .int .u32 0, .int .u32 0, .int .u32 0, .int .u32 0, .int .u32 0] 25)
  have hz := Blk.new (w.alloc (.cells #[Value.int .u32 x0, .int .u32 x1, .int .u32 x2, .int .u32 x3, .int .u32 ((qa x4 x5 x6 x7)), .int .u32 ((qb x4 x5 x6 x7)), .int .u32 ((qc x4 x5 x6 x7)), .int .u32 ((qd x4 x5 x6 x7))] 25)) 25 #[Value.int .u32 0, .int .u32 0, .int .u32 0, .int .u32 0, .int .u32 0, .int .u32 0, .int .u32 0, .int .u32 0]
  rw [World.size_alloc] at hz
  have hB : Below w.heap.size w ((w.alloc (.cells #[Value.int .u32 x0, .int .u32 x1, .int .u32 x2, .int .u32 x3, .int .u32 ((qa x4 x5 x6 x7)), .int .u32 ((qb x4 x5 x6 x7)), .int .u32 ((qc x4 x5 x6 x7)), .int .u32 ((qd x4 x5 x6 x7))] 25)).alloc (.cells #[Value.int .u32 0, .int .u32 0, .int .u32 0, .int .u32 0, .int .u32 0, .int .u32 0, .int .u32 0, .int .u32 0] 25)) := ((Below.refl _ _).alloc (Nat.le_refl _) _).alloc (by simp) _
  go_enter Try.func37, Try.ntmps37
  go_wp2
  have g := World.grownBy.refl ((w.alloc (.cells #[Value.int .u32 x0, .int .u32 x1, .int .u32 x2, .int .u32 x3, .int .u32 ((qa x4 x5 x6 x7)), .int .u32 ((qb x4 x5 x6 x7)), .int .u32 ((qc x4 x5 x6 x7)), .int .u32 ((qd x4 x5 x6 x7))] 25)).alloc (.cells #[Value.int .u32 0, .int .u32 0, .int .u32 0, .int .u32 0, .int .u32 0, .int .u32 0, .int .u32 0, .int .u32 0] 25)) (some w.heap.size)
  generalize World.alloc (World.alloc _ _) _ = w0 at *
  rw [← eb] at hb hz g ⊢
  have EB := hid eb
  clear eb
  have k1 := (hb.drew).cell (k := 5) (v := .int .u32 (qb x4 x5 x6 x7)) rfl
  have k2 := (hb.drew).cell (k := 6) (v := .int .u32 (qc x4 x5 x6 x7)) rfl
  have k3 := (hb.drew).frozen 5
  have e1 : bits .xor .u32 (xorW (q1b x4 x5 x6 x7) (qc x4 x5 x6 x7)) (qc x4 x5 x6 x7) = (q1b x4 x5 x6 x7) := by rw [xor_fold]; exact xor_xor (q1b_bd x4 x5 x6 x7) (qc_bd x4 x5 x6 x7)
  have hr : ∀ w, Calls Try.prog 48 #[.int .u32 (qb x4 x5 x6 x7), .int .i64 7] w fun e w' => e = .returned (.int .u32 (xorW (q1b x4 x5 x6 x7) (qc x4 x5 x6 x7))) ∧ w' = w := fun w => by
    have := right7 (xorW_bd (q1b x4 x5 x6 x7) (qc x4 x5 x6 x7)) w
    rwa [show rotW 128 (xorW (q1b x4 x5 x6 x7) (qc x4 x5 x6 x7)) = (qb x4 x5 x6 x7) by unfold qb; rfl] at this
  have := (qb_bd x4 x5 x6 x7).1
  have := (qb_bd x4 x5 x6 x7).2
  have := (qc_bd x4 x5 x6 x7).1
  have := (qc_bd x4 x5 x6 x7).2
  refine wp_region_still_tail 10 (by kernel_rfl) (by kernel_rfl) ?_
  simp only [List.take_succ_cons, List.take_zero, List.drop_succ_cons, List.drop_zero]
  change wpStill _ _ (World.drew _) _ _ _
  still_step; still_step; still_step; still_step
  still_call (hr _)
  still_step; still_step; still_step; still_step; still_step
  refine wpStill_nil ?_
  change wpList _ _ _ _ _ (World.drew _)
  clear e1
  clear hr
  go_wp2
  have hbx := (hb.set 5 (.int .u32 (q1b x4 x5 x6 x7)) (c' := #[Value.int .u32 x0, .int .u32 x1, .int .u32 x2, .int .u32 x3, .int .u32 ((qa x4 x5 x6 x7)), .int .u32 ((q1b x4 x5 x6 x7)), .int .u32 ((qc x4 x5 x6 x7)), .int .u32 ((qd x4 x5 x6 x7))]) rfl).drew
  have gx := drewR (grown_set (p := ⟨b, 5, none⟩) g rfl (.int .u32 (q1b x4 x5 x6 x7)))
  generalize World.drew (World.setCell _ _ _) = w1 at *
  clear k1 k2 k3 hb g
  have k1 := (hbx.drew).cell (k := 6) (v := .int .u32 (qc x4 x5 x6 x7)) rfl
  have k2 := (hbx.drew).cell (k := 7) (v := .int .u32 (qd x4 x5 x6 x7)) rfl
  have k3 := (hbx.drew).frozen 6
  have e1 : IntKind.u32.wrap ((qc x4 x5 x6 x7) - (qd x4 x5 x6 x7)) = (q1c x4 x5 x6 x7) := by rw [IntKind.wrap_u32, show (qc x4 x5 x6 x7) = addW (q1c x4 x5 x6 x7) (qd x4 x5 x6 x7) by unfold qc; rfl]; exact sub_add (q1c_bd x4 x5 x6 x7).1 (q1c_bd x4 x5 x6 x7).2
  have := (qc_bd x4 x5 x6 x7).1
  have := (qc_bd x4 x5 x6 x7).2
  have := (qd_bd x4 x5 x6 x7).1
  have := (qd_bd x4 x5 x6 x7).2
  refine wp_region_still_tail 9 (by kernel_rfl) (by kernel_rfl) ?_
  simp only [List.take_succ_cons, List.take_zero, List.drop_succ_cons, List.drop_zero]
  change wpStill _ _ (World.drew _) _ _ _
  still_step; still_step; still_step; still_step; still_step; still_step; still_step; still_step; still_step
  refine wpStill_nil ?_
  change wpList _ _ _ _ _ (World.drew _)
  clear e1
  go_wp2
  have hbxx := (hbx.set 6 (.int .u32 (q1c x4 x5 x6 x7)) (c' := #[Value.int .u32 x0, .int .u32 x1, .int .u32 x2, .int .u32 x3, .int .u32 ((qa x4 x5 x6 x7)), .int .u32 ((q1b x4 x5 x6 x7)), .int .u32 ((q1c x4 x5 x6 x7)), .int .u32 ((qd x4 x5 x6 x7))]) rfl).drew
  have gxx := drewR (grown_set (p := ⟨b, 6, none⟩) gx rfl (.int .u32 (q1c x4 x5 x6 x7)))
  generalize World.drew (World.setCell _ _ _) = w2 at *
  clear k1 k2 k3 hbx gx
  have k1 := (hbxx.drew).cell (k := 7) (v := .int .u32 (qd x4 x5 x6 x7)) rfl
  have k2 := (hbxx.drew).cell (k := 4) (v := .int .u32 (qa x4 x5 x6 x7)) rfl
  have k3 := (hbxx.drew).frozen 7
  have e1 : bits .xor .u32 (xorW (q1d x4 x5 x6 x7) (qa x4 x5 x6 x7)) (qa x4 x5 x6 x7) = (q1d x4 x5 x6 x7) := by rw [xor_fold]; exact xor_xor (q1d_bd x4 x5 x6 x7) (qa_bd x4 x5 x6 x7)
  have hr : ∀ w, Calls Try.prog 48 #[.int .u32 (qd x4 x5 x6 x7), .int .i64 8] w fun e w' => e = .returned (.int .u32 (xorW (q1d x4 x5 x6 x7) (qa x4 x5 x6 x7))) ∧ w' = w := fun w => by
    have := right8 (xorW_bd (q1d x4 x5 x6 x7) (qa x4 x5 x6 x7)) w
    rwa [show rotW 256 (xorW (q1d x4 x5 x6 x7) (qa x4 x5 x6 x7)) = (qd x4 x5 x6 x7) by unfold qd; rfl] at this
  have := (qa_bd x4 x5 x6 x7).1
  have := (qa_bd x4 x5 x6 x7).2
  have := (qd_bd x4 x5 x6 x7).1
  have := (qd_bd x4 x5 x6 x7).2
  refine wp_region_still_tail 10 (by kernel_rfl) (by kernel_rfl) ?_
  simp only [List.take_succ_cons, List.take_zero, List.drop_succ_cons, List.drop_zero]
  change wpStill _ _ (World.drew _) _ _ _
  still_step; still_step; still_step; still_step
  still_call (hr _)
  still_step; still_step; still_step; still_step; still_step
  refine wpStill_nil ?_
  change wpList _ _ _ _ _ (World.drew _)
  clear e1
  clear hr
  go_wp2
  have hbxxx := (hbxx.set 7 (.int .u32 (q1d x4 x5 x6 x7)) (c' := #[Value.int .u32 x0, .int .u32 x1, .int .u32 x2, .int .u32 x3, .int .u32 ((qa x4 x5 x6 x7)), .int .u32 ((q1b x4 x5 x6 x7)), .int .u32 ((q1c x4 x5 x6 x7)), .int .u32 ((q1d x4 x5 x6 x7))]) rfl).drew
  have gxxx := drewR (grown_set (p := ⟨b, 7, none⟩) gxx rfl (.int .u32 (q1d x4 x5 x6 x7)))
  generalize World.drew (World.setCell _ _ _) = w3 at *
  clear k1 k2 k3 hbxx gxx
  have k1 := (hbxxx.drew).cell (k := 4) (v := .int .u32 (qa x4 x5 x6 x7)) rfl
  have k2 := (hbxxx.drew).cell (k := 5) (v := .int .u32 (q1b x4 x5 x6 x7)) rfl
  have k3 := (hbxxx.drew).frozen 4
  have e1 : IntKind.u32.wrap ((qa x4 x5 x6 x7) - (q1b x4 x5 x6 x7)) = (q1a x4 x5 x6 x7) := by rw [IntKind.wrap_u32, show (qa x4 x5 x6 x7) = addW (q1a x4 x5 x6 x7) (q1b x4 x5 x6 x7) by unfold qa; rfl]; exact sub_add (q1a_bd x4 x5 x6 x7).1 (q1a_bd x4 x5 x6 x7).2
  have := (q1b_bd x4 x5 x6 x7).1
  have := (q1b_bd x4 x5 x6 x7).2
  have := (qa_bd x4 x5 x6 x7).1
  have := (qa_bd x4 x5 x6 x7).2
  refine wp_region_still_tail 9 (by kernel_rfl) (by kernel_rfl) ?_
  simp only [List.take_succ_cons, List.take_zero, List.drop_succ_cons, List.drop_zero]
  change wpStill _ _ (World.drew _) _ _ _
  still_step; still_step; still_step; still_step; still_step; still_step; still_step; still_step; still_step
  refine wpStill_nil ?_
  change wpList _ _ _ _ _ (World.drew _)
  clear e1
  go_wp2
  have hbxxxx := (hbxxx.set 4 (.int .u32 (q1a x4 x5 x6 x7)) (c' := #[Value.int .u32 x0, .int .u32 x1, .int .u32 x2, .int .u32 x3, .int .u32 ((q1a x4 x5 x6 x7)), .int .u32 ((q1b x4 x5 x6 x7)), .int .u32 ((q1c x4 x5 x6 x7)), .int .u32 ((q1d x4 x5 x6 x7))]) rfl).drew
  have gxxxx := drewR (grown_set (p := ⟨b, 4, none⟩) gxxx rfl (.int .u32 (q1a x4 x5 x6 x7)))
  generalize World.drew (World.setCell _ _ _) = w4 at *
  clear k1 k2 k3 hbxxx gxxx
  have k1 := (hbxxxx.drew).cell (k := 5) (v := .int .u32 (q1b x4 x5 x6 x7)) rfl
  have k2 := (hbxxxx.drew).cell (k := 6) (v := .int .u32 (q1c x4 x5 x6 x7)) rfl
  have k3 := (hbxxxx.drew).frozen 5
  have e1 : bits .xor .u32 (xorW x5 (q1c x4 x5 x6 x7)) (q1c x4 x5 x6 x7) = x5 := by rw [xor_fold]; exact xor_xor h5 (q1c_bd x4 x5 x6 x7)
  have hr : ∀ w, Calls Try.prog 48 #[.int .u32 (q1b x4 x5 x6 x7), .int .i64 12] w fun e w' => e = .returned (.int .u32 (xorW x5 (q1c x4 x5 x6 x7))) ∧ w' = w := fun w => by
    have := right12 (xorW_bd x5 (q1c x4 x5 x6 x7)) w
    rwa [show rotW 4096 (xorW x5 (q1c x4 x5 x6 x7)) = (q1b x4 x5 x6 x7) by unfold q1b; rfl] at this
  have := (q1b_bd x4 x5 x6 x7).1
  have := (q1b_bd x4 x5 x6 x7).2
  have := (q1c_bd x4 x5 x6 x7).1
  have := (q1c_bd x4 x5 x6 x7).2
  refine wp_region_still_tail 10 (by kernel_rfl) (by kernel_rfl) ?_
  simp only [List.take_succ_cons, List.take_zero, List.drop_succ_cons, List.drop_zero]
  change wpStill _ _ (World.drew _) _ _ _
  still_step; still_step; still_step; still_step
  still_call (hr _)
  still_step; still_step; still_step; still_step; still_step
  refine wpStill_nil ?_
  change wpList _ _ _ _ _ (World.drew _)
  clear e1
  clear hr
  go_wp2
  have hbxxxxx := (hbxxxx.set 5 (.int .u32 x5) (c' := #[Value.int .u32 x0, .int .u32 x1, .int .u32 x2, .int .u32 x3, .int .u32 ((q1a x4 x5 x6 x7)), .int .u32 x5, .int .u32 ((q1c x4 x5 x6 x7)), .int .u32 ((q1d x4 x5 x6 x7))]) rfl).drew
  have gxxxxx := drewR (grown_set (p := ⟨b, 5, none⟩) gxxxx rfl (.int .u32 x5))
  generalize World.drew (World.setCell _ _ _) = w5 at *
  clear k1 k2 k3 hbxxxx gxxxx
  have k1 := (hbxxxxx.drew).cell (k := 6) (v := .int .u32 (q1c x4 x5 x6 x7)) rfl
  have k2 := (hbxxxxx.drew).cell (k := 7) (v := .int .u32 (q1d x4 x5 x6 x7)) rfl
  have k3 := (hbxxxxx.drew).frozen 6
  have e1 : IntKind.u32.wrap ((q1c x4 x5 x6 x7) - (q1d x4 x5 x6 x7)) = x6 := by rw [IntKind.wrap_u32, show (q1c x4 x5 x6 x7) = addW x6 (q1d x4 x5 x6 x7) by unfold q1c; rfl]; exact sub_add h6.1 h6.2
  have := (q1c_bd x4 x5 x6 x7).1
  have := (q1c_bd x4 x5 x6 x7).2
  have := (q1d_bd x4 x5 x6 x7).1
  have := (q1d_bd x4 x5 x6 x7).2
  refine wp_region_still_tail 9 (by kernel_rfl) (by kernel_rfl) ?_
  simp only [List.take_succ_cons, List.take_zero, List.drop_succ_cons, List.drop_zero]
  change wpStill _ _ (World.drew _) _ _ _
  still_step; still_step; still_step; still_step; still_step; still_step; still_step; still_step; still_step
  refine wpStill_nil ?_
  change wpList _ _ _ _ _ (World.drew _)
  clear e1
  go_wp2
  have hbxxxxxx := (hbxxxxx.set 6 (.int .u32 x6) (c' := #[Value.int .u32 x0, .int .u32 x1, .int .u32 x2, .int .u32 x3, .int .u32 ((q1a x4 x5 x6 x7)), .int .u32 x5, .int .u32 x6, .int .u32 ((q1d x4 x5 x6 x7))]) rfl).drew
  have gxxxxxx := drewR (grown_set (p := ⟨b, 6, none⟩) gxxxxx rfl (.int .u32 x6))
  generalize World.drew (World.setCell _ _ _) = w6 at *
  clear k1 k2 k3 hbxxxxx gxxxxx
  have k1 := (hbxxxxxx.drew).cell (k := 7) (v := .int .u32 (q1d x4 x5 x6 x7)) rfl
  have k2 := (hbxxxxxx.drew).cell (k := 4) (v := .int .u32 (q1a x4 x5 x6 x7)) rfl
  have k3 := (hbxxxxxx.drew).frozen 7
  have e1 : bits .xor .u32 (xorW x7 (q1a x4 x5 x6 x7)) (q1a x4 x5 x6 x7) = x7 := by rw [xor_fold]; exact xor_xor h7 (q1a_bd x4 x5 x6 x7)
  have hr : ∀ w, Calls Try.prog 48 #[.int .u32 (q1d x4 x5 x6 x7), .int .i64 16] w fun e w' => e = .returned (.int .u32 (xorW x7 (q1a x4 x5 x6 x7))) ∧ w' = w := fun w => by
    have := right16 (xorW_bd x7 (q1a x4 x5 x6 x7)) w
    rwa [show rotW 65536 (xorW x7 (q1a x4 x5 x6 x7)) = (q1d x4 x5 x6 x7) by unfold q1d; rfl] at this
  have := (q1a_bd x4 x5 x6 x7).1
  have := (q1a_bd x4 x5 x6 x7).2
  have := (q1d_bd x4 x5 x6 x7).1
  have := (q1d_bd x4 x5 x6 x7).2
  refine wp_region_still_tail 10 (by kernel_rfl) (by kernel_rfl) ?_
  simp only [List.take_succ_cons, List.take_zero, List.drop_succ_cons, List.drop_zero]
  change wpStill _ _ (World.drew _) _ _ _
  still_step; still_step; still_step; still_step
  still_call (hr _)
  still_step; still_step; still_step; still_step; still_step
  refine wpStill_nil ?_
  change wpList _ _ _ _ _ (World.drew _)
  clear e1
  clear hr
  go_wp2
  have hbxxxxxxx := (hbxxxxxx.set 7 (.int .u32 x7) (c' := #[Value.int .u32 x0, .int .u32 x1, .int .u32 x2, .int .u32 x3, .int .u32 ((q1a x4 x5 x6 x7)), .int .u32 x5, .int .u32 x6, .int .u32 x7]) rfl).drew
  have gxxxxxxx := drewR (grown_set (p := ⟨b, 7, none⟩) gxxxxxx rfl (.int .u32 x7))
  generalize World.drew (World.setCell _ _ _) = w7 at *
  clear k1 k2 k3 hbxxxxxx gxxxxxx
  have k1 := (hbxxxxxxx.drew).cell (k := 4) (v := .int .u32 (q1a x4 x5 x6 x7)) rfl
  have k2 := (hbxxxxxxx.drew).cell (k := 5) (v := .int .u32 x5) rfl
  have k3 := (hbxxxxxxx.drew).frozen 4
  have e1 : IntKind.u32.wrap ((q1a x4 x5 x6 x7) - x5) = x4 := by rw [IntKind.wrap_u32, show (q1a x4 x5 x6 x7) = addW x4 x5 by unfold q1a; rfl]; exact sub_add h4.1 h4.2
  have := (q1a_bd x4 x5 x6 x7).1
  have := (q1a_bd x4 x5 x6 x7).2
  have := h5.1
  have := h5.2
  refine wp_region_still_tail 9 (by kernel_rfl) (by kernel_rfl) ?_
  simp only [List.take_succ_cons, List.take_zero, List.drop_succ_cons, List.drop_zero]
  change wpStill _ _ (World.drew _) _ _ _
  still_step; still_step; still_step; still_step; still_step; still_step; still_step; still_step; still_step
  refine wpStill_nil ?_
  change wpList _ _ _ _ _ (World.drew _)
  clear e1
  go_upto_region 9 with fail
  have hbxxxxxxxx := (hbxxxxxxx.set 4 (.int .u32 x4) (c' := #[Value.int .u32 x0, .int .u32 x1, .int .u32 x2, .int .u32 x3, .int .u32 x4, .int .u32 x5, .int .u32 x6, .int .u32 x7]) rfl).drew
  have gxxxxxxxx := drewR (grown_set (p := ⟨b, 4, none⟩) gxxxxxxx rfl (.int .u32 x4))
  generalize World.drew (World.setCell _ _ _) = w8 at *
  clear k1 k2 k3 hbxxxxxxx gxxxxxxx
  have hz2 := hz.grown gxxxxxxxx (by simp)
  have hB2 := below_of_grown hB gxxxxxxxx hB.size (Nat.le_of_eq EB.out.symm)
  go_wp2_with (first | (refine wpList_load_blk rfl _ _ rfl _ rfl _ _ _ hbxxxxxxxx Try.underlying25 rfl size8 ?_) | (refine wpList_store_blk rfl _ _ _ rfl _ rfl _ rfl (one8 _ _ _ _ _ _ _ _) _ hz2 rfl size8 ?_; intro v gv mv))
  exact bodyPost_ret (results_blk rfl rfl mv Try.underlying25 rfl size8) rfl ⟨rfl, below_of_grown hB2 gv hB2.size (by have := EB.out; omega)⟩
set_option maxHeartbeats 4000000 in
theorem undo_p2 (x0 x1 x2 x3 x4 x5 x6 x7 : Int) (h0 : 0 ≤ x0 ∧ x0 < 4294967296) (h1 : 0 ≤ x1 ∧ x1 < 4294967296) (h2 : 0 ≤ x2 ∧ x2 < 4294967296) (h3 : 0 ≤ x3 ∧ x3 < 4294967296) (h4 : 0 ≤ x4 ∧ x4 < 4294967296) (h5 : 0 ≤ x5 ∧ x5 < 4294967296) (h6 : 0 ≤ x6 ∧ x6 < 4294967296) (h7 : 0 ≤ x7 ∧ x7 < 4294967296) (w : World) :
    Calls Try.prog 37 #[.agg #[Value.int .u32 ((qa x0 x5 x2 x7)), .int .u32 x1, .int .u32 ((qc x0 x5 x2 x7)), .int .u32 x3, .int .u32 x4, .int .u32 ((qb x0 x5 x2 x7)), .int .u32 x6, .int .u32 ((qd x0 x5 x2 x7))], .int .i64 0, .int .i64 5, .int .i64 2, .int .i64 7] w fun e w' => e = .returned (.agg #[Value.int .u32 x0, .int .u32 x1, .int .u32 x2, .int .u32 x3, .int .u32 x4, .int .u32 x5, .int .u32 x6, .int .u32 x7]) ∧ Below w.heap.size w w' := by
  obtain ⟨b, eb⟩ : ∃ b, b = w.heap.size := ⟨_, rfl⟩
  have hb := (Blk.new w 25 #[Value.int .u32 ((qa x0 x5 x2 x7)), .int .u32 x1, .int .u32 ((qc x0 x5 x2 x7)), .int .u32 x3, .int .u32 x4, .int .u32 ((qb x0 x5 x2 x7)), .int .u32 x6, .int .u32 ((qd x0 x5 x2 x7))]).alloc (.cells #[Value.int .u32 0, .int .u32 0, .int .u32 0, .int .u32 0, .int .u32 0, .int .u32 0, .int .u32 0, .int .u32 0] 25)
  have hz := Blk.new (w.alloc (.cells #[Value.int .u32 ((qa x0 x5 x2 x7)), .int .u32 x1, .int .u32 ((qc x0 x5 x2 x7)), .int .u32 x3, .int .u32 x4, .int .u32 ((qb x0 x5 x2 x7)), .int .u32 x6, .int .u32 ((qd x0 x5 x2 x7))] 25)) 25 #[Value.int .u32 0, .int .u32 0, .int .u32 0, .int .u32 0, .int .u32 0, .int .u32 0, .int .u32 0, .int .u32 0]
  rw [World.size_alloc] at hz
  have hB : Below w.heap.size w ((w.alloc (.cells #[Value.int .u32 ((qa x0 x5 x2 x7)), .int .u32 x1, .int .u32 ((qc x0 x5 x2 x7)), .int .u32 x3, .int .u32 x4, .int .u32 ((qb x0 x5 x2 x7)), .int .u32 x6, .int .u32 ((qd x0 x5 x2 x7))] 25)).alloc (.cells #[Value.int .u32 0, .int .u32 0, .int .u32 0, .int .u32 0, .int .u32 0, .int .u32 0, .int .u32 0, .int .u32 0] 25)) := ((Below.refl _ _).alloc (Nat.le_refl _) _).alloc (by simp) _
  go_enter Try.func37, Try.ntmps37
  go_wp2
  have g := World.grownBy.refl ((w.alloc (.cells #[Value.int .u32 ((qa x0 x5 x2 x7)), .int .u32 x1, .int .u32 ((qc x0 x5 x2 x7)), .int .u32 x3, .int .u32 x4, .int .u32 ((qb x0 x5 x2 x7)), .int .u32 x6, .int .u32 ((qd x0 x5 x2 x7))] 25)).alloc (.cells #[Value.int .u32 0, .int .u32 0, .int .u32 0, .int .u32 0, .int .u32 0, .int .u32 0, .int .u32 0, .int .u32 0] 25)) (some w.heap.size)
  generalize World.alloc (World.alloc _ _) _ = w0 at *
  rw [← eb] at hb hz g ⊢
  have EB := hid eb
  clear eb
  have k1 := (hb.drew).cell (k := 5) (v := .int .u32 (qb x0 x5 x2 x7)) rfl
  have k2 := (hb.drew).cell (k := 2) (v := .int .u32 (qc x0 x5 x2 x7)) rfl
  have k3 := (hb.drew).frozen 5
  have e1 : bits .xor .u32 (xorW (q1b x0 x5 x2 x7) (qc x0 x5 x2 x7)) (qc x0 x5 x2 x7) = (q1b x0 x5 x2 x7) := by rw [xor_fold]; exact xor_xor (q1b_bd x0 x5 x2 x7) (qc_bd x0 x5 x2 x7)
  have hr : ∀ w, Calls Try.prog 48 #[.int .u32 (qb x0 x5 x2 x7), .int .i64 7] w fun e w' => e = .returned (.int .u32 (xorW (q1b x0 x5 x2 x7) (qc x0 x5 x2 x7))) ∧ w' = w := fun w => by
    have := right7 (xorW_bd (q1b x0 x5 x2 x7) (qc x0 x5 x2 x7)) w
    rwa [show rotW 128 (xorW (q1b x0 x5 x2 x7) (qc x0 x5 x2 x7)) = (qb x0 x5 x2 x7) by unfold qb; rfl] at this
  have := (qb_bd x0 x5 x2 x7).1
  have := (qb_bd x0 x5 x2 x7).2
  have := (qc_bd x0 x5 x2 x7).1
  have := (qc_bd x0 x5 x2 x7).2
  refine wp_region_still_tail 10 (by kernel_rfl) (by kernel_rfl) ?_
  simp only [List.take_succ_cons, List.take_zero, List.drop_succ_cons, List.drop_zero]
  change wpStill _ _ (World.drew _) _ _ _
  still_step; still_step; still_step; still_step
  still_call (hr _)
  still_step; still_step; still_step; still_step; still_step
  refine wpStill_nil ?_
  change wpList _ _ _ _ _ (World.drew _)
  clear e1
  clear hr
  go_wp2
  have hbx := (hb.set 5 (.int .u32 (q1b x0 x5 x2 x7)) (c' := #[Value.int .u32 ((qa x0 x5 x2 x7)), .int .u32 x1, .int .u32 ((qc x0 x5 x2 x7)), .int .u32 x3, .int .u32 x4, .int .u32 ((q1b x0 x5 x2 x7)), .int .u32 x6, .int .u32 ((qd x0 x5 x2 x7))]) rfl).drew
  have gx := drewR (grown_set (p := ⟨b, 5, none⟩) g rfl (.int .u32 (q1b x0 x5 x2 x7)))
  generalize World.drew (World.setCell _ _ _) = w1 at *
  clear k1 k2 k3 hb g
  have k1 := (hbx.drew).cell (k := 2) (v := .int .u32 (qc x0 x5 x2 x7)) rfl
  have k2 := (hbx.drew).cell (k := 7) (v := .int .u32 (qd x0 x5 x2 x7)) rfl
  have k3 := (hbx.drew).frozen 2
  have e1 : IntKind.u32.wrap ((qc x0 x5 x2 x7) - (qd x0 x5 x2 x7)) = (q1c x0 x5 x2 x7) := by rw [IntKind.wrap_u32, show (qc x0 x5 x2 x7) = addW (q1c x0 x5 x2 x7) (qd x0 x5 x2 x7) by unfold qc; rfl]; exact sub_add (q1c_bd x0 x5 x2 x7).1 (q1c_bd x0 x5 x2 x7).2
  have := (qc_bd x0 x5 x2 x7).1
  have := (qc_bd x0 x5 x2 x7).2
  have := (qd_bd x0 x5 x2 x7).1
  have := (qd_bd x0 x5 x2 x7).2
  refine wp_region_still_tail 9 (by kernel_rfl) (by kernel_rfl) ?_
  simp only [List.take_succ_cons, List.take_zero, List.drop_succ_cons, List.drop_zero]
  change wpStill _ _ (World.drew _) _ _ _
  still_step; still_step; still_step; still_step; still_step; still_step; still_step; still_step; still_step
  refine wpStill_nil ?_
  change wpList _ _ _ _ _ (World.drew _)
  clear e1
  go_wp2
  have hbxx := (hbx.set 2 (.int .u32 (q1c x0 x5 x2 x7)) (c' := #[Value.int .u32 ((qa x0 x5 x2 x7)), .int .u32 x1, .int .u32 ((q1c x0 x5 x2 x7)), .int .u32 x3, .int .u32 x4, .int .u32 ((q1b x0 x5 x2 x7)), .int .u32 x6, .int .u32 ((qd x0 x5 x2 x7))]) rfl).drew
  have gxx := drewR (grown_set (p := ⟨b, 2, none⟩) gx rfl (.int .u32 (q1c x0 x5 x2 x7)))
  generalize World.drew (World.setCell _ _ _) = w2 at *
  clear k1 k2 k3 hbx gx
  have k1 := (hbxx.drew).cell (k := 7) (v := .int .u32 (qd x0 x5 x2 x7)) rfl
  have k2 := (hbxx.drew).cell (k := 0) (v := .int .u32 (qa x0 x5 x2 x7)) rfl
  have k3 := (hbxx.drew).frozen 7
  have e1 : bits .xor .u32 (xorW (q1d x0 x5 x2 x7) (qa x0 x5 x2 x7)) (qa x0 x5 x2 x7) = (q1d x0 x5 x2 x7) := by rw [xor_fold]; exact xor_xor (q1d_bd x0 x5 x2 x7) (qa_bd x0 x5 x2 x7)
  have hr : ∀ w, Calls Try.prog 48 #[.int .u32 (qd x0 x5 x2 x7), .int .i64 8] w fun e w' => e = .returned (.int .u32 (xorW (q1d x0 x5 x2 x7) (qa x0 x5 x2 x7))) ∧ w' = w := fun w => by
    have := right8 (xorW_bd (q1d x0 x5 x2 x7) (qa x0 x5 x2 x7)) w
    rwa [show rotW 256 (xorW (q1d x0 x5 x2 x7) (qa x0 x5 x2 x7)) = (qd x0 x5 x2 x7) by unfold qd; rfl] at this
  have := (qa_bd x0 x5 x2 x7).1
  have := (qa_bd x0 x5 x2 x7).2
  have := (qd_bd x0 x5 x2 x7).1
  have := (qd_bd x0 x5 x2 x7).2
  refine wp_region_still_tail 10 (by kernel_rfl) (by kernel_rfl) ?_
  simp only [List.take_succ_cons, List.take_zero, List.drop_succ_cons, List.drop_zero]
  change wpStill _ _ (World.drew _) _ _ _
  still_step; still_step; still_step; still_step
  still_call (hr _)
  still_step; still_step; still_step; still_step; still_step
  refine wpStill_nil ?_
  change wpList _ _ _ _ _ (World.drew _)
  clear e1
  clear hr
  go_wp2
  have hbxxx := (hbxx.set 7 (.int .u32 (q1d x0 x5 x2 x7)) (c' := #[Value.int .u32 ((qa x0 x5 x2 x7)), .int .u32 x1, .int .u32 ((q1c x0 x5 x2 x7)), .int .u32 x3, .int .u32 x4, .int .u32 ((q1b x0 x5 x2 x7)), .int .u32 x6, .int .u32 ((q1d x0 x5 x2 x7))]) rfl).drew
  have gxxx := drewR (grown_set (p := ⟨b, 7, none⟩) gxx rfl (.int .u32 (q1d x0 x5 x2 x7)))
  generalize World.drew (World.setCell _ _ _) = w3 at *
  clear k1 k2 k3 hbxx gxx
  have k1 := (hbxxx.drew).cell (k := 0) (v := .int .u32 (qa x0 x5 x2 x7)) rfl
  have k2 := (hbxxx.drew).cell (k := 5) (v := .int .u32 (q1b x0 x5 x2 x7)) rfl
  have k3 := (hbxxx.drew).frozen 0
  have e1 : IntKind.u32.wrap ((qa x0 x5 x2 x7) - (q1b x0 x5 x2 x7)) = (q1a x0 x5 x2 x7) := by rw [IntKind.wrap_u32, show (qa x0 x5 x2 x7) = addW (q1a x0 x5 x2 x7) (q1b x0 x5 x2 x7) by unfold qa; rfl]; exact sub_add (q1a_bd x0 x5 x2 x7).1 (q1a_bd x0 x5 x2 x7).2
  have := (q1b_bd x0 x5 x2 x7).1
  have := (q1b_bd x0 x5 x2 x7).2
  have := (qa_bd x0 x5 x2 x7).1
  have := (qa_bd x0 x5 x2 x7).2
  refine wp_region_still_tail 9 (by kernel_rfl) (by kernel_rfl) ?_
  simp only [List.take_succ_cons, List.take_zero, List.drop_succ_cons, List.drop_zero]
  change wpStill _ _ (World.drew _) _ _ _
  still_step; still_step; still_step; still_step; still_step; still_step; still_step; still_step; still_step
  refine wpStill_nil ?_
  change wpList _ _ _ _ _ (World.drew _)
  clear e1
  go_wp2
  have hbxxxx := (hbxxx.set 0 (.int .u32 (q1a x0 x5 x2 x7)) (c' := #[Value.int .u32 ((q1a x0 x5 x2 x7)), .int .u32 x1, .int .u32 ((q1c x0 x5 x2 x7)), .int .u32 x3, .int .u32 x4, .int .u32 ((q1b x0 x5 x2 x7)), .int .u32 x6, .int .u32 ((q1d x0 x5 x2 x7))]) rfl).drew
  have gxxxx := drewR (grown_set (p := ⟨b, 0, none⟩) gxxx rfl (.int .u32 (q1a x0 x5 x2 x7)))
  generalize World.drew (World.setCell _ _ _) = w4 at *
  clear k1 k2 k3 hbxxx gxxx
  have k1 := (hbxxxx.drew).cell (k := 5) (v := .int .u32 (q1b x0 x5 x2 x7)) rfl
  have k2 := (hbxxxx.drew).cell (k := 2) (v := .int .u32 (q1c x0 x5 x2 x7)) rfl
  have k3 := (hbxxxx.drew).frozen 5
  have e1 : bits .xor .u32 (xorW x5 (q1c x0 x5 x2 x7)) (q1c x0 x5 x2 x7) = x5 := by rw [xor_fold]; exact xor_xor h5 (q1c_bd x0 x5 x2 x7)
  have hr : ∀ w, Calls Try.prog 48 #[.int .u32 (q1b x0 x5 x2 x7), .int .i64 12] w fun e w' => e = .returned (.int .u32 (xorW x5 (q1c x0 x5 x2 x7))) ∧ w' = w := fun w => by
    have := right12 (xorW_bd x5 (q1c x0 x5 x2 x7)) w
    rwa [show rotW 4096 (xorW x5 (q1c x0 x5 x2 x7)) = (q1b x0 x5 x2 x7) by unfold q1b; rfl] at this
  have := (q1b_bd x0 x5 x2 x7).1
  have := (q1b_bd x0 x5 x2 x7).2
  have := (q1c_bd x0 x5 x2 x7).1
  have := (q1c_bd x0 x5 x2 x7).2
  refine wp_region_still_tail 10 (by kernel_rfl) (by kernel_rfl) ?_
  simp only [List.take_succ_cons, List.take_zero, List.drop_succ_cons, List.drop_zero]
  change wpStill _ _ (World.drew _) _ _ _
  still_step; still_step; still_step; still_step
  still_call (hr _)
  still_step; still_step; still_step; still_step; still_step
  refine wpStill_nil ?_
  change wpList _ _ _ _ _ (World.drew _)
  clear e1
  clear hr
  go_wp2
  have hbxxxxx := (hbxxxx.set 5 (.int .u32 x5) (c' := #[Value.int .u32 ((q1a x0 x5 x2 x7)), .int .u32 x1, .int .u32 ((q1c x0 x5 x2 x7)), .int .u32 x3, .int .u32 x4, .int .u32 x5, .int .u32 x6, .int .u32 ((q1d x0 x5 x2 x7))]) rfl).drew
  have gxxxxx := drewR (grown_set (p := ⟨b, 5, none⟩) gxxxx rfl (.int .u32 x5))
  generalize World.drew (World.setCell _ _ _) = w5 at *
  clear k1 k2 k3 hbxxxx gxxxx
  have k1 := (hbxxxxx.drew).cell (k := 2) (v := .int .u32 (q1c x0 x5 x2 x7)) rfl
  have k2 := (hbxxxxx.drew).cell (k := 7) (v := .int .u32 (q1d x0 x5 x2 x7)) rfl
  have k3 := (hbxxxxx.drew).frozen 2
  have e1 : IntKind.u32.wrap ((q1c x0 x5 x2 x7) - (q1d x0 x5 x2 x7)) = x2 := by rw [IntKind.wrap_u32, show (q1c x0 x5 x2 x7) = addW x2 (q1d x0 x5 x2 x7) by unfold q1c; rfl]; exact sub_add h2.1 h2.2
  have := (q1c_bd x0 x5 x2 x7).1
  have := (q1c_bd x0 x5 x2 x7).2
  have := (q1d_bd x0 x5 x2 x7).1
  have := (q1d_bd x0 x5 x2 x7).2
  refine wp_region_still_tail 9 (by kernel_rfl) (by kernel_rfl) ?_
  simp only [List.take_succ_cons, List.take_zero, List.drop_succ_cons, List.drop_zero]
  change wpStill _ _ (World.drew _) _ _ _
  still_step; still_step; still_step; still_step; still_step; still_step; still_step; still_step; still_step
  refine wpStill_nil ?_
  change wpList _ _ _ _ _ (World.drew _)
  clear e1
  go_wp2
  have hbxxxxxx := (hbxxxxx.set 2 (.int .u32 x2) (c' := #[Value.int .u32 ((q1a x0 x5 x2 x7)), .int .u32 x1, .int .u32 x2, .int .u32 x3, .int .u32 x4, .int .u32 x5, .int .u32 x6, .int .u32 ((q1d x0 x5 x2 x7))]) rfl).drew
  have gxxxxxx := drewR (grown_set (p := ⟨b, 2, none⟩) gxxxxx rfl (.int .u32 x2))
  generalize World.drew (World.setCell _ _ _) = w6 at *
  clear k1 k2 k3 hbxxxxx gxxxxx
  have k1 := (hbxxxxxx.drew).cell (k := 7) (v := .int .u32 (q1d x0 x5 x2 x7)) rfl
  have k2 := (hbxxxxxx.drew).cell (k := 0) (v := .int .u32 (q1a x0 x5 x2 x7)) rfl
  have k3 := (hbxxxxxx.drew).frozen 7
  have e1 : bits .xor .u32 (xorW x7 (q1a x0 x5 x2 x7)) (q1a x0 x5 x2 x7) = x7 := by rw [xor_fold]; exact xor_xor h7 (q1a_bd x0 x5 x2 x7)
  have hr : ∀ w, Calls Try.prog 48 #[.int .u32 (q1d x0 x5 x2 x7), .int .i64 16] w fun e w' => e = .returned (.int .u32 (xorW x7 (q1a x0 x5 x2 x7))) ∧ w' = w := fun w => by
    have := right16 (xorW_bd x7 (q1a x0 x5 x2 x7)) w
    rwa [show rotW 65536 (xorW x7 (q1a x0 x5 x2 x7)) = (q1d x0 x5 x2 x7) by unfold q1d; rfl] at this
  have := (q1a_bd x0 x5 x2 x7).1
  have := (q1a_bd x0 x5 x2 x7).2
  have := (q1d_bd x0 x5 x2 x7).1
  have := (q1d_bd x0 x5 x2 x7).2
  refine wp_region_still_tail 10 (by kernel_rfl) (by kernel_rfl) ?_
  simp only [List.take_succ_cons, List.take_zero, List.drop_succ_cons, List.drop_zero]
  change wpStill _ _ (World.drew _) _ _ _
  still_step; still_step; still_step; still_step
  still_call (hr _)
  still_step; still_step; still_step; still_step; still_step
  refine wpStill_nil ?_
  change wpList _ _ _ _ _ (World.drew _)
  clear e1
  clear hr
  go_wp2
  have hbxxxxxxx := (hbxxxxxx.set 7 (.int .u32 x7) (c' := #[Value.int .u32 ((q1a x0 x5 x2 x7)), .int .u32 x1, .int .u32 x2, .int .u32 x3, .int .u32 x4, .int .u32 x5, .int .u32 x6, .int .u32 x7]) rfl).drew
  have gxxxxxxx := drewR (grown_set (p := ⟨b, 7, none⟩) gxxxxxx rfl (.int .u32 x7))
  generalize World.drew (World.setCell _ _ _) = w7 at *
  clear k1 k2 k3 hbxxxxxx gxxxxxx
  have k1 := (hbxxxxxxx.drew).cell (k := 0) (v := .int .u32 (q1a x0 x5 x2 x7)) rfl
  have k2 := (hbxxxxxxx.drew).cell (k := 5) (v := .int .u32 x5) rfl
  have k3 := (hbxxxxxxx.drew).frozen 0
  have e1 : IntKind.u32.wrap ((q1a x0 x5 x2 x7) - x5) = x0 := by rw [IntKind.wrap_u32, show (q1a x0 x5 x2 x7) = addW x0 x5 by unfold q1a; rfl]; exact sub_add h0.1 h0.2
  have := (q1a_bd x0 x5 x2 x7).1
  have := (q1a_bd x0 x5 x2 x7).2
  have := h5.1
  have := h5.2
  refine wp_region_still_tail 9 (by kernel_rfl) (by kernel_rfl) ?_
  simp only [List.take_succ_cons, List.take_zero, List.drop_succ_cons, List.drop_zero]
  change wpStill _ _ (World.drew _) _ _ _
  still_step; still_step; still_step; still_step; still_step; still_step; still_step; still_step; still_step
  refine wpStill_nil ?_
  change wpList _ _ _ _ _ (World.drew _)
  clear e1
  go_upto_region 9 with fail
  have hbxxxxxxxx := (hbxxxxxxx.set 0 (.int .u32 x0) (c' := #[Value.int .u32 x0, .int .u32 x1, .int .u32 x2, .int .u32 x3, .int .u32 x4, .int .u32 x5, .int .u32 x6, .int .u32 x7]) rfl).drew
  have gxxxxxxxx := drewR (grown_set (p := ⟨b, 0, none⟩) gxxxxxxx rfl (.int .u32 x0))
  generalize World.drew (World.setCell _ _ _) = w8 at *
  clear k1 k2 k3 hbxxxxxxx gxxxxxxx
  have hz2 := hz.grown gxxxxxxxx (by simp)
  have hB2 := below_of_grown hB gxxxxxxxx hB.size (Nat.le_of_eq EB.out.symm)
  go_wp2_with (first | (refine wpList_load_blk rfl _ _ rfl _ rfl _ _ _ hbxxxxxxxx Try.underlying25 rfl size8 ?_) | (refine wpList_store_blk rfl _ _ _ rfl _ rfl _ rfl (one8 _ _ _ _ _ _ _ _) _ hz2 rfl size8 ?_; intro v gv mv))
  exact bodyPost_ret (results_blk rfl rfl mv Try.underlying25 rfl size8) rfl ⟨rfl, below_of_grown hB2 gv hB2.size (by have := EB.out; omega)⟩
set_option maxHeartbeats 4000000 in
theorem undo_p3 (x0 x1 x2 x3 x4 x5 x6 x7 : Int) (h0 : 0 ≤ x0 ∧ x0 < 4294967296) (h1 : 0 ≤ x1 ∧ x1 < 4294967296) (h2 : 0 ≤ x2 ∧ x2 < 4294967296) (h3 : 0 ≤ x3 ∧ x3 < 4294967296) (h4 : 0 ≤ x4 ∧ x4 < 4294967296) (h5 : 0 ≤ x5 ∧ x5 < 4294967296) (h6 : 0 ≤ x6 ∧ x6 < 4294967296) (h7 : 0 ≤ x7 ∧ x7 < 4294967296) (w : World) :
    Calls Try.prog 37 #[.agg #[Value.int .u32 x0, .int .u32 ((qb x4 x1 x6 x3)), .int .u32 x2, .int .u32 ((qd x4 x1 x6 x3)), .int .u32 ((qa x4 x1 x6 x3)), .int .u32 x5, .int .u32 ((qc x4 x1 x6 x3)), .int .u32 x7], .int .i64 4, .int .i64 1, .int .i64 6, .int .i64 3] w fun e w' => e = .returned (.agg #[Value.int .u32 x0, .int .u32 x1, .int .u32 x2, .int .u32 x3, .int .u32 x4, .int .u32 x5, .int .u32 x6, .int .u32 x7]) ∧ Below w.heap.size w w' := by
  obtain ⟨b, eb⟩ : ∃ b, b = w.heap.size := ⟨_, rfl⟩
  have hb := (Blk.new w 25 #[Value.int .u32 x0, .int .u32 ((qb x4 x1 x6 x3)), .int .u32 x2, .int .u32 ((qd x4 x1 x6 x3)), .int .u32 ((qa x4 x1 x6 x3)), .int .u32 x5, .int .u32 ((qc x4 x1 x6 x3)), .int .u32 x7]).alloc (.cells #[Value.int .u32 0, .int .u32 0, .int .u32 0, .int .u32 0, .int .u32 0, .int .u32 0, .int .u32 0, .int .u32 0] 25)
  have hz := Blk.new (w.alloc (.cells #[Value.int .u32 x0, .int .u32 ((qb x4 x1 x6 x3)), .int .u32 x2, .int .u32 ((qd x4 x1 x6 x3)), .int .u32 ((qa x4 x1 x6 x3)), .int .u32 x5, .int .u32 ((qc x4 x1 x6 x3)), .int .u32 x7] 25)) 25 #[Value.int .u32 0, .int .u32 0, .int .u32 0, .int .u32 0, .int .u32 0, .int .u32 0, .int .u32 0, .int .u32 0]
  rw [World.size_alloc] at hz
  have hB : Below w.heap.size w ((w.alloc (.cells #[Value.int .u32 x0, .int .u32 ((qb x4 x1 x6 x3)), .int .u32 x2, .int .u32 ((qd x4 x1 x6 x3)), .int .u32 ((qa x4 x1 x6 x3)), .int .u32 x5, .int .u32 ((qc x4 x1 x6 x3)), .int .u32 x7] 25)).alloc (.cells #[Value.int .u32 0, .int .u32 0, .int .u32 0, .int .u32 0, .int .u32 0, .int .u32 0, .int .u32 0, .int .u32 0] 25)) := ((Below.refl _ _).alloc (Nat.le_refl _) _).alloc (by simp) _
  go_enter Try.func37, Try.ntmps37
  go_wp2
  have g := World.grownBy.refl ((w.alloc (.cells #[Value.int .u32 x0, .int .u32 ((qb x4 x1 x6 x3)), .int .u32 x2, .int .u32 ((qd x4 x1 x6 x3)), .int .u32 ((qa x4 x1 x6 x3)), .int .u32 x5, .int .u32 ((qc x4 x1 x6 x3)), .int .u32 x7] 25)).alloc (.cells #[Value.int .u32 0, .int .u32 0, .int .u32 0, .int .u32 0, .int .u32 0, .int .u32 0, .int .u32 0, .int .u32 0] 25)) (some w.heap.size)
  generalize World.alloc (World.alloc _ _) _ = w0 at *
  rw [← eb] at hb hz g ⊢
  have EB := hid eb
  clear eb
  have k1 := (hb.drew).cell (k := 1) (v := .int .u32 (qb x4 x1 x6 x3)) rfl
  have k2 := (hb.drew).cell (k := 6) (v := .int .u32 (qc x4 x1 x6 x3)) rfl
  have k3 := (hb.drew).frozen 1
  have e1 : bits .xor .u32 (xorW (q1b x4 x1 x6 x3) (qc x4 x1 x6 x3)) (qc x4 x1 x6 x3) = (q1b x4 x1 x6 x3) := by rw [xor_fold]; exact xor_xor (q1b_bd x4 x1 x6 x3) (qc_bd x4 x1 x6 x3)
  have hr : ∀ w, Calls Try.prog 48 #[.int .u32 (qb x4 x1 x6 x3), .int .i64 7] w fun e w' => e = .returned (.int .u32 (xorW (q1b x4 x1 x6 x3) (qc x4 x1 x6 x3))) ∧ w' = w := fun w => by
    have := right7 (xorW_bd (q1b x4 x1 x6 x3) (qc x4 x1 x6 x3)) w
    rwa [show rotW 128 (xorW (q1b x4 x1 x6 x3) (qc x4 x1 x6 x3)) = (qb x4 x1 x6 x3) by unfold qb; rfl] at this
  have := (qb_bd x4 x1 x6 x3).1
  have := (qb_bd x4 x1 x6 x3).2
  have := (qc_bd x4 x1 x6 x3).1
  have := (qc_bd x4 x1 x6 x3).2
  refine wp_region_still_tail 10 (by kernel_rfl) (by kernel_rfl) ?_
  simp only [List.take_succ_cons, List.take_zero, List.drop_succ_cons, List.drop_zero]
  change wpStill _ _ (World.drew _) _ _ _
  still_step; still_step; still_step; still_step
  still_call (hr _)
  still_step; still_step; still_step; still_step; still_step
  refine wpStill_nil ?_
  change wpList _ _ _ _ _ (World.drew _)
  clear e1
  clear hr
  go_wp2
  have hbx := (hb.set 1 (.int .u32 (q1b x4 x1 x6 x3)) (c' := #[Value.int .u32 x0, .int .u32 ((q1b x4 x1 x6 x3)), .int .u32 x2, .int .u32 ((qd x4 x1 x6 x3)), .int .u32 ((qa x4 x1 x6 x3)), .int .u32 x5, .int .u32 ((qc x4 x1 x6 x3)), .int .u32 x7]) rfl).drew
  have gx := drewR (grown_set (p := ⟨b, 1, none⟩) g rfl (.int .u32 (q1b x4 x1 x6 x3)))
  generalize World.drew (World.setCell _ _ _) = w1 at *
  clear k1 k2 k3 hb g
  have k1 := (hbx.drew).cell (k := 6) (v := .int .u32 (qc x4 x1 x6 x3)) rfl
  have k2 := (hbx.drew).cell (k := 3) (v := .int .u32 (qd x4 x1 x6 x3)) rfl
  have k3 := (hbx.drew).frozen 6
  have e1 : IntKind.u32.wrap ((qc x4 x1 x6 x3) - (qd x4 x1 x6 x3)) = (q1c x4 x1 x6 x3) := by rw [IntKind.wrap_u32, show (qc x4 x1 x6 x3) = addW (q1c x4 x1 x6 x3) (qd x4 x1 x6 x3) by unfold qc; rfl]; exact sub_add (q1c_bd x4 x1 x6 x3).1 (q1c_bd x4 x1 x6 x3).2
  have := (qc_bd x4 x1 x6 x3).1
  have := (qc_bd x4 x1 x6 x3).2
  have := (qd_bd x4 x1 x6 x3).1
  have := (qd_bd x4 x1 x6 x3).2
  refine wp_region_still_tail 9 (by kernel_rfl) (by kernel_rfl) ?_
  simp only [List.take_succ_cons, List.take_zero, List.drop_succ_cons, List.drop_zero]
  change wpStill _ _ (World.drew _) _ _ _
  still_step; still_step; still_step; still_step; still_step; still_step; still_step; still_step; still_step
  refine wpStill_nil ?_
  change wpList _ _ _ _ _ (World.drew _)
  clear e1
  go_wp2
  have hbxx := (hbx.set 6 (.int .u32 (q1c x4 x1 x6 x3)) (c' := #[Value.int .u32 x0, .int .u32 ((q1b x4 x1 x6 x3)), .int .u32 x2, .int .u32 ((qd x4 x1 x6 x3)), .int .u32 ((qa x4 x1 x6 x3)), .int .u32 x5, .int .u32 ((q1c x4 x1 x6 x3)), .int .u32 x7]) rfl).drew
  have gxx := drewR (grown_set (p := ⟨b, 6, none⟩) gx rfl (.int .u32 (q1c x4 x1 x6 x3)))
  generalize World.drew (World.setCell _ _ _) = w2 at *
  clear k1 k2 k3 hbx gx
  have k1 := (hbxx.drew).cell (k := 3) (v := .int .u32 (qd x4 x1 x6 x3)) rfl
  have k2 := (hbxx.drew).cell (k := 4) (v := .int .u32 (qa x4 x1 x6 x3)) rfl
  have k3 := (hbxx.drew).frozen 3
  have e1 : bits .xor .u32 (xorW (q1d x4 x1 x6 x3) (qa x4 x1 x6 x3)) (qa x4 x1 x6 x3) = (q1d x4 x1 x6 x3) := by rw [xor_fold]; exact xor_xor (q1d_bd x4 x1 x6 x3) (qa_bd x4 x1 x6 x3)
  have hr : ∀ w, Calls Try.prog 48 #[.int .u32 (qd x4 x1 x6 x3), .int .i64 8] w fun e w' => e = .returned (.int .u32 (xorW (q1d x4 x1 x6 x3) (qa x4 x1 x6 x3))) ∧ w' = w := fun w => by
    have := right8 (xorW_bd (q1d x4 x1 x6 x3) (qa x4 x1 x6 x3)) w
    rwa [show rotW 256 (xorW (q1d x4 x1 x6 x3) (qa x4 x1 x6 x3)) = (qd x4 x1 x6 x3) by unfold qd; rfl] at this
  have := (qa_bd x4 x1 x6 x3).1
  have := (qa_bd x4 x1 x6 x3).2
  have := (qd_bd x4 x1 x6 x3).1
  have := (qd_bd x4 x1 x6 x3).2
  refine wp_region_still_tail 10 (by kernel_rfl) (by kernel_rfl) ?_
  simp only [List.take_succ_cons, List.take_zero, List.drop_succ_cons, List.drop_zero]
  change wpStill _ _ (World.drew _) _ _ _
  still_step; still_step; still_step; still_step
  still_call (hr _)
  still_step; still_step; still_step; still_step; still_step
  refine wpStill_nil ?_
  change wpList _ _ _ _ _ (World.drew _)
  clear e1
  clear hr
  go_wp2
  have hbxxx := (hbxx.set 3 (.int .u32 (q1d x4 x1 x6 x3)) (c' := #[Value.int .u32 x0, .int .u32 ((q1b x4 x1 x6 x3)), .int .u32 x2, .int .u32 ((q1d x4 x1 x6 x3)), .int .u32 ((qa x4 x1 x6 x3)), .int .u32 x5, .int .u32 ((q1c x4 x1 x6 x3)), .int .u32 x7]) rfl).drew
  have gxxx := drewR (grown_set (p := ⟨b, 3, none⟩) gxx rfl (.int .u32 (q1d x4 x1 x6 x3)))
  generalize World.drew (World.setCell _ _ _) = w3 at *
  clear k1 k2 k3 hbxx gxx
  have k1 := (hbxxx.drew).cell (k := 4) (v := .int .u32 (qa x4 x1 x6 x3)) rfl
  have k2 := (hbxxx.drew).cell (k := 1) (v := .int .u32 (q1b x4 x1 x6 x3)) rfl
  have k3 := (hbxxx.drew).frozen 4
  have e1 : IntKind.u32.wrap ((qa x4 x1 x6 x3) - (q1b x4 x1 x6 x3)) = (q1a x4 x1 x6 x3) := by rw [IntKind.wrap_u32, show (qa x4 x1 x6 x3) = addW (q1a x4 x1 x6 x3) (q1b x4 x1 x6 x3) by unfold qa; rfl]; exact sub_add (q1a_bd x4 x1 x6 x3).1 (q1a_bd x4 x1 x6 x3).2
  have := (q1b_bd x4 x1 x6 x3).1
  have := (q1b_bd x4 x1 x6 x3).2
  have := (qa_bd x4 x1 x6 x3).1
  have := (qa_bd x4 x1 x6 x3).2
  refine wp_region_still_tail 9 (by kernel_rfl) (by kernel_rfl) ?_
  simp only [List.take_succ_cons, List.take_zero, List.drop_succ_cons, List.drop_zero]
  change wpStill _ _ (World.drew _) _ _ _
  still_step; still_step; still_step; still_step; still_step; still_step; still_step; still_step; still_step
  refine wpStill_nil ?_
  change wpList _ _ _ _ _ (World.drew _)
  clear e1
  go_wp2
  have hbxxxx := (hbxxx.set 4 (.int .u32 (q1a x4 x1 x6 x3)) (c' := #[Value.int .u32 x0, .int .u32 ((q1b x4 x1 x6 x3)), .int .u32 x2, .int .u32 ((q1d x4 x1 x6 x3)), .int .u32 ((q1a x4 x1 x6 x3)), .int .u32 x5, .int .u32 ((q1c x4 x1 x6 x3)), .int .u32 x7]) rfl).drew
  have gxxxx := drewR (grown_set (p := ⟨b, 4, none⟩) gxxx rfl (.int .u32 (q1a x4 x1 x6 x3)))
  generalize World.drew (World.setCell _ _ _) = w4 at *
  clear k1 k2 k3 hbxxx gxxx
  have k1 := (hbxxxx.drew).cell (k := 1) (v := .int .u32 (q1b x4 x1 x6 x3)) rfl
  have k2 := (hbxxxx.drew).cell (k := 6) (v := .int .u32 (q1c x4 x1 x6 x3)) rfl
  have k3 := (hbxxxx.drew).frozen 1
  have e1 : bits .xor .u32 (xorW x1 (q1c x4 x1 x6 x3)) (q1c x4 x1 x6 x3) = x1 := by rw [xor_fold]; exact xor_xor h1 (q1c_bd x4 x1 x6 x3)
  have hr : ∀ w, Calls Try.prog 48 #[.int .u32 (q1b x4 x1 x6 x3), .int .i64 12] w fun e w' => e = .returned (.int .u32 (xorW x1 (q1c x4 x1 x6 x3))) ∧ w' = w := fun w => by
    have := right12 (xorW_bd x1 (q1c x4 x1 x6 x3)) w
    rwa [show rotW 4096 (xorW x1 (q1c x4 x1 x6 x3)) = (q1b x4 x1 x6 x3) by unfold q1b; rfl] at this
  have := (q1b_bd x4 x1 x6 x3).1
  have := (q1b_bd x4 x1 x6 x3).2
  have := (q1c_bd x4 x1 x6 x3).1
  have := (q1c_bd x4 x1 x6 x3).2
  refine wp_region_still_tail 10 (by kernel_rfl) (by kernel_rfl) ?_
  simp only [List.take_succ_cons, List.take_zero, List.drop_succ_cons, List.drop_zero]
  change wpStill _ _ (World.drew _) _ _ _
  still_step; still_step; still_step; still_step
  still_call (hr _)
  still_step; still_step; still_step; still_step; still_step
  refine wpStill_nil ?_
  change wpList _ _ _ _ _ (World.drew _)
  clear e1
  clear hr
  go_wp2
  have hbxxxxx := (hbxxxx.set 1 (.int .u32 x1) (c' := #[Value.int .u32 x0, .int .u32 x1, .int .u32 x2, .int .u32 ((q1d x4 x1 x6 x3)), .int .u32 ((q1a x4 x1 x6 x3)), .int .u32 x5, .int .u32 ((q1c x4 x1 x6 x3)), .int .u32 x7]) rfl).drew
  have gxxxxx := drewR (grown_set (p := ⟨b, 1, none⟩) gxxxx rfl (.int .u32 x1))
  generalize World.drew (World.setCell _ _ _) = w5 at *
  clear k1 k2 k3 hbxxxx gxxxx
  have k1 := (hbxxxxx.drew).cell (k := 6) (v := .int .u32 (q1c x4 x1 x6 x3)) rfl
  have k2 := (hbxxxxx.drew).cell (k := 3) (v := .int .u32 (q1d x4 x1 x6 x3)) rfl
  have k3 := (hbxxxxx.drew).frozen 6
  have e1 : IntKind.u32.wrap ((q1c x4 x1 x6 x3) - (q1d x4 x1 x6 x3)) = x6 := by rw [IntKind.wrap_u32, show (q1c x4 x1 x6 x3) = addW x6 (q1d x4 x1 x6 x3) by unfold q1c; rfl]; exact sub_add h6.1 h6.2
  have := (q1c_bd x4 x1 x6 x3).1
  have := (q1c_bd x4 x1 x6 x3).2
  have := (q1d_bd x4 x1 x6 x3).1
  have := (q1d_bd x4 x1 x6 x3).2
  refine wp_region_still_tail 9 (by kernel_rfl) (by kernel_rfl) ?_
  simp only [List.take_succ_cons, List.take_zero, List.drop_succ_cons, List.drop_zero]
  change wpStill _ _ (World.drew _) _ _ _
  still_step; still_step; still_step; still_step; still_step; still_step; still_step; still_step; still_step
  refine wpStill_nil ?_
  change wpList _ _ _ _ _ (World.drew _)
  clear e1
  go_wp2
  have hbxxxxxx := (hbxxxxx.set 6 (.int .u32 x6) (c' := #[Value.int .u32 x0, .int .u32 x1, .int .u32 x2, .int .u32 ((q1d x4 x1 x6 x3)), .int .u32 ((q1a x4 x1 x6 x3)), .int .u32 x5, .int .u32 x6, .int .u32 x7]) rfl).drew
  have gxxxxxx := drewR (grown_set (p := ⟨b, 6, none⟩) gxxxxx rfl (.int .u32 x6))
  generalize World.drew (World.setCell _ _ _) = w6 at *
  clear k1 k2 k3 hbxxxxx gxxxxx
  have k1 := (hbxxxxxx.drew).cell (k := 3) (v := .int .u32 (q1d x4 x1 x6 x3)) rfl
  have k2 := (hbxxxxxx.drew).cell (k := 4) (v := .int .u32 (q1a x4 x1 x6 x3)) rfl
  have k3 := (hbxxxxxx.drew).frozen 3
  have e1 : bits .xor .u32 (xorW x3 (q1a x4 x1 x6 x3)) (q1a x4 x1 x6 x3) = x3 := by rw [xor_fold]; exact xor_xor h3 (q1a_bd x4 x1 x6 x3)
  have hr : ∀ w, Calls Try.prog 48 #[.int .u32 (q1d x4 x1 x6 x3), .int .i64 16] w fun e w' => e = .returned (.int .u32 (xorW x3 (q1a x4 x1 x6 x3))) ∧ w' = w := fun w => by
    have := right16 (xorW_bd x3 (q1a x4 x1 x6 x3)) w
    rwa [show rotW 65536 (xorW x3 (q1a x4 x1 x6 x3)) = (q1d x4 x1 x6 x3) by unfold q1d; rfl] at this
  have := (q1a_bd x4 x1 x6 x3).1
  have := (q1a_bd x4 x1 x6 x3).2
  have := (q1d_bd x4 x1 x6 x3).1
  have := (q1d_bd x4 x1 x6 x3).2
  refine wp_region_still_tail 10 (by kernel_rfl) (by kernel_rfl) ?_
  simp only [List.take_succ_cons, List.take_zero, List.drop_succ_cons, List.drop_zero]
  change wpStill _ _ (World.drew _) _ _ _
  still_step; still_step; still_step; still_step
  still_call (hr _)
  still_step; still_step; still_step; still_step; still_step
  refine wpStill_nil ?_
  change wpList _ _ _ _ _ (World.drew _)
  clear e1
  clear hr
  go_wp2
  have hbxxxxxxx := (hbxxxxxx.set 3 (.int .u32 x3) (c' := #[Value.int .u32 x0, .int .u32 x1, .int .u32 x2, .int .u32 x3, .int .u32 ((q1a x4 x1 x6 x3)), .int .u32 x5, .int .u32 x6, .int .u32 x7]) rfl).drew
  have gxxxxxxx := drewR (grown_set (p := ⟨b, 3, none⟩) gxxxxxx rfl (.int .u32 x3))
  generalize World.drew (World.setCell _ _ _) = w7 at *
  clear k1 k2 k3 hbxxxxxx gxxxxxx
  have k1 := (hbxxxxxxx.drew).cell (k := 4) (v := .int .u32 (q1a x4 x1 x6 x3)) rfl
  have k2 := (hbxxxxxxx.drew).cell (k := 1) (v := .int .u32 x1) rfl
  have k3 := (hbxxxxxxx.drew).frozen 4
  have e1 : IntKind.u32.wrap ((q1a x4 x1 x6 x3) - x1) = x4 := by rw [IntKind.wrap_u32, show (q1a x4 x1 x6 x3) = addW x4 x1 by unfold q1a; rfl]; exact sub_add h4.1 h4.2
  have := (q1a_bd x4 x1 x6 x3).1
  have := (q1a_bd x4 x1 x6 x3).2
  have := h1.1
  have := h1.2
  refine wp_region_still_tail 9 (by kernel_rfl) (by kernel_rfl) ?_
  simp only [List.take_succ_cons, List.take_zero, List.drop_succ_cons, List.drop_zero]
  change wpStill _ _ (World.drew _) _ _ _
  still_step; still_step; still_step; still_step; still_step; still_step; still_step; still_step; still_step
  refine wpStill_nil ?_
  change wpList _ _ _ _ _ (World.drew _)
  clear e1
  go_upto_region 9 with fail
  have hbxxxxxxxx := (hbxxxxxxx.set 4 (.int .u32 x4) (c' := #[Value.int .u32 x0, .int .u32 x1, .int .u32 x2, .int .u32 x3, .int .u32 x4, .int .u32 x5, .int .u32 x6, .int .u32 x7]) rfl).drew
  have gxxxxxxxx := drewR (grown_set (p := ⟨b, 4, none⟩) gxxxxxxx rfl (.int .u32 x4))
  generalize World.drew (World.setCell _ _ _) = w8 at *
  clear k1 k2 k3 hbxxxxxxx gxxxxxxx
  have hz2 := hz.grown gxxxxxxxx (by simp)
  have hB2 := below_of_grown hB gxxxxxxxx hB.size (Nat.le_of_eq EB.out.symm)
  go_wp2_with (first | (refine wpList_load_blk rfl _ _ rfl _ rfl _ _ _ hbxxxxxxxx Try.underlying25 rfl size8 ?_) | (refine wpList_store_blk rfl _ _ _ rfl _ rfl _ rfl (one8 _ _ _ _ _ _ _ _) _ hz2 rfl size8 ?_; intro v gv mv))
  exact bodyPost_ret (results_blk rfl rfl mv Try.underlying25 rfl size8) rfl ⟨rfl, below_of_grown hB2 gv hB2.size (by have := EB.out; omega)⟩
end Go.Proofs.Ytajombnckgehbaa
