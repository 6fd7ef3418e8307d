/- sponge.quarter, sentinelref3.quarter: four words of eight. -/
import Derived.Test.YtajombnckgehbaaSWord
namespace Go.Proofs.Ytajombnckgehbaa
set_option linter.unusedVariables false
set_option linter.unusedSimpArgs false
open Go.ChangeShapes Go.WideShapes Go.ChangeAt Go.RowKit

def q1a (a b c d : Int) : Int := addW a b
def q1d (a b c d : Int) : Int := rotW 65536 (xorW d (q1a a b c d))
def q1c (a b c d : Int) : Int := addW c (q1d a b c d)
def q1b (a b c d : Int) : Int := rotW 4096 (xorW b (q1c a b c d))
def qa (a b c d : Int) : Int := addW (q1a a b c d) (q1b a b c d)
def qd (a b c d : Int) : Int := rotW 256 (xorW (q1d a b c d) (qa a b c d))
def qc (a b c d : Int) : Int := addW (q1c a b c d) (qd a b c d)
def qb (a b c d : Int) : Int := rotW 128 (xorW (q1b a b c d) (qc a b c d))
theorem q1a_bd (a b c d : Int) : 0 ≤ q1a a b c d ∧ q1a a b c d < 4294967296 := addW_bd _ _
theorem q1b_bd (a b c d : Int) : 0 ≤ q1b a b c d ∧ q1b a b c d < 4294967296 := rotW_bd _ _
theorem q1c_bd (a b c d : Int) : 0 ≤ q1c a b c d ∧ q1c a b c d < 4294967296 := addW_bd _ _
theorem q1d_bd (a b c d : Int) : 0 ≤ q1d a b c d ∧ q1d a b c d < 4294967296 := rotW_bd _ _
theorem qa_bd (a b c d : Int) : 0 ≤ qa a b c d ∧ qa a b c d < 4294967296 := addW_bd _ _
theorem qb_bd (a b c d : Int) : 0 ≤ qb a b c d ∧ qb a b c d < 4294967296 := rotW_bd _ _
theorem qc_bd (a b c d : Int) : 0 ≤ qc a b c d ∧ qc a b c d < 4294967296 := addW_bd _ _
theorem qd_bd (a b c d : Int) : 0 ≤ qd a b c d ∧ qd a b c d < 4294967296 := rotW_bd _ _
theorem drewR {a w : World} {row : Option Nat} (h : a.grownBy w row) : a.grownBy w.drew row := ⟨h.os, h.tape, h.output, h.size, h.block⟩
set_option maxHeartbeats 2000000 in
set_option maxRecDepth 100000 in
theorem quarter_p0 (b : Nat) (t : TypeId) (x0 x1 x2 x3 x4 x5 x6 x7 : Int) (h0 : 0 ≤ x0 ∧ x0 < 4294967296) (h1 : 0 ≤ x1 ∧ x1 < 4294967296) (h2 : 0 ≤ x2 ∧ x2 < 4294967296) (h3 : 0 ≤ x3 ∧ x3 < 4294967296) (h4 : 0 ≤ x4 ∧ x4 < 4294967296) (h5 : 0 ≤ x5 ∧ x5 < 4294967296) (h6 : 0 ≤ x6 ∧ x6 < 4294967296) (h7 : 0 ≤ x7 ∧ x7 < 4294967296) (w : World) (hb : Blk w b t #[Value.int .u32 x0, .int .u32 x1, .int .u32 x2, .int .u32 x3, .int .u32 x4, .int .u32 x5, .int .u32 x6, .int .u32 x7]) :
    Calls Try.prog 35 #[.pointer (some ⟨b, 0, none⟩), .pointer (some ⟨b, 1, none⟩), .pointer (some ⟨b, 2, none⟩), .pointer (some ⟨b, 3, none⟩)] w fun e w' => e = .returned (.tuple #[]) ∧ w.grownBy w' (some b) ∧ Blk w' b t #[Value.int .u32 (qa x0 x1 x2 x3), .int .u32 (qb x0 x1 x2 x3), .int .u32 (qc x0 x1 x2 x3), .int .u32 (qd x0 x1 x2 x3), .int .u32 x4, .int .u32 x5, .int .u32 x6, .int .u32 x7] := by
  have g := World.grownBy.refl w (some b)
  go_enter Try.func35, Try.ntmps35
  go_wp2
  have k1 := (hb.drew).cell (k := 0) (v := .int .u32 x0) rfl
  have k2 := (hb.drew).cell (k := 1) (v := .int .u32 x1) rfl
  have k3 := (hb.drew).frozen 0
  have e1 : IntKind.u32.wrap (x0 + x1) = (q1a x0 x1 x2 x3) := by rw [IntKind.wrap_u32]; unfold q1a addW; rfl
  have := h0.1
  have := h0.2
  have := h1.1
  have := h1.2
  refine wp_region_still_tail 8 (by kernel_rfl) (by kernel_rfl) ?_
  simp only [List.take_succ_cons, List.take_zero, List.drop_succ_cons, List.drop_zero]
  change wpStill _ _ (World.drew _) _ _ _
  still_step; still_step; still_step; still_step; still_step; still_step; still_step; still_step
  refine wpStill_nil ?_
  change wpList _ _ _ _ _ (World.drew _)
  clear e1
  go_wp2
  have hbx := (hb.set 0 (.int .u32 (q1a x0 x1 x2 x3)) (c' := #[Value.int .u32 ((q1a x0 x1 x2 x3)), .int .u32 x1, .int .u32 x2, .int .u32 x3, .int .u32 x4, .int .u32 x5, .int .u32 x6, .int .u32 x7]) rfl).drew
  have gx := drewR (grown_set (p := ⟨b, 0, none⟩) g rfl (.int .u32 (q1a x0 x1 x2 x3)))
  generalize World.drew (World.setCell _ _ _) = w1 at *
  clear k1 k2 k3 hb g
  have k1 := (hbx.drew).cell (k := 3) (v := .int .u32 x3) rfl
  have k2 := (hbx.drew).cell (k := 0) (v := .int .u32 (q1a x0 x1 x2 x3)) rfl
  have k3 := (hbx.drew).frozen 3
  have e1 : bits .xor .u32 x3 (q1a x0 x1 x2 x3) = xorW x3 (q1a x0 x1 x2 x3) := by unfold xorW; rfl
  have := (q1a_bd x0 x1 x2 x3).1
  have := (q1a_bd x0 x1 x2 x3).2
  have := h3.1
  have := h3.2
  refine wp_region_still_tail 10 (by kernel_rfl) (by kernel_rfl) ?_
  simp only [List.take_succ_cons, List.take_zero, List.drop_succ_cons, List.drop_zero]
  change wpStill _ _ (World.drew _) _ _ _
  still_step; still_step; still_step; still_step; still_step; still_step; still_step; still_step
  still_call (rot16 _ (xorW_bd _ _).1 (xorW_bd _ _).2 _)
  still_step
  refine wpStill_nil ?_
  change wpList _ _ _ _ _ (World.drew _)
  rw [show rotW 65536 (xorW x3 (q1a x0 x1 x2 x3)) = (q1d x0 x1 x2 x3) by unfold q1d; rfl]
  clear e1
  go_wp2
  have hbxx := (hbx.set 3 (.int .u32 (q1d x0 x1 x2 x3)) (c' := #[Value.int .u32 ((q1a x0 x1 x2 x3)), .int .u32 x1, .int .u32 x2, .int .u32 ((q1d x0 x1 x2 x3)), .int .u32 x4, .int .u32 x5, .int .u32 x6, .int .u32 x7]) rfl).drew
  have gxx := drewR (grown_set (p := ⟨b, 3, none⟩) gx rfl (.int .u32 (q1d x0 x1 x2 x3)))
  generalize World.drew (World.setCell _ _ _) = w2 at *
  clear k1 k2 k3 hbx gx
  have k1 := (hbxx.drew).cell (k := 2) (v := .int .u32 x2) rfl
  have k2 := (hbxx.drew).cell (k := 3) (v := .int .u32 (q1d x0 x1 x2 x3)) rfl
  have k3 := (hbxx.drew).frozen 2
  have e1 : IntKind.u32.wrap (x2 + (q1d x0 x1 x2 x3)) = (q1c x0 x1 x2 x3) := by rw [IntKind.wrap_u32]; unfold q1c addW; rfl
  have := (q1d_bd x0 x1 x2 x3).1
  have := (q1d_bd x0 x1 x2 x3).2
  have := h2.1
  have := h2.2
  refine wp_region_still_tail 8 (by kernel_rfl) (by kernel_rfl) ?_
  simp only [List.take_succ_cons, List.take_zero, List.drop_succ_cons, List.drop_zero]
  change wpStill _ _ (World.drew _) _ _ _
  still_step; still_step; still_step; still_step; still_step; still_step; still_step; still_step
  refine wpStill_nil ?_
  change wpList _ _ _ _ _ (World.drew _)
  clear e1
  go_wp2
  have hbxxx := (hbxx.set 2 (.int .u32 (q1c x0 x1 x2 x3)) (c' := #[Value.int .u32 ((q1a x0 x1 x2 x3)), .int .u32 x1, .int .u32 ((q1c x0 x1 x2 x3)), .int .u32 ((q1d x0 x1 x2 x3)), .int .u32 x4, .int .u32 x5, .int .u32 x6, .int .u32 x7]) rfl).drew
  have gxxx := drewR (grown_set (p := ⟨b, 2, none⟩) gxx rfl (.int .u32 (q1c x0 x1 x2 x3)))
  generalize World.drew (World.setCell _ _ _) = w3 at *
  clear k1 k2 k3 hbxx gxx
  have k1 := (hbxxx.drew).cell (k := 1) (v := .int .u32 x1) rfl
  have k2 := (hbxxx.drew).cell (k := 2) (v := .int .u32 (q1c x0 x1 x2 x3)) rfl
  have k3 := (hbxxx.drew).frozen 1
  have e1 : bits .xor .u32 x1 (q1c x0 x1 x2 x3) = xorW x1 (q1c x0 x1 x2 x3) := by unfold xorW; rfl
  have := (q1c_bd x0 x1 x2 x3).1
  have := (q1c_bd x0 x1 x2 x3).2
  have := h1.1
  have := h1.2
  refine wp_region_still_tail 10 (by kernel_rfl) (by kernel_rfl) ?_
  simp only [List.take_succ_cons, List.take_zero, List.drop_succ_cons, List.drop_zero]
  change wpStill _ _ (World.drew _) _ _ _
  still_step; still_step; still_step; still_step; still_step; still_step; still_step; still_step
  still_call (rot12 _ (xorW_bd _ _).1 (xorW_bd _ _).2 _)
  still_step
  refine wpStill_nil ?_
  change wpList _ _ _ _ _ (World.drew _)
  rw [show rotW 4096 (xorW x1 (q1c x0 x1 x2 x3)) = (q1b x0 x1 x2 x3) by unfold q1b; rfl]
  clear e1
  go_wp2
  have hbxxxx := (hbxxx.set 1 (.int .u32 (q1b x0 x1 x2 x3)) (c' := #[Value.int .u32 ((q1a x0 x1 x2 x3)), .int .u32 ((q1b x0 x1 x2 x3)), .int .u32 ((q1c x0 x1 x2 x3)), .int .u32 ((q1d x0 x1 x2 x3)), .int .u32 x4, .int .u32 x5, .int .u32 x6, .int .u32 x7]) rfl).drew
  have gxxxx := drewR (grown_set (p := ⟨b, 1, none⟩) gxxx rfl (.int .u32 (q1b x0 x1 x2 x3)))
  generalize World.drew (World.setCell _ _ _) = w4 at *
  clear k1 k2 k3 hbxxx gxxx
  have k1 := (hbxxxx.drew).cell (k := 0) (v := .int .u32 (q1a x0 x1 x2 x3)) rfl
  have k2 := (hbxxxx.drew).cell (k := 1) (v := .int .u32 (q1b x0 x1 x2 x3)) rfl
  have k3 := (hbxxxx.drew).frozen 0
  have e1 : IntKind.u32.wrap ((q1a x0 x1 x2 x3) + (q1b x0 x1 x2 x3)) = (qa x0 x1 x2 x3) := by rw [IntKind.wrap_u32]; unfold qa addW; rfl
  have := (q1a_bd x0 x1 x2 x3).1
  have := (q1a_bd x0 x1 x2 x3).2
  have := (q1b_bd x0 x1 x2 x3).1
  have := (q1b_bd x0 x1 x2 x3).2
  refine wp_region_still_tail 8 (by kernel_rfl) (by kernel_rfl) ?_
  simp only [List.take_succ_cons, List.take_zero, List.drop_succ_cons, List.drop_zero]
  change wpStill _ _ (World.drew _) _ _ _
  still_step; still_step; still_step; still_step; still_step; still_step; still_step; still_step
  refine wpStill_nil ?_
  change wpList _ _ _ _ _ (World.drew _)
  clear e1
  go_wp2
  have hbxxxxx := (hbxxxx.set 0 (.int .u32 (qa x0 x1 x2 x3)) (c' := #[Value.int .u32 ((qa x0 x1 x2 x3)), .int .u32 ((q1b x0 x1 x2 x3)), .int .u32 ((q1c x0 x1 x2 x3)), .int .u32 ((q1d x0 x1 x2 x3)), .int .u32 x4, .int .u32 x5, .int .u32 x6, .int .u32 x7]) rfl).drew
  have gxxxxx := drewR (grown_set (p := ⟨b, 0, none⟩) gxxxx rfl (.int .u32 (qa x0 x1 x2 x3)))
  generalize World.drew (World.setCell _ _ _) = w5 at *
  clear k1 k2 k3 hbxxxx gxxxx
  have k1 := (hbxxxxx.drew).cell (k := 3) (v := .int .u32 (q1d x0 x1 x2 x3)) rfl
  have k2 := (hbxxxxx.drew).cell (k := 0) (v := .int .u32 (qa x0 x1 x2 x3)) rfl
  have k3 := (hbxxxxx.drew).frozen 3
  have e1 : bits .xor .u32 (q1d x0 x1 x2 x3) (qa x0 x1 x2 x3) = xorW (q1d x0 x1 x2 x3) (qa x0 x1 x2 x3) := by unfold xorW; rfl
  have := (q1d_bd x0 x1 x2 x3).1
  have := (q1d_bd x0 x1 x2 x3).2
  have := (qa_bd x0 x1 x2 x3).1
  have := (qa_bd x0 x1 x2 x3).2
  refine wp_region_still_tail 10 (by kernel_rfl) (by kernel_rfl) ?_
  simp only [List.take_succ_cons, List.take_zero, List.drop_succ_cons, List.drop_zero]
  change wpStill _ _ (World.drew _) _ _ _
  still_step; still_step; still_step; still_step; still_step; still_step; still_step; still_step
  still_call (rot8 _ (xorW_bd _ _).1 (xorW_bd _ _).2 _)
  still_step
  refine wpStill_nil ?_
  change wpList _ _ _ _ _ (World.drew _)
  rw [show rotW 256 (xorW (q1d x0 x1 x2 x3) (qa x0 x1 x2 x3)) = (qd x0 x1 x2 x3) by unfold qd; rfl]
  clear e1
  go_wp2
  have hbxxxxxx := (hbxxxxx.set 3 (.int .u32 (qd x0 x1 x2 x3)) (c' := #[Value.int .u32 ((qa x0 x1 x2 x3)), .int .u32 ((q1b x0 x1 x2 x3)), .int .u32 ((q1c x0 x1 x2 x3)), .int .u32 ((qd x0 x1 x2 x3)), .int .u32 x4, .int .u32 x5, .int .u32 x6, .int .u32 x7]) rfl).drew
  have gxxxxxx := drewR (grown_set (p := ⟨b, 3, none⟩) gxxxxx rfl (.int .u32 (qd x0 x1 x2 x3)))
  generalize World.drew (World.setCell _ _ _) = w6 at *
  clear k1 k2 k3 hbxxxxx gxxxxx
  have k1 := (hbxxxxxx.drew).cell (k := 2) (v := .int .u32 (q1c x0 x1 x2 x3)) rfl
  have k2 := (hbxxxxxx.drew).cell (k := 3) (v := .int .u32 (qd x0 x1 x2 x3)) rfl
  have k3 := (hbxxxxxx.drew).frozen 2
  have e1 : IntKind.u32.wrap ((q1c x0 x1 x2 x3) + (qd x0 x1 x2 x3)) = (qc x0 x1 x2 x3) := by rw [IntKind.wrap_u32]; unfold qc addW; rfl
  have := (q1c_bd x0 x1 x2 x3).1
  have := (q1c_bd x0 x1 x2 x3).2
  have := (qd_bd x0 x1 x2 x3).1
  have := (qd_bd x0 x1 x2 x3).2
  refine wp_region_still_tail 8 (by kernel_rfl) (by kernel_rfl) ?_
  simp only [List.take_succ_cons, List.take_zero, List.drop_succ_cons, List.drop_zero]
  change wpStill _ _ (World.drew _) _ _ _
  still_step; still_step; still_step; still_step; still_step; still_step; still_step; still_step
  refine wpStill_nil ?_
  change wpList _ _ _ _ _ (World.drew _)
  clear e1
  go_wp2
  have hbxxxxxxx := (hbxxxxxx.set 2 (.int .u32 (qc x0 x1 x2 x3)) (c' := #[Value.int .u32 ((qa x0 x1 x2 x3)), .int .u32 ((q1b x0 x1 x2 x3)), .int .u32 ((qc x0 x1 x2 x3)), .int .u32 ((qd x0 x1 x2 x3)), .int .u32 x4, .int .u32 x5, .int .u32 x6, .int .u32 x7]) rfl).drew
  have gxxxxxxx := drewR (grown_set (p := ⟨b, 2, none⟩) gxxxxxx rfl (.int .u32 (qc x0 x1 x2 x3)))
  generalize World.drew (World.setCell _ _ _) = w7 at *
  clear k1 k2 k3 hbxxxxxx gxxxxxx
  have k1 := (hbxxxxxxx.drew).cell (k := 1) (v := .int .u32 (q1b x0 x1 x2 x3)) rfl
  have k2 := (hbxxxxxxx.drew).cell (k := 2) (v := .int .u32 (qc x0 x1 x2 x3)) rfl
  have k3 := (hbxxxxxxx.drew).frozen 1
  have e1 : bits .xor .u32 (q1b x0 x1 x2 x3) (qc x0 x1 x2 x3) = xorW (q1b x0 x1 x2 x3) (qc x0 x1 x2 x3) := by unfold xorW; rfl
  have := (q1b_bd x0 x1 x2 x3).1
  have := (q1b_bd x0 x1 x2 x3).2
  have := (qc_bd x0 x1 x2 x3).1
  have := (qc_bd x0 x1 x2 x3).2
  refine wp_region_still_tail 10 (by kernel_rfl) (by kernel_rfl) ?_
  simp only [List.take_succ_cons, List.take_zero, List.drop_succ_cons, List.drop_zero]
  change wpStill _ _ (World.drew _) _ _ _
  still_step; still_step; still_step; still_step; still_step; still_step; still_step; still_step
  still_call (rot7 _ (xorW_bd _ _).1 (xorW_bd _ _).2 _)
  still_step
  refine wpStill_nil ?_
  change wpList _ _ _ _ _ (World.drew _)
  rw [show rotW 128 (xorW (q1b x0 x1 x2 x3) (qc x0 x1 x2 x3)) = (qb x0 x1 x2 x3) by unfold qb; rfl]
  clear e1
  go_wp2
  have hbxxxxxxxx := (hbxxxxxxx.set 1 (.int .u32 (qb x0 x1 x2 x3)) (c' := #[Value.int .u32 ((qa x0 x1 x2 x3)), .int .u32 ((qb x0 x1 x2 x3)), .int .u32 ((qc x0 x1 x2 x3)), .int .u32 ((qd x0 x1 x2 x3)), .int .u32 x4, .int .u32 x5, .int .u32 x6, .int .u32 x7]) rfl).drew
  have gxxxxxxxx := drewR (grown_set (p := ⟨b, 1, none⟩) gxxxxxxx rfl (.int .u32 (qb x0 x1 x2 x3)))
  generalize World.drew (World.setCell _ _ _) = w8 at *
  clear k1 k2 k3 hbxxxxxxx gxxxxxxx
  exact ⟨rfl, .tuple #[], (by kernel_rfl), rfl, gxxxxxxxx, hbxxxxxxxx⟩
set_option maxHeartbeats 2000000 in
set_option maxRecDepth 100000 in
theorem quarter_p1 (b : Nat) (t : TypeId) (x0 x1 x2 x3 x4 x5 x6 x7 : Int) (h0 : 0 ≤ x0 ∧ x0 < 4294967296) (h1 : 0 ≤ x1 ∧ x1 < 4294967296) (h2 : 0 ≤ x2 ∧ x2 < 4294967296) (h3 : 0 ≤ x3 ∧ x3 < 4294967296) (h4 : 0 ≤ x4 ∧ x4 < 4294967296) (h5 : 0 ≤ x5 ∧ x5 < 4294967296) (h6 : 0 ≤ x6 ∧ x6 < 4294967296) (h7 : 0 ≤ x7 ∧ x7 < 4294967296) (w : World) (hb : Blk w b t #[Value.int .u32 x0, .int .u32 x1, .int .u32 x2, .int .u32 x3, .int .u32 x4, .int .u32 x5, .int .u32 x6, .int .u32 x7]) :
    Calls Try.prog 35 #[.pointer (some ⟨b, 4, none⟩), .pointer (some ⟨b, 5, none⟩), .pointer (some ⟨b, 6, none⟩), .pointer (some ⟨b, 7, none⟩)] w fun e w' => e = .returned (.tuple #[]) ∧ w.grownBy w' (some b) ∧ Blk w' b t #[Value.int .u32 x0, .int .u32 x1, .int .u32 x2, .int .u32 x3, .int .u32 (qa x4 x5 x6 x7), .int .u32 (qb x4 x5 x6 x7), .int .u32 (qc x4 x5 x6 x7), .int .u32 (qd x4 x5 x6 x7)] := by
  have g := World.grownBy.refl w (some b)
  go_enter Try.func35, Try.ntmps35
  go_wp2
  have k1 := (hb.drew).cell (k := 4) (v := .int .u32 x4) rfl
  have k2 := (hb.drew).cell (k := 5) (v := .int .u32 x5) rfl
  have k3 := (hb.drew).frozen 4
  have e1 : IntKind.u32.wrap (x4 + x5) = (q1a x4 x5 x6 x7) := by rw [IntKind.wrap_u32]; unfold q1a addW; rfl
  have := h4.1
  have := h4.2
  have := h5.1
  have := h5.2
  refine wp_region_still_tail 8 (by kernel_rfl) (by kernel_rfl) ?_
  simp only [List.take_succ_cons, List.take_zero, List.drop_succ_cons, List.drop_zero]
  change wpStill _ _ (World.drew _) _ _ _
  still_step; still_step; still_step; still_step; still_step; still_step; still_step; still_step
  refine wpStill_nil ?_
  change wpList _ _ _ _ _ (World.drew _)
  clear e1
  go_wp2
  have hbx := (hb.set 4 (.int .u32 (q1a x4 x5 x6 x7)) (c' := #[Value.int .u32 x0, .int .u32 x1, .int .u32 x2, .int .u32 x3, .int .u32 ((q1a x4 x5 x6 x7)), .int .u32 x5, .int .u32 x6, .int .u32 x7]) rfl).drew
  have gx := drewR (grown_set (p := ⟨b, 4, none⟩) g rfl (.int .u32 (q1a x4 x5 x6 x7)))
  generalize World.drew (World.setCell _ _ _) = w1 at *
  clear k1 k2 k3 hb g
  have k1 := (hbx.drew).cell (k := 7) (v := .int .u32 x7) rfl
  have k2 := (hbx.drew).cell (k := 4) (v := .int .u32 (q1a x4 x5 x6 x7)) rfl
  have k3 := (hbx.drew).frozen 7
  have e1 : bits .xor .u32 x7 (q1a x4 x5 x6 x7) = xorW x7 (q1a x4 x5 x6 x7) := by unfold xorW; rfl
  have := (q1a_bd x4 x5 x6 x7).1
  have := (q1a_bd x4 x5 x6 x7).2
  have := h7.1
  have := h7.2
  refine wp_region_still_tail 10 (by kernel_rfl) (by kernel_rfl) ?_
  simp only [List.take_succ_cons, List.take_zero, List.drop_succ_cons, List.drop_zero]
  change wpStill _ _ (World.drew _) _ _ _
  still_step; still_step; still_step; still_step; still_step; still_step; still_step; still_step
  still_call (rot16 _ (xorW_bd _ _).1 (xorW_bd _ _).2 _)
  still_step
  refine wpStill_nil ?_
  change wpList _ _ _ _ _ (World.drew _)
  rw [show rotW 65536 (xorW x7 (q1a x4 x5 x6 x7)) = (q1d x4 x5 x6 x7) by unfold q1d; rfl]
  clear e1
  go_wp2
  have hbxx := (hbx.set 7 (.int .u32 (q1d x4 x5 x6 x7)) (c' := #[Value.int .u32 x0, .int .u32 x1, .int .u32 x2, .int .u32 x3, .int .u32 ((q1a x4 x5 x6 x7)), .int .u32 x5, .int .u32 x6, .int .u32 ((q1d x4 x5 x6 x7))]) rfl).drew
  have gxx := drewR (grown_set (p := ⟨b, 7, none⟩) gx rfl (.int .u32 (q1d x4 x5 x6 x7)))
  generalize World.drew (World.setCell _ _ _) = w2 at *
  clear k1 k2 k3 hbx gx
  have k1 := (hbxx.drew).cell (k := 6) (v := .int .u32 x6) rfl
  have k2 := (hbxx.drew).cell (k := 7) (v := .int .u32 (q1d x4 x5 x6 x7)) rfl
  have k3 := (hbxx.drew).frozen 6
  have e1 : IntKind.u32.wrap (x6 + (q1d x4 x5 x6 x7)) = (q1c x4 x5 x6 x7) := by rw [IntKind.wrap_u32]; unfold q1c addW; rfl
  have := (q1d_bd x4 x5 x6 x7).1
  have := (q1d_bd x4 x5 x6 x7).2
  have := h6.1
  have := h6.2
  refine wp_region_still_tail 8 (by kernel_rfl) (by kernel_rfl) ?_
  simp only [List.take_succ_cons, List.take_zero, List.drop_succ_cons, List.drop_zero]
  change wpStill _ _ (World.drew _) _ _ _
  still_step; still_step; still_step; still_step; still_step; still_step; still_step; still_step
  refine wpStill_nil ?_
  change wpList _ _ _ _ _ (World.drew _)
  clear e1
  go_wp2
  have hbxxx := (hbxx.set 6 (.int .u32 (q1c x4 x5 x6 x7)) (c' := #[Value.int .u32 x0, .int .u32 x1, .int .u32 x2, .int .u32 x3, .int .u32 ((q1a x4 x5 x6 x7)), .int .u32 x5, .int .u32 ((q1c x4 x5 x6 x7)), .int .u32 ((q1d x4 x5 x6 x7))]) rfl).drew
  have gxxx := drewR (grown_set (p := ⟨b, 6, none⟩) gxx rfl (.int .u32 (q1c x4 x5 x6 x7)))
  generalize World.drew (World.setCell _ _ _) = w3 at *
  clear k1 k2 k3 hbxx gxx
  have k1 := (hbxxx.drew).cell (k := 5) (v := .int .u32 x5) rfl
  have k2 := (hbxxx.drew).cell (k := 6) (v := .int .u32 (q1c x4 x5 x6 x7)) rfl
  have k3 := (hbxxx.drew).frozen 5
  have e1 : bits .xor .u32 x5 (q1c x4 x5 x6 x7) = xorW x5 (q1c x4 x5 x6 x7) := by unfold xorW; rfl
  have := (q1c_bd x4 x5 x6 x7).1
  have := (q1c_bd x4 x5 x6 x7).2
  have := h5.1
  have := h5.2
  refine wp_region_still_tail 10 (by kernel_rfl) (by kernel_rfl) ?_
  simp only [List.take_succ_cons, List.take_zero, List.drop_succ_cons, List.drop_zero]
  change wpStill _ _ (World.drew _) _ _ _
  still_step; still_step; still_step; still_step; still_step; still_step; still_step; still_step
  still_call (rot12 _ (xorW_bd _ _).1 (xorW_bd _ _).2 _)
  still_step
  refine wpStill_nil ?_
  change wpList _ _ _ _ _ (World.drew _)
  rw [show rotW 4096 (xorW x5 (q1c x4 x5 x6 x7)) = (q1b x4 x5 x6 x7) by unfold q1b; rfl]
  clear e1
  go_wp2
  have hbxxxx := (hbxxx.set 5 (.int .u32 (q1b x4 x5 x6 x7)) (c' := #[Value.int .u32 x0, .int .u32 x1, .int .u32 x2, .int .u32 x3, .int .u32 ((q1a x4 x5 x6 x7)), .int .u32 ((q1b x4 x5 x6 x7)), .int .u32 ((q1c x4 x5 x6 x7)), .int .u32 ((q1d x4 x5 x6 x7))]) rfl).drew
  have gxxxx := drewR (grown_set (p := ⟨b, 5, none⟩) gxxx rfl (.int .u32 (q1b x4 x5 x6 x7)))
  generalize World.drew (World.setCell _ _ _) = w4 at *
  clear k1 k2 k3 hbxxx gxxx
  have k1 := (hbxxxx.drew).cell (k := 4) (v := .int .u32 (q1a x4 x5 x6 x7)) rfl
  have k2 := (hbxxxx.drew).cell (k := 5) (v := .int .u32 (q1b x4 x5 x6 x7)) rfl
  have k3 := (hbxxxx.drew).frozen 4
  have e1 : IntKind.u32.wrap ((q1a x4 x5 x6 x7) + (q1b x4 x5 x6 x7)) = (qa x4 x5 x6 x7) := by rw [IntKind.wrap_u32]; unfold qa addW; rfl
  have := (q1a_bd x4 x5 x6 x7).1
  have := (q1a_bd x4 x5 x6 x7).2
  have := (q1b_bd x4 x5 x6 x7).1
  have := (q1b_bd x4 x5 x6 x7).2
  refine wp_region_still_tail 8 (by kernel_rfl) (by kernel_rfl) ?_
  simp only [List.take_succ_cons, List.take_zero, List.drop_succ_cons, List.drop_zero]
  change wpStill _ _ (World.drew _) _ _ _
  still_step; still_step; still_step; still_step; still_step; still_step; still_step; still_step
  refine wpStill_nil ?_
  change wpList _ _ _ _ _ (World.drew _)
  clear e1
  go_wp2
  have hbxxxxx := (hbxxxx.set 4 (.int .u32 (qa x4 x5 x6 x7)) (c' := #[Value.int .u32 x0, .int .u32 x1, .int .u32 x2, .int .u32 x3, .int .u32 ((qa x4 x5 x6 x7)), .int .u32 ((q1b x4 x5 x6 x7)), .int .u32 ((q1c x4 x5 x6 x7)), .int .u32 ((q1d x4 x5 x6 x7))]) rfl).drew
  have gxxxxx := drewR (grown_set (p := ⟨b, 4, none⟩) gxxxx rfl (.int .u32 (qa x4 x5 x6 x7)))
  generalize World.drew (World.setCell _ _ _) = w5 at *
  clear k1 k2 k3 hbxxxx gxxxx
  have k1 := (hbxxxxx.drew).cell (k := 7) (v := .int .u32 (q1d x4 x5 x6 x7)) rfl
  have k2 := (hbxxxxx.drew).cell (k := 4) (v := .int .u32 (qa x4 x5 x6 x7)) rfl
  have k3 := (hbxxxxx.drew).frozen 7
  have e1 : bits .xor .u32 (q1d x4 x5 x6 x7) (qa x4 x5 x6 x7) = xorW (q1d x4 x5 x6 x7) (qa x4 x5 x6 x7) := by unfold xorW; rfl
  have := (q1d_bd x4 x5 x6 x7).1
  have := (q1d_bd x4 x5 x6 x7).2
  have := (qa_bd x4 x5 x6 x7).1
  have := (qa_bd x4 x5 x6 x7).2
  refine wp_region_still_tail 10 (by kernel_rfl) (by kernel_rfl) ?_
  simp only [List.take_succ_cons, List.take_zero, List.drop_succ_cons, List.drop_zero]
  change wpStill _ _ (World.drew _) _ _ _
  still_step; still_step; still_step; still_step; still_step; still_step; still_step; still_step
  still_call (rot8 _ (xorW_bd _ _).1 (xorW_bd _ _).2 _)
  still_step
  refine wpStill_nil ?_
  change wpList _ _ _ _ _ (World.drew _)
  rw [show rotW 256 (xorW (q1d x4 x5 x6 x7) (qa x4 x5 x6 x7)) = (qd x4 x5 x6 x7) by unfold qd; rfl]
  clear e1
  go_wp2
  have hbxxxxxx := (hbxxxxx.set 7 (.int .u32 (qd x4 x5 x6 x7)) (c' := #[Value.int .u32 x0, .int .u32 x1, .int .u32 x2, .int .u32 x3, .int .u32 ((qa x4 x5 x6 x7)), .int .u32 ((q1b x4 x5 x6 x7)), .int .u32 ((q1c x4 x5 x6 x7)), .int .u32 ((qd x4 x5 x6 x7))]) rfl).drew
  have gxxxxxx := drewR (grown_set (p := ⟨b, 7, none⟩) gxxxxx rfl (.int .u32 (qd x4 x5 x6 x7)))
  generalize World.drew (World.setCell _ _ _) = w6 at *
  clear k1 k2 k3 hbxxxxx gxxxxx
  have k1 := (hbxxxxxx.drew).cell (k := 6) (v := .int .u32 (q1c x4 x5 x6 x7)) rfl
  have k2 := (hbxxxxxx.drew).cell (k := 7) (v := .int .u32 (qd x4 x5 x6 x7)) rfl
  have k3 := (hbxxxxxx.drew).frozen 6
  have e1 : IntKind.u32.wrap ((q1c x4 x5 x6 x7) + (qd x4 x5 x6 x7)) = (qc x4 x5 x6 x7) := by rw [IntKind.wrap_u32]; unfold qc addW; rfl
  have := (q1c_bd x4 x5 x6 x7).1
  have := (q1c_bd x4 x5 x6 x7).2
  have := (qd_bd x4 x5 x6 x7).1
  have := (qd_bd x4 x5 x6 x7).2
  refine wp_region_still_tail 8 (by kernel_rfl) (by kernel_rfl) ?_
  simp only [List.take_succ_cons, List.take_zero, List.drop_succ_cons, List.drop_zero]
  change wpStill _ _ (World.drew _) _ _ _
  still_step; still_step; still_step; still_step; still_step; still_step; still_step; still_step
  refine wpStill_nil ?_
  change wpList _ _ _ _ _ (World.drew _)
  clear e1
  go_wp2
  have hbxxxxxxx := (hbxxxxxx.set 6 (.int .u32 (qc x4 x5 x6 x7)) (c' := #[Value.int .u32 x0, .int .u32 x1, .int .u32 x2, .int .u32 x3, .int .u32 ((qa x4 x5 x6 x7)), .int .u32 ((q1b x4 x5 x6 x7)), .int .u32 ((qc x4 x5 x6 x7)), .int .u32 ((qd x4 x5 x6 x7))]) rfl).drew
  have gxxxxxxx := drewR (grown_set (p := ⟨b, 6, none⟩) gxxxxxx rfl (.int .u32 (qc x4 x5 x6 x7)))
  generalize World.drew (World.setCell _ _ _) = w7 at *
  clear k1 k2 k3 hbxxxxxx gxxxxxx
  have k1 := (hbxxxxxxx.drew).cell (k := 5) (v := .int .u32 (q1b x4 x5 x6 x7)) rfl
  have k2 := (hbxxxxxxx.drew).cell (k := 6) (v := .int .u32 (qc x4 x5 x6 x7)) rfl
  have k3 := (hbxxxxxxx.drew).frozen 5
  have e1 : bits .xor .u32 (q1b x4 x5 x6 x7) (qc x4 x5 x6 x7) = xorW (q1b x4 x5 x6 x7) (qc x4 x5 x6 x7) := by unfold xorW; rfl
  have := (q1b_bd x4 x5 x6 x7).1
  have := (q1b_bd x4 x5 x6 x7).2
  have := (qc_bd x4 x5 x6 x7).1
  have := (qc_bd x4 x5 x6 x7).2
  refine wp_region_still_tail 10 (by kernel_rfl) (by kernel_rfl) ?_
  simp only [List.take_succ_cons, List.take_zero, List.drop_succ_cons, List.drop_zero]
  change wpStill _ _ (World.drew _) _ _ _
  still_step; still_step; still_step; still_step; still_step; still_step; still_step; still_step
  still_call (rot7 _ (xorW_bd _ _).1 (xorW_bd _ _).2 _)
  still_step
  refine wpStill_nil ?_
  change wpList _ _ _ _ _ (World.drew _)
  rw [show rotW 128 (xorW (q1b x4 x5 x6 x7) (qc x4 x5 x6 x7)) = (qb x4 x5 x6 x7) by unfold qb; rfl]
  clear e1
  go_wp2
  have hbxxxxxxxx := (hbxxxxxxx.set 5 (.int .u32 (qb x4 x5 x6 x7)) (c' := #[Value.int .u32 x0, .int .u32 x1, .int .u32 x2, .int .u32 x3, .int .u32 ((qa x4 x5 x6 x7)), .int .u32 ((qb x4 x5 x6 x7)), .int .u32 ((qc x4 x5 x6 x7)), .int .u32 ((qd x4 x5 x6 x7))]) rfl).drew
  have gxxxxxxxx := drewR (grown_set (p := ⟨b, 5, none⟩) gxxxxxxx rfl (.int .u32 (qb x4 x5 x6 x7)))
  generalize World.drew (World.setCell _ _ _) = w8 at *
  clear k1 k2 k3 hbxxxxxxx gxxxxxxx
  exact ⟨rfl, .tuple #[], (by kernel_rfl), rfl, gxxxxxxxx, hbxxxxxxxx⟩
set_option maxHeartbeats 2000000 in
set_option maxRecDepth 100000 in
theorem quarter_p2 (b : Nat) (t : TypeId) (x0 x1 x2 x3 x4 x5 x6 x7 : Int) (h0 : 0 ≤ x0 ∧ x0 < 4294967296) (h1 : 0 ≤ x1 ∧ x1 < 4294967296) (h2 : 0 ≤ x2 ∧ x2 < 4294967296) (h3 : 0 ≤ x3 ∧ x3 < 4294967296) (h4 : 0 ≤ x4 ∧ x4 < 4294967296) (h5 : 0 ≤ x5 ∧ x5 < 4294967296) (h6 : 0 ≤ x6 ∧ x6 < 4294967296) (h7 : 0 ≤ x7 ∧ x7 < 4294967296) (w : World) (hb : Blk w b t #[Value.int .u32 x0, .int .u32 x1, .int .u32 x2, .int .u32 x3, .int .u32 x4, .int .u32 x5, .int .u32 x6, .int .u32 x7]) :
    Calls Try.prog 35 #[.pointer (some ⟨b, 0, none⟩), .pointer (some ⟨b, 5, none⟩), .pointer (some ⟨b, 2, none⟩), .pointer (some ⟨b, 7, none⟩)] w fun e w' => e = .returned (.tuple #[]) ∧ w.grownBy w' (some b) ∧ Blk w' b t #[Value.int .u32 (qa x0 x5 x2 x7), .int .u32 x1, .int .u32 (qc x0 x5 x2 x7), .int .u32 x3, .int .u32 x4, .int .u32 (qb x0 x5 x2 x7), .int .u32 x6, .int .u32 (qd x0 x5 x2 x7)] := by
  have g := World.grownBy.refl w (some b)
  go_enter Try.func35, Try.ntmps35
  go_wp2
  have k1 := (hb.drew).cell (k := 0) (v := .int .u32 x0) rfl
  have k2 := (hb.drew).cell (k := 5) (v := .int .u32 x5) rfl
  have k3 := (hb.drew).frozen 0
  have e1 : IntKind.u32.wrap (x0 + x5) = (q1a x0 x5 x2 x7) := by rw [IntKind.wrap_u32]; unfold q1a addW; rfl
  have := h0.1
  have := h0.2
  have := h5.1
  have := h5.2
  refine wp_region_still_tail 8 (by kernel_rfl) (by kernel_rfl) ?_
  simp only [List.take_succ_cons, List.take_zero, List.drop_succ_cons, List.drop_zero]
  change wpStill _ _ (World.drew _) _ _ _
  still_step; still_step; still_step; still_step; still_step; still_step; still_step; still_step
  refine wpStill_nil ?_
  change wpList _ _ _ _ _ (World.drew _)
  clear e1
  go_wp2
  have hbx := (hb.set 0 (.int .u32 (q1a x0 x5 x2 x7)) (c' := #[Value.int .u32 ((q1a x0 x5 x2 x7)), .int .u32 x1, .int .u32 x2, .int .u32 x3, .int .u32 x4, .int .u32 x5, .int .u32 x6, .int .u32 x7]) rfl).drew
  have gx := drewR (grown_set (p := ⟨b, 0, none⟩) g rfl (.int .u32 (q1a x0 x5 x2 x7)))
  generalize World.drew (World.setCell _ _ _) = w1 at *
  clear k1 k2 k3 hb g
  have k1 := (hbx.drew).cell (k := 7) (v := .int .u32 x7) rfl
  have k2 := (hbx.drew).cell (k := 0) (v := .int .u32 (q1a x0 x5 x2 x7)) rfl
  have k3 := (hbx.drew).frozen 7
  have e1 : bits .xor .u32 x7 (q1a x0 x5 x2 x7) = xorW x7 (q1a x0 x5 x2 x7) := by unfold xorW; rfl
  have := (q1a_bd x0 x5 x2 x7).1
  have := (q1a_bd x0 x5 x2 x7).2
  have := h7.1
  have := h7.2
  refine wp_region_still_tail 10 (by kernel_rfl) (by kernel_rfl) ?_
  simp only [List.take_succ_cons, List.take_zero, List.drop_succ_cons, List.drop_zero]
  change wpStill _ _ (World.drew _) _ _ _
  still_step; still_step; still_step; still_step; still_step; still_step; still_step; still_step
  still_call (rot16 _ (xorW_bd _ _).1 (xorW_bd _ _).2 _)
  still_step
  refine wpStill_nil ?_
  change wpList _ _ _ _ _ (World.drew _)
  rw [show rotW 65536 (xorW x7 (q1a x0 x5 x2 x7)) = (q1d x0 x5 x2 x7) by unfold q1d; rfl]
  clear e1
  go_wp2
  have hbxx := (hbx.set 7 (.int .u32 (q1d x0 x5 x2 x7)) (c' := #[Value.int .u32 ((q1a x0 x5 x2 x7)), .int .u32 x1, .int .u32 x2, .int .u32 x3, .int .u32 x4, .int .u32 x5, .int .u32 x6, .int .u32 ((q1d x0 x5 x2 x7))]) rfl).drew
  have gxx := drewR (grown_set (p := ⟨b, 7, none⟩) gx rfl (.int .u32 (q1d x0 x5 x2 x7)))
  generalize World.drew (World.setCell _ _ _) = w2 at *
  clear k1 k2 k3 hbx gx
  have k1 := (hbxx.drew).cell (k := 2) (v := .int .u32 x2) rfl
  have k2 := (hbxx.drew).cell (k := 7) (v := .int .u32 (q1d x0 x5 x2 x7)) rfl
  have k3 := (hbxx.drew).frozen 2
  have e1 : IntKind.u32.wrap (x2 + (q1d x0 x5 x2 x7)) = (q1c x0 x5 x2 x7) := by rw [IntKind.wrap_u32]; unfold q1c addW; rfl
  have := (q1d_bd x0 x5 x2 x7).1
  have := (q1d_bd x0 x5 x2 x7).2
  have := h2.1
  have := h2.2
  refine wp_region_still_tail 8 (by kernel_rfl) (by kernel_rfl) ?_
  simp only [List.take_succ_cons, List.take_zero, List.drop_succ_cons, List.drop_zero]
  change wpStill _ _ (World.drew _) _ _ _
  still_step; still_step; still_step; still_step; still_step; still_step; still_step; still_step
  refine wpStill_nil ?_
  change wpList _ _ _ _ _ (World.drew _)
  clear e1
  go_wp2
  have hbxxx := (hbxx.set 2 (.int .u32 (q1c x0 x5 x2 x7)) (c' := #[Value.int .u32 ((q1a x0 x5 x2 x7)), .int .u32 x1, .int .u32 ((q1c x0 x5 x2 x7)), .int .u32 x3, .int .u32 x4, .int .u32 x5, .int .u32 x6, .int .u32 ((q1d x0 x5 x2 x7))]) rfl).drew
  have gxxx := drewR (grown_set (p := ⟨b, 2, none⟩) gxx rfl (.int .u32 (q1c x0 x5 x2 x7)))
  generalize World.drew (World.setCell _ _ _) = w3 at *
  clear k1 k2 k3 hbxx gxx
  have k1 := (hbxxx.drew).cell (k := 5) (v := .int .u32 x5) rfl
  have k2 := (hbxxx.drew).cell (k := 2) (v := .int .u32 (q1c x0 x5 x2 x7)) rfl
  have k3 := (hbxxx.drew).frozen 5
  have e1 : bits .xor .u32 x5 (q1c x0 x5 x2 x7) = xorW x5 (q1c x0 x5 x2 x7) := by unfold xorW; rfl
  have := (q1c_bd x0 x5 x2 x7).1
  have := (q1c_bd x0 x5 x2 x7).2
  have := h5.1
  have := h5.2
  refine wp_region_still_tail 10 (by kernel_rfl) (by kernel_rfl) ?_
  simp only [List.take_succ_cons, List.take_zero, List.drop_succ_cons, List.drop_zero]
  change wpStill _ _ (World.drew _) _ _ _
  still_step; still_step; still_step; still_step; still_step; still_step; still_step; still_step
  still_call (rot12 _ (xorW_bd _ _).1 (xorW_bd _ _).2 _)
  still_step
  refine wpStill_nil ?_
  change wpList _ _ _ _ _ (World.drew _)
  rw [show rotW 4096 (xorW x5 (q1c x0 x5 x2 x7)) = (q1b x0 x5 x2 x7) by unfold q1b; rfl]
  clear e1
  go_wp2
  have hbxxxx := (hbxxx.set 5 (.int .u32 (q1b x0 x5 x2 x7)) (c' := #[Value.int .u32 ((q1a x0 x5 x2 x7)), .int .u32 x1, .int .u32 ((q1c x0 x5 x2 x7)), .int .u32 x3, .int .u32 x4, .int .u32 ((q1b x0 x5 x2 x7)), .int .u32 x6, .int .u32 ((q1d x0 x5 x2 x7))]) rfl).drew
  have gxxxx := drewR (grown_set (p := ⟨b, 5, none⟩) gxxx rfl (.int .u32 (q1b x0 x5 x2 x7)))
  generalize World.drew (World.setCell _ _ _) = w4 at *
  clear k1 k2 k3 hbxxx gxxx
  have k1 := (hbxxxx.drew).cell (k := 0) (v := .int .u32 (q1a x0 x5 x2 x7)) rfl
  have k2 := (hbxxxx.drew).cell (k := 5) (v := .int .u32 (q1b x0 x5 x2 x7)) rfl
  have k3 := (hbxxxx.drew).frozen 0
  have e1 : IntKind.u32.wrap ((q1a x0 x5 x2 x7) + (q1b x0 x5 x2 x7)) = (qa x0 x5 x2 x7) := by rw [IntKind.wrap_u32]; unfold qa addW; rfl
  have := (q1a_bd x0 x5 x2 x7).1
  have := (q1a_bd x0 x5 x2 x7).2
  have := (q1b_bd x0 x5 x2 x7).1
  have := (q1b_bd x0 x5 x2 x7).2
  refine wp_region_still_tail 8 (by kernel_rfl) (by kernel_rfl) ?_
  simp only [List.take_succ_cons, List.take_zero, List.drop_succ_cons, List.drop_zero]
  change wpStill _ _ (World.drew _) _ _ _
  still_step; still_step; still_step; still_step; still_step; still_step; still_step; still_step
  refine wpStill_nil ?_
  change wpList _ _ _ _ _ (World.drew _)
  clear e1
  go_wp2
  have hbxxxxx := (hbxxxx.set 0 (.int .u32 (qa x0 x5 x2 x7)) (c' := #[Value.int .u32 ((qa x0 x5 x2 x7)), .int .u32 x1, .int .u32 ((q1c x0 x5 x2 x7)), .int .u32 x3, .int .u32 x4, .int .u32 ((q1b x0 x5 x2 x7)), .int .u32 x6, .int .u32 ((q1d x0 x5 x2 x7))]) rfl).drew
  have gxxxxx := drewR (grown_set (p := ⟨b, 0, none⟩) gxxxx rfl (.int .u32 (qa x0 x5 x2 x7)))
  generalize World.drew (World.setCell _ _ _) = w5 at *
  clear k1 k2 k3 hbxxxx gxxxx
  have k1 := (hbxxxxx.drew).cell (k := 7) (v := .int .u32 (q1d x0 x5 x2 x7)) rfl
  have k2 := (hbxxxxx.drew).cell (k := 0) (v := .int .u32 (qa x0 x5 x2 x7)) rfl
  have k3 := (hbxxxxx.drew).frozen 7
  have e1 : bits .xor .u32 (q1d x0 x5 x2 x7) (qa x0 x5 x2 x7) = xorW (q1d x0 x5 x2 x7) (qa x0 x5 x2 x7) := by unfold xorW; rfl
  have := (q1d_bd x0 x5 x2 x7).1
  have := (q1d_bd x0 x5 x2 x7).2
  have := (qa_bd x0 x5 x2 x7).1
  have := (qa_bd x0 x5 x2 x7).2
  refine wp_region_still_tail 10 (by kernel_rfl) (by kernel_rfl) ?_
  simp only [List.take_succ_cons, List.take_zero, List.drop_succ_cons, List.drop_zero]
  change wpStill _ _ (World.drew _) _ _ _
  still_step; still_step; still_step; still_step; still_step; still_step; still_step; still_step
  still_call (rot8 _ (xorW_bd _ _).1 (xorW_bd _ _).2 _)
  still_step
  refine wpStill_nil ?_
  change wpList _ _ _ _ _ (World.drew _)
  rw [show rotW 256 (xorW (q1d x0 x5 x2 x7) (qa x0 x5 x2 x7)) = (qd x0 x5 x2 x7) by unfold qd; rfl]
  clear e1
  go_wp2
  have hbxxxxxx := (hbxxxxx.set 7 (.int .u32 (qd x0 x5 x2 x7)) (c' := #[Value.int .u32 ((qa x0 x5 x2 x7)), .int .u32 x1, .int .u32 ((q1c x0 x5 x2 x7)), .int .u32 x3, .int .u32 x4, .int .u32 ((q1b x0 x5 x2 x7)), .int .u32 x6, .int .u32 ((qd x0 x5 x2 x7))]) rfl).drew
  have gxxxxxx := drewR (grown_set (p := ⟨b, 7, none⟩) gxxxxx rfl (.int .u32 (qd x0 x5 x2 x7)))
  generalize World.drew (World.setCell _ _ _) = w6 at *
  clear k1 k2 k3 hbxxxxx gxxxxx
  have k1 := (hbxxxxxx.drew).cell (k := 2) (v := .int .u32 (q1c x0 x5 x2 x7)) rfl
  have k2 := (hbxxxxxx.drew).cell (k := 7) (v := .int .u32 (qd x0 x5 x2 x7)) rfl
  have k3 := (hbxxxxxx.drew).frozen 2
  have e1 : IntKind.u32.wrap ((q1c x0 x5 x2 x7) + (qd x0 x5 x2 x7)) = (qc x0 x5 x2 x7) := by rw [IntKind.wrap_u32]; unfold qc addW; rfl
  have := (q1c_bd x0 x5 x2 x7).1
  have := (q1c_bd x0 x5 x2 x7).2
  have := (qd_bd x0 x5 x2 x7).1
  have := (qd_bd x0 x5 x2 x7).2
  refine wp_region_still_tail 8 (by kernel_rfl) (by kernel_rfl) ?_
  simp only [List.take_succ_cons, List.take_zero, List.drop_succ_cons, List.drop_zero]
  change wpStill _ _ (World.drew _) _ _ _
  still_step; still_step; still_step; still_step; still_step; still_step; still_step; still_step
  refine wpStill_nil ?_
  change wpList _ _ _ _ _ (World.drew _)
  clear e1
  go_wp2
  have hbxxxxxxx := (hbxxxxxx.set 2 (.int .u32 (qc x0 x5 x2 x7)) (c' := #[Value.int .u32 ((qa x0 x5 x2 x7)), .int .u32 x1, .int .u32 ((qc x0 x5 x2 x7)), .int .u32 x3, .int .u32 x4, .int .u32 ((q1b x0 x5 x2 x7)), .int .u32 x6, .int .u32 ((qd x0 x5 x2 x7))]) rfl).drew
  have gxxxxxxx := drewR (grown_set (p := ⟨b, 2, none⟩) gxxxxxx rfl (.int .u32 (qc x0 x5 x2 x7)))
  generalize World.drew (World.setCell _ _ _) = w7 at *
  clear k1 k2 k3 hbxxxxxx gxxxxxx
  have k1 := (hbxxxxxxx.drew).cell (k := 5) (v := .int .u32 (q1b x0 x5 x2 x7)) rfl
  have k2 := (hbxxxxxxx.drew).cell (k := 2) (v := .int .u32 (qc x0 x5 x2 x7)) rfl
  have k3 := (hbxxxxxxx.drew).frozen 5
  have e1 : bits .xor .u32 (q1b x0 x5 x2 x7) (qc x0 x5 x2 x7) = xorW (q1b x0 x5 x2 x7) (qc x0 x5 x2 x7) := by unfold xorW; rfl
  have := (q1b_bd x0 x5 x2 x7).1
  have := (q1b_bd x0 x5 x2 x7).2
  have := (qc_bd x0 x5 x2 x7).1
  have := (qc_bd x0 x5 x2 x7).2
  refine wp_region_still_tail 10 (by kernel_rfl) (by kernel_rfl) ?_
  simp only [List.take_succ_cons, List.take_zero, List.drop_succ_cons, List.drop_zero]
  change wpStill _ _ (World.drew _) _ _ _
  still_step; still_step; still_step; still_step; still_step; still_step; still_step; still_step
  still_call (rot7 _ (xorW_bd _ _).1 (xorW_bd _ _).2 _)
  still_step
  refine wpStill_nil ?_
  change wpList _ _ _ _ _ (World.drew _)
  rw [show rotW 128 (xorW (q1b x0 x5 x2 x7) (qc x0 x5 x2 x7)) = (qb x0 x5 x2 x7) by unfold qb; rfl]
  clear e1
  go_wp2
  have hbxxxxxxxx := (hbxxxxxxx.set 5 (.int .u32 (qb x0 x5 x2 x7)) (c' := #[Value.int .u32 ((qa x0 x5 x2 x7)), .int .u32 x1, .int .u32 ((qc x0 x5 x2 x7)), .int .u32 x3, .int .u32 x4, .int .u32 ((qb x0 x5 x2 x7)), .int .u32 x6, .int .u32 ((qd x0 x5 x2 x7))]) rfl).drew
  have gxxxxxxxx := drewR (grown_set (p := ⟨b, 5, none⟩) gxxxxxxx rfl (.int .u32 (qb x0 x5 x2 x7)))
  generalize World.drew (World.setCell _ _ _) = w8 at *
  clear k1 k2 k3 hbxxxxxxx gxxxxxxx
  exact ⟨rfl, .tuple #[], (by kernel_rfl), rfl, gxxxxxxxx, hbxxxxxxxx⟩
set_option maxHeartbeats 2000000 in
set_option maxRecDepth 100000 in
theorem quarter_p3 (b : Nat) (t : TypeId) (x0 x1 x2 x3 x4 x5 x6 x7 : Int) (h0 : 0 ≤ x0 ∧ x0 < 4294967296) (h1 : 0 ≤ x1 ∧ x1 < 4294967296) (h2 : 0 ≤ x2 ∧ x2 < 4294967296) (h3 : 0 ≤ x3 ∧ x3 < 4294967296) (h4 : 0 ≤ x4 ∧ x4 < 4294967296) (h5 : 0 ≤ x5 ∧ x5 < 4294967296) (h6 : 0 ≤ x6 ∧ x6 < 4294967296) (h7 : 0 ≤ x7 ∧ x7 < 4294967296) (w : World) (hb : Blk w b t #[Value.int .u32 x0, .int .u32 x1, .int .u32 x2, .int .u32 x3, .int .u32 x4, .int .u32 x5, .int .u32 x6, .int .u32 x7]) :
    Calls Try.prog 35 #[.pointer (some ⟨b, 4, none⟩), .pointer (some ⟨b, 1, none⟩), .pointer (some ⟨b, 6, none⟩), .pointer (some ⟨b, 3, none⟩)] w fun e w' => e = .returned (.tuple #[]) ∧ w.grownBy w' (some b) ∧ Blk w' b t #[Value.int .u32 x0, .int .u32 (qb x4 x1 x6 x3), .int .u32 x2, .int .u32 (qd x4 x1 x6 x3), .int .u32 (qa x4 x1 x6 x3), .int .u32 x5, .int .u32 (qc x4 x1 x6 x3), .int .u32 x7] := by
  have g := World.grownBy.refl w (some b)
  go_enter Try.func35, Try.ntmps35
  go_wp2
  have k1 := (hb.drew).cell (k := 4) (v := .int .u32 x4) rfl
  have k2 := (hb.drew).cell (k := 1) (v := .int .u32 x1) rfl
  have k3 := (hb.drew).frozen 4
  have e1 : IntKind.u32.wrap (x4 + x1) = (q1a x4 x1 x6 x3) := by rw [IntKind.wrap_u32]; unfold q1a addW; rfl
  have := h1.1
  have := h1.2
  have := h4.1
  have := h4.2
  refine wp_region_still_tail 8 (by kernel_rfl) (by kernel_rfl) ?_
  simp only [List.take_succ_cons, List.take_zero, List.drop_succ_cons, List.drop_zero]
  change wpStill _ _ (World.drew _) _ _ _
  still_step; still_step; still_step; still_step; still_step; still_step; still_step; still_step
  refine wpStill_nil ?_
  change wpList _ _ _ _ _ (World.drew _)
  clear e1
  go_wp2
  have hbx := (hb.set 4 (.int .u32 (q1a x4 x1 x6 x3)) (c' := #[Value.int .u32 x0, .int .u32 x1, .int .u32 x2, .int .u32 x3, .int .u32 ((q1a x4 x1 x6 x3)), .int .u32 x5, .int .u32 x6, .int .u32 x7]) rfl).drew
  have gx := drewR (grown_set (p := ⟨b, 4, none⟩) g rfl (.int .u32 (q1a x4 x1 x6 x3)))
  generalize World.drew (World.setCell _ _ _) = w1 at *
  clear k1 k2 k3 hb g
  have k1 := (hbx.drew).cell (k := 3) (v := .int .u32 x3) rfl
  have k2 := (hbx.drew).cell (k := 4) (v := .int .u32 (q1a x4 x1 x6 x3)) rfl
  have k3 := (hbx.drew).frozen 3
  have e1 : bits .xor .u32 x3 (q1a x4 x1 x6 x3) = xorW x3 (q1a x4 x1 x6 x3) := by unfold xorW; rfl
  have := (q1a_bd x4 x1 x6 x3).1
  have := (q1a_bd x4 x1 x6 x3).2
  have := h3.1
  have := h3.2
  refine wp_region_still_tail 10 (by kernel_rfl) (by kernel_rfl) ?_
  simp only [List.take_succ_cons, List.take_zero, List.drop_succ_cons, List.drop_zero]
  change wpStill _ _ (World.drew _) _ _ _
  still_step; still_step; still_step; still_step; still_step; still_step; still_step; still_step
  still_call (rot16 _ (xorW_bd _ _).1 (xorW_bd _ _).2 _)
  still_step
  refine wpStill_nil ?_
  change wpList _ _ _ _ _ (World.drew _)
  rw [show rotW 65536 (xorW x3 (q1a x4 x1 x6 x3)) = (q1d x4 x1 x6 x3) by unfold q1d; rfl]
  clear e1
  go_wp2
  have hbxx := (hbx.set 3 (.int .u32 (q1d x4 x1 x6 x3)) (c' := #[Value.int .u32 x0, .int .u32 x1, .int .u32 x2, .int .u32 ((q1d x4 x1 x6 x3)), .int .u32 ((q1a x4 x1 x6 x3)), .int .u32 x5, .int .u32 x6, .int .u32 x7]) rfl).drew
  have gxx := drewR (grown_set (p := ⟨b, 3, none⟩) gx rfl (.int .u32 (q1d x4 x1 x6 x3)))
  generalize World.drew (World.setCell _ _ _) = w2 at *
  clear k1 k2 k3 hbx gx
  have k1 := (hbxx.drew).cell (k := 6) (v := .int .u32 x6) rfl
  have k2 := (hbxx.drew).cell (k := 3) (v := .int .u32 (q1d x4 x1 x6 x3)) rfl
  have k3 := (hbxx.drew).frozen 6
  have e1 : IntKind.u32.wrap (x6 + (q1d x4 x1 x6 x3)) = (q1c x4 x1 x6 x3) := by rw [IntKind.wrap_u32]; unfold q1c addW; rfl
  have := (q1d_bd x4 x1 x6 x3).1
  have := (q1d_bd x4 x1 x6 x3).2
  have := h6.1
  have := h6.2
  refine wp_region_still_tail 8 (by kernel_rfl) (by kernel_rfl) ?_
  simp only [List.take_succ_cons, List.take_zero, List.drop_succ_cons, List.drop_zero]
  change wpStill _ _ (World.drew _) _ _ _
  still_step; still_step; still_step; still_step; still_step; still_step; still_step; still_step
  refine wpStill_nil ?_
  change wpList _ _ _ _ _ (World.drew _)
  clear e1
  go_wp2
  have hbxxx := (hbxx.set 6 (.int .u32 (q1c x4 x1 x6 x3)) (c' := #[Value.int .u32 x0, .int .u32 x1, .int .u32 x2, .int .u32 ((q1d x4 x1 x6 x3)), .int .u32 ((q1a x4 x1 x6 x3)), .int .u32 x5, .int .u32 ((q1c x4 x1 x6 x3)), .int .u32 x7]) rfl).drew
  have gxxx := drewR (grown_set (p := ⟨b, 6, none⟩) gxx rfl (.int .u32 (q1c x4 x1 x6 x3)))
  generalize World.drew (World.setCell _ _ _) = w3 at *
  clear k1 k2 k3 hbxx gxx
  have k1 := (hbxxx.drew).cell (k := 1) (v := .int .u32 x1) rfl
  have k2 := (hbxxx.drew).cell (k := 6) (v := .int .u32 (q1c x4 x1 x6 x3)) rfl
  have k3 := (hbxxx.drew).frozen 1
  have e1 : bits .xor .u32 x1 (q1c x4 x1 x6 x3) = xorW x1 (q1c x4 x1 x6 x3) := by unfold xorW; rfl
  have := (q1c_bd x4 x1 x6 x3).1
  have := (q1c_bd x4 x1 x6 x3).2
  have := h1.1
  have := h1.2
  refine wp_region_still_tail 10 (by kernel_rfl) (by kernel_rfl) ?_
  simp only [List.take_succ_cons, List.take_zero, List.drop_succ_cons, List.drop_zero]
  change wpStill _ _ (World.drew _) _ _ _
  still_step; still_step; still_step; still_step; still_step; still_step; still_step; still_step
  still_call (rot12 _ (xorW_bd _ _).1 (xorW_bd _ _).2 _)
  still_step
  refine wpStill_nil ?_
  change wpList _ _ _ _ _ (World.drew _)
  rw [show rotW 4096 (xorW x1 (q1c x4 x1 x6 x3)) = (q1b x4 x1 x6 x3) by unfold q1b; rfl]
  clear e1
  go_wp2
  have hbxxxx := (hbxxx.set 1 (.int .u32 (q1b x4 x1 x6 x3)) (c' := #[Value.int .u32 x0, .int .u32 ((q1b x4 x1 x6 x3)), .int .u32 x2, .int .u32 ((q1d x4 x1 x6 x3)), .int .u32 ((q1a x4 x1 x6 x3)), .int .u32 x5, .int .u32 ((q1c x4 x1 x6 x3)), .int .u32 x7]) rfl).drew
  have gxxxx := drewR (grown_set (p := ⟨b, 1, none⟩) gxxx rfl (.int .u32 (q1b x4 x1 x6 x3)))
  generalize World.drew (World.setCell _ _ _) = w4 at *
  clear k1 k2 k3 hbxxx gxxx
  have k1 := (hbxxxx.drew).cell (k := 4) (v := .int .u32 (q1a x4 x1 x6 x3)) rfl
  have k2 := (hbxxxx.drew).cell (k := 1) (v := .int .u32 (q1b x4 x1 x6 x3)) rfl
  have k3 := (hbxxxx.drew).frozen 4
  have e1 : IntKind.u32.wrap ((q1a x4 x1 x6 x3) + (q1b x4 x1 x6 x3)) = (qa x4 x1 x6 x3) := by rw [IntKind.wrap_u32]; unfold qa addW; rfl
  have := (q1a_bd x4 x1 x6 x3).1
  have := (q1a_bd x4 x1 x6 x3).2
  have := (q1b_bd x4 x1 x6 x3).1
  have := (q1b_bd x4 x1 x6 x3).2
  refine wp_region_still_tail 8 (by kernel_rfl) (by kernel_rfl) ?_
  simp only [List.take_succ_cons, List.take_zero, List.drop_succ_cons, List.drop_zero]
  change wpStill _ _ (World.drew _) _ _ _
  still_step; still_step; still_step; still_step; still_step; still_step; still_step; still_step
  refine wpStill_nil ?_
  change wpList _ _ _ _ _ (World.drew _)
  clear e1
  go_wp2
  have hbxxxxx := (hbxxxx.set 4 (.int .u32 (qa x4 x1 x6 x3)) (c' := #[Value.int .u32 x0, .int .u32 ((q1b x4 x1 x6 x3)), .int .u32 x2, .int .u32 ((q1d x4 x1 x6 x3)), .int .u32 ((qa x4 x1 x6 x3)), .int .u32 x5, .int .u32 ((q1c x4 x1 x6 x3)), .int .u32 x7]) rfl).drew
  have gxxxxx := drewR (grown_set (p := ⟨b, 4, none⟩) gxxxx rfl (.int .u32 (qa x4 x1 x6 x3)))
  generalize World.drew (World.setCell _ _ _) = w5 at *
  clear k1 k2 k3 hbxxxx gxxxx
  have k1 := (hbxxxxx.drew).cell (k := 3) (v := .int .u32 (q1d x4 x1 x6 x3)) rfl
  have k2 := (hbxxxxx.drew).cell (k := 4) (v := .int .u32 (qa x4 x1 x6 x3)) rfl
  have k3 := (hbxxxxx.drew).frozen 3
  have e1 : bits .xor .u32 (q1d x4 x1 x6 x3) (qa x4 x1 x6 x3) = xorW (q1d x4 x1 x6 x3) (qa x4 x1 x6 x3) := by unfold xorW; rfl
  have := (q1d_bd x4 x1 x6 x3).1
  have := (q1d_bd x4 x1 x6 x3).2
  have := (qa_bd x4 x1 x6 x3).1
  have := (qa_bd x4 x1 x6 x3).2
  refine wp_region_still_tail 10 (by kernel_rfl) (by kernel_rfl) ?_
  simp only [List.take_succ_cons, List.take_zero, List.drop_succ_cons, List.drop_zero]
  change wpStill _ _ (World.drew _) _ _ _
  still_step; still_step; still_step; still_step; still_step; still_step; still_step; still_step
  still_call (rot8 _ (xorW_bd _ _).1 (xorW_bd _ _).2 _)
  still_step
  refine wpStill_nil ?_
  change wpList _ _ _ _ _ (World.drew _)
  rw [show rotW 256 (xorW (q1d x4 x1 x6 x3) (qa x4 x1 x6 x3)) = (qd x4 x1 x6 x3) by unfold qd; rfl]
  clear e1
  go_wp2
  have hbxxxxxx := (hbxxxxx.set 3 (.int .u32 (qd x4 x1 x6 x3)) (c' := #[Value.int .u32 x0, .int .u32 ((q1b x4 x1 x6 x3)), .int .u32 x2, .int .u32 ((qd x4 x1 x6 x3)), .int .u32 ((qa x4 x1 x6 x3)), .int .u32 x5, .int .u32 ((q1c x4 x1 x6 x3)), .int .u32 x7]) rfl).drew
  have gxxxxxx := drewR (grown_set (p := ⟨b, 3, none⟩) gxxxxx rfl (.int .u32 (qd x4 x1 x6 x3)))
  generalize World.drew (World.setCell _ _ _) = w6 at *
  clear k1 k2 k3 hbxxxxx gxxxxx
  have k1 := (hbxxxxxx.drew).cell (k := 6) (v := .int .u32 (q1c x4 x1 x6 x3)) rfl
  have k2 := (hbxxxxxx.drew).cell (k := 3) (v := .int .u32 (qd x4 x1 x6 x3)) rfl
  have k3 := (hbxxxxxx.drew).frozen 6
  have e1 : IntKind.u32.wrap ((q1c x4 x1 x6 x3) + (qd x4 x1 x6 x3)) = (qc x4 x1 x6 x3) := by rw [IntKind.wrap_u32]; unfold qc addW; rfl
  have := (q1c_bd x4 x1 x6 x3).1
  have := (q1c_bd x4 x1 x6 x3).2
  have := (qd_bd x4 x1 x6 x3).1
  have := (qd_bd x4 x1 x6 x3).2
  refine wp_region_still_tail 8 (by kernel_rfl) (by kernel_rfl) ?_
  simp only [List.take_succ_cons, List.take_zero, List.drop_succ_cons, List.drop_zero]
  change wpStill _ _ (World.drew _) _ _ _
  still_step; still_step; still_step; still_step; still_step; still_step; still_step; still_step
  refine wpStill_nil ?_
  change wpList _ _ _ _ _ (World.drew _)
  clear e1
  go_wp2
  have hbxxxxxxx := (hbxxxxxx.set 6 (.int .u32 (qc x4 x1 x6 x3)) (c' := #[Value.int .u32 x0, .int .u32 ((q1b x4 x1 x6 x3)), .int .u32 x2, .int .u32 ((qd x4 x1 x6 x3)), .int .u32 ((qa x4 x1 x6 x3)), .int .u32 x5, .int .u32 ((qc x4 x1 x6 x3)), .int .u32 x7]) rfl).drew
  have gxxxxxxx := drewR (grown_set (p := ⟨b, 6, none⟩) gxxxxxx rfl (.int .u32 (qc x4 x1 x6 x3)))
  generalize World.drew (World.setCell _ _ _) = w7 at *
  clear k1 k2 k3 hbxxxxxx gxxxxxx
  have k1 := (hbxxxxxxx.drew).cell (k := 1) (v := .int .u32 (q1b x4 x1 x6 x3)) rfl
  have k2 := (hbxxxxxxx.drew).cell (k := 6) (v := .int .u32 (qc x4 x1 x6 x3)) rfl
  have k3 := (hbxxxxxxx.drew).frozen 1
  have e1 : bits .xor .u32 (q1b x4 x1 x6 x3) (qc x4 x1 x6 x3) = xorW (q1b x4 x1 x6 x3) (qc x4 x1 x6 x3) := by unfold xorW; rfl
  have := (q1b_bd x4 x1 x6 x3).1
  have := (q1b_bd x4 x1 x6 x3).2
  have := (qc_bd x4 x1 x6 x3).1
  have := (qc_bd x4 x1 x6 x3).2
  refine wp_region_still_tail 10 (by kernel_rfl) (by kernel_rfl) ?_
  simp only [List.take_succ_cons, List.take_zero, List.drop_succ_cons, List.drop_zero]
  change wpStill _ _ (World.drew _) _ _ _
  still_step; still_step; still_step; still_step; still_step; still_step; still_step; still_step
  still_call (rot7 _ (xorW_bd _ _).1 (xorW_bd _ _).2 _)
  still_step
  refine wpStill_nil ?_
  change wpList _ _ _ _ _ (World.drew _)
  rw [show rotW 128 (xorW (q1b x4 x1 x6 x3) (qc x4 x1 x6 x3)) = (qb x4 x1 x6 x3) by unfold qb; rfl]
  clear e1
  go_wp2
  have hbxxxxxxxx := (hbxxxxxxx.set 1 (.int .u32 (qb x4 x1 x6 x3)) (c' := #[Value.int .u32 x0, .int .u32 ((qb x4 x1 x6 x3)), .int .u32 x2, .int .u32 ((qd x4 x1 x6 x3)), .int .u32 ((qa x4 x1 x6 x3)), .int .u32 x5, .int .u32 ((qc x4 x1 x6 x3)), .int .u32 x7]) rfl).drew
  have gxxxxxxxx := drewR (grown_set (p := ⟨b, 1, none⟩) gxxxxxxx rfl (.int .u32 (qb x4 x1 x6 x3)))
  generalize World.drew (World.setCell _ _ _) = w8 at *
  clear k1 k2 k3 hbxxxxxxx gxxxxxxx
  exact ⟨rfl, .tuple #[], (by kernel_rfl), rfl, gxxxxxxxx, hbxxxxxxxx⟩
end Go.Proofs.Ytajombnckgehbaa
