/- What SrpRefuses stands on, part 5. -/
import Derived.Laws.CopyRow
import Derived.RangeFuncNested
import Derived.RangeFuncBound
import Derived.RangeFuncCalls
import Derived.RangeFuncLeaves
import Derived.Shelf.RegionOpen
import Derived.OwnWalkIn
import Derived.TacticsInMore
import Derived.LoopNIn
import Derived.LoopIn
import Derived.Test.YtcfepoopkfhojaaSrpRefusesP1
import Derived.Test.YtcfepoopkfhojaaSrpRefusesP2
import Derived.Test.YtcfepoopkfhojaaSrpRefusesP3
import Derived.Test.YtcfepoopkfhojaaSrpRefusesP4
set_option maxRecDepth 100000
set_option maxHeartbeats 8000000
set_option linter.unusedVariables false
set_option linter.unusedSimpArgs false
/- sponge: words turned; blocks known whole. -/
namespace Go.Proofs.Ytcfepoopkfhojaa
open Go.ChangeShapes Go.WideShapes Go.ChangeAt Go.RowKit
section
variable {w w' : World} {b : Nat} {t : TypeId} {c : Array Value}
end
def xorW (x y : Int) : Int := bits .xor .u32 x y
def addW (x y : Int) : Int := (x + y) % 4294967296
def rotW (m x : Int) : Int := bits .or .u32 (x * m % 4294967296) (x / (4294967296 / m))
theorem w_bd (op : BinOp) (a b : Int) : 0 ≤ bits op .u32 a b ∧ bits op .u32 a b < 4294967296 := by
  have := wrap_within .u32 (bits op .u32 a b)
  unfold bits
  rw [IntKind.wrap_u32]
  omega
theorem zpa (x y : Int) : 0 ≤ xorW x y ∧ xorW x y < 4294967296 := w_bd _ _ _
theorem rotW_bd (m x : Int) : 0 ≤ rotW m x ∧ rotW m x < 4294967296 := w_bd _ _ _
theorem addW_bd (x y : Int) : 0 ≤ addW x y ∧ addW x y < 4294967296 := by unfold addW; omega
theorem rot16 (x : Int) (h0 : 0 ≤ x) (h1 : x < 4294967296) (w : World) :
    Calls Try.prog 106 #[.int .u32 x, .int .i64 16] w fun e w' => e = .returned (.int .u32 (rotW 65536 x)) ∧ w' = w := by
  have hb : bits BinOp.and IntKind.u64 16 31 = 16 := by decide
  go_enter Try.func106, Try.ntmps106
  go_wp2
  go_ret
  exact ⟨rfl, rfl⟩
theorem rot12 (x : Int) (h0 : 0 ≤ x) (h1 : x < 4294967296) (w : World) :
    Calls Try.prog 106 #[.int .u32 x, .int .i64 12] w fun e w' => e = .returned (.int .u32 (rotW 4096 x)) ∧ w' = w := by
  have hb : bits BinOp.and IntKind.u64 12 31 = 12 := by decide
  go_enter Try.func106, Try.ntmps106
  go_wp2
  go_ret
  exact ⟨rfl, rfl⟩
theorem rot8 (x : Int) (h0 : 0 ≤ x) (h1 : x < 4294967296) (w : World) :
    Calls Try.prog 106 #[.int .u32 x, .int .i64 8] w fun e w' => e = .returned (.int .u32 (rotW 256 x)) ∧ w' = w := by
  have hb : bits BinOp.and IntKind.u64 8 31 = 8 := by decide
  go_enter Try.func106, Try.ntmps106
  go_wp2
  go_ret
  exact ⟨rfl, rfl⟩
theorem rot7 (x : Int) (h0 : 0 ≤ x) (h1 : x < 4294967296) (w : World) :
    Calls Try.prog 106 #[.int .u32 x, .int .i64 7] w fun e w' => e = .returned (.int .u32 (rotW 128 x)) ∧ w' = w := by
  have hb : bits BinOp.and IntKind.u64 7 31 = 7 := by decide
  go_enter Try.func106, Try.ntmps106
  go_wp2
  go_ret
  exact ⟨rfl, rfl⟩
attribute [irreducible] rotW xorW addW
end Go.Proofs.Ytcfepoopkfhojaa
namespace Go.Proofs.Ytcfepoopkfhojaa
open Go.ChangeShapes Go.WideShapes Go.ChangeAt Go.RowKit
def q1a (a b c d : Int) : Int := addW a b
def q1d (a b c d : Int) : Int := rotW 65536 (xorW d (q1a a b c d))
def q1c (a b c d : Int) : Int := addW c (q1d a b c d)
def q1b (a b c d : Int) : Int := rotW 4096 (xorW b (q1c a b c d))
def qa (a b c d : Int) : Int := addW (q1a a b c d) (q1b a b c d)
def qd (a b c d : Int) : Int := rotW 256 (xorW (q1d a b c d) (qa a b c d))
def qc (a b c d : Int) : Int := addW (q1c a b c d) (qd a b c d)
def qb (a b c d : Int) : Int := rotW 128 (xorW (q1b a b c d) (qc a b c d))
theorem q1a_bd (a b c d : Int) : 0 ≤ q1a a b c d ∧ q1a a b c d < 4294967296 := addW_bd _ _
theorem q1b_bd (a b c d : Int) : 0 ≤ q1b a b c d ∧ q1b a b c d < 4294967296 := rotW_bd _ _
theorem q1c_bd (a b c d : Int) : 0 ≤ q1c a b c d ∧ q1c a b c d < 4294967296 := addW_bd _ _
theorem q1d_bd (a b c d : Int) : 0 ≤ q1d a b c d ∧ q1d a b c d < 4294967296 := rotW_bd _ _
theorem qa_bd (a b c d : Int) : 0 ≤ qa a b c d ∧ qa a b c d < 4294967296 := addW_bd _ _
theorem qb_bd (a b c d : Int) : 0 ≤ qb a b c d ∧ qb a b c d < 4294967296 := rotW_bd _ _
theorem qc_bd (a b c d : Int) : 0 ≤ qc a b c d ∧ qc a b c d < 4294967296 := addW_bd _ _
theorem qd_bd (a b c d : Int) : 0 ≤ qd a b c d ∧ qd a b c d < 4294967296 := rotW_bd _ _
theorem zva {a w : World} {row : Option Nat} (h : a.grownBy w row) : a.grownBy w.drew row := ⟨h.os, h.tape, h.output, h.size, h.block⟩
theorem quarter_p0 (b : Nat) (t : TypeId) (x0 x1 x2 x3 x4 x5 x6 x7 : Int) (h0 : 0 ≤ x0 ∧ x0 < 4294967296) (h1 : 0 ≤ x1 ∧ x1 < 4294967296) (h2 : 0 ≤ x2 ∧ x2 < 4294967296) (h3 : 0 ≤ x3 ∧ x3 < 4294967296) (h4 : 0 ≤ x4 ∧ x4 < 4294967296) (h5 : 0 ≤ x5 ∧ x5 < 4294967296) (h6 : 0 ≤ x6 ∧ x6 < 4294967296) (h7 : 0 ≤ x7 ∧ x7 < 4294967296) (w : World) (hb : Blk w b t #[Value.int .u32 x0, .int .u32 x1, .int .u32 x2, .int .u32 x3, .int .u32 x4, .int .u32 x5, .int .u32 x6, .int .u32 x7]) :
    Calls Try.prog 105 #[.pointer (some ⟨b, 0, none⟩), .pointer (some ⟨b, 1, none⟩), .pointer (some ⟨b, 2, none⟩), .pointer (some ⟨b, 3, none⟩)] w fun e w' => e = .returned (.tuple #[]) ∧ w.grownBy w' (some b) ∧ Blk w' b t #[Value.int .u32 (qa x0 x1 x2 x3), .int .u32 (qb x0 x1 x2 x3), .int .u32 (qc x0 x1 x2 x3), .int .u32 (qd x0 x1 x2 x3), .int .u32 x4, .int .u32 x5, .int .u32 x6, .int .u32 x7] := by
  have g := World.grownBy.refl w (some b)
  go_enter Try.func105, Try.ntmps105
  go_wp2
  have k1 := (hb.drew).cell (k := 0) (v := .int .u32 x0) rfl
  have k2 := (hb.drew).cell (k := 1) (v := .int .u32 x1) rfl
  have k3 := (hb.drew).frozen 0
  have e1 : IntKind.u32.wrap (x0 + x1) = (q1a x0 x1 x2 x3) := by rw [IntKind.wrap_u32]; unfold q1a addW; rfl
  have := h0.1
  have := h0.2
  have := h1.1
  have := h1.2
  refine wp_region_still_tail 8 (by kernel_rfl) (by kernel_rfl) ?_
  simp only [List.take_succ_cons, List.take_zero, List.drop_succ_cons, List.drop_zero]
  change wpStill _ _ (World.drew _) _ _ _
  still_step; still_step; still_step; still_step; still_step; still_step; still_step; still_step
  refine wpStill_nil ?_
  change wpList _ _ _ _ _ (World.drew _)
  clear e1
  go_wp2
  have hbx := (hb.set 0 (.int .u32 (q1a x0 x1 x2 x3)) (c' := #[Value.int .u32 ((q1a x0 x1 x2 x3)), .int .u32 x1, .int .u32 x2, .int .u32 x3, .int .u32 x4, .int .u32 x5, .int .u32 x6, .int .u32 x7]) rfl).drew
  have gx := zva (zn (p := ⟨b, 0, none⟩) g rfl (.int .u32 (q1a x0 x1 x2 x3)))
  generalize World.drew (World.setCell _ _ _) = w1 at *
  clear k1 k2 k3 hb g
  have k1 := (hbx.drew).cell (k := 3) (v := .int .u32 x3) rfl
  have k2 := (hbx.drew).cell (k := 0) (v := .int .u32 (q1a x0 x1 x2 x3)) rfl
  have k3 := (hbx.drew).frozen 3
  have e1 : bits .xor .u32 x3 (q1a x0 x1 x2 x3) = xorW x3 (q1a x0 x1 x2 x3) := by unfold xorW; rfl
  have := (q1a_bd x0 x1 x2 x3).1
  have := (q1a_bd x0 x1 x2 x3).2
  have := h3.1
  have := h3.2
  refine wp_region_still_tail 10 (by kernel_rfl) (by kernel_rfl) ?_
  simp only [List.take_succ_cons, List.take_zero, List.drop_succ_cons, List.drop_zero]
  change wpStill _ _ (World.drew _) _ _ _
  still_step; still_step; still_step; still_step; still_step; still_step; still_step; still_step
  still_call (rot16 _ (zpa _ _).1 (zpa _ _).2 _)
  still_step
  refine wpStill_nil ?_
  change wpList _ _ _ _ _ (World.drew _)
  rw [show rotW 65536 (xorW x3 (q1a x0 x1 x2 x3)) = (q1d x0 x1 x2 x3) by unfold q1d; rfl]
  clear e1
  go_wp2
  have hbxx := (hbx.set 3 (.int .u32 (q1d x0 x1 x2 x3)) (c' := #[Value.int .u32 ((q1a x0 x1 x2 x3)), .int .u32 x1, .int .u32 x2, .int .u32 ((q1d x0 x1 x2 x3)), .int .u32 x4, .int .u32 x5, .int .u32 x6, .int .u32 x7]) rfl).drew
  have gxx := zva (zn (p := ⟨b, 3, none⟩) gx rfl (.int .u32 (q1d x0 x1 x2 x3)))
  generalize World.drew (World.setCell _ _ _) = w2 at *
  clear k1 k2 k3 hbx gx
  have k1 := (hbxx.drew).cell (k := 2) (v := .int .u32 x2) rfl
  have k2 := (hbxx.drew).cell (k := 3) (v := .int .u32 (q1d x0 x1 x2 x3)) rfl
  have k3 := (hbxx.drew).frozen 2
  have e1 : IntKind.u32.wrap (x2 + (q1d x0 x1 x2 x3)) = (q1c x0 x1 x2 x3) := by rw [IntKind.wrap_u32]; unfold q1c addW; rfl
  have := (q1d_bd x0 x1 x2 x3).1
  have := (q1d_bd x0 x1 x2 x3).2
  have := h2.1
  have := h2.2
  refine wp_region_still_tail 8 (by kernel_rfl) (by kernel_rfl) ?_
  simp only [List.take_succ_cons, List.take_zero, List.drop_succ_cons, List.drop_zero]
  change wpStill _ _ (World.drew _) _ _ _
  still_step; still_step; still_step; still_step; still_step; still_step; still_step; still_step
  refine wpStill_nil ?_
  change wpList _ _ _ _ _ (World.drew _)
  clear e1
  go_wp2
  have hbxxx := (hbxx.set 2 (.int .u32 (q1c x0 x1 x2 x3)) (c' := #[Value.int .u32 ((q1a x0 x1 x2 x3)), .int .u32 x1, .int .u32 ((q1c x0 x1 x2 x3)), .int .u32 ((q1d x0 x1 x2 x3)), .int .u32 x4, .int .u32 x5, .int .u32 x6, .int .u32 x7]) rfl).drew
  have gxxx := zva (zn (p := ⟨b, 2, none⟩) gxx rfl (.int .u32 (q1c x0 x1 x2 x3)))
  generalize World.drew (World.setCell _ _ _) = w3 at *
  clear k1 k2 k3 hbxx gxx
  have k1 := (hbxxx.drew).cell (k := 1) (v := .int .u32 x1) rfl
  have k2 := (hbxxx.drew).cell (k := 2) (v := .int .u32 (q1c x0 x1 x2 x3)) rfl
  have k3 := (hbxxx.drew).frozen 1
  have e1 : bits .xor .u32 x1 (q1c x0 x1 x2 x3) = xorW x1 (q1c x0 x1 x2 x3) := by unfold xorW; rfl
  have := (q1c_bd x0 x1 x2 x3).1
  have := (q1c_bd x0 x1 x2 x3).2
  have := h1.1
  have := h1.2
  refine wp_region_still_tail 10 (by kernel_rfl) (by kernel_rfl) ?_
  simp only [List.take_succ_cons, List.take_zero, List.drop_succ_cons, List.drop_zero]
  change wpStill _ _ (World.drew _) _ _ _
  still_step; still_step; still_step; still_step; still_step; still_step; still_step; still_step
  still_call (rot12 _ (zpa _ _).1 (zpa _ _).2 _)
  still_step
  refine wpStill_nil ?_
  change wpList _ _ _ _ _ (World.drew _)
  rw [show rotW 4096 (xorW x1 (q1c x0 x1 x2 x3)) = (q1b x0 x1 x2 x3) by unfold q1b; rfl]
  clear e1
  go_wp2
  have hbxxxx := (hbxxx.set 1 (.int .u32 (q1b x0 x1 x2 x3)) (c' := #[Value.int .u32 ((q1a x0 x1 x2 x3)), .int .u32 ((q1b x0 x1 x2 x3)), .int .u32 ((q1c x0 x1 x2 x3)), .int .u32 ((q1d x0 x1 x2 x3)), .int .u32 x4, .int .u32 x5, .int .u32 x6, .int .u32 x7]) rfl).drew
  have gxxxx := zva (zn (p := ⟨b, 1, none⟩) gxxx rfl (.int .u32 (q1b x0 x1 x2 x3)))
  generalize World.drew (World.setCell _ _ _) = w4 at *
  clear k1 k2 k3 hbxxx gxxx
  have k1 := (hbxxxx.drew).cell (k := 0) (v := .int .u32 (q1a x0 x1 x2 x3)) rfl
  have k2 := (hbxxxx.drew).cell (k := 1) (v := .int .u32 (q1b x0 x1 x2 x3)) rfl
  have k3 := (hbxxxx.drew).frozen 0
  have e1 : IntKind.u32.wrap ((q1a x0 x1 x2 x3) + (q1b x0 x1 x2 x3)) = (qa x0 x1 x2 x3) := by rw [IntKind.wrap_u32]; unfold qa addW; rfl
  have := (q1a_bd x0 x1 x2 x3).1
  have := (q1a_bd x0 x1 x2 x3).2
  have := (q1b_bd x0 x1 x2 x3).1
  have := (q1b_bd x0 x1 x2 x3).2
  refine wp_region_still_tail 8 (by kernel_rfl) (by kernel_rfl) ?_
  simp only [List.take_succ_cons, List.take_zero, List.drop_succ_cons, List.drop_zero]
  change wpStill _ _ (World.drew _) _ _ _
  still_step; still_step; still_step; still_step; still_step; still_step; still_step; still_step
  refine wpStill_nil ?_
  change wpList _ _ _ _ _ (World.drew _)
  clear e1
  go_wp2
  have hbxxxxx := (hbxxxx.set 0 (.int .u32 (qa x0 x1 x2 x3)) (c' := #[Value.int .u32 ((qa x0 x1 x2 x3)), .int .u32 ((q1b x0 x1 x2 x3)), .int .u32 ((q1c x0 x1 x2 x3)), .int .u32 ((q1d x0 x1 x2 x3)), .int .u32 x4, .int .u32 x5, .int .u32 x6, .int .u32 x7]) rfl).drew
  have gxxxxx := zva (zn (p := ⟨b, 0, none⟩) gxxxx rfl (.int .u32 (qa x0 x1 x2 x3)))
  generalize World.drew (World.setCell _ _ _) = w5 at *
  clear k1 k2 k3 hbxxxx gxxxx
  have k1 := (hbxxxxx.drew).cell (k := 3) (v := .int .u32 (q1d x0 x1 x2 x3)) rfl
  have k2 := (hbxxxxx.drew).cell (k := 0) (v := .int .u32 (qa x0 x1 x2 x3)) rfl
  have k3 := (hbxxxxx.drew).frozen 3
  have e1 : bits .xor .u32 (q1d x0 x1 x2 x3) (qa x0 x1 x2 x3) = xorW (q1d x0 x1 x2 x3) (qa x0 x1 x2 x3) := by unfold xorW; rfl
  have := (q1d_bd x0 x1 x2 x3).1
  have := (q1d_bd x0 x1 x2 x3).2
  have := (qa_bd x0 x1 x2 x3).1
  have := (qa_bd x0 x1 x2 x3).2
  refine wp_region_still_tail 10 (by kernel_rfl) (by kernel_rfl) ?_
  simp only [List.take_succ_cons, List.take_zero, List.drop_succ_cons, List.drop_zero]
  change wpStill _ _ (World.drew _) _ _ _
  still_step; still_step; still_step; still_step; still_step; still_step; still_step; still_step
  still_call (rot8 _ (zpa _ _).1 (zpa _ _).2 _)
  still_step
  refine wpStill_nil ?_
  change wpList _ _ _ _ _ (World.drew _)
  rw [show rotW 256 (xorW (q1d x0 x1 x2 x3) (qa x0 x1 x2 x3)) = (qd x0 x1 x2 x3) by unfold qd; rfl]
  clear e1
  go_wp2
  have hbxxxxxx := (hbxxxxx.set 3 (.int .u32 (qd x0 x1 x2 x3)) (c' := #[Value.int .u32 ((qa x0 x1 x2 x3)), .int .u32 ((q1b x0 x1 x2 x3)), .int .u32 ((q1c x0 x1 x2 x3)), .int .u32 ((qd x0 x1 x2 x3)), .int .u32 x4, .int .u32 x5, .int .u32 x6, .int .u32 x7]) rfl).drew
  have gxxxxxx := zva (zn (p := ⟨b, 3, none⟩) gxxxxx rfl (.int .u32 (qd x0 x1 x2 x3)))
  generalize World.drew (World.setCell _ _ _) = w6 at *
  clear k1 k2 k3 hbxxxxx gxxxxx
  have k1 := (hbxxxxxx.drew).cell (k := 2) (v := .int .u32 (q1c x0 x1 x2 x3)) rfl
  have k2 := (hbxxxxxx.drew).cell (k := 3) (v := .int .u32 (qd x0 x1 x2 x3)) rfl
  have k3 := (hbxxxxxx.drew).frozen 2
  have e1 : IntKind.u32.wrap ((q1c x0 x1 x2 x3) + (qd x0 x1 x2 x3)) = (qc x0 x1 x2 x3) := by rw [IntKind.wrap_u32]; unfold qc addW; rfl
  have := (q1c_bd x0 x1 x2 x3).1
  have := (q1c_bd x0 x1 x2 x3).2
  have := (qd_bd x0 x1 x2 x3).1
  have := (qd_bd x0 x1 x2 x3).2
  refine wp_region_still_tail 8 (by kernel_rfl) (by kernel_rfl) ?_
  simp only [List.take_succ_cons, List.take_zero, List.drop_succ_cons, List.drop_zero]
  change wpStill _ _ (World.drew _) _ _ _
  still_step; still_step; still_step; still_step; still_step; still_step; still_step; still_step
  refine wpStill_nil ?_
  change wpList _ _ _ _ _ (World.drew _)
  clear e1
  go_wp2
  have hbxxxxxxx := (hbxxxxxx.set 2 (.int .u32 (qc x0 x1 x2 x3)) (c' := #[Value.int .u32 ((qa x0 x1 x2 x3)), .int .u32 ((q1b x0 x1 x2 x3)), .int .u32 ((qc x0 x1 x2 x3)), .int .u32 ((qd x0 x1 x2 x3)), .int .u32 x4, .int .u32 x5, .int .u32 x6, .int .u32 x7]) rfl).drew
  have gxxxxxxx := zva (zn (p := ⟨b, 2, none⟩) gxxxxxx rfl (.int .u32 (qc x0 x1 x2 x3)))
  generalize World.drew (World.setCell _ _ _) = w7 at *
  clear k1 k2 k3 hbxxxxxx gxxxxxx
  have k1 := (hbxxxxxxx.drew).cell (k := 1) (v := .int .u32 (q1b x0 x1 x2 x3)) rfl
  have k2 := (hbxxxxxxx.drew).cell (k := 2) (v := .int .u32 (qc x0 x1 x2 x3)) rfl
  have k3 := (hbxxxxxxx.drew).frozen 1
  have e1 : bits .xor .u32 (q1b x0 x1 x2 x3) (qc x0 x1 x2 x3) = xorW (q1b x0 x1 x2 x3) (qc x0 x1 x2 x3) := by unfold xorW; rfl
  have := (q1b_bd x0 x1 x2 x3).1
  have := (q1b_bd x0 x1 x2 x3).2
  have := (qc_bd x0 x1 x2 x3).1
  have := (qc_bd x0 x1 x2 x3).2
  refine wp_region_still_tail 10 (by kernel_rfl) (by kernel_rfl) ?_
  simp only [List.take_succ_cons, List.take_zero, List.drop_succ_cons, List.drop_zero]
  change wpStill _ _ (World.drew _) _ _ _
  still_step; still_step; still_step; still_step; still_step; still_step; still_step; still_step
  still_call (rot7 _ (zpa _ _).1 (zpa _ _).2 _)
  still_step
  refine wpStill_nil ?_
  change wpList _ _ _ _ _ (World.drew _)
  rw [show rotW 128 (xorW (q1b x0 x1 x2 x3) (qc x0 x1 x2 x3)) = (qb x0 x1 x2 x3) by unfold qb; rfl]
  clear e1
  go_wp2
  have hbxxxxxxxx := (hbxxxxxxx.set 1 (.int .u32 (qb x0 x1 x2 x3)) (c' := #[Value.int .u32 ((qa x0 x1 x2 x3)), .int .u32 ((qb x0 x1 x2 x3)), .int .u32 ((qc x0 x1 x2 x3)), .int .u32 ((qd x0 x1 x2 x3)), .int .u32 x4, .int .u32 x5, .int .u32 x6, .int .u32 x7]) rfl).drew
  have gxxxxxxxx := zva (zn (p := ⟨b, 1, none⟩) gxxxxxxx rfl (.int .u32 (qb x0 x1 x2 x3)))
  generalize World.drew (World.setCell _ _ _) = w8 at *
  clear k1 k2 k3 hbxxxxxxx gxxxxxxx
  exact ⟨rfl, .tuple #[], (by kernel_rfl), rfl, gxxxxxxxx, hbxxxxxxxx⟩
theorem quarter_p1 (b : Nat) (t : TypeId) (x0 x1 x2 x3 x4 x5 x6 x7 : Int) (h0 : 0 ≤ x0 ∧ x0 < 4294967296) (h1 : 0 ≤ x1 ∧ x1 < 4294967296) (h2 : 0 ≤ x2 ∧ x2 < 4294967296) (h3 : 0 ≤ x3 ∧ x3 < 4294967296) (h4 : 0 ≤ x4 ∧ x4 < 4294967296) (h5 : 0 ≤ x5 ∧ x5 < 4294967296) (h6 : 0 ≤ x6 ∧ x6 < 4294967296) (h7 : 0 ≤ x7 ∧ x7 < 4294967296) (w : World) (hb : Blk w b t #[Value.int .u32 x0, .int .u32 x1, .int .u32 x2, .int .u32 x3, .int .u32 x4, .int .u32 x5, .int .u32 x6, .int .u32 x7]) :
    Calls Try.prog 105 #[.pointer (some ⟨b, 4, none⟩), .pointer (some ⟨b, 5, none⟩), .pointer (some ⟨b, 6, none⟩), .pointer (some ⟨b, 7, none⟩)] w fun e w' => e = .returned (.tuple #[]) ∧ w.grownBy w' (some b) ∧ Blk w' b t #[Value.int .u32 x0, .int .u32 x1, .int .u32 x2, .int .u32 x3, .int .u32 (qa x4 x5 x6 x7), .int .u32 (qb x4 x5 x6 x7), .int .u32 (qc x4 x5 x6 x7), .int .u32 (qd x4 x5 x6 x7)] := by
  have g := World.grownBy.refl w (some b)
  go_enter Try.func105, Try.ntmps105
  go_wp2
  have k1 := (hb.drew).cell (k := 4) (v := .int .u32 x4) rfl
  have k2 := (hb.drew).cell (k := 5) (v := .int .u32 x5) rfl
  have k3 := (hb.drew).frozen 4
  have e1 : IntKind.u32.wrap (x4 + x5) = (q1a x4 x5 x6 x7) := by rw [IntKind.wrap_u32]; unfold q1a addW; rfl
  have := h4.1
  have := h4.2
  have := h5.1
  have := h5.2
  refine wp_region_still_tail 8 (by kernel_rfl) (by kernel_rfl) ?_
  simp only [List.take_succ_cons, List.take_zero, List.drop_succ_cons, List.drop_zero]
  change wpStill _ _ (World.drew _) _ _ _
  still_step; still_step; still_step; still_step; still_step; still_step; still_step; still_step
  refine wpStill_nil ?_
  change wpList _ _ _ _ _ (World.drew _)
  clear e1
  go_wp2
  have hbx := (hb.set 4 (.int .u32 (q1a x4 x5 x6 x7)) (c' := #[Value.int .u32 x0, .int .u32 x1, .int .u32 x2, .int .u32 x3, .int .u32 ((q1a x4 x5 x6 x7)), .int .u32 x5, .int .u32 x6, .int .u32 x7]) rfl).drew
  have gx := zva (zn (p := ⟨b, 4, none⟩) g rfl (.int .u32 (q1a x4 x5 x6 x7)))
  generalize World.drew (World.setCell _ _ _) = w1 at *
  clear k1 k2 k3 hb g
  have k1 := (hbx.drew).cell (k := 7) (v := .int .u32 x7) rfl
  have k2 := (hbx.drew).cell (k := 4) (v := .int .u32 (q1a x4 x5 x6 x7)) rfl
  have k3 := (hbx.drew).frozen 7
  have e1 : bits .xor .u32 x7 (q1a x4 x5 x6 x7) = xorW x7 (q1a x4 x5 x6 x7) := by unfold xorW; rfl
  have := (q1a_bd x4 x5 x6 x7).1
  have := (q1a_bd x4 x5 x6 x7).2
  have := h7.1
  have := h7.2
  refine wp_region_still_tail 10 (by kernel_rfl) (by kernel_rfl) ?_
  simp only [List.take_succ_cons, List.take_zero, List.drop_succ_cons, List.drop_zero]
  change wpStill _ _ (World.drew _) _ _ _
  still_step; still_step; still_step; still_step; still_step; still_step; still_step; still_step
  still_call (rot16 _ (zpa _ _).1 (zpa _ _).2 _)
  still_step
  refine wpStill_nil ?_
  change wpList _ _ _ _ _ (World.drew _)
  rw [show rotW 65536 (xorW x7 (q1a x4 x5 x6 x7)) = (q1d x4 x5 x6 x7) by unfold q1d; rfl]
  clear e1
  go_wp2
  have hbxx := (hbx.set 7 (.int .u32 (q1d x4 x5 x6 x7)) (c' := #[Value.int .u32 x0, .int .u32 x1, .int .u32 x2, .int .u32 x3, .int .u32 ((q1a x4 x5 x6 x7)), .int .u32 x5, .int .u32 x6, .int .u32 ((q1d x4 x5 x6 x7))]) rfl).drew
  have gxx := zva (zn (p := ⟨b, 7, none⟩) gx rfl (.int .u32 (q1d x4 x5 x6 x7)))
  generalize World.drew (World.setCell _ _ _) = w2 at *
  clear k1 k2 k3 hbx gx
  have k1 := (hbxx.drew).cell (k := 6) (v := .int .u32 x6) rfl
  have k2 := (hbxx.drew).cell (k := 7) (v := .int .u32 (q1d x4 x5 x6 x7)) rfl
  have k3 := (hbxx.drew).frozen 6
  have e1 : IntKind.u32.wrap (x6 + (q1d x4 x5 x6 x7)) = (q1c x4 x5 x6 x7) := by rw [IntKind.wrap_u32]; unfold q1c addW; rfl
  have := (q1d_bd x4 x5 x6 x7).1
  have := (q1d_bd x4 x5 x6 x7).2
  have := h6.1
  have := h6.2
  refine wp_region_still_tail 8 (by kernel_rfl) (by kernel_rfl) ?_
  simp only [List.take_succ_cons, List.take_zero, List.drop_succ_cons, List.drop_zero]
  change wpStill _ _ (World.drew _) _ _ _
  still_step; still_step; still_step; still_step; still_step; still_step; still_step; still_step
  refine wpStill_nil ?_
  change wpList _ _ _ _ _ (World.drew _)
  clear e1
  go_wp2
  have hbxxx := (hbxx.set 6 (.int .u32 (q1c x4 x5 x6 x7)) (c' := #[Value.int .u32 x0, .int .u32 x1, .int .u32 x2, .int .u32 x3, .int .u32 ((q1a x4 x5 x6 x7)), .int .u32 x5, .int .u32 ((q1c x4 x5 x6 x7)), .int .u32 ((q1d x4 x5 x6 x7))]) rfl).drew
  have gxxx := zva (zn (p := ⟨b, 6, none⟩) gxx rfl (.int .u32 (q1c x4 x5 x6 x7)))
  generalize World.drew (World.setCell _ _ _) = w3 at *
  clear k1 k2 k3 hbxx gxx
  have k1 := (hbxxx.drew).cell (k := 5) (v := .int .u32 x5) rfl
  have k2 := (hbxxx.drew).cell (k := 6) (v := .int .u32 (q1c x4 x5 x6 x7)) rfl
  have k3 := (hbxxx.drew).frozen 5
  have e1 : bits .xor .u32 x5 (q1c x4 x5 x6 x7) = xorW x5 (q1c x4 x5 x6 x7) := by unfold xorW; rfl
  have := (q1c_bd x4 x5 x6 x7).1
  have := (q1c_bd x4 x5 x6 x7).2
  have := h5.1
  have := h5.2
  refine wp_region_still_tail 10 (by kernel_rfl) (by kernel_rfl) ?_
  simp only [List.take_succ_cons, List.take_zero, List.drop_succ_cons, List.drop_zero]
  change wpStill _ _ (World.drew _) _ _ _
  still_step; still_step; still_step; still_step; still_step; still_step; still_step; still_step
  still_call (rot12 _ (zpa _ _).1 (zpa _ _).2 _)
  still_step
  refine wpStill_nil ?_
  change wpList _ _ _ _ _ (World.drew _)
  rw [show rotW 4096 (xorW x5 (q1c x4 x5 x6 x7)) = (q1b x4 x5 x6 x7) by unfold q1b; rfl]
  clear e1
  go_wp2
  have hbxxxx := (hbxxx.set 5 (.int .u32 (q1b x4 x5 x6 x7)) (c' := #[Value.int .u32 x0, .int .u32 x1, .int .u32 x2, .int .u32 x3, .int .u32 ((q1a x4 x5 x6 x7)), .int .u32 ((q1b x4 x5 x6 x7)), .int .u32 ((q1c x4 x5 x6 x7)), .int .u32 ((q1d x4 x5 x6 x7))]) rfl).drew
  have gxxxx := zva (zn (p := ⟨b, 5, none⟩) gxxx rfl (.int .u32 (q1b x4 x5 x6 x7)))
  generalize World.drew (World.setCell _ _ _) = w4 at *
  clear k1 k2 k3 hbxxx gxxx
  have k1 := (hbxxxx.drew).cell (k := 4) (v := .int .u32 (q1a x4 x5 x6 x7)) rfl
  have k2 := (hbxxxx.drew).cell (k := 5) (v := .int .u32 (q1b x4 x5 x6 x7)) rfl
  have k3 := (hbxxxx.drew).frozen 4
  have e1 : IntKind.u32.wrap ((q1a x4 x5 x6 x7) + (q1b x4 x5 x6 x7)) = (qa x4 x5 x6 x7) := by rw [IntKind.wrap_u32]; unfold qa addW; rfl
  have := (q1a_bd x4 x5 x6 x7).1
  have := (q1a_bd x4 x5 x6 x7).2
  have := (q1b_bd x4 x5 x6 x7).1
  have := (q1b_bd x4 x5 x6 x7).2
  refine wp_region_still_tail 8 (by kernel_rfl) (by kernel_rfl) ?_
  simp only [List.take_succ_cons, List.take_zero, List.drop_succ_cons, List.drop_zero]
  change wpStill _ _ (World.drew _) _ _ _
  still_step; still_step; still_step; still_step; still_step; still_step; still_step; still_step
  refine wpStill_nil ?_
  change wpList _ _ _ _ _ (World.drew _)
  clear e1
  go_wp2
  have hbxxxxx := (hbxxxx.set 4 (.int .u32 (qa x4 x5 x6 x7)) (c' := #[Value.int .u32 x0, .int .u32 x1, .int .u32 x2, .int .u32 x3, .int .u32 ((qa x4 x5 x6 x7)), .int .u32 ((q1b x4 x5 x6 x7)), .int .u32 ((q1c x4 x5 x6 x7)), .int .u32 ((q1d x4 x5 x6 x7))]) rfl).drew
  have gxxxxx := zva (zn (p := ⟨b, 4, none⟩) gxxxx rfl (.int .u32 (qa x4 x5 x6 x7)))
  generalize World.drew (World.setCell _ _ _) = w5 at *
  clear k1 k2 k3 hbxxxx gxxxx
  have k1 := (hbxxxxx.drew).cell (k := 7) (v := .int .u32 (q1d x4 x5 x6 x7)) rfl
  have k2 := (hbxxxxx.drew).cell (k := 4) (v := .int .u32 (qa x4 x5 x6 x7)) rfl
  have k3 := (hbxxxxx.drew).frozen 7
  have e1 : bits .xor .u32 (q1d x4 x5 x6 x7) (qa x4 x5 x6 x7) = xorW (q1d x4 x5 x6 x7) (qa x4 x5 x6 x7) := by unfold xorW; rfl
  have := (q1d_bd x4 x5 x6 x7).1
  have := (q1d_bd x4 x5 x6 x7).2
  have := (qa_bd x4 x5 x6 x7).1
  have := (qa_bd x4 x5 x6 x7).2
  refine wp_region_still_tail 10 (by kernel_rfl) (by kernel_rfl) ?_
  simp only [List.take_succ_cons, List.take_zero, List.drop_succ_cons, List.drop_zero]
  change wpStill _ _ (World.drew _) _ _ _
  still_step; still_step; still_step; still_step; still_step; still_step; still_step; still_step
  still_call (rot8 _ (zpa _ _).1 (zpa _ _).2 _)
  still_step
  refine wpStill_nil ?_
  change wpList _ _ _ _ _ (World.drew _)
  rw [show rotW 256 (xorW (q1d x4 x5 x6 x7) (qa x4 x5 x6 x7)) = (qd x4 x5 x6 x7) by unfold qd; rfl]
  clear e1
  go_wp2
  have hbxxxxxx := (hbxxxxx.set 7 (.int .u32 (qd x4 x5 x6 x7)) (c' := #[Value.int .u32 x0, .int .u32 x1, .int .u32 x2, .int .u32 x3, .int .u32 ((qa x4 x5 x6 x7)), .int .u32 ((q1b x4 x5 x6 x7)), .int .u32 ((q1c x4 x5 x6 x7)), .int .u32 ((qd x4 x5 x6 x7))]) rfl).drew
  have gxxxxxx := zva (zn (p := ⟨b, 7, none⟩) gxxxxx rfl (.int .u32 (qd x4 x5 x6 x7)))
  generalize World.drew (World.setCell _ _ _) = w6 at *
  clear k1 k2 k3 hbxxxxx gxxxxx
  have k1 := (hbxxxxxx.drew).cell (k := 6) (v := .int .u32 (q1c x4 x5 x6 x7)) rfl
  have k2 := (hbxxxxxx.drew).cell (k := 7) (v := .int .u32 (qd x4 x5 x6 x7)) rfl
  have k3 := (hbxxxxxx.drew).frozen 6
  have e1 : IntKind.u32.wrap ((q1c x4 x5 x6 x7) + (qd x4 x5 x6 x7)) = (qc x4 x5 x6 x7) := by rw [IntKind.wrap_u32]; unfold qc addW; rfl
  have := (q1c_bd x4 x5 x6 x7).1
  have := (q1c_bd x4 x5 x6 x7).2
  have := (qd_bd x4 x5 x6 x7).1
  have := (qd_bd x4 x5 x6 x7).2
  refine wp_region_still_tail 8 (by kernel_rfl) (by kernel_rfl) ?_
  simp only [List.take_succ_cons, List.take_zero, List.drop_succ_cons, List.drop_zero]
  change wpStill _ _ (World.drew _) _ _ _
  still_step; still_step; still_step; still_step; still_step; still_step; still_step; still_step
  refine wpStill_nil ?_
  change wpList _ _ _ _ _ (World.drew _)
  clear e1
  go_wp2
  have hbxxxxxxx := (hbxxxxxx.set 6 (.int .u32 (qc x4 x5 x6 x7)) (c' := #[Value.int .u32 x0, .int .u32 x1, .int .u32 x2, .int .u32 x3, .int .u32 ((qa x4 x5 x6 x7)), .int .u32 ((q1b x4 x5 x6 x7)), .int .u32 ((qc x4 x5 x6 x7)), .int .u32 ((qd x4 x5 x6 x7))]) rfl).drew
  have gxxxxxxx := zva (zn (p := ⟨b, 6, none⟩) gxxxxxx rfl (.int .u32 (qc x4 x5 x6 x7)))
  generalize World.drew (World.setCell _ _ _) = w7 at *
  clear k1 k2 k3 hbxxxxxx gxxxxxx
  have k1 := (hbxxxxxxx.drew).cell (k := 5) (v := .int .u32 (q1b x4 x5 x6 x7)) rfl
  have k2 := (hbxxxxxxx.drew).cell (k := 6) (v := .int .u32 (qc x4 x5 x6 x7)) rfl
  have k3 := (hbxxxxxxx.drew).frozen 5
  have e1 : bits .xor .u32 (q1b x4 x5 x6 x7) (qc x4 x5 x6 x7) = xorW (q1b x4 x5 x6 x7) (qc x4 x5 x6 x7) := by unfold xorW; rfl
  have := (q1b_bd x4 x5 x6 x7).1
  have := (q1b_bd x4 x5 x6 x7).2
  have := (qc_bd x4 x5 x6 x7).1
  have := (qc_bd x4 x5 x6 x7).2
  refine wp_region_still_tail 10 (by kernel_rfl) (by kernel_rfl) ?_
  simp only [List.take_succ_cons, List.take_zero, List.drop_succ_cons, List.drop_zero]
  change wpStill _ _ (World.drew _) _ _ _
  still_step; still_step; still_step; still_step; still_step; still_step; still_step; still_step
  still_call (rot7 _ (zpa _ _).1 (zpa _ _).2 _)
  still_step
  refine wpStill_nil ?_
  change wpList _ _ _ _ _ (World.drew _)
  rw [show rotW 128 (xorW (q1b x4 x5 x6 x7) (qc x4 x5 x6 x7)) = (qb x4 x5 x6 x7) by unfold qb; rfl]
  clear e1
  go_wp2
  have hbxxxxxxxx := (hbxxxxxxx.set 5 (.int .u32 (qb x4 x5 x6 x7)) (c' := #[Value.int .u32 x0, .int .u32 x1, .int .u32 x2, .int .u32 x3, .int .u32 ((qa x4 x5 x6 x7)), .int .u32 ((qb x4 x5 x6 x7)), .int .u32 ((qc x4 x5 x6 x7)), .int .u32 ((qd x4 x5 x6 x7))]) rfl).drew
  have gxxxxxxxx := zva (zn (p := ⟨b, 5, none⟩) gxxxxxxx rfl (.int .u32 (qb x4 x5 x6 x7)))
  generalize World.drew (World.setCell _ _ _) = w8 at *
  clear k1 k2 k3 hbxxxxxxx gxxxxxxx
  exact ⟨rfl, .tuple #[], (by kernel_rfl), rfl, gxxxxxxxx, hbxxxxxxxx⟩
theorem quarter_p2 (b : Nat) (t : TypeId) (x0 x1 x2 x3 x4 x5 x6 x7 : Int) (h0 : 0 ≤ x0 ∧ x0 < 4294967296) (h1 : 0 ≤ x1 ∧ x1 < 4294967296) (h2 : 0 ≤ x2 ∧ x2 < 4294967296) (h3 : 0 ≤ x3 ∧ x3 < 4294967296) (h4 : 0 ≤ x4 ∧ x4 < 4294967296) (h5 : 0 ≤ x5 ∧ x5 < 4294967296) (h6 : 0 ≤ x6 ∧ x6 < 4294967296) (h7 : 0 ≤ x7 ∧ x7 < 4294967296) (w : World) (hb : Blk w b t #[Value.int .u32 x0, .int .u32 x1, .int .u32 x2, .int .u32 x3, .int .u32 x4, .int .u32 x5, .int .u32 x6, .int .u32 x7]) :
    Calls Try.prog 105 #[.pointer (some ⟨b, 0, none⟩), .pointer (some ⟨b, 5, none⟩), .pointer (some ⟨b, 2, none⟩), .pointer (some ⟨b, 7, none⟩)] w fun e w' => e = .returned (.tuple #[]) ∧ w.grownBy w' (some b) ∧ Blk w' b t #[Value.int .u32 (qa x0 x5 x2 x7), .int .u32 x1, .int .u32 (qc x0 x5 x2 x7), .int .u32 x3, .int .u32 x4, .int .u32 (qb x0 x5 x2 x7), .int .u32 x6, .int .u32 (qd x0 x5 x2 x7)] := by
  have g := World.grownBy.refl w (some b)
  go_enter Try.func105, Try.ntmps105
  go_wp2
  have k1 := (hb.drew).cell (k := 0) (v := .int .u32 x0) rfl
  have k2 := (hb.drew).cell (k := 5) (v := .int .u32 x5) rfl
  have k3 := (hb.drew).frozen 0
  have e1 : IntKind.u32.wrap (x0 + x5) = (q1a x0 x5 x2 x7) := by rw [IntKind.wrap_u32]; unfold q1a addW; rfl
  have := h0.1
  have := h0.2
  have := h5.1
  have := h5.2
  refine wp_region_still_tail 8 (by kernel_rfl) (by kernel_rfl) ?_
  simp only [List.take_succ_cons, List.take_zero, List.drop_succ_cons, List.drop_zero]
  change wpStill _ _ (World.drew _) _ _ _
  still_step; still_step; still_step; still_step; still_step; still_step; still_step; still_step
  refine wpStill_nil ?_
  change wpList _ _ _ _ _ (World.drew _)
  clear e1
  go_wp2
  have hbx := (hb.set 0 (.int .u32 (q1a x0 x5 x2 x7)) (c' := #[Value.int .u32 ((q1a x0 x5 x2 x7)), .int .u32 x1, .int .u32 x2, .int .u32 x3, .int .u32 x4, .int .u32 x5, .int .u32 x6, .int .u32 x7]) rfl).drew
  have gx := zva (zn (p := ⟨b, 0, none⟩) g rfl (.int .u32 (q1a x0 x5 x2 x7)))
  generalize World.drew (World.setCell _ _ _) = w1 at *
  clear k1 k2 k3 hb g
  have k1 := (hbx.drew).cell (k := 7) (v := .int .u32 x7) rfl
  have k2 := (hbx.drew).cell (k := 0) (v := .int .u32 (q1a x0 x5 x2 x7)) rfl
  have k3 := (hbx.drew).frozen 7
  have e1 : bits .xor .u32 x7 (q1a x0 x5 x2 x7) = xorW x7 (q1a x0 x5 x2 x7) := by unfold xorW; rfl
  have := (q1a_bd x0 x5 x2 x7).1
  have := (q1a_bd x0 x5 x2 x7).2
  have := h7.1
  have := h7.2
  refine wp_region_still_tail 10 (by kernel_rfl) (by kernel_rfl) ?_
  simp only [List.take_succ_cons, List.take_zero, List.drop_succ_cons, List.drop_zero]
  change wpStill _ _ (World.drew _) _ _ _
  still_step; still_step; still_step; still_step; still_step; still_step; still_step; still_step
  still_call (rot16 _ (zpa _ _).1 (zpa _ _).2 _)
  still_step
  refine wpStill_nil ?_
  change wpList _ _ _ _ _ (World.drew _)
  rw [show rotW 65536 (xorW x7 (q1a x0 x5 x2 x7)) = (q1d x0 x5 x2 x7) by unfold q1d; rfl]
  clear e1
  go_wp2
  have hbxx := (hbx.set 7 (.int .u32 (q1d x0 x5 x2 x7)) (c' := #[Value.int .u32 ((q1a x0 x5 x2 x7)), .int .u32 x1, .int .u32 x2, .int .u32 x3, .int .u32 x4, .int .u32 x5, .int .u32 x6, .int .u32 ((q1d x0 x5 x2 x7))]) rfl).drew
  have gxx := zva (zn (p := ⟨b, 7, none⟩) gx rfl (.int .u32 (q1d x0 x5 x2 x7)))
  generalize World.drew (World.setCell _ _ _) = w2 at *
  clear k1 k2 k3 hbx gx
  have k1 := (hbxx.drew).cell (k := 2) (v := .int .u32 x2) rfl
  have k2 := (hbxx.drew).cell (k := 7) (v := .int .u32 (q1d x0 x5 x2 x7)) rfl
  have k3 := (hbxx.drew).frozen 2
  have e1 : IntKind.u32.wrap (x2 + (q1d x0 x5 x2 x7)) = (q1c x0 x5 x2 x7) := by rw [IntKind.wrap_u32]; unfold q1c addW; rfl
  have := (q1d_bd x0 x5 x2 x7).1
  have := (q1d_bd x0 x5 x2 x7).2
  have := h2.1
  have := h2.2
  refine wp_region_still_tail 8 (by kernel_rfl) (by kernel_rfl) ?_
  simp only [List.take_succ_cons, List.take_zero, List.drop_succ_cons, List.drop_zero]
  change wpStill _ _ (World.drew _) _ _ _
  still_step; still_step; still_step; still_step; still_step; still_step; still_step; still_step
  refine wpStill_nil ?_
  change wpList _ _ _ _ _ (World.drew _)
  clear e1
  go_wp2
  have hbxxx := (hbxx.set 2 (.int .u32 (q1c x0 x5 x2 x7)) (c' := #[Value.int .u32 ((q1a x0 x5 x2 x7)), .int .u32 x1, .int .u32 ((q1c x0 x5 x2 x7)), .int .u32 x3, .int .u32 x4, .int .u32 x5, .int .u32 x6, .int .u32 ((q1d x0 x5 x2 x7))]) rfl).drew
  have gxxx := zva (zn (p := ⟨b, 2, none⟩) gxx rfl (.int .u32 (q1c x0 x5 x2 x7)))
  generalize World.drew (World.setCell _ _ _) = w3 at *
  clear k1 k2 k3 hbxx gxx
  have k1 := (hbxxx.drew).cell (k := 5) (v := .int .u32 x5) rfl
  have k2 := (hbxxx.drew).cell (k := 2) (v := .int .u32 (q1c x0 x5 x2 x7)) rfl
  have k3 := (hbxxx.drew).frozen 5
  have e1 : bits .xor .u32 x5 (q1c x0 x5 x2 x7) = xorW x5 (q1c x0 x5 x2 x7) := by unfold xorW; rfl
  have := (q1c_bd x0 x5 x2 x7).1
  have := (q1c_bd x0 x5 x2 x7).2
  have := h5.1
  have := h5.2
  refine wp_region_still_tail 10 (by kernel_rfl) (by kernel_rfl) ?_
  simp only [List.take_succ_cons, List.take_zero, List.drop_succ_cons, List.drop_zero]
  change wpStill _ _ (World.drew _) _ _ _
  still_step; still_step; still_step; still_step; still_step; still_step; still_step; still_step
  still_call (rot12 _ (zpa _ _).1 (zpa _ _).2 _)
  still_step
  refine wpStill_nil ?_
  change wpList _ _ _ _ _ (World.drew _)
  rw [show rotW 4096 (xorW x5 (q1c x0 x5 x2 x7)) = (q1b x0 x5 x2 x7) by unfold q1b; rfl]
  clear e1
  go_wp2
  have hbxxxx := (hbxxx.set 5 (.int .u32 (q1b x0 x5 x2 x7)) (c' := #[Value.int .u32 ((q1a x0 x5 x2 x7)), .int .u32 x1, .int .u32 ((q1c x0 x5 x2 x7)), .int .u32 x3, .int .u32 x4, .int .u32 ((q1b x0 x5 x2 x7)), .int .u32 x6, .int .u32 ((q1d x0 x5 x2 x7))]) rfl).drew
  have gxxxx := zva (zn (p := ⟨b, 5, none⟩) gxxx rfl (.int .u32 (q1b x0 x5 x2 x7)))
  generalize World.drew (World.setCell _ _ _) = w4 at *
  clear k1 k2 k3 hbxxx gxxx
  have k1 := (hbxxxx.drew).cell (k := 0) (v := .int .u32 (q1a x0 x5 x2 x7)) rfl
  have k2 := (hbxxxx.drew).cell (k := 5) (v := .int .u32 (q1b x0 x5 x2 x7)) rfl
  have k3 := (hbxxxx.drew).frozen 0
  have e1 : IntKind.u32.wrap ((q1a x0 x5 x2 x7) + (q1b x0 x5 x2 x7)) = (qa x0 x5 x2 x7) := by rw [IntKind.wrap_u32]; unfold qa addW; rfl
  have := (q1a_bd x0 x5 x2 x7).1
  have := (q1a_bd x0 x5 x2 x7).2
  have := (q1b_bd x0 x5 x2 x7).1
  have := (q1b_bd x0 x5 x2 x7).2
  refine wp_region_still_tail 8 (by kernel_rfl) (by kernel_rfl) ?_
  simp only [List.take_succ_cons, List.take_zero, List.drop_succ_cons, List.drop_zero]
  change wpStill _ _ (World.drew _) _ _ _
  still_step; still_step; still_step; still_step; still_step; still_step; still_step; still_step
  refine wpStill_nil ?_
  change wpList _ _ _ _ _ (World.drew _)
  clear e1
  go_wp2
  have hbxxxxx := (hbxxxx.set 0 (.int .u32 (qa x0 x5 x2 x7)) (c' := #[Value.int .u32 ((qa x0 x5 x2 x7)), .int .u32 x1, .int .u32 ((q1c x0 x5 x2 x7)), .int .u32 x3, .int .u32 x4, .int .u32 ((q1b x0 x5 x2 x7)), .int .u32 x6, .int .u32 ((q1d x0 x5 x2 x7))]) rfl).drew
  have gxxxxx := zva (zn (p := ⟨b, 0, none⟩) gxxxx rfl (.int .u32 (qa x0 x5 x2 x7)))
  generalize World.drew (World.setCell _ _ _) = w5 at *
  clear k1 k2 k3 hbxxxx gxxxx
  have k1 := (hbxxxxx.drew).cell (k := 7) (v := .int .u32 (q1d x0 x5 x2 x7)) rfl
  have k2 := (hbxxxxx.drew).cell (k := 0) (v := .int .u32 (qa x0 x5 x2 x7)) rfl
  have k3 := (hbxxxxx.drew).frozen 7
  have e1 : bits .xor .u32 (q1d x0 x5 x2 x7) (qa x0 x5 x2 x7) = xorW (q1d x0 x5 x2 x7) (qa x0 x5 x2 x7) := by unfold xorW; rfl
  have := (q1d_bd x0 x5 x2 x7).1
  have := (q1d_bd x0 x5 x2 x7).2
  have := (qa_bd x0 x5 x2 x7).1
  have := (qa_bd x0 x5 x2 x7).2
  refine wp_region_still_tail 10 (by kernel_rfl) (by kernel_rfl) ?_
  simp only [List.take_succ_cons, List.take_zero, List.drop_succ_cons, List.drop_zero]
  change wpStill _ _ (World.drew _) _ _ _
  still_step; still_step; still_step; still_step; still_step; still_step; still_step; still_step
  still_call (rot8 _ (zpa _ _).1 (zpa _ _).2 _)
  still_step
  refine wpStill_nil ?_
  change wpList _ _ _ _ _ (World.drew _)
  rw [show rotW 256 (xorW (q1d x0 x5 x2 x7) (qa x0 x5 x2 x7)) = (qd x0 x5 x2 x7) by unfold qd; rfl]
  clear e1
  go_wp2
  have hbxxxxxx := (hbxxxxx.set 7 (.int .u32 (qd x0 x5 x2 x7)) (c' := #[Value.int .u32 ((qa x0 x5 x2 x7)), .int .u32 x1, .int .u32 ((q1c x0 x5 x2 x7)), .int .u32 x3, .int .u32 x4, .int .u32 ((q1b x0 x5 x2 x7)), .int .u32 x6, .int .u32 ((qd x0 x5 x2 x7))]) rfl).drew
  have gxxxxxx := zva (zn (p := ⟨b, 7, none⟩) gxxxxx rfl (.int .u32 (qd x0 x5 x2 x7)))
  generalize World.drew (World.setCell _ _ _) = w6 at *
  clear k1 k2 k3 hbxxxxx gxxxxx
  have k1 := (hbxxxxxx.drew).cell (k := 2) (v := .int .u32 (q1c x0 x5 x2 x7)) rfl
  have k2 := (hbxxxxxx.drew).cell (k := 7) (v := .int .u32 (qd x0 x5 x2 x7)) rfl
  have k3 := (hbxxxxxx.drew).frozen 2
  have e1 : IntKind.u32.wrap ((q1c x0 x5 x2 x7) + (qd x0 x5 x2 x7)) = (qc x0 x5 x2 x7) := by rw [IntKind.wrap_u32]; unfold qc addW; rfl
  have := (q1c_bd x0 x5 x2 x7).1
  have := (q1c_bd x0 x5 x2 x7).2
  have := (qd_bd x0 x5 x2 x7).1
  have := (qd_bd x0 x5 x2 x7).2
  refine wp_region_still_tail 8 (by kernel_rfl) (by kernel_rfl) ?_
  simp only [List.take_succ_cons, List.take_zero, List.drop_succ_cons, List.drop_zero]
  change wpStill _ _ (World.drew _) _ _ _
  still_step; still_step; still_step; still_step; still_step; still_step; still_step; still_step
  refine wpStill_nil ?_
  change wpList _ _ _ _ _ (World.drew _)
  clear e1
  go_wp2
  have hbxxxxxxx := (hbxxxxxx.set 2 (.int .u32 (qc x0 x5 x2 x7)) (c' := #[Value.int .u32 ((qa x0 x5 x2 x7)), .int .u32 x1, .int .u32 ((qc x0 x5 x2 x7)), .int .u32 x3, .int .u32 x4, .int .u32 ((q1b x0 x5 x2 x7)), .int .u32 x6, .int .u32 ((qd x0 x5 x2 x7))]) rfl).drew
  have gxxxxxxx := zva (zn (p := ⟨b, 2, none⟩) gxxxxxx rfl (.int .u32 (qc x0 x5 x2 x7)))
  generalize World.drew (World.setCell _ _ _) = w7 at *
  clear k1 k2 k3 hbxxxxxx gxxxxxx
  have k1 := (hbxxxxxxx.drew).cell (k := 5) (v := .int .u32 (q1b x0 x5 x2 x7)) rfl
  have k2 := (hbxxxxxxx.drew).cell (k := 2) (v := .int .u32 (qc x0 x5 x2 x7)) rfl
  have k3 := (hbxxxxxxx.drew).frozen 5
  have e1 : bits .xor .u32 (q1b x0 x5 x2 x7) (qc x0 x5 x2 x7) = xorW (q1b x0 x5 x2 x7) (qc x0 x5 x2 x7) := by unfold xorW; rfl
  have := (q1b_bd x0 x5 x2 x7).1
  have := (q1b_bd x0 x5 x2 x7).2
  have := (qc_bd x0 x5 x2 x7).1
  have := (qc_bd x0 x5 x2 x7).2
  refine wp_region_still_tail 10 (by kernel_rfl) (by kernel_rfl) ?_
  simp only [List.take_succ_cons, List.take_zero, List.drop_succ_cons, List.drop_zero]
  change wpStill _ _ (World.drew _) _ _ _
  still_step; still_step; still_step; still_step; still_step; still_step; still_step; still_step
  still_call (rot7 _ (zpa _ _).1 (zpa _ _).2 _)
  still_step
  refine wpStill_nil ?_
  change wpList _ _ _ _ _ (World.drew _)
  rw [show rotW 128 (xorW (q1b x0 x5 x2 x7) (qc x0 x5 x2 x7)) = (qb x0 x5 x2 x7) by unfold qb; rfl]
  clear e1
  go_wp2
  have hbxxxxxxxx := (hbxxxxxxx.set 5 (.int .u32 (qb x0 x5 x2 x7)) (c' := #[Value.int .u32 ((qa x0 x5 x2 x7)), .int .u32 x1, .int .u32 ((qc x0 x5 x2 x7)), .int .u32 x3, .int .u32 x4, .int .u32 ((qb x0 x5 x2 x7)), .int .u32 x6, .int .u32 ((qd x0 x5 x2 x7))]) rfl).drew
  have gxxxxxxxx := zva (zn (p := ⟨b, 5, none⟩) gxxxxxxx rfl (.int .u32 (qb x0 x5 x2 x7)))
  generalize World.drew (World.setCell _ _ _) = w8 at *
  clear k1 k2 k3 hbxxxxxxx gxxxxxxx
  exact ⟨rfl, .tuple #[], (by kernel_rfl), rfl, gxxxxxxxx, hbxxxxxxxx⟩
theorem quarter_p3 (b : Nat) (t : TypeId) (x0 x1 x2 x3 x4 x5 x6 x7 : Int) (h0 : 0 ≤ x0 ∧ x0 < 4294967296) (h1 : 0 ≤ x1 ∧ x1 < 4294967296) (h2 : 0 ≤ x2 ∧ x2 < 4294967296) (h3 : 0 ≤ x3 ∧ x3 < 4294967296) (h4 : 0 ≤ x4 ∧ x4 < 4294967296) (h5 : 0 ≤ x5 ∧ x5 < 4294967296) (h6 : 0 ≤ x6 ∧ x6 < 4294967296) (h7 : 0 ≤ x7 ∧ x7 < 4294967296) (w : World) (hb : Blk w b t #[Value.int .u32 x0, .int .u32 x1, .int .u32 x2, .int .u32 x3, .int .u32 x4, .int .u32 x5, .int .u32 x6, .int .u32 x7]) :
    Calls Try.prog 105 #[.pointer (some ⟨b, 4, none⟩), .pointer (some ⟨b, 1, none⟩), .pointer (some ⟨b, 6, none⟩), .pointer (some ⟨b, 3, none⟩)] w fun e w' => e = .returned (.tuple #[]) ∧ w.grownBy w' (some b) ∧ Blk w' b t #[Value.int .u32 x0, .int .u32 (qb x4 x1 x6 x3), .int .u32 x2, .int .u32 (qd x4 x1 x6 x3), .int .u32 (qa x4 x1 x6 x3), .int .u32 x5, .int .u32 (qc x4 x1 x6 x3), .int .u32 x7] := by
  have g := World.grownBy.refl w (some b)
  go_enter Try.func105, Try.ntmps105
  go_wp2
  have k1 := (hb.drew).cell (k := 4) (v := .int .u32 x4) rfl
  have k2 := (hb.drew).cell (k := 1) (v := .int .u32 x1) rfl
  have k3 := (hb.drew).frozen 4
  have e1 : IntKind.u32.wrap (x4 + x1) = (q1a x4 x1 x6 x3) := by rw [IntKind.wrap_u32]; unfold q1a addW; rfl
  have := h1.1
  have := h1.2
  have := h4.1
  have := h4.2
  refine wp_region_still_tail 8 (by kernel_rfl) (by kernel_rfl) ?_
  simp only [List.take_succ_cons, List.take_zero, List.drop_succ_cons, List.drop_zero]
  change wpStill _ _ (World.drew _) _ _ _
  still_step; still_step; still_step; still_step; still_step; still_step; still_step; still_step
  refine wpStill_nil ?_
  change wpList _ _ _ _ _ (World.drew _)
  clear e1
  go_wp2
  have hbx := (hb.set 4 (.int .u32 (q1a x4 x1 x6 x3)) (c' := #[Value.int .u32 x0, .int .u32 x1, .int .u32 x2, .int .u32 x3, .int .u32 ((q1a x4 x1 x6 x3)), .int .u32 x5, .int .u32 x6, .int .u32 x7]) rfl).drew
  have gx := zva (zn (p := ⟨b, 4, none⟩) g rfl (.int .u32 (q1a x4 x1 x6 x3)))
  generalize World.drew (World.setCell _ _ _) = w1 at *
  clear k1 k2 k3 hb g
  have k1 := (hbx.drew).cell (k := 3) (v := .int .u32 x3) rfl
  have k2 := (hbx.drew).cell (k := 4) (v := .int .u32 (q1a x4 x1 x6 x3)) rfl
  have k3 := (hbx.drew).frozen 3
  have e1 : bits .xor .u32 x3 (q1a x4 x1 x6 x3) = xorW x3 (q1a x4 x1 x6 x3) := by unfold xorW; rfl
  have := (q1a_bd x4 x1 x6 x3).1
  have := (q1a_bd x4 x1 x6 x3).2
  have := h3.1
  have := h3.2
  refine wp_region_still_tail 10 (by kernel_rfl) (by kernel_rfl) ?_
  simp only [List.take_succ_cons, List.take_zero, List.drop_succ_cons, List.drop_zero]
  change wpStill _ _ (World.drew _) _ _ _
  still_step; still_step; still_step; still_step; still_step; still_step; still_step; still_step
  still_call (rot16 _ (zpa _ _).1 (zpa _ _).2 _)
  still_step
  refine wpStill_nil ?_
  change wpList _ _ _ _ _ (World.drew _)
  rw [show rotW 65536 (xorW x3 (q1a x4 x1 x6 x3)) = (q1d x4 x1 x6 x3) by unfold q1d; rfl]
  clear e1
  go_wp2
  have hbxx := (hbx.set 3 (.int .u32 (q1d x4 x1 x6 x3)) (c' := #[Value.int .u32 x0, .int .u32 x1, .int .u32 x2, .int .u32 ((q1d x4 x1 x6 x3)), .int .u32 ((q1a x4 x1 x6 x3)), .int .u32 x5, .int .u32 x6, .int .u32 x7]) rfl).drew
  have gxx := zva (zn (p := ⟨b, 3, none⟩) gx rfl (.int .u32 (q1d x4 x1 x6 x3)))
  generalize World.drew (World.setCell _ _ _) = w2 at *
  clear k1 k2 k3 hbx gx
  have k1 := (hbxx.drew).cell (k := 6) (v := .int .u32 x6) rfl
  have k2 := (hbxx.drew).cell (k := 3) (v := .int .u32 (q1d x4 x1 x6 x3)) rfl
  have k3 := (hbxx.drew).frozen 6
  have e1 : IntKind.u32.wrap (x6 + (q1d x4 x1 x6 x3)) = (q1c x4 x1 x6 x3) := by rw [IntKind.wrap_u32]; unfold q1c addW; rfl
  have := (q1d_bd x4 x1 x6 x3).1
  have := (q1d_bd x4 x1 x6 x3).2
  have := h6.1
  have := h6.2
  refine wp_region_still_tail 8 (by kernel_rfl) (by kernel_rfl) ?_
  simp only [List.take_succ_cons, List.take_zero, List.drop_succ_cons, List.drop_zero]
  change wpStill _ _ (World.drew _) _ _ _
  still_step; still_step; still_step; still_step; still_step; still_step; still_step; still_step
  refine wpStill_nil ?_
  change wpList _ _ _ _ _ (World.drew _)
  clear e1
  go_wp2
  have hbxxx := (hbxx.set 6 (.int .u32 (q1c x4 x1 x6 x3)) (c' := #[Value.int .u32 x0, .int .u32 x1, .int .u32 x2, .int .u32 ((q1d x4 x1 x6 x3)), .int .u32 ((q1a x4 x1 x6 x3)), .int .u32 x5, .int .u32 ((q1c x4 x1 x6 x3)), .int .u32 x7]) rfl).drew
  have gxxx := zva (zn (p := ⟨b, 6, none⟩) gxx rfl (.int .u32 (q1c x4 x1 x6 x3)))
  generalize World.drew (World.setCell _ _ _) = w3 at *
  clear k1 k2 k3 hbxx gxx
  have k1 := (hbxxx.drew).cell (k := 1) (v := .int .u32 x1) rfl
  have k2 := (hbxxx.drew).cell (k := 6) (v := .int .u32 (q1c x4 x1 x6 x3)) rfl
  have k3 := (hbxxx.drew).frozen 1
  have e1 : bits .xor .u32 x1 (q1c x4 x1 x6 x3) = xorW x1 (q1c x4 x1 x6 x3) := by unfold xorW; rfl
  have := (q1c_bd x4 x1 x6 x3).1
  have := (q1c_bd x4 x1 x6 x3).2
  have := h1.1
  have := h1.2
  refine wp_region_still_tail 10 (by kernel_rfl) (by kernel_rfl) ?_
  simp only [List.take_succ_cons, List.take_zero, List.drop_succ_cons, List.drop_zero]
  change wpStill _ _ (World.drew _) _ _ _
  still_step; still_step; still_step; still_step; still_step; still_step; still_step; still_step
  still_call (rot12 _ (zpa _ _).1 (zpa _ _).2 _)
  still_step
  refine wpStill_nil ?_
  change wpList _ _ _ _ _ (World.drew _)
  rw [show rotW 4096 (xorW x1 (q1c x4 x1 x6 x3)) = (q1b x4 x1 x6 x3) by unfold q1b; rfl]
  clear e1
  go_wp2
  have hbxxxx := (hbxxx.set 1 (.int .u32 (q1b x4 x1 x6 x3)) (c' := #[Value.int .u32 x0, .int .u32 ((q1b x4 x1 x6 x3)), .int .u32 x2, .int .u32 ((q1d x4 x1 x6 x3)), .int .u32 ((q1a x4 x1 x6 x3)), .int .u32 x5, .int .u32 ((q1c x4 x1 x6 x3)), .int .u32 x7]) rfl).drew
  have gxxxx := zva (zn (p := ⟨b, 1, none⟩) gxxx rfl (.int .u32 (q1b x4 x1 x6 x3)))
  generalize World.drew (World.setCell _ _ _) = w4 at *
  clear k1 k2 k3 hbxxx gxxx
  have k1 := (hbxxxx.drew).cell (k := 4) (v := .int .u32 (q1a x4 x1 x6 x3)) rfl
  have k2 := (hbxxxx.drew).cell (k := 1) (v := .int .u32 (q1b x4 x1 x6 x3)) rfl
  have k3 := (hbxxxx.drew).frozen 4
  have e1 : IntKind.u32.wrap ((q1a x4 x1 x6 x3) + (q1b x4 x1 x6 x3)) = (qa x4 x1 x6 x3) := by rw [IntKind.wrap_u32]; unfold qa addW; rfl
  have := (q1a_bd x4 x1 x6 x3).1
  have := (q1a_bd x4 x1 x6 x3).2
  have := (q1b_bd x4 x1 x6 x3).1
  have := (q1b_bd x4 x1 x6 x3).2
  refine wp_region_still_tail 8 (by kernel_rfl) (by kernel_rfl) ?_
  simp only [List.take_succ_cons, List.take_zero, List.drop_succ_cons, List.drop_zero]
  change wpStill _ _ (World.drew _) _ _ _
  still_step; still_step; still_step; still_step; still_step; still_step; still_step; still_step
  refine wpStill_nil ?_
  change wpList _ _ _ _ _ (World.drew _)
  clear e1
  go_wp2
  have hbxxxxx := (hbxxxx.set 4 (.int .u32 (qa x4 x1 x6 x3)) (c' := #[Value.int .u32 x0, .int .u32 ((q1b x4 x1 x6 x3)), .int .u32 x2, .int .u32 ((q1d x4 x1 x6 x3)), .int .u32 ((qa x4 x1 x6 x3)), .int .u32 x5, .int .u32 ((q1c x4 x1 x6 x3)), .int .u32 x7]) rfl).drew
  have gxxxxx := zva (zn (p := ⟨b, 4, none⟩) gxxxx rfl (.int .u32 (qa x4 x1 x6 x3)))
  generalize World.drew (World.setCell _ _ _) = w5 at *
  clear k1 k2 k3 hbxxxx gxxxx
  have k1 := (hbxxxxx.drew).cell (k := 3) (v := .int .u32 (q1d x4 x1 x6 x3)) rfl
  have k2 := (hbxxxxx.drew).cell (k := 4) (v := .int .u32 (qa x4 x1 x6 x3)) rfl
  have k3 := (hbxxxxx.drew).frozen 3
  have e1 : bits .xor .u32 (q1d x4 x1 x6 x3) (qa x4 x1 x6 x3) = xorW (q1d x4 x1 x6 x3) (qa x4 x1 x6 x3) := by unfold xorW; rfl
  have := (q1d_bd x4 x1 x6 x3).1
  have := (q1d_bd x4 x1 x6 x3).2
  have := (qa_bd x4 x1 x6 x3).1
  have := (qa_bd x4 x1 x6 x3).2
  refine wp_region_still_tail 10 (by kernel_rfl) (by kernel_rfl) ?_
  simp only [List.take_succ_cons, List.take_zero, List.drop_succ_cons, List.drop_zero]
  change wpStill _ _ (World.drew _) _ _ _
  still_step; still_step; still_step; still_step; still_step; still_step; still_step; still_step
  still_call (rot8 _ (zpa _ _).1 (zpa _ _).2 _)
  still_step
  refine wpStill_nil ?_
  change wpList _ _ _ _ _ (World.drew _)
  rw [show rotW 256 (xorW (q1d x4 x1 x6 x3) (qa x4 x1 x6 x3)) = (qd x4 x1 x6 x3) by unfold qd; rfl]
  clear e1
  go_wp2
  have hbxxxxxx := (hbxxxxx.set 3 (.int .u32 (qd x4 x1 x6 x3)) (c' := #[Value.int .u32 x0, .int .u32 ((q1b x4 x1 x6 x3)), .int .u32 x2, .int .u32 ((qd x4 x1 x6 x3)), .int .u32 ((qa x4 x1 x6 x3)), .int .u32 x5, .int .u32 ((q1c x4 x1 x6 x3)), .int .u32 x7]) rfl).drew
  have gxxxxxx := zva (zn (p := ⟨b, 3, none⟩) gxxxxx rfl (.int .u32 (qd x4 x1 x6 x3)))
  generalize World.drew (World.setCell _ _ _) = w6 at *
  clear k1 k2 k3 hbxxxxx gxxxxx
  have k1 := (hbxxxxxx.drew).cell (k := 6) (v := .int .u32 (q1c x4 x1 x6 x3)) rfl
  have k2 := (hbxxxxxx.drew).cell (k := 3) (v := .int .u32 (qd x4 x1 x6 x3)) rfl
  have k3 := (hbxxxxxx.drew).frozen 6
  have e1 : IntKind.u32.wrap ((q1c x4 x1 x6 x3) + (qd x4 x1 x6 x3)) = (qc x4 x1 x6 x3) := by rw [IntKind.wrap_u32]; unfold qc addW; rfl
  have := (q1c_bd x4 x1 x6 x3).1
  have := (q1c_bd x4 x1 x6 x3).2
  have := (qd_bd x4 x1 x6 x3).1
  have := (qd_bd x4 x1 x6 x3).2
  refine wp_region_still_tail 8 (by kernel_rfl) (by kernel_rfl) ?_
  simp only [List.take_succ_cons, List.take_zero, List.drop_succ_cons, List.drop_zero]
  change wpStill _ _ (World.drew _) _ _ _
  still_step; still_step; still_step; still_step; still_step; still_step; still_step; still_step
  refine wpStill_nil ?_
  change wpList _ _ _ _ _ (World.drew _)
  clear e1
  go_wp2
  have hbxxxxxxx := (hbxxxxxx.set 6 (.int .u32 (qc x4 x1 x6 x3)) (c' := #[Value.int .u32 x0, .int .u32 ((q1b x4 x1 x6 x3)), .int .u32 x2, .int .u32 ((qd x4 x1 x6 x3)), .int .u32 ((qa x4 x1 x6 x3)), .int .u32 x5, .int .u32 ((qc x4 x1 x6 x3)), .int .u32 x7]) rfl).drew
  have gxxxxxxx := zva (zn (p := ⟨b, 6, none⟩) gxxxxxx rfl (.int .u32 (qc x4 x1 x6 x3)))
  generalize World.drew (World.setCell _ _ _) = w7 at *
  clear k1 k2 k3 hbxxxxxx gxxxxxx
  have k1 := (hbxxxxxxx.drew).cell (k := 1) (v := .int .u32 (q1b x4 x1 x6 x3)) rfl
  have k2 := (hbxxxxxxx.drew).cell (k := 6) (v := .int .u32 (qc x4 x1 x6 x3)) rfl
  have k3 := (hbxxxxxxx.drew).frozen 1
  have e1 : bits .xor .u32 (q1b x4 x1 x6 x3) (qc x4 x1 x6 x3) = xorW (q1b x4 x1 x6 x3) (qc x4 x1 x6 x3) := by unfold xorW; rfl
  have := (q1b_bd x4 x1 x6 x3).1
  have := (q1b_bd x4 x1 x6 x3).2
  have := (qc_bd x4 x1 x6 x3).1
  have := (qc_bd x4 x1 x6 x3).2
  refine wp_region_still_tail 10 (by kernel_rfl) (by kernel_rfl) ?_
  simp only [List.take_succ_cons, List.take_zero, List.drop_succ_cons, List.drop_zero]
  change wpStill _ _ (World.drew _) _ _ _
  still_step; still_step; still_step; still_step; still_step; still_step; still_step; still_step
  still_call (rot7 _ (zpa _ _).1 (zpa _ _).2 _)
  still_step
  refine wpStill_nil ?_
  change wpList _ _ _ _ _ (World.drew _)
  rw [show rotW 128 (xorW (q1b x4 x1 x6 x3) (qc x4 x1 x6 x3)) = (qb x4 x1 x6 x3) by unfold qb; rfl]
  clear e1
  go_wp2
  have hbxxxxxxxx := (hbxxxxxxx.set 1 (.int .u32 (qb x4 x1 x6 x3)) (c' := #[Value.int .u32 x0, .int .u32 ((qb x4 x1 x6 x3)), .int .u32 x2, .int .u32 ((qd x4 x1 x6 x3)), .int .u32 ((qa x4 x1 x6 x3)), .int .u32 x5, .int .u32 ((qc x4 x1 x6 x3)), .int .u32 x7]) rfl).drew
  have gxxxxxxxx := zva (zn (p := ⟨b, 1, none⟩) gxxxxxxx rfl (.int .u32 (qb x4 x1 x6 x3)))
  generalize World.drew (World.setCell _ _ _) = w8 at *
  clear k1 k2 k3 hbxxxxxxx gxxxxxxx
  exact ⟨rfl, .tuple #[], (by kernel_rfl), rfl, gxxxxxxxx, hbxxxxxxxx⟩
end Go.Proofs.Ytcfepoopkfhojaa
namespace Go.Proofs.Ytcfepoopkfhojaa
open Go.ChangeShapes Go.WideShapes Go.ChangeAt Go.RowKit
section
variable {P : Program}
end
structure W8 where
  (x0 x1 x2 x3 x4 x5 x6 x7 : Int)
def W8.ok (s : W8) : Prop := (0 ≤ s.x0 ∧ s.x0 < 4294967296) ∧ (0 ≤ s.x1 ∧ s.x1 < 4294967296) ∧ (0 ≤ s.x2 ∧ s.x2 < 4294967296) ∧ (0 ≤ s.x3 ∧ s.x3 < 4294967296) ∧ (0 ≤ s.x4 ∧ s.x4 < 4294967296) ∧ (0 ≤ s.x5 ∧ s.x5 < 4294967296) ∧ (0 ≤ s.x6 ∧ s.x6 < 4294967296) ∧ (0 ≤ s.x7 ∧ s.x7 < 4294967296)
def arrW (s : W8) : Array Value := #[Value.int .u32 s.x0, .int .u32 s.x1, .int .u32 s.x2, .int .u32 s.x3, .int .u32 s.x4, .int .u32 s.x5, .int .u32 s.x6, .int .u32 s.x7]
theorem arrW_one (s : W8) : (arrW s).all (·.oneCell') = true := by simp [arrW, Value.oneCell']
theorem size8 : (Try.prog.info? 27).map (·.size) = some 8 := by kernel_rfl
theorem sizeW (s : W8) : (Try.prog.info? 27).map (·.size) = some (arrW s).size := size8
def W8.r (s : W8) (k : Nat) : W8 := { s with x0 := xorW s.x0 ((k : Int) + 1) }
theorem ok_r {s : W8} (h : s.ok) (k : Nat) : (s.r k).ok := by
  obtain ⟨h0, h1, h2, h3, h4, h5, h6, h7⟩ := h
  exact ⟨zpa _ _, h1, h2, h3, h4, h5, h6, h7⟩
def W8.p0 (s : W8) : W8 := { s with x0 := qa s.x0 s.x1 s.x2 s.x3, x1 := qb s.x0 s.x1 s.x2 s.x3, x2 := qc s.x0 s.x1 s.x2 s.x3, x3 := qd s.x0 s.x1 s.x2 s.x3 }
theorem ok_p0 {s : W8} (h : s.ok) : s.p0.ok := by
  obtain ⟨h0, h1, h2, h3, h4, h5, h6, h7⟩ := h
  exact ⟨qa_bd _ _ _ _, qb_bd _ _ _ _, qc_bd _ _ _ _, qd_bd _ _ _ _, h4, h5, h6, h7⟩
theorem quarter_w0 (s : W8) (h : s.ok) (b : Nat) (t : TypeId) (w : World) (hb : Blk w b t (arrW s)) :
    Calls Try.prog 105 #[.pointer (some ⟨b, 0, none⟩), .pointer (some ⟨b, 1, none⟩), .pointer (some ⟨b, 2, none⟩), .pointer (some ⟨b, 3, none⟩)] w fun e w' => e = .returned (.tuple #[]) ∧ w.grownBy w' (some b) ∧ Blk w' b t (arrW s.p0) := by
  obtain ⟨h0, h1, h2, h3, h4, h5, h6, h7⟩ := h
  exact quarter_p0 b t _ _ _ _ _ _ _ _ h0 h1 h2 h3 h4 h5 h6 h7 w hb
def W8.p1 (s : W8) : W8 := { s with x4 := qa s.x4 s.x5 s.x6 s.x7, x5 := qb s.x4 s.x5 s.x6 s.x7, x6 := qc s.x4 s.x5 s.x6 s.x7, x7 := qd s.x4 s.x5 s.x6 s.x7 }
theorem ok_p1 {s : W8} (h : s.ok) : s.p1.ok := by
  obtain ⟨h0, h1, h2, h3, h4, h5, h6, h7⟩ := h
  exact ⟨h0, h1, h2, h3, qa_bd _ _ _ _, qb_bd _ _ _ _, qc_bd _ _ _ _, qd_bd _ _ _ _⟩
theorem quarter_w1 (s : W8) (h : s.ok) (b : Nat) (t : TypeId) (w : World) (hb : Blk w b t (arrW s)) :
    Calls Try.prog 105 #[.pointer (some ⟨b, 4, none⟩), .pointer (some ⟨b, 5, none⟩), .pointer (some ⟨b, 6, none⟩), .pointer (some ⟨b, 7, none⟩)] w fun e w' => e = .returned (.tuple #[]) ∧ w.grownBy w' (some b) ∧ Blk w' b t (arrW s.p1) := by
  obtain ⟨h0, h1, h2, h3, h4, h5, h6, h7⟩ := h
  exact quarter_p1 b t _ _ _ _ _ _ _ _ h0 h1 h2 h3 h4 h5 h6 h7 w hb
def W8.p2 (s : W8) : W8 := { s with x0 := qa s.x0 s.x5 s.x2 s.x7, x5 := qb s.x0 s.x5 s.x2 s.x7, x2 := qc s.x0 s.x5 s.x2 s.x7, x7 := qd s.x0 s.x5 s.x2 s.x7 }
theorem ok_p2 {s : W8} (h : s.ok) : s.p2.ok := by
  obtain ⟨h0, h1, h2, h3, h4, h5, h6, h7⟩ := h
  exact ⟨qa_bd _ _ _ _, h1, qc_bd _ _ _ _, h3, h4, qb_bd _ _ _ _, h6, qd_bd _ _ _ _⟩
theorem quarter_w2 (s : W8) (h : s.ok) (b : Nat) (t : TypeId) (w : World) (hb : Blk w b t (arrW s)) :
    Calls Try.prog 105 #[.pointer (some ⟨b, 0, none⟩), .pointer (some ⟨b, 5, none⟩), .pointer (some ⟨b, 2, none⟩), .pointer (some ⟨b, 7, none⟩)] w fun e w' => e = .returned (.tuple #[]) ∧ w.grownBy w' (some b) ∧ Blk w' b t (arrW s.p2) := by
  obtain ⟨h0, h1, h2, h3, h4, h5, h6, h7⟩ := h
  exact quarter_p2 b t _ _ _ _ _ _ _ _ h0 h1 h2 h3 h4 h5 h6 h7 w hb
def W8.p3 (s : W8) : W8 := { s with x4 := qa s.x4 s.x1 s.x6 s.x3, x1 := qb s.x4 s.x1 s.x6 s.x3, x6 := qc s.x4 s.x1 s.x6 s.x3, x3 := qd s.x4 s.x1 s.x6 s.x3 }
theorem ok_p3 {s : W8} (h : s.ok) : s.p3.ok := by
  obtain ⟨h0, h1, h2, h3, h4, h5, h6, h7⟩ := h
  exact ⟨h0, qb_bd _ _ _ _, h2, qd_bd _ _ _ _, qa_bd _ _ _ _, h5, qc_bd _ _ _ _, h7⟩
theorem quarter_w3 (s : W8) (h : s.ok) (b : Nat) (t : TypeId) (w : World) (hb : Blk w b t (arrW s)) :
    Calls Try.prog 105 #[.pointer (some ⟨b, 4, none⟩), .pointer (some ⟨b, 1, none⟩), .pointer (some ⟨b, 6, none⟩), .pointer (some ⟨b, 3, none⟩)] w fun e w' => e = .returned (.tuple #[]) ∧ w.grownBy w' (some b) ∧ Blk w' b t (arrW s.p3) := by
  obtain ⟨h0, h1, h2, h3, h4, h5, h6, h7⟩ := h
  exact quarter_p3 b t _ _ _ _ _ _ _ _ h0 h1 h2 h3 h4 h5 h6 h7 w hb
def mixN : Nat → W8 → W8
  | 0, s => s
  | n + 1, s => ((((mixN n s).r n).p0).p1).p2.p3
def mixW (s : W8) : W8 := mixN 8 s
theorem ok_mixN {s : W8} (h : s.ok) : ∀ n, (mixN n s).ok
  | 0 => h
  | n + 1 => ok_p3 (ok_p2 (ok_p1 (ok_p0 (ok_r (ok_mixN h n) n))))
theorem ok_mixW {s : W8} (h : s.ok) : (mixW s).ok := ok_mixN h 8
theorem Blk.cell0 {w : World} {b : Nat} {t : TypeId} {s : W8} (h : Blk w b t (arrW s)) : w.cell? ⟨b, 0, none⟩ = some (.int .u32 s.x0) := h.cell rfl
theorem Blk.setr {w : World} {b : Nat} {t : TypeId} {s : W8} (h : Blk w b t (arrW s)) (k : Nat) : Blk (w.setCell ⟨b, 0, none⟩ (.int .u32 (s.r k).x0)) b t (arrW (s.r k)) := h.set 0 _ rfl
theorem mix_any (s : W8) (hs : s.ok) (w : World) :
    Calls Try.prog 102 #[.agg (arrW s)] w fun e w' => e = .returned (.agg (arrW (mixW s))) ∧ Below w.heap.size w w' := by
  have OK := hid (ok_mixN hs)
  clear hs
  go_enter Try.func102, Try.ntmps102
  go_wp2
  go_loopw [4] (fun u wr => ∃ k : Nat, k ≤ 8 ∧ u = .int .u32 k ∧ Below w.heap.size w wr ∧ Blk wr w.heap.size 27 (arrW (mixN k s)) ∧ Blk wr (w.heap.size + 1) 27 #[Value.int .u32 0, .int .u32 0, .int .u32 0, .int .u32 0, .int .u32 0, .int .u32 0, .int .u32 0, .int .u32 0]) (fun u _ => 8 - (intOf u).toNat)
  case atStart =>
    refine ⟨0, by omega, rfl, ((Below.refl _ _).alloc (Nat.le_refl _) _).alloc (by simp) _, (Blk.new w _ (arrW s)).alloc _, ?_⟩
    have := Blk.new (w.alloc (.cells (arrW s) 27)) 27 #[Value.int .u32 0, .int .u32 0, .int .u32 0, .int .u32 0, .int .u32 0, .int .u32 0, .int .u32 0, .int .u32 0]
    rw [World.size_alloc] at this
    exact this
  case round =>
    obtain ⟨k, hk, rfl, hB, hb, hz⟩ := hrel
    by_cases hlt : k < 8
    · have c0 := hb.cell0
      have f0 := hb.frozen 0
      have ok := OK.out k
      have o1 := ok.1.1
      have o2 := ok.1.2
      have OK' := hid ok
      clear ok
      have e1 : bits .xor .u32 (mixN k s).x0 ((k : Int) + 1) = ((mixN k s).r k).x0 := by unfold W8.r xorW; rfl
      go_wp2_with fail
      have b1 := hb.setr k
      have g1 := zn (p := ⟨w.heap.size, 0, none⟩) (World.grownBy.refl wr (some w.heap.size)) rfl (.int .u32 ((mixN k s).r k).x0)
      generalize World.setCell _ _ _ = v1 at *
      clear c0 f0 e1 o1 o2 hb
      refine (quarter_w0 _ (ok_r OK'.out k) _ _ _ b1).mono ?_
      rintro e v2 ⟨rfl, g2, b2⟩
      go_wp2_with fail
      refine (quarter_w1 _ (ok_p0 (ok_r OK'.out k)) _ _ _ b2).mono ?_
      rintro e v3 ⟨rfl, g3, b3⟩
      go_wp2_with fail
      refine (quarter_w2 _ (ok_p1 (ok_p0 (ok_r OK'.out k))) _ _ _ b3).mono ?_
      rintro e v4 ⟨rfl, g4, b4⟩
      go_wp2_with fail
      refine (quarter_w3 _ (ok_p2 (ok_p1 (ok_p0 (ok_r OK'.out k)))) _ _ _ b4).mono ?_
      rintro e v5 ⟨rfl, g5, b5⟩
      go_wp2_with fail
      go_roundw
      case rel =>
        have n1 : some (w.heap.size + 1) ≠ some w.heap.size := by simp
        have B1 := ze hB g1 hB.size (Nat.le_refl _)
        have B2 := ze B1 g2 B1.size (Nat.le_refl _)
        have B3 := ze B2 g3 B2.size (Nat.le_refl _)
        have B4 := ze B3 g4 B3.size (Nat.le_refl _)
        exact ⟨k + 1, by omega, by go_num, ze B4 g5 B4.size (Nat.le_refl _), b5, ((((hz.grown g1 n1).grown g2 n1).grown g3 n1).grown g4 n1).grown g5 n1⟩
      case measure => simp [intOf]; omega
    · have : k = 8 := by omega
      subst this
      go_wp2_with (first | (refine zya rfl _ _ rfl _ rfl _ _ _ hb Try.underlying27 rfl (sizeW _) ?_) | (refine zaa rfl _ _ _ rfl _ rfl _ rfl (arrW_one _) _ hz rfl (sizeW _) ?_; intro v gv mv))
      exact bodyPost_ret (results_blk rfl rfl mv Try.underlying27 rfl (sizeW _)) rfl ⟨rfl, ze hB gv hB.size (by omega)⟩
end Go.Proofs.Ytcfepoopkfhojaa
/- A part of a block that is known whole (a field that is an array), loaded and stored. -/
namespace Go.Proofs.Ytcfepoopkfhojaa
open Go.ChangeShapes Go.WideShapes Go.ChangeAt Go.RowKit
section
variable {P : Program}
theorem wpList_load_sub {ops : Array Oper} {rest : List Oper} {o : Oper} {a : Act} {w : World} {Q : Exit → Act → World → Prop} (hw : Region.wanted o (yielded ops a.tmps) = true) (ty : TypeId) (x : Operand) (ho : o.op = .load ty x)
    (g k : Nat) (hx : a.eval x = .pointer (some ⟨g, k, none⟩)) (t : TypeId) (c : Array Value) (hg : Blk w g t c) (s : Array Value) (hs : ∀ (j : Nat) (v : Value), s[j]? = some v → c[k + j]? = some v) (d : TypeDesc) (hu : P.underlying ty = some d)
    (hd : (match d with | .struct _ | .array _ _ => true | _ => false) = true) (hi : (P.info? ty).map (·.size) = some s.size)
    (h : wpList P ops Q rest (a.put o.dst (.agg s)) w) : wpList P ops Q (o :: rest) a w :=
  zyb hw fun K hK => by
    unfold Oper.wp execOp
    simp only [ho, hx, Sem.run_bind, run_load_sub w ty g k t c s d hg hs hu hd hi, Result.andThen_ok, Sem.run_pure]
    exact hK _ _ h
theorem wpList_store_sub {ops : Array Oper} {rest : List Oper} {o : Oper} {a : Act} {w : World} {Q : Exit → Act → World → Prop} (hgd : o.guard = none) (ty : TypeId) (x y : Operand) (ho : o.op = .store ty x y)
    (g k : Nat) (hx : a.eval x = .pointer (some ⟨g, k, none⟩)) (s : Array Value) (hy : a.eval y = .agg s) (h1 : s.all (·.oneCell') = true) (t : TypeId) (c : Array Value) (hg : Blk w g t c) (hos : k + s.size ≤ c.size) (c' : Array Value)
    (hc' : (c.toList.take k ++ s.toList ++ c.toList.drop (k + s.size)).toArray = c') (hi : (P.info? ty).map (·.size) = some s.size)
    (h : ∀ w', w.grownBy w' (some g) → Blk w' g t c' → wpList P ops Q rest (a.put o.dst undef) w') : wpList P ops Q (o :: rest) a w :=
  wpList_plain hgd fun K hK => by
    unfold Oper.wp execOp
    simp only [ho, hx, hy, Sem.run_bind, run_store_sub w ty g k t c s c' hg hos h1 hc' hi, Result.andThen_ok, Sem.run_pure]
    exact hK _ _ (h _ (zeb _ _ _) (setRow_heap w g c c' t (0, 0) hg))
end
end Go.Proofs.Ytcfepoopkfhojaa
namespace Go.Proofs.Ytcfepoopkfhojaa
open Go.ChangeShapes Go.WideShapes Go.ChangeAt Go.RowKit
def zk (z : Nat → Int) : Array Value := #[Value.int .u8 (z 0), .int .u8 (z 1), .int .u8 (z 2), .int .u8 (z 3), .int .u8 (z 4), .int .u8 (z 5), .int .u8 (z 6), .int .u8 (z 7), .int .u8 (z 8), .int .u8 (z 9), .int .u8 (z 10), .int .u8 (z 11), .int .u8 (z 12), .int .u8 (z 13), .int .u8 (z 14), .int .u8 (z 15)]
def arrS (s : W8) (y : Nat → Int) (h : Int) : Array Value := #[Value.int .u32 s.x0, .int .u32 s.x1, .int .u32 s.x2, .int .u32 s.x3, .int .u32 s.x4, .int .u32 s.x5, .int .u32 s.x6, .int .u32 s.x7, .int .u8 (y 0), .int .u8 (y 1), .int .u8 (y 2), .int .u8 (y 3), .int .u8 (y 4), .int .u8 (y 5), .int .u8 (y 6), .int .u8 (y 7), .int .u8 (y 8), .int .u8 (y 9), .int .u8 (y 10), .int .u8 (y 11), .int .u8 (y 12), .int .u8 (y 13), .int .u8 (y 14), .int .u8 (y 15), .int .i64 h]
theorem zmb (x v : Int) : bits .xor .u32 x v = xorW x v := by unfold xorW; rfl
def W8.xat (s : W8) (i : Nat) (v : Int) : W8 := match i with
  | 0 => { s with x0 := xorW s.x0 v }
  | 1 => { s with x1 := xorW s.x1 v }
  | 2 => { s with x2 := xorW s.x2 v }
  | _ => { s with x3 := xorW s.x3 v }
def mulF (r : Nat) (v : Int) : Int := match r with | 0 => v | 1 => v * 256 | 2 => v * 65536 | _ => v * 16777216
def absN (z : Nat → Int) (s : W8) : Nat → W8
  | 0 => s
  | k + 1 => (absN z s k).xat (k / 4) (mulF (k % 4) (z k))
theorem ok_xat {s : W8} (h : s.ok) (i : Nat) (v : Int) : (s.xat i v).ok := by
  obtain ⟨h0, h1, h2, h3, h4, h5, h6, h7⟩ := h
  unfold W8.xat
  split
  · exact ⟨zpa _ _, h1, h2, h3, h4, h5, h6, h7⟩
  · exact ⟨h0, zpa _ _, h2, h3, h4, h5, h6, h7⟩
  · exact ⟨h0, h1, zpa _ _, h3, h4, h5, h6, h7⟩
  · exact ⟨h0, h1, h2, zpa _ _, h4, h5, h6, h7⟩
theorem ok_absN {z : Nat → Int} {s : W8} (h : s.ok) : ∀ k, (absN z s k).ok
  | 0 => h
  | k + 1 => ok_xat (ok_absN h k) _ _
def takeW (z : Nat → Int) (s : W8) : W8 := mixW (absN z s 16)
theorem ok_takeW {z : Nat → Int} {s : W8} (h : s.ok) : (takeW z s).ok := ok_mixW (ok_absN h 16)
theorem arrS_sub (s : W8) (y : Nat → Int) (h : Int) : ∀ (j : Nat) (v : Value), (arrW s)[j]? = some v → (arrS s y h)[0 + j]? = some v := by
  intro j v hv
  have hj : j < 8 := (Array.getElem?_eq_some_iff.1 hv).1
  have : j = 0 ∨ j = 1 ∨ j = 2 ∨ j = 3 ∨ j = 4 ∨ j = 5 ∨ j = 6 ∨ j = 7 := by omega
  rcases this with rfl | rfl | rfl | rfl | rfl | rfl | rfl | rfl <;> exact hv
theorem spgrown_trans' {a b c : World} {row : Option Nat} (h : a.grownBy b row) (k : b.grownBy c row) : a.grownBy c row :=
  ⟨k.os.trans h.os, k.tape.trans h.tape, k.output.trans h.output, Nat.le_trans h.size k.size, fun i hi hne => (k.block i (Nat.lt_of_lt_of_le hi h.size) hne).trans (h.block i hi hne)⟩
theorem grownBy_of_below {a b : World} (h : Below a.heap.size a b) (row : Option Nat) : a.grownBy b row := ⟨h.os, h.tape, h.output, h.size, fun i hi _ => h.block i hi⟩
theorem size16 : (Try.prog.info? 36).map (·.size) = some 16 := by kernel_rfl
theorem sptake_any (s : W8) (hs : s.ok) (y z : Nat → Int) (hz : ∀ k, 0 ≤ z k ∧ z k < 256) (h : Int) (b : Nat) (w : World) (hb : Blk w b 140 (arrS s y h)) :
    Calls Try.prog 101 #[.pointer (some ⟨b, 0, none⟩), .agg (zk z)] w fun e w' => e = .returned (.tuple #[]) ∧ w.grownBy w' (some b) ∧ Blk w' b 140 (arrS (takeW z s) y h) := by
  have OK := hid (ok_absN (z := z) hs)
  have HZ := hid hz
  clear hs hz
  have hl := hb.lt
  have n16 := Blk.new w 36 (zk z)
  have b1 := hb.alloc (.cells (zk z) 36)
  have g1 : w.grownBy (w.alloc (.cells (zk z) 36)) (some b) := World.grownBy_alloc w _ _
  go_enter Try.func101, Try.ntmps101
  go_wp2_with (refine zya rfl _ (.tmp 3) rfl _ rfl _ _ _ n16 Try.underlying36 rfl size16 ?_)
  generalize World.alloc _ _ = W at *
  clear n16 hb
  go_loopw [7] (fun i wr => ∃ k : Nat, k ≤ 16 ∧ i = .int .i64 k ∧ Blk wr b 140 (arrS (absN z s k) y h) ∧ w.grownBy wr (some b)) (fun i _ => 16 - (intOf i).toNat)
  case atStart => exact ⟨0, by omega, rfl, b1, g1⟩
  case round =>
    obtain ⟨k, hk, rfl, hb, hg⟩ := hrel
    clear b1 g1
    by_cases hlt : k < 16
    · obtain ⟨A, hA⟩ : ∃ A, A = absN z s k := ⟨_, rfl⟩
      have hS : absN z s (k + 1) = A.xat (k / 4) (mulF (k % 4) (z k)) := by rw [hA]; rfl
      have HS := hid hS
      rw [← hA] at hb
      clear hA hS
      have hkk : k = 0 ∨ k = 1 ∨ k = 2 ∨ k = 3 ∨ k = 4 ∨ k = 5 ∨ k = 6 ∨ k = 7 ∨ k = 8 ∨ k = 9 ∨ k = 10 ∨ k = 11 ∨ k = 12 ∨ k = 13 ∨ k = 14 ∨ k = 15 := by omega
      clear hlt hk
      rcases hkk with rfl | rfl | rfl | rfl | rfl | rfl | rfl | rfl | rfl | rfl | rfl | rfl | rfl | rfl | rfl | rfl
      · obtain ⟨z0, z1⟩ := HZ.out 0
        have k1 := (hb.drew).cell (k := 0) (v := .int .u32 A.x0) rfl
        have k3 := (hb.drew).frozen 0
        have hix : ∀ w, (Instr.index 36 (.agg (zk z)) (.int .i64 0)).run Try.prog w = .ok (.int .u8 (z 0)) w := fun w => by kernel_rfl
        have e0 := Go.IntWalk.u32_in (z 0) (by omega)
        have e1 := Go.IntWalk.u32_in (z 0 * 1) (by omega)
        have e2 : bits .xor .u32 A.x0 (z 0) = (A.xat (0 / 4) (mulF (0 % 4) (z 0))).x0 := zmb _ _
        go_wp2
        clear hix
        have hw0 : IntKind.i64.wrap 0 = 0 := by decide
        have hw1 : IntKind.i64.wrap 1 = 1 := by decide
        have hw2 : IntKind.i64.wrap 2 = 2 := by decide
        have hw3 : IntKind.i64.wrap 3 = 3 := by decide
        have hw8 : IntKind.i64.wrap 8 = 8 := by decide
        have hw16 : IntKind.i64.wrap 16 = 16 := by decide
        have hw24 : IntKind.i64.wrap 24 = 24 := by decide
        refine wp_region_still_tail 17 (by kernel_rfl) (by kernel_rfl) ?_
        simp only [List.take_succ_cons, List.take_zero, List.drop_succ_cons, List.drop_zero]
        change wpStill _ _ (World.drew _) _ _ _
        repeat still_step
        refine wpStill_nil ?_
        change wpList _ _ _ _ _ (World.drew _)
        clear hw0 hw1 hw2 hw3 hw8 hw16 hw24
        go_wp2
        have hb2 := (hb.set 0 (.int .u32 (A.xat (0 / 4) (mulF (0 % 4) (z 0))).x0) (c' := arrS (A.xat (0 / 4) (mulF (0 % 4) (z 0))) y h) rfl).drew
        have hg2 := zva (zn (p := ⟨b, 0, none⟩) hg rfl (.int .u32 (A.xat (0 / 4) (mulF (0 % 4) (z 0))).x0))
        go_roundw
        case rel => exact ⟨1, by omega, rfl, by rw [HS.out]; exact hb2, hg2⟩
        case measure => simp [intOf]
      · obtain ⟨z0, z1⟩ := HZ.out 1
        have k1 := (hb.drew).cell (k := 0) (v := .int .u32 A.x0) rfl
        have k3 := (hb.drew).frozen 0
        have hix : ∀ w, (Instr.index 36 (.agg (zk z)) (.int .i64 1)).run Try.prog w = .ok (.int .u8 (z 1)) w := fun w => by kernel_rfl
        have e0 := Go.IntWalk.u32_in (z 1) (by omega)
        have e1 := Go.IntWalk.u32_in (z 1 * 256) (by omega)
        have e2 : bits .xor .u32 A.x0 (z 1 * 256) = (A.xat (1 / 4) (mulF (1 % 4) (z 1))).x0 := zmb _ _
        go_wp2
        clear hix
        have hw0 : IntKind.i64.wrap 0 = 0 := by decide
        have hw1 : IntKind.i64.wrap 1 = 1 := by decide
        have hw2 : IntKind.i64.wrap 2 = 2 := by decide
        have hw3 : IntKind.i64.wrap 3 = 3 := by decide
        have hw8 : IntKind.i64.wrap 8 = 8 := by decide
        have hw16 : IntKind.i64.wrap 16 = 16 := by decide
        have hw24 : IntKind.i64.wrap 24 = 24 := by decide
        refine wp_region_still_tail 17 (by kernel_rfl) (by kernel_rfl) ?_
        simp only [List.take_succ_cons, List.take_zero, List.drop_succ_cons, List.drop_zero]
        change wpStill _ _ (World.drew _) _ _ _
        repeat still_step
        refine wpStill_nil ?_
        change wpList _ _ _ _ _ (World.drew _)
        clear hw0 hw1 hw2 hw3 hw8 hw16 hw24
        go_wp2
        have hb2 := (hb.set 0 (.int .u32 (A.xat (1 / 4) (mulF (1 % 4) (z 1))).x0) (c' := arrS (A.xat (1 / 4) (mulF (1 % 4) (z 1))) y h) rfl).drew
        have hg2 := zva (zn (p := ⟨b, 0, none⟩) hg rfl (.int .u32 (A.xat (1 / 4) (mulF (1 % 4) (z 1))).x0))
        go_roundw
        case rel => exact ⟨2, by omega, rfl, by rw [HS.out]; exact hb2, hg2⟩
        case measure => simp [intOf]
      · obtain ⟨z0, z1⟩ := HZ.out 2
        have k1 := (hb.drew).cell (k := 0) (v := .int .u32 A.x0) rfl
        have k3 := (hb.drew).frozen 0
        have hix : ∀ w, (Instr.index 36 (.agg (zk z)) (.int .i64 2)).run Try.prog w = .ok (.int .u8 (z 2)) w := fun w => by kernel_rfl
        have e0 := Go.IntWalk.u32_in (z 2) (by omega)
        have e1 := Go.IntWalk.u32_in (z 2 * 65536) (by omega)
        have e2 : bits .xor .u32 A.x0 (z 2 * 65536) = (A.xat (2 / 4) (mulF (2 % 4) (z 2))).x0 := zmb _ _
        go_wp2
        clear hix
        have hw0 : IntKind.i64.wrap 0 = 0 := by decide
        have hw1 : IntKind.i64.wrap 1 = 1 := by decide
        have hw2 : IntKind.i64.wrap 2 = 2 := by decide
        have hw3 : IntKind.i64.wrap 3 = 3 := by decide
        have hw8 : IntKind.i64.wrap 8 = 8 := by decide
        have hw16 : IntKind.i64.wrap 16 = 16 := by decide
        have hw24 : IntKind.i64.wrap 24 = 24 := by decide
        refine wp_region_still_tail 17 (by kernel_rfl) (by kernel_rfl) ?_
        simp only [List.take_succ_cons, List.take_zero, List.drop_succ_cons, List.drop_zero]
        change wpStill _ _ (World.drew _) _ _ _
        repeat still_step
        refine wpStill_nil ?_
        change wpList _ _ _ _ _ (World.drew _)
        clear hw0 hw1 hw2 hw3 hw8 hw16 hw24
        go_wp2
        have hb2 := (hb.set 0 (.int .u32 (A.xat (2 / 4) (mulF (2 % 4) (z 2))).x0) (c' := arrS (A.xat (2 / 4) (mulF (2 % 4) (z 2))) y h) rfl).drew
        have hg2 := zva (zn (p := ⟨b, 0, none⟩) hg rfl (.int .u32 (A.xat (2 / 4) (mulF (2 % 4) (z 2))).x0))
        go_roundw
        case rel => exact ⟨3, by omega, rfl, by rw [HS.out]; exact hb2, hg2⟩
        case measure => simp [intOf]
      · obtain ⟨z0, z1⟩ := HZ.out 3
        have k1 := (hb.drew).cell (k := 0) (v := .int .u32 A.x0) rfl
        have k3 := (hb.drew).frozen 0
        have hix : ∀ w, (Instr.index 36 (.agg (zk z)) (.int .i64 3)).run Try.prog w = .ok (.int .u8 (z 3)) w := fun w => by kernel_rfl
        have e0 := Go.IntWalk.u32_in (z 3) (by omega)
        have e1 := Go.IntWalk.u32_in (z 3 * 16777216) (by omega)
        have e2 : bits .xor .u32 A.x0 (z 3 * 16777216) = (A.xat (3 / 4) (mulF (3 % 4) (z 3))).x0 := zmb _ _
        go_wp2
        clear hix
        have hw0 : IntKind.i64.wrap 0 = 0 := by decide
        have hw1 : IntKind.i64.wrap 1 = 1 := by decide
        have hw2 : IntKind.i64.wrap 2 = 2 := by decide
        have hw3 : IntKind.i64.wrap 3 = 3 := by decide
        have hw8 : IntKind.i64.wrap 8 = 8 := by decide
        have hw16 : IntKind.i64.wrap 16 = 16 := by decide
        have hw24 : IntKind.i64.wrap 24 = 24 := by decide
        refine wp_region_still_tail 17 (by kernel_rfl) (by kernel_rfl) ?_
        simp only [List.take_succ_cons, List.take_zero, List.drop_succ_cons, List.drop_zero]
        change wpStill _ _ (World.drew _) _ _ _
        repeat still_step
        refine wpStill_nil ?_
        change wpList _ _ _ _ _ (World.drew _)
        clear hw0 hw1 hw2 hw3 hw8 hw16 hw24
        go_wp2
        have hb2 := (hb.set 0 (.int .u32 (A.xat (3 / 4) (mulF (3 % 4) (z 3))).x0) (c' := arrS (A.xat (3 / 4) (mulF (3 % 4) (z 3))) y h) rfl).drew
        have hg2 := zva (zn (p := ⟨b, 0, none⟩) hg rfl (.int .u32 (A.xat (3 / 4) (mulF (3 % 4) (z 3))).x0))
        go_roundw
        case rel => exact ⟨4, by omega, rfl, by rw [HS.out]; exact hb2, hg2⟩
        case measure => simp [intOf]
      · obtain ⟨z0, z1⟩ := HZ.out 4
        have k1 := (hb.drew).cell (k := 1) (v := .int .u32 A.x1) rfl
        have k3 := (hb.drew).frozen 1
        have hix : ∀ w, (Instr.index 36 (.agg (zk z)) (.int .i64 4)).run Try.prog w = .ok (.int .u8 (z 4)) w := fun w => by kernel_rfl
        have e0 := Go.IntWalk.u32_in (z 4) (by omega)
        have e1 := Go.IntWalk.u32_in (z 4 * 1) (by omega)
        have e2 : bits .xor .u32 A.x1 (z 4) = (A.xat (4 / 4) (mulF (4 % 4) (z 4))).x1 := zmb _ _
        go_wp2
        clear hix
        have hw0 : IntKind.i64.wrap 0 = 0 := by decide
        have hw1 : IntKind.i64.wrap 1 = 1 := by decide
        have hw2 : IntKind.i64.wrap 2 = 2 := by decide
        have hw3 : IntKind.i64.wrap 3 = 3 := by decide
        have hw8 : IntKind.i64.wrap 8 = 8 := by decide
        have hw16 : IntKind.i64.wrap 16 = 16 := by decide
        have hw24 : IntKind.i64.wrap 24 = 24 := by decide
        refine wp_region_still_tail 17 (by kernel_rfl) (by kernel_rfl) ?_
        simp only [List.take_succ_cons, List.take_zero, List.drop_succ_cons, List.drop_zero]
        change wpStill _ _ (World.drew _) _ _ _
        repeat still_step
        refine wpStill_nil ?_
        change wpList _ _ _ _ _ (World.drew _)
        clear hw0 hw1 hw2 hw3 hw8 hw16 hw24
        go_wp2
        have hb2 := (hb.set 1 (.int .u32 (A.xat (4 / 4) (mulF (4 % 4) (z 4))).x1) (c' := arrS (A.xat (4 / 4) (mulF (4 % 4) (z 4))) y h) rfl).drew
        have hg2 := zva (zn (p := ⟨b, 1, none⟩) hg rfl (.int .u32 (A.xat (4 / 4) (mulF (4 % 4) (z 4))).x1))
        go_roundw
        case rel => exact ⟨5, by omega, rfl, by rw [HS.out]; exact hb2, hg2⟩
        case measure => simp [intOf]
      · obtain ⟨z0, z1⟩ := HZ.out 5
        have k1 := (hb.drew).cell (k := 1) (v := .int .u32 A.x1) rfl
        have k3 := (hb.drew).frozen 1
        have hix : ∀ w, (Instr.index 36 (.agg (zk z)) (.int .i64 5)).run Try.prog w = .ok (.int .u8 (z 5)) w := fun w => by kernel_rfl
        have e0 := Go.IntWalk.u32_in (z 5) (by omega)
        have e1 := Go.IntWalk.u32_in (z 5 * 256) (by omega)
        have e2 : bits .xor .u32 A.x1 (z 5 * 256) = (A.xat (5 / 4) (mulF (5 % 4) (z 5))).x1 := zmb _ _
        go_wp2
        clear hix
        have hw0 : IntKind.i64.wrap 0 = 0 := by decide
        have hw1 : IntKind.i64.wrap 1 = 1 := by decide
        have hw2 : IntKind.i64.wrap 2 = 2 := by decide
        have hw3 : IntKind.i64.wrap 3 = 3 := by decide
        have hw8 : IntKind.i64.wrap 8 = 8 := by decide
        have hw16 : IntKind.i64.wrap 16 = 16 := by decide
        have hw24 : IntKind.i64.wrap 24 = 24 := by decide
        refine wp_region_still_tail 17 (by kernel_rfl) (by kernel_rfl) ?_
        simp only [List.take_succ_cons, List.take_zero, List.drop_succ_cons, List.drop_zero]
        change wpStill _ _ (World.drew _) _ _ _
        repeat still_step
        refine wpStill_nil ?_
        change wpList _ _ _ _ _ (World.drew _)
        clear hw0 hw1 hw2 hw3 hw8 hw16 hw24
        go_wp2
        have hb2 := (hb.set 1 (.int .u32 (A.xat (5 / 4) (mulF (5 % 4) (z 5))).x1) (c' := arrS (A.xat (5 / 4) (mulF (5 % 4) (z 5))) y h) rfl).drew
        have hg2 := zva (zn (p := ⟨b, 1, none⟩) hg rfl (.int .u32 (A.xat (5 / 4) (mulF (5 % 4) (z 5))).x1))
        go_roundw
        case rel => exact ⟨6, by omega, rfl, by rw [HS.out]; exact hb2, hg2⟩
        case measure => simp [intOf]
      · obtain ⟨z0, z1⟩ := HZ.out 6
        have k1 := (hb.drew).cell (k := 1) (v := .int .u32 A.x1) rfl
        have k3 := (hb.drew).frozen 1
        have hix : ∀ w, (Instr.index 36 (.agg (zk z)) (.int .i64 6)).run Try.prog w = .ok (.int .u8 (z 6)) w := fun w => by kernel_rfl
        have e0 := Go.IntWalk.u32_in (z 6) (by omega)
        have e1 := Go.IntWalk.u32_in (z 6 * 65536) (by omega)
        have e2 : bits .xor .u32 A.x1 (z 6 * 65536) = (A.xat (6 / 4) (mulF (6 % 4) (z 6))).x1 := zmb _ _
        go_wp2
        clear hix
        have hw0 : IntKind.i64.wrap 0 = 0 := by decide
        have hw1 : IntKind.i64.wrap 1 = 1 := by decide
        have hw2 : IntKind.i64.wrap 2 = 2 := by decide
        have hw3 : IntKind.i64.wrap 3 = 3 := by decide
        have hw8 : IntKind.i64.wrap 8 = 8 := by decide
        have hw16 : IntKind.i64.wrap 16 = 16 := by decide
        have hw24 : IntKind.i64.wrap 24 = 24 := by decide
        refine wp_region_still_tail 17 (by kernel_rfl) (by kernel_rfl) ?_
        simp only [List.take_succ_cons, List.take_zero, List.drop_succ_cons, List.drop_zero]
        change wpStill _ _ (World.drew _) _ _ _
        repeat still_step
        refine wpStill_nil ?_
        change wpList _ _ _ _ _ (World.drew _)
        clear hw0 hw1 hw2 hw3 hw8 hw16 hw24
        go_wp2
        have hb2 := (hb.set 1 (.int .u32 (A.xat (6 / 4) (mulF (6 % 4) (z 6))).x1) (c' := arrS (A.xat (6 / 4) (mulF (6 % 4) (z 6))) y h) rfl).drew
        have hg2 := zva (zn (p := ⟨b, 1, none⟩) hg rfl (.int .u32 (A.xat (6 / 4) (mulF (6 % 4) (z 6))).x1))
        go_roundw
        case rel => exact ⟨7, by omega, rfl, by rw [HS.out]; exact hb2, hg2⟩
        case measure => simp [intOf]
      · obtain ⟨z0, z1⟩ := HZ.out 7
        have k1 := (hb.drew).cell (k := 1) (v := .int .u32 A.x1) rfl
        have k3 := (hb.drew).frozen 1
        have hix : ∀ w, (Instr.index 36 (.agg (zk z)) (.int .i64 7)).run Try.prog w = .ok (.int .u8 (z 7)) w := fun w => by kernel_rfl
        have e0 := Go.IntWalk.u32_in (z 7) (by omega)
        have e1 := Go.IntWalk.u32_in (z 7 * 16777216) (by omega)
        have e2 : bits .xor .u32 A.x1 (z 7 * 16777216) = (A.xat (7 / 4) (mulF (7 % 4) (z 7))).x1 := zmb _ _
        go_wp2
        clear hix
        have hw0 : IntKind.i64.wrap 0 = 0 := by decide
        have hw1 : IntKind.i64.wrap 1 = 1 := by decide
        have hw2 : IntKind.i64.wrap 2 = 2 := by decide
        have hw3 : IntKind.i64.wrap 3 = 3 := by decide
        have hw8 : IntKind.i64.wrap 8 = 8 := by decide
        have hw16 : IntKind.i64.wrap 16 = 16 := by decide
        have hw24 : IntKind.i64.wrap 24 = 24 := by decide
        refine wp_region_still_tail 17 (by kernel_rfl) (by kernel_rfl) ?_
        simp only [List.take_succ_cons, List.take_zero, List.drop_succ_cons, List.drop_zero]
        change wpStill _ _ (World.drew _) _ _ _
        repeat still_step
        refine wpStill_nil ?_
        change wpList _ _ _ _ _ (World.drew _)
        clear hw0 hw1 hw2 hw3 hw8 hw16 hw24
        go_wp2
        have hb2 := (hb.set 1 (.int .u32 (A.xat (7 / 4) (mulF (7 % 4) (z 7))).x1) (c' := arrS (A.xat (7 / 4) (mulF (7 % 4) (z 7))) y h) rfl).drew
        have hg2 := zva (zn (p := ⟨b, 1, none⟩) hg rfl (.int .u32 (A.xat (7 / 4) (mulF (7 % 4) (z 7))).x1))
        go_roundw
        case rel => exact ⟨8, by omega, rfl, by rw [HS.out]; exact hb2, hg2⟩
        case measure => simp [intOf]
      · obtain ⟨z0, z1⟩ := HZ.out 8
        have k1 := (hb.drew).cell (k := 2) (v := .int .u32 A.x2) rfl
        have k3 := (hb.drew).frozen 2
        have hix : ∀ w, (Instr.index 36 (.agg (zk z)) (.int .i64 8)).run Try.prog w = .ok (.int .u8 (z 8)) w := fun w => by kernel_rfl
        have e0 := Go.IntWalk.u32_in (z 8) (by omega)
        have e1 := Go.IntWalk.u32_in (z 8 * 1) (by omega)
        have e2 : bits .xor .u32 A.x2 (z 8) = (A.xat (8 / 4) (mulF (8 % 4) (z 8))).x2 := zmb _ _
        go_wp2
        clear hix
        have hw0 : IntKind.i64.wrap 0 = 0 := by decide
        have hw1 : IntKind.i64.wrap 1 = 1 := by decide
        have hw2 : IntKind.i64.wrap 2 = 2 := by decide
        have hw3 : IntKind.i64.wrap 3 = 3 := by decide
        have hw8 : IntKind.i64.wrap 8 = 8 := by decide
        have hw16 : IntKind.i64.wrap 16 = 16 := by decide
        have hw24 : IntKind.i64.wrap 24 = 24 := by decide
        refine wp_region_still_tail 17 (by kernel_rfl) (by kernel_rfl) ?_
        simp only [List.take_succ_cons, List.take_zero, List.drop_succ_cons, List.drop_zero]
        change wpStill _ _ (World.drew _) _ _ _
        repeat still_step
        refine wpStill_nil ?_
        change wpList _ _ _ _ _ (World.drew _)
        clear hw0 hw1 hw2 hw3 hw8 hw16 hw24
        go_wp2
        have hb2 := (hb.set 2 (.int .u32 (A.xat (8 / 4) (mulF (8 % 4) (z 8))).x2) (c' := arrS (A.xat (8 / 4) (mulF (8 % 4) (z 8))) y h) rfl).drew
        have hg2 := zva (zn (p := ⟨b, 2, none⟩) hg rfl (.int .u32 (A.xat (8 / 4) (mulF (8 % 4) (z 8))).x2))
        go_roundw
        case rel => exact ⟨9, by omega, rfl, by rw [HS.out]; exact hb2, hg2⟩
        case measure => simp [intOf]
      · obtain ⟨z0, z1⟩ := HZ.out 9
        have k1 := (hb.drew).cell (k := 2) (v := .int .u32 A.x2) rfl
        have k3 := (hb.drew).frozen 2
        have hix : ∀ w, (Instr.index 36 (.agg (zk z)) (.int .i64 9)).run Try.prog w = .ok (.int .u8 (z 9)) w := fun w => by kernel_rfl
        have e0 := Go.IntWalk.u32_in (z 9) (by omega)
        have e1 := Go.IntWalk.u32_in (z 9 * 256) (by omega)
        have e2 : bits .xor .u32 A.x2 (z 9 * 256) = (A.xat (9 / 4) (mulF (9 % 4) (z 9))).x2 := zmb _ _
        go_wp2
        clear hix
        have hw0 : IntKind.i64.wrap 0 = 0 := by decide
        have hw1 : IntKind.i64.wrap 1 = 1 := by decide
        have hw2 : IntKind.i64.wrap 2 = 2 := by decide
        have hw3 : IntKind.i64.wrap 3 = 3 := by decide
        have hw8 : IntKind.i64.wrap 8 = 8 := by decide
        have hw16 : IntKind.i64.wrap 16 = 16 := by decide
        have hw24 : IntKind.i64.wrap 24 = 24 := by decide
        refine wp_region_still_tail 17 (by kernel_rfl) (by kernel_rfl) ?_
        simp only [List.take_succ_cons, List.take_zero, List.drop_succ_cons, List.drop_zero]
        change wpStill _ _ (World.drew _) _ _ _
        repeat still_step
        refine wpStill_nil ?_
        change wpList _ _ _ _ _ (World.drew _)
        clear hw0 hw1 hw2 hw3 hw8 hw16 hw24
        go_wp2
        have hb2 := (hb.set 2 (.int .u32 (A.xat (9 / 4) (mulF (9 % 4) (z 9))).x2) (c' := arrS (A.xat (9 / 4) (mulF (9 % 4) (z 9))) y h) rfl).drew
        have hg2 := zva (zn (p := ⟨b, 2, none⟩) hg rfl (.int .u32 (A.xat (9 / 4) (mulF (9 % 4) (z 9))).x2))
        go_roundw
        case rel => exact ⟨10, by omega, rfl, by rw [HS.out]; exact hb2, hg2⟩
        case measure => simp [intOf]
      · obtain ⟨z0, z1⟩ := HZ.out 10
        have k1 := (hb.drew).cell (k := 2) (v := .int .u32 A.x2) rfl
        have k3 := (hb.drew).frozen 2
        have hix : ∀ w, (Instr.index 36 (.agg (zk z)) (.int .i64 10)).run Try.prog w = .ok (.int .u8 (z 10)) w := fun w => by kernel_rfl
        have e0 := Go.IntWalk.u32_in (z 10) (by omega)
        have e1 := Go.IntWalk.u32_in (z 10 * 65536) (by omega)
        have e2 : bits .xor .u32 A.x2 (z 10 * 65536) = (A.xat (10 / 4) (mulF (10 % 4) (z 10))).x2 := zmb _ _
        go_wp2
        clear hix
        have hw0 : IntKind.i64.wrap 0 = 0 := by decide
        have hw1 : IntKind.i64.wrap 1 = 1 := by decide
        have hw2 : IntKind.i64.wrap 2 = 2 := by decide
        have hw3 : IntKind.i64.wrap 3 = 3 := by decide
        have hw8 : IntKind.i64.wrap 8 = 8 := by decide
        have hw16 : IntKind.i64.wrap 16 = 16 := by decide
        have hw24 : IntKind.i64.wrap 24 = 24 := by decide
        refine wp_region_still_tail 17 (by kernel_rfl) (by kernel_rfl) ?_
        simp only [List.take_succ_cons, List.take_zero, List.drop_succ_cons, List.drop_zero]
        change wpStill _ _ (World.drew _) _ _ _
        repeat still_step
        refine wpStill_nil ?_
        change wpList _ _ _ _ _ (World.drew _)
        clear hw0 hw1 hw2 hw3 hw8 hw16 hw24
        go_wp2
        have hb2 := (hb.set 2 (.int .u32 (A.xat (10 / 4) (mulF (10 % 4) (z 10))).x2) (c' := arrS (A.xat (10 / 4) (mulF (10 % 4) (z 10))) y h) rfl).drew
        have hg2 := zva (zn (p := ⟨b, 2, none⟩) hg rfl (.int .u32 (A.xat (10 / 4) (mulF (10 % 4) (z 10))).x2))
        go_roundw
        case rel => exact ⟨11, by omega, rfl, by rw [HS.out]; exact hb2, hg2⟩
        case measure => simp [intOf]
      · obtain ⟨z0, z1⟩ := HZ.out 11
        have k1 := (hb.drew).cell (k := 2) (v := .int .u32 A.x2) rfl
        have k3 := (hb.drew).frozen 2
        have hix : ∀ w, (Instr.index 36 (.agg (zk z)) (.int .i64 11)).run Try.prog w = .ok (.int .u8 (z 11)) w := fun w => by kernel_rfl
        have e0 := Go.IntWalk.u32_in (z 11) (by omega)
        have e1 := Go.IntWalk.u32_in (z 11 * 16777216) (by omega)
        have e2 : bits .xor .u32 A.x2 (z 11 * 16777216) = (A.xat (11 / 4) (mulF (11 % 4) (z 11))).x2 := zmb _ _
        go_wp2
        clear hix
        have hw0 : IntKind.i64.wrap 0 = 0 := by decide
        have hw1 : IntKind.i64.wrap 1 = 1 := by decide
        have hw2 : IntKind.i64.wrap 2 = 2 := by decide
        have hw3 : IntKind.i64.wrap 3 = 3 := by decide
        have hw8 : IntKind.i64.wrap 8 = 8 := by decide
        have hw16 : IntKind.i64.wrap 16 = 16 := by decide
        have hw24 : IntKind.i64.wrap 24 = 24 := by decide
        refine wp_region_still_tail 17 (by kernel_rfl) (by kernel_rfl) ?_
        simp only [List.take_succ_cons, List.take_zero, List.drop_succ_cons, List.drop_zero]
        change wpStill _ _ (World.drew _) _ _ _
        repeat still_step
        refine wpStill_nil ?_
        change wpList _ _ _ _ _ (World.drew _)
        clear hw0 hw1 hw2 hw3 hw8 hw16 hw24
        go_wp2
        have hb2 := (hb.set 2 (.int .u32 (A.xat (11 / 4) (mulF (11 % 4) (z 11))).x2) (c' := arrS (A.xat (11 / 4) (mulF (11 % 4) (z 11))) y h) rfl).drew
        have hg2 := zva (zn (p := ⟨b, 2, none⟩) hg rfl (.int .u32 (A.xat (11 / 4) (mulF (11 % 4) (z 11))).x2))
        go_roundw
        case rel => exact ⟨12, by omega, rfl, by rw [HS.out]; exact hb2, hg2⟩
        case measure => simp [intOf]
      · obtain ⟨z0, z1⟩ := HZ.out 12
        have k1 := (hb.drew).cell (k := 3) (v := .int .u32 A.x3) rfl
        have k3 := (hb.drew).frozen 3
        have hix : ∀ w, (Instr.index 36 (.agg (zk z)) (.int .i64 12)).run Try.prog w = .ok (.int .u8 (z 12)) w := fun w => by kernel_rfl
        have e0 := Go.IntWalk.u32_in (z 12) (by omega)
        have e1 := Go.IntWalk.u32_in (z 12 * 1) (by omega)
        have e2 : bits .xor .u32 A.x3 (z 12) = (A.xat (12 / 4) (mulF (12 % 4) (z 12))).x3 := zmb _ _
        go_wp2
        clear hix
        have hw0 : IntKind.i64.wrap 0 = 0 := by decide
        have hw1 : IntKind.i64.wrap 1 = 1 := by decide
        have hw2 : IntKind.i64.wrap 2 = 2 := by decide
        have hw3 : IntKind.i64.wrap 3 = 3 := by decide
        have hw8 : IntKind.i64.wrap 8 = 8 := by decide
        have hw16 : IntKind.i64.wrap 16 = 16 := by decide
        have hw24 : IntKind.i64.wrap 24 = 24 := by decide
        refine wp_region_still_tail 17 (by kernel_rfl) (by kernel_rfl) ?_
        simp only [List.take_succ_cons, List.take_zero, List.drop_succ_cons, List.drop_zero]
        change wpStill _ _ (World.drew _) _ _ _
        repeat still_step
        refine wpStill_nil ?_
        change wpList _ _ _ _ _ (World.drew _)
        clear hw0 hw1 hw2 hw3 hw8 hw16 hw24
        go_wp2
        have hb2 := (hb.set 3 (.int .u32 (A.xat (12 / 4) (mulF (12 % 4) (z 12))).x3) (c' := arrS (A.xat (12 / 4) (mulF (12 % 4) (z 12))) y h) rfl).drew
        have hg2 := zva (zn (p := ⟨b, 3, none⟩) hg rfl (.int .u32 (A.xat (12 / 4) (mulF (12 % 4) (z 12))).x3))
        go_roundw
        case rel => exact ⟨13, by omega, rfl, by rw [HS.out]; exact hb2, hg2⟩
        case measure => simp [intOf]
      · obtain ⟨z0, z1⟩ := HZ.out 13
        have k1 := (hb.drew).cell (k := 3) (v := .int .u32 A.x3) rfl
        have k3 := (hb.drew).frozen 3
        have hix : ∀ w, (Instr.index 36 (.agg (zk z)) (.int .i64 13)).run Try.prog w = .ok (.int .u8 (z 13)) w := fun w => by kernel_rfl
        have e0 := Go.IntWalk.u32_in (z 13) (by omega)
        have e1 := Go.IntWalk.u32_in (z 13 * 256) (by omega)
        have e2 : bits .xor .u32 A.x3 (z 13 * 256) = (A.xat (13 / 4) (mulF (13 % 4) (z 13))).x3 := zmb _ _
        go_wp2
        clear hix
        have hw0 : IntKind.i64.wrap 0 = 0 := by decide
        have hw1 : IntKind.i64.wrap 1 = 1 := by decide
        have hw2 : IntKind.i64.wrap 2 = 2 := by decide
        have hw3 : IntKind.i64.wrap 3 = 3 := by decide
        have hw8 : IntKind.i64.wrap 8 = 8 := by decide
        have hw16 : IntKind.i64.wrap 16 = 16 := by decide
        have hw24 : IntKind.i64.wrap 24 = 24 := by decide
        refine wp_region_still_tail 17 (by kernel_rfl) (by kernel_rfl) ?_
        simp only [List.take_succ_cons, List.take_zero, List.drop_succ_cons, List.drop_zero]
        change wpStill _ _ (World.drew _) _ _ _
        repeat still_step
        refine wpStill_nil ?_
        change wpList _ _ _ _ _ (World.drew _)
        clear hw0 hw1 hw2 hw3 hw8 hw16 hw24
        go_wp2
        have hb2 := (hb.set 3 (.int .u32 (A.xat (13 / 4) (mulF (13 % 4) (z 13))).x3) (c' := arrS (A.xat (13 / 4) (mulF (13 % 4) (z 13))) y h) rfl).drew
        have hg2 := zva (zn (p := ⟨b, 3, none⟩) hg rfl (.int .u32 (A.xat (13 / 4) (mulF (13 % 4) (z 13))).x3))
        go_roundw
        case rel => exact ⟨14, by omega, rfl, by rw [HS.out]; exact hb2, hg2⟩
        case measure => simp [intOf]
      · obtain ⟨z0, z1⟩ := HZ.out 14
        have k1 := (hb.drew).cell (k := 3) (v := .int .u32 A.x3) rfl
        have k3 := (hb.drew).frozen 3
        have hix : ∀ w, (Instr.index 36 (.agg (zk z)) (.int .i64 14)).run Try.prog w = .ok (.int .u8 (z 14)) w := fun w => by kernel_rfl
        have e0 := Go.IntWalk.u32_in (z 14) (by omega)
        have e1 := Go.IntWalk.u32_in (z 14 * 65536) (by omega)
        have e2 : bits .xor .u32 A.x3 (z 14 * 65536) = (A.xat (14 / 4) (mulF (14 % 4) (z 14))).x3 := zmb _ _
        go_wp2
        clear hix
        have hw0 : IntKind.i64.wrap 0 = 0 := by decide
        have hw1 : IntKind.i64.wrap 1 = 1 := by decide
        have hw2 : IntKind.i64.wrap 2 = 2 := by decide
        have hw3 : IntKind.i64.wrap 3 = 3 := by decide
        have hw8 : IntKind.i64.wrap 8 = 8 := by decide
        have hw16 : IntKind.i64.wrap 16 = 16 := by decide
        have hw24 : IntKind.i64.wrap 24 = 24 := by decide
        refine wp_region_still_tail 17 (by kernel_rfl) (by kernel_rfl) ?_
        simp only [List.take_succ_cons, List.take_zero, List.drop_succ_cons, List.drop_zero]
        change wpStill _ _ (World.drew _) _ _ _
        repeat still_step
        refine wpStill_nil ?_
        change wpList _ _ _ _ _ (World.drew _)
        clear hw0 hw1 hw2 hw3 hw8 hw16 hw24
        go_wp2
        have hb2 := (hb.set 3 (.int .u32 (A.xat (14 / 4) (mulF (14 % 4) (z 14))).x3) (c' := arrS (A.xat (14 / 4) (mulF (14 % 4) (z 14))) y h) rfl).drew
        have hg2 := zva (zn (p := ⟨b, 3, none⟩) hg rfl (.int .u32 (A.xat (14 / 4) (mulF (14 % 4) (z 14))).x3))
        go_roundw
        case rel => exact ⟨15, by omega, rfl, by rw [HS.out]; exact hb2, hg2⟩
        case measure => simp [intOf]
      · obtain ⟨z0, z1⟩ := HZ.out 15
        have k1 := (hb.drew).cell (k := 3) (v := .int .u32 A.x3) rfl
        have k3 := (hb.drew).frozen 3
        have hix : ∀ w, (Instr.index 36 (.agg (zk z)) (.int .i64 15)).run Try.prog w = .ok (.int .u8 (z 15)) w := fun w => by kernel_rfl
        have e0 := Go.IntWalk.u32_in (z 15) (by omega)
        have e1 := Go.IntWalk.u32_in (z 15 * 16777216) (by omega)
        have e2 : bits .xor .u32 A.x3 (z 15 * 16777216) = (A.xat (15 / 4) (mulF (15 % 4) (z 15))).x3 := zmb _ _
        go_wp2
        clear hix
        have hw0 : IntKind.i64.wrap 0 = 0 := by decide
        have hw1 : IntKind.i64.wrap 1 = 1 := by decide
        have hw2 : IntKind.i64.wrap 2 = 2 := by decide
        have hw3 : IntKind.i64.wrap 3 = 3 := by decide
        have hw8 : IntKind.i64.wrap 8 = 8 := by decide
        have hw16 : IntKind.i64.wrap 16 = 16 := by decide
        have hw24 : IntKind.i64.wrap 24 = 24 := by decide
        refine wp_region_still_tail 17 (by kernel_rfl) (by kernel_rfl) ?_
        simp only [List.take_succ_cons, List.take_zero, List.drop_succ_cons, List.drop_zero]
        change wpStill _ _ (World.drew _) _ _ _
        repeat still_step
        refine wpStill_nil ?_
        change wpList _ _ _ _ _ (World.drew _)
        clear hw0 hw1 hw2 hw3 hw8 hw16 hw24
        go_wp2
        have hb2 := (hb.set 3 (.int .u32 (A.xat (15 / 4) (mulF (15 % 4) (z 15))).x3) (c' := arrS (A.xat (15 / 4) (mulF (15 % 4) (z 15))) y h) rfl).drew
        have hg2 := zva (zn (p := ⟨b, 3, none⟩) hg rfl (.int .u32 (A.xat (15 / 4) (mulF (15 % 4) (z 15))).x3))
        go_roundw
        case rel => exact ⟨16, by omega, rfl, by rw [HS.out]; exact hb2, hg2⟩
        case measure => simp [intOf]
    · obtain rfl : k = 16 := by omega
      have ok := OK.out 16
      have OKK := hid ok
      clear ok
      go_wp2_with (refine wpList_load_sub rfl _ (.tmp 32) rfl _ _ rfl _ _ hb (arrW (absN z s 16)) (arrS_sub _ _ _) _ Try.underlying27 rfl (sizeW _) ?_)
      refine (mix_any _ OKK.out _).mono ?_
      rintro e v2 ⟨rfl, bM⟩
      have hb2 := hb.step bM
      have hgm := grownBy_of_below bM (some b)
      go_wp2_with (refine wpList_store_sub rfl _ (.tmp 36) _ rfl _ _ rfl (arrW (mixW (absN z s 16))) rfl (arrW_one _) _ _ hb2 (by simp [arrW, arrS]) (arrS (mixW (absN z s 16)) y h) rfl (sizeW _) ?_; intro v3 g3 b3)
      exact ⟨rfl, .tuple #[], (by kernel_rfl), rfl, spgrown_trans' (spgrown_trans' hg hgm) g3, b3⟩
end Go.Proofs.Ytcfepoopkfhojaa
namespace Go.Proofs.Ytcfepoopkfhojaa
open Go.ChangeShapes Go.WideShapes Go.ChangeAt Go.RowKit
def byt (n : Int) (j : Nat) : Int := n / 256 ^ (7 - j) % 256
theorem byt_bd (n : Int) (j : Nat) : 0 ≤ byt n j ∧ byt n j < 256 := by unfold byt; omega
theorem make8 (w : World) : (Instr.makeSlice 23 (.int .i64 8) (.int .i64 8)).run Try.prog w = .ok (.slice (some ⟨w.heap.size, 0, none⟩) 8 8) (w.alloc (.cells (madeCells #[.int .u8 0] 8) 5)) := by kernel_rfl
theorem eight_any (n : Int) (h0 : 0 ≤ n) (h1 : n < 9223372036854775808) (w : World) :
    Calls Try.prog 99 #[.int .i64 n] w fun e w' => e = .returned (.slice (some ⟨w.heap.size, 0, none⟩) 8 8) ∧ Below w.heap.size w w' ∧ w'.rowIs w.heap.size 5 8 (fun j => .int .u8 (byt n j)) := by
  have hm := make8
  have r0 := World.rowIs_made w (.int .u8 0) 8 5
  have gb := zma w (.cells (madeCells #[.int .u8 0] 8) 5)
  go_enter Try.func99, Try.ntmps99
  go_wp2
  clear hm
  generalize World.alloc _ _ = W at *
  go_loopw [8] (fun i wr => ∃ k : Nat, k ≤ 8 ∧ i = .int .i64 k ∧ wr.rowIs w.heap.size 5 8 (fun j => if 8 - k ≤ j then .int .u8 (byt n j) else .int .u8 0) ∧ Below w.heap.size w wr) (fun i _ => 8 - (intOf i).toNat)
  case atStart => exact ⟨0, by omega, rfl, r0.congr fun j hj => by rw [if_neg (by omega)], gb⟩
  case round =>
    obtain ⟨k, hk, rfl, hr, hB⟩ := hrel
    clear r0 gb
    by_cases hlt : k < 8
    · have hkk : k = 0 ∨ k = 1 ∨ k = 2 ∨ k = 3 ∨ k = 4 ∨ k = 5 ∨ k = 6 ∨ k = 7 := by omega
      clear hlt hk
      rcases hkk with rfl | rfl | rfl | rfl | rfl | rfl | rfl | rfl
      · have c1 := hr.cell (i := 7) (by omega)
        have c2 := hr.frozen 7
        have e : n % 256 = byt n 7 := by unfold byt; simp
        go_wp2
        go_roundw
        case rel =>
          refine ⟨1, by omega, rfl, (hr.set 7 _).congr fun j hj => ?_, hB.setCell (p := ⟨w.heap.size, 7, none⟩) (Nat.le_refl _) _⟩
          by_cases ej : j = 7
          · subst ej; rw [if_pos rfl, if_pos (by omega)]
          · rw [if_neg ej]
            by_cases h9 : 8 - 0 ≤ j
            · rw [if_pos h9, if_pos (by omega)]
            · rw [if_neg h9, if_neg (by omega)]
        case measure => simp [intOf]
      · have c1 := hr.cell (i := 6) (by omega)
        have c2 := hr.frozen 6
        have e : n / 256 % 256 = byt n 6 := by unfold byt; rfl
        go_wp2
        go_roundw
        case rel =>
          refine ⟨2, by omega, rfl, (hr.set 6 _).congr fun j hj => ?_, hB.setCell (p := ⟨w.heap.size, 6, none⟩) (Nat.le_refl _) _⟩
          by_cases ej : j = 6
          · subst ej; rw [if_pos rfl, if_pos (by omega)]
          · rw [if_neg ej]
            by_cases h9 : 8 - 1 ≤ j
            · rw [if_pos h9, if_pos (by omega)]
            · rw [if_neg h9, if_neg (by omega)]
        case measure => simp [intOf]
      · have c1 := hr.cell (i := 5) (by omega)
        have c2 := hr.frozen 5
        have e : n / 65536 % 256 = byt n 5 := by unfold byt; rfl
        go_wp2
        go_roundw
        case rel =>
          refine ⟨3, by omega, rfl, (hr.set 5 _).congr fun j hj => ?_, hB.setCell (p := ⟨w.heap.size, 5, none⟩) (Nat.le_refl _) _⟩
          by_cases ej : j = 5
          · subst ej; rw [if_pos rfl, if_pos (by omega)]
          · rw [if_neg ej]
            by_cases h9 : 8 - 2 ≤ j
            · rw [if_pos h9, if_pos (by omega)]
            · rw [if_neg h9, if_neg (by omega)]
        case measure => simp [intOf]
      · have c1 := hr.cell (i := 4) (by omega)
        have c2 := hr.frozen 4
        have e : n / 16777216 % 256 = byt n 4 := by unfold byt; rfl
        go_wp2
        go_roundw
        case rel =>
          refine ⟨4, by omega, rfl, (hr.set 4 _).congr fun j hj => ?_, hB.setCell (p := ⟨w.heap.size, 4, none⟩) (Nat.le_refl _) _⟩
          by_cases ej : j = 4
          · subst ej; rw [if_pos rfl, if_pos (by omega)]
          · rw [if_neg ej]
            by_cases h9 : 8 - 3 ≤ j
            · rw [if_pos h9, if_pos (by omega)]
            · rw [if_neg h9, if_neg (by omega)]
        case measure => simp [intOf]
      · have c1 := hr.cell (i := 3) (by omega)
        have c2 := hr.frozen 3
        have e : n / 4294967296 % 256 = byt n 3 := by unfold byt; rfl
        go_wp2
        go_roundw
        case rel =>
          refine ⟨5, by omega, rfl, (hr.set 3 _).congr fun j hj => ?_, hB.setCell (p := ⟨w.heap.size, 3, none⟩) (Nat.le_refl _) _⟩
          by_cases ej : j = 3
          · subst ej; rw [if_pos rfl, if_pos (by omega)]
          · rw [if_neg ej]
            by_cases h9 : 8 - 4 ≤ j
            · rw [if_pos h9, if_pos (by omega)]
            · rw [if_neg h9, if_neg (by omega)]
        case measure => simp [intOf]
      · have c1 := hr.cell (i := 2) (by omega)
        have c2 := hr.frozen 2
        have e : n / 1099511627776 % 256 = byt n 2 := by unfold byt; rfl
        go_wp2
        go_roundw
        case rel =>
          refine ⟨6, by omega, rfl, (hr.set 2 _).congr fun j hj => ?_, hB.setCell (p := ⟨w.heap.size, 2, none⟩) (Nat.le_refl _) _⟩
          by_cases ej : j = 2
          · subst ej; rw [if_pos rfl, if_pos (by omega)]
          · rw [if_neg ej]
            by_cases h9 : 8 - 5 ≤ j
            · rw [if_pos h9, if_pos (by omega)]
            · rw [if_neg h9, if_neg (by omega)]
        case measure => simp [intOf]
      · have c1 := hr.cell (i := 1) (by omega)
        have c2 := hr.frozen 1
        have e : n / 281474976710656 % 256 = byt n 1 := by unfold byt; rfl
        go_wp2
        go_roundw
        case rel =>
          refine ⟨7, by omega, rfl, (hr.set 1 _).congr fun j hj => ?_, hB.setCell (p := ⟨w.heap.size, 1, none⟩) (Nat.le_refl _) _⟩
          by_cases ej : j = 1
          · subst ej; rw [if_pos rfl, if_pos (by omega)]
          · rw [if_neg ej]
            by_cases h9 : 8 - 6 ≤ j
            · rw [if_pos h9, if_pos (by omega)]
            · rw [if_neg h9, if_neg (by omega)]
        case measure => simp [intOf]
      · have c1 := hr.cell (i := 0) (by omega)
        have c2 := hr.frozen 0
        have e : n / 72057594037927936 = byt n 0 := by unfold byt; rw [show (256 : Int) ^ (7 - 0) = 72057594037927936 by decide]; omega
        go_wp2
        go_roundw
        case rel =>
          refine ⟨8, by omega, rfl, (hr.set 0 _).congr fun j hj => ?_, hB.setCell (p := ⟨w.heap.size, 0, none⟩) (Nat.le_refl _) _⟩
          by_cases ej : j = 0
          · subst ej; rw [if_pos rfl, if_pos (by omega)]
          · rw [if_neg ej]
            by_cases h9 : 8 - 7 ≤ j
            · rw [if_pos h9, if_pos (by omega)]
            · rw [if_neg h9, if_neg (by omega)]
        case measure => simp [intOf]
    · obtain rfl : k = 8 := by omega
      go_wp2
      go_ret
      exact ⟨rfl, hB, hr.congr fun j hj => by rw [if_pos (by omega)]⟩
end Go.Proofs.Ytcfepoopkfhojaa
/- sponge.Same: two rows of bytes are the same just where they are. -/
namespace Go.Proofs.Ytcfepoopkfhojaa
open Go.ChangeShapes Go.WideShapes Go.ChangeAt Go.RowKit
def RdB (w : World) (A : Option Addr) (n : Nat) (x : Nat → Int) : Prop :=
  n ≤ maxLen ∧ (∀ k, 0 ≤ x k ∧ x k < 256) ∧ (0 < n → ∃ b o, A = some ⟨b, o, none⟩ ∧ b < w.heap.size ∧ ∀ k, k < n → w.cell? ⟨b, o + k, none⟩ = some (.int .u8 (x k)))
theorem u8_or_xor (a b c : Int) (ha : 0 ≤ a ∧ a < 256) (hb : 0 ≤ b ∧ b < 256) (hc : 0 ≤ c ∧ c < 256) : bits .or .u8 c (bits .xor .u8 a b) = 0 ↔ c = 0 ∧ a = b := by
  obtain ⟨a, rfl⟩ := Int.eq_ofNat_of_zero_le ha.1
  obtain ⟨b, rfl⟩ := Int.eq_ofNat_of_zero_le hb.1
  obtain ⟨c, rfl⟩ := Int.eq_ofNat_of_zero_le hc.1
  have ha' : a < 2 ^ 8 := by omega
  have hb' : b < 2 ^ 8 := by omega
  have hc' : c < 2 ^ 8 := by omega
  have hx : bits .xor .u8 (a : Int) (b : Int) = ((a ^^^ b : Nat) : Int) := by
    have e1 : a % 2 ^ IntKind.u8.bits = a := Nat.mod_eq_of_lt ha'
    have e2 : b % 2 ^ IntKind.u8.bits = b := Nat.mod_eq_of_lt hb'
    have e3 : a ^^^ b < 2 ^ 8 := Nat.xor_lt_two_pow ha' hb'
    simp only [bits, BitVec.ofInt_natCast, BitVec.toNat_xor, BitVec.toNat_ofNat, e1, e2]
    rw [IntKind.wrap_u8]; omega
  rw [hx, (bits_nat .u8 8 (by decide) (fun n h0 h1 => by rw [IntKind.wrap_u8]; omega) c (a ^^^ b) hc' (Nat.xor_lt_two_pow ha' hb')).2]
  constructor
  · intro h
    have h1 : c ||| (a ^^^ b) = 0 := by omega
    obtain ⟨h2, h3⟩ := Nat.or_eq_zero_iff.1 h1
    have h4 : a = b := by
      have e : a ^^^ b ^^^ b = 0 ^^^ b := by rw [h3]
      rwa [Nat.xor_assoc, Nat.xor_self, Nat.xor_zero, Nat.zero_xor] at e
    exact ⟨by omega, by omega⟩
  · rintro ⟨h1, h2⟩
    have h1' : c = 0 := by omega
    have h2' : a = b := by omega
    subst h1' h2'
    simp
theorem u8_bd (op : BinOp) (a b : Int) : 0 ≤ bits op .u8 a b ∧ bits op .u8 a b < 256 := by
  have := wrap_within .u8 (bits op .u8 a b)
  unfold bits
  rw [IntKind.wrap_u8]
  omega
def AgreeTo (x y : Nat → Int) (k : Nat) : Prop := ∀ j, j < k → x j = y j
theorem agree_succ {x y : Nat → Int} {k : Nat} : AgreeTo x y (k + 1) ↔ AgreeTo x y k ∧ x k = y k := by
  constructor
  · exact fun h => ⟨fun j hj => h j (by omega), h k (by omega)⟩
  · rintro ⟨h1, h2⟩ j hj
    by_cases e : j = k
    · subst e; exact h2
    · exact h1 j (by omega)
noncomputable def sameB (x y : Nat → Int) (n : Nat) : Bool := @decide (AgreeTo x y n) (Classical.propDecidable _)
theorem same_len (A B : Option Addr) (n m cap1 cap2 : Nat) (x y : Nat → Int) (w : World) (hx : RdB w A n x) (hy : RdB w B m y) (hnm : n ≠ m) :
    Calls Try.prog 69 #[.slice A n cap1, .slice B m cap2] w fun e w' => e = .returned (.bool false) ∧ Below w.heap.size w w' := by
  obtain ⟨h1, _, _⟩ := hx
  obtain ⟨h2, _, _⟩ := hy
  unfold maxLen at h1 h2
  have hne : ((n : Int) == (m : Int)) = false := by rw [beq_eq_false_iff_ne]; exact fun e => hnm (Int.ofNat.inj e)
  have hne' : ((n : Int) != (m : Int)) = true := by rw [bne, hne]; rfl
  go_enter Try.func69, Try.ntmps69
  go_wp2
  go_ret
  exact ⟨rfl, Below.refl _ _⟩
theorem same_any (A B : Option Addr) (n cap1 cap2 : Nat) (x y : Nat → Int) (w : World) (hx : RdB w A n x) (hy : RdB w B n y) :
    Calls Try.prog 69 #[.slice A n cap1, .slice B n cap2] w fun e w' => e = .returned (.bool (sameB x y n)) ∧ Below w.heap.size w w' := by
  obtain ⟨h1, bx, fx⟩ := hx
  obtain ⟨h2, by_, fy⟩ := hy
  unfold maxLen at h1 h2
  have BX := hid bx
  have BY := hid by_
  have FX := hid fx
  have FY := hid fy
  clear bx by_ fx fy
  go_enter Try.func69, Try.ntmps69
  go_wp2
  go_loopw [5, 14] (fun o i wr => ∃ (k : Nat) (c : Int), k ≤ n ∧ i = .int .i64 k ∧ o = .int .u8 c ∧ 0 ≤ c ∧ c < 256 ∧ Hid (c = 0 ↔ AgreeTo x y k) ∧ ∃ d, wr = w.drewN d) (fun _ i _ => n - (intOf i).toNat)
  case atStart => exact ⟨0, 0, by omega, rfl, rfl, by omega, by omega, hid ⟨fun _ j hj => absurd hj (by omega), fun _ => rfl⟩, 0, rfl⟩
  case round =>
    obtain ⟨k, c, hk, rfl, rfl, c0, c1, hag, d, rfl⟩ := hrel
    by_cases hlt : k < n
    · obtain ⟨b1, o1, rfl, l1, cx⟩ := FX.out (by omega)
      obtain ⟨b2, o2, rfl, l2, cy⟩ := FY.out (by omega)
      have s1 := cx k hlt
      have s2 := cy k hlt
      have hbx := BX.out k
      have hby := BY.out k
      have HA : Hid (bits .or .u8 c (bits .xor .u8 (x k) (y k)) = 0 ↔ AgreeTo x y (k + 1)) := hid ((u8_or_xor _ _ _ hbx hby ⟨c0, c1⟩).trans ((and_congr_left' hag.out).trans agree_succ.symm))
      obtain ⟨u0, u1⟩ := u8_bd .or c (bits .xor .u8 (x k) (y k))
      obtain ⟨x0, x1⟩ := hbx
      obtain ⟨y0, y1⟩ := hby
      clear cx cy hag FX FY
      go_wp2
      go_quiet (fail)
      go_wp2
      go_roundw
      case rel => exact ⟨k + 1, _, by omega, by go_num, rfl, u0, u1, HA, _, rfl⟩
      case measure => simp [intOf]; omega
    · obtain rfl : k = n := by omega
      by_cases hc : c = 0
      · have E : Hid (sameB x y k = true) := hid (by unfold sameB; simpa using hag.out.1 hc)
        subst hc
        go_wp2
        go_ret
        exact ⟨by rw [E.out]; rfl, zq (Below.refl _ _) _⟩
      · have E : Hid (sameB x y k = false) := hid (by unfold sameB; simpa using fun h => hc (hag.out.2 h))
        have hc' : (c == 0) = false := by simpa using hc
        go_wp2
        go_ret
        exact ⟨by rw [E.out]; rfl, zq (Below.refl _ _) _⟩
end Go.Proofs.Ytcfepoopkfhojaa
namespace Go.Proofs.Ytcfepoopkfhojaa
open Go.ChangeShapes Go.WideShapes Go.ChangeAt Go.RowKit Go.Shelf
def RecAt (l D : Nat) (o1 o2 : Obj) (W : World) : Prop := W.heap[l]? = some o1 ∧ W.heap[D]? = some o2 ∧ o1.isCells = false ∧ o2.isCells = false
theorem RecAt.kept {l D : Nat} {o1 o2 : Obj} {W W' : World} (h : RecAt l D o1 o2 W) (hk : KeepsOthers W W') : RecAt l D o1 o2 W' :=
  ⟨hk.same _ _ h.1 h.2.2.1, hk.same _ _ h.2.1 h.2.2.2, h.2.2⟩
def roundEnd (l : Nat) (W2 : World) (R : World → Prop) : Exit → Act → World → Prop
  | .normal, _, W3 => KeepsOthers W2 W3 ∧ ∀ o, R (W3.putObj l o)
  | _, _, _ => False
def NotCells (w : World) (l : Nat) : Prop := ∀ o', w.heap[l]? = some o' → o'.isCells = false
def MidOk (F : Fence) (n : Nat) (P : Program) (l : Nat) (body : Code) (W : World) (R : World → Prop) (a₁ : Act) (W1 : World) : Prop :=
  KeepsOthers W W1 ∧ ∀ o, NotCells W1 l → body.wpIn (F.inRound l) n P (roundEnd l (W1.putObj l o) R) a₁ (W1.putObj l o)
theorem wpIn_range {F : Fence} {n : Nat} {P : Program} {g : Operand} {ps : Array Tmp} {assign body : Code} {Q : Exit → Act → World → Prop} {a : Act} {w : World}
    (hro : F.round = none) (h1 : 1 ≤ n) {gf : Nat} {lb : Array Value} (hg : a.eval g = .func (.func gf) #[] lb) (hFg : F.fn gf) (eg : ∀ args w, (callFunc gf args).run P w = .ok (.enter gf args) w)
    {α : Type} (encs : α → Array Value) (hps : ∀ x, (encs x).size = ps.size) (Pre : α → World → Prop) (Post : α → World → World → Prop) (Fin : World → Prop)
    (hround : ∀ (l : Nat) (x : α) (W : World), w.heap.size < l → l < W.heap.size → Pre x W →
      assign.wpIn (F.inRound l) (n - 1 - 1) P (Exit.then (MidOk F (n - 1 - 1) P l body W (Post x W)) (fun _ _ _ => False)) { tmps := (ps.zip (encs x)).foldl (fun t (p, v) => t.setIfInBounds p v) a.tmps, defers := [] } W)
    (hiter : ∀ (l D : Nat) (o1 o2 : Obj) (W1 : World), D = w.heap.size → l = w.heap.size + 1 → W1 = (w.alloc o2).alloc o1 → RecAt l D o1 o2 W1 →
      (∀ x W, Pre x W → RecAt l D o1 o2 W → YieldAt F (n - 1 - 1) P l (encs x) W fun e W' => e = .returned (.bool true) ∧ RecAt l D o1 o2 W' ∧ Post x W W') →
      CallsIn F (n - 1) P gf (#[.func (.yield l) #[] #[]] ++ lb) W1 fun e W' => (∃ v, e = .returned v) ∧ RecAt l D o1 o2 W' ∧ Fin W')
    (hdone : ∀ (l D : Nat) (o : Obj) (W : World), D = w.heap.size → l = w.heap.size + 1 → Fin W → l < W.heap.size → NotCells W l → (W.putObj l o).heap[D]? = some (.deferred (some [])) →
      Q .normal { a with defers := { target := .collected D, args := #[] } :: a.defers } (W.putObj l o)) :
    (Code.rangeFunc g ps assign body).wpIn F n P Q a w := by
  refine wpIn_rangeFunc ?_
  intro fn hfn
  rw [hro]
  obtain ⟨rec, hrec⟩ : ∃ rec : LoopState → Option Code → Loop, rec = fun st pe => { state := st, pending := pe, fn, tmps := a.tmps, params := ps, assign, body, defers := w.heap.size } := ⟨_, rfl⟩
  obtain ⟨W1, hW1⟩ : ∃ W1, (w.alloc (.deferred (some []))).alloc (.loop (rec .ready none)) = W1 := ⟨_, rfl⟩
  have hL1 : W1.heap[w.heap.size + 1]? = some (.loop (rec .ready none)) := by
    rw [← hW1]; have := World.alloc_heap_new (w.alloc (.deferred (some []))) (.loop (rec .ready none)); rwa [World.size_alloc] at this
  have hK1 : W1.heap[w.heap.size]? = some (.deferred (some [])) := by
    rw [← hW1]; exact (Below.heap_alloc _ _ _ (by simp)).trans (World.alloc_heap_new w _)
  refine ⟨w.heap.size + 1, [{ target := .collected w.heap.size, args := #[] }], W1, { target := .fn (.func gf) lb, args := #[.func (.yield (w.heap.size + 1)) #[] #[]] }, W1, gf,
    #[.func (.yield (w.heap.size + 1)) #[] #[]] ++ lb, W1, ?_, ?_, ?_, ?_, fun _ => h1, ?_⟩
  · rw [← hW1, hrec]; exact run_enterLoop_outer _ _ _ _ _
  · simp only [resolve, hg]
    simp [go_sem]
  · intro f' hf'; simp [Target.leads] at hf'; subst hf'; exact hFg
  · simp [invoke, go_sem, eg]
  · refine (hiter (w.heap.size + 1) w.heap.size (.loop (rec .ready none)) (.deferred (some [])) W1 rfl rfl hW1.symm ⟨hL1, hK1, rfl, rfl⟩ ?_).mono ?_
    · rintro x W hpre ⟨hl, hk, -, -⟩
      have hlt : w.heap.size + 1 < W.heap.size := (Array.getElem?_eq_some_iff.1 hl).1
      have hy := run_yield (P := P) (args := encs x) hl (by rw [hrec]; exact hps x)
      rw [hrec] at hy
      refine ⟨fn, _, assign, body, hy, roundIn_of_wpIn hfn (wpIn_mono (hround (w.heap.size + 1) x W (by omega) hlt hpre) ?_)⟩
      rintro e a1 W2 hp
      cases e with
      | normal =>
        obtain ⟨hk2, hb⟩ := hp
        have hl2 := hk2.same _ _ hl rfl
        have hd2 := hk2.same _ _ hk rfl
        have hlt2 := (Array.getElem?_eq_some_iff.1 hl2).1
        refine ⟨_, run_beginRound hl2 (by rw [hrec]), ?_⟩
        refine wpIn_mono (hb (.loop { rec .ready none with state := .busy }) (fun o' ho' => by rw [hl2] at ho'; cases ho'; rfl)) ?_
        rintro e3 a3 W3 hp3
        cases e3 with
        | normal =>
          obtain ⟨hk3, hR⟩ := hp3
          have hl3 : W3.heap[w.heap.size + 1]? = some (.loop { rec .ready none with state := .busy }) := hk3.same _ _ (World.putObj_heap_same hlt2) rfl
          have hd3 : W3.heap[w.heap.size]? = some (.deferred (some [])) := hk3.same _ _ ((World.putObj_heap_other (by omega)).trans hd2) rfl
          have hend := run_endRound (P := P) none hl3
          rw [hrec] at hend
          refine ⟨_, _, hend, rfl, ⟨?_, ?_, rfl, rfl⟩, hR _⟩
          · rw [hrec]; exact World.putObj_heap_same (Array.getElem?_eq_some_iff.1 hl3).1
          · exact (World.putObj_heap_other (by omega)).trans hd3
        | _ => exact hp3.elim
      | _ => exact hp.elim
    · rintro e W2 ⟨⟨v, rfl⟩, ⟨hl, hk, -, -⟩, hf⟩
      refine ⟨none, _, by have := run_endLoop (P := P) hl (by rw [hrec]; simp); rw [hrec] at this; exact this, ?_⟩
      exact hdone (w.heap.size + 1) w.heap.size _ W2 rfl rfl hf (Array.getElem?_eq_some_iff.1 hl).1 (fun o' ho' => by rw [hl] at ho'; cases ho'; rfl) ((World.putObj_heap_other (by omega)).trans hk)
theorem wpListIn_load_run {F : Fence} {n : Nat} {P : Program} {w : World} {ops : Array Oper} {rest : List Oper} {o : Oper} {a : Act} {Q : Exit → Act → World → Prop} (hg : o.guard = none) (ty : TypeId) (x : Operand) (ho : o.op = .load ty x) {u v : Value} (hx : a.eval x = u)
    (hr : (Instr.loadAt ty u).run P w = .ok v w) (h : wpListIn F n P ops Q rest (a.put o.dst v) w) : wpListIn F n P ops Q (o :: rest) a w := by
  refine wpListIn_plain hg fun K hK => ?_
  unfold Oper.wpIn
  refine ⟨?_, ?_⟩
  · simp [Oper.about, ho]
  · rw [Oper.semAt_plain F _ _ (by rw [ho]; intro c hc'; cases hc')]
    simp only [execOp, ho, hx, Sem.run_bind, hr, Result.andThen_ok, Sem.run_pure]
    exact hK _ _ h
theorem wpListIn_store_run {F : Fence} {n : Nat} {P : Program} {w w' : World} {ops : Array Oper} {rest : List Oper} {o : Oper} {a : Act} {Q : Exit → Act → World → Prop} (hg : o.guard = none) (ty : TypeId) (x y : Operand) (ho : o.op = .store ty x y) {u v : Value} (hx : a.eval x = u) (hy : a.eval y = v)
    (hr : (Instr.storeAt ty u v).run P w = .ok () w') (h : wpListIn F n P ops Q rest (a.put o.dst undef) w') : wpListIn F n P ops Q (o :: rest) a w := by
  refine wpListIn_plain hg fun K hK => ?_
  unfold Oper.wpIn
  refine ⟨?_, ?_⟩
  · simp [Oper.about, ho]
  · rw [Oper.semAt_plain F _ _ (by rw [ho]; intro c hc'; cases hc')]
    simp only [execOp, ho, hx, hy, Sem.run_bind, hr, Result.andThen_ok, Sem.run_pure]
    exact hK _ _ h
end Go.Proofs.Ytcfepoopkfhojaa
/- What a sponge that takes bytes comes to: plain lists. -/
namespace Go.Proofs.Ytcfepoopkfhojaa
open Go.ChangeShapes Go.WideShapes Go.ChangeAt Go.RowKit
def byI (L : List UInt8) (k : Nat) : Int := ((L.getD k 0).toNat : Int)
theorem byI_bd (L : List UInt8) (k : Nat) : 0 ≤ byI L k ∧ byI L k < 256 := by
  unfold byI
  have := (L.getD k 0).toNat_lt
  omega
theorem absN_congr {z z' : Nat → Int} (s : W8) : ∀ k, (∀ j, j < k → z j = z' j) → absN z s k = absN z' s k
  | 0, _ => rfl
  | k + 1, h => by rw [absN, absN, absN_congr s k fun j hj => h j (by omega), h k (by omega)]
theorem takeW_congr {z z' : Nat → Int} (s : W8) (h : ∀ k, k < 16 → z k = z' k) : takeW z s = takeW z' s := by
  unfold takeW; rw [absN_congr s 16 h]
def feed (s : W8) (L : List UInt8) : W8 × List UInt8 := if L.length < 16 then (s, L) else feed (takeW (byI L) s) (L.drop 16)
termination_by L.length
decreasing_by simp only [List.length_drop]; omega
theorem feed_lt {s : W8} {L : List UInt8} (h : L.length < 16) : feed s L = (s, L) := by rw [feed, if_pos h]
theorem feed_ge {s : W8} {L : List UInt8} (h : 16 ≤ L.length) : feed s L = feed (takeW (byI L) s) (L.drop 16) := by
  conv => lhs; rw [feed]
  rw [if_neg (by omega)]
theorem feed_block {s : W8} {B L : List UInt8} (h : B.length = 16) : feed s (B ++ L) = feed (takeW (byI B) s) L := by
  have e : takeW (byI (B ++ L)) s = takeW (byI B) s := takeW_congr s fun k hk => by
    unfold byI
    simp only [List.getD_eq_getElem?_getD]
    rw [List.getElem?_append_left (by omega)]
  rw [feed_ge (by rw [List.length_append]; omega), List.drop_append_of_le_length (by omega), List.drop_of_length_le (by omega), List.nil_append, e]
theorem feed_append (s : W8) (L R : List UInt8) : feed s (L ++ R) = feed (feed s L).1 ((feed s L).2 ++ R) := by
  induction h : L.length using Nat.strongRecOn generalizing s L with
  | _ n ih =>
    by_cases h16 : L.length < 16
    · rw [feed_lt h16]
    · rw [feed_ge (s := s) (L := L) (by omega)]
      have e : L ++ R = L.take 16 ++ (L.drop 16 ++ R) := by rw [← List.append_assoc, List.take_append_drop]
      have e2 : takeW (byI (L.take 16)) s = takeW (byI L) s := takeW_congr s fun k hk => by
        unfold byI; simp only [List.getD_eq_getElem?_getD, List.getElem?_take]; rw [if_pos hk]
      rw [e, feed_block (by rw [List.length_take]; omega), e2]
      exact ih (L.drop 16).length (by rw [List.length_drop]; omega) _ _ rfl
theorem feed_ok {s : W8} (hs : s.ok) (L : List UInt8) : (feed s L).1.ok := by
  induction h : L.length using Nat.strongRecOn generalizing s L with
  | _ n ih =>
    by_cases h16 : L.length < 16
    · rw [feed_lt h16]; exact hs
    · rw [feed_ge (by omega)]
      exact ih (L.drop 16).length (by rw [List.length_drop]; omega) (ok_takeW hs) _ rfl
attribute [irreducible] byI
/-! Worlds of which one block below N may have turned. -/
structure Kp (N p : Nat) (a b : World) : Prop where
  os : b.os = a.os
  tape : b.tape = a.tape
  output : b.output = a.output
  size : a.heap.size ≤ b.heap.size
  block : ∀ i, i < N → i ≠ p → b.heap[i]? = a.heap[i]?
theorem Kp.refl (N p : Nat) (a : World) : Kp N p a a := ⟨rfl, rfl, rfl, Nat.le_refl _, fun _ _ _ => rfl⟩
theorem Kp.trans {N p : Nat} {a b c : World} (h : Kp N p a b) (k : Kp N p b c) : Kp N p a c :=
  ⟨k.os.trans h.os, k.tape.trans h.tape, k.output.trans h.output, Nat.le_trans h.size k.size, fun i hi hp => (k.block i hi hp).trans (h.block i hi hp)⟩
theorem Kp.grown {N p : Nat} {a b : World} {r : Nat} (h : a.grownBy b (some r)) (hN : N ≤ a.heap.size) (hr : r = p ∨ N ≤ r) : Kp N p a b :=
  ⟨h.os, h.tape, h.output, h.size, fun i hi hp => h.block i (by omega) (fun e => by cases e; omega)⟩
theorem Kp.below {N p : Nat} {a b : World} (h : Below N a b) : Kp N p a b := ⟨h.os, h.tape, h.output, h.size, fun i hi _ => h.block i hi⟩
theorem Kp.grownBy {p : Nat} {a b : World} (h : Kp a.heap.size p a b) : a.grownBy b (some p) := ⟨h.os, h.tape, h.output, h.size, fun i hi hp => h.block i hi fun e => hp (by rw [e])⟩
theorem Kp.mono {N M p : Nat} {a b : World} (h : Kp N p a b) (hM : M ≤ N) : Kp M p a b := ⟨h.os, h.tape, h.output, h.size, fun i hi hp => h.block i (by omega) hp⟩
def Src (N p : Nat) (w : World) (A : Option Addr) (l : List UInt8) : Prop :=
  0 < l.length → ∃ b o, A = some ⟨b, o, none⟩ ∧ b < N ∧ b ≠ p ∧ ∀ j x, l[j]? = some x → w.cell? ⟨b, o + j, none⟩ = some (.int .u8 (x.toNat : Int))
theorem cell_same {w w' : World} {b k : Nat} (e : w'.heap[b]? = w.heap[b]?) : w'.cell? ⟨b, k, none⟩ = w.cell? ⟨b, k, none⟩ := by simp only [World.cell?, e]
theorem Src.kp {N p : Nat} {w w' : World} {A : Option Addr} {l : List UInt8} (h : Src N p w A l) (k : Kp N p w w') : Src N p w' A l := fun hl => by
  obtain ⟨b, o, e, h1, h2, h3⟩ := h hl
  exact ⟨b, o, e, h1, h2, fun j x hx => (cell_same (k.block b h1 h2)).trans (h3 j x hx)⟩
theorem Src.of_rd {p : Nat} {w : World} {A : Option Addr} {l : List UInt8} (h : Rd w A l) (hp : ∀ b o, A = some ⟨b, o, none⟩ → b ≠ p) : Src w.heap.size p w A l := fun hl => by
  obtain ⟨b, o, e, h1, h2⟩ := h.at hl
  exact ⟨b, o, e, h1, hp b o e, h2⟩
def SpAt (w : World) (p : Nat) (s : W8) (l : List UInt8) : Prop :=
  ∃ y : Nat → Int, (∀ k, 0 ≤ y k ∧ y k < 256) ∧ (∀ k, k < l.length → y k = byI l k) ∧ Blk w p 140 (arrS s y (l.length : Int)) ∧ s.ok ∧ l.length < 16
theorem SpAt.lt {w : World} {p : Nat} {s : W8} {l : List UInt8} (h : SpAt w p s l) : p < w.heap.size := by
  obtain ⟨y, _, _, h, _⟩ := h
  exact h.lt
theorem SpAt.of_block {w w' : World} {p : Nat} {s : W8} {l : List UInt8} (h : SpAt w p s l) (e : w'.heap[p]? = w.heap[p]?) : SpAt w' p s l := by
  obtain ⟨y, h1, h2, h3, h4⟩ := h
  exact ⟨y, h1, h2, e.trans h3, h4⟩
def laid (y : Nat → Int) (h : Nat) (L : List UInt8) (k : Nat) : Int := if h ≤ k ∧ k < h + L.length then byI L (k - h) else y k
theorem laid_bd {y : Nat → Int} (hy : ∀ k, 0 ≤ y k ∧ y k < 256) (h : Nat) (L : List UInt8) (k : Nat) : 0 ≤ laid y h L k ∧ laid y h L k < 256 := by
  unfold laid; split
  · exact byI_bd _ _
  · exact hy k
theorem byI_append {l L : List UInt8} {k : Nat} : byI (l ++ L) k = if k < l.length then byI l k else byI L (k - l.length) := by
  unfold byI
  simp only [List.getD_eq_getElem?_getD]
  by_cases h : k < l.length
  · rw [if_pos h, List.getElem?_append_left h]
  · rw [if_neg h, List.getElem?_append_right (by omega)]
theorem laid_at {y : Nat → Int} {l L : List UInt8} (h : ∀ k, k < l.length → y k = byI l k) : ∀ k, k < (l ++ L).length → laid y l.length L k = byI (l ++ L) k := by
  intro k hk
  rw [List.length_append] at hk
  rw [byI_append]
  unfold laid
  by_cases h1 : k < l.length
  · rw [if_neg (by omega), if_pos h1, h k h1]
  · rw [if_pos (by omega), if_neg h1]
theorem arrS_get (s : W8) (y : Nat → Int) (h : Int) {k : Nat} (hk : k < 16) : (arrS s y h)[8 + k]? = some (.int .u8 (y k)) := by
  have : k = 0 ∨ k = 1 ∨ k = 2 ∨ k = 3 ∨ k = 4 ∨ k = 5 ∨ k = 6 ∨ k = 7 ∨ k = 8 ∨ k = 9 ∨ k = 10 ∨ k = 11 ∨ k = 12 ∨ k = 13 ∨ k = 14 ∨ k = 15 := by omega
  rcases this with rfl | rfl | rfl | rfl | rfl | rfl | rfl | rfl | rfl | rfl | rfl | rfl | rfl | rfl | rfl | rfl <;> rfl
theorem arrS_out (s : W8) (y z : Nat → Int) (h : Int) {i : Nat} (hi : i < 8 ∨ 24 ≤ i) : (arrS s y h)[i]? = (arrS s z h)[i]? := by
  rcases hi with hi | hi
  · have : i = 0 ∨ i = 1 ∨ i = 2 ∨ i = 3 ∨ i = 4 ∨ i = 5 ∨ i = 6 ∨ i = 7 := by omega
    rcases this with rfl | rfl | rfl | rfl | rfl | rfl | rfl | rfl <;> rfl
  · by_cases e : i = 24
    · subst e; rfl
    · have hs : ∀ y, (arrS s y h).size = 25 := fun y => rfl
      rw [Array.getElem?_eq_none (by rw [hs]; omega), Array.getElem?_eq_none (by rw [hs]; omega)]
theorem byI_get {L : List UInt8} {j : Nat} {b : UInt8} (h : L[j]? = some b) : byI L j = (b.toNat : Int) := by
  unfold byI; rw [List.getD_eq_getElem?_getD, h]; rfl
theorem arrS_copy (s : W8) (y : Nat → Int) (h : Int) (q : Nat) (L : List UInt8) (hq : q + L.length ≤ 16) :
    ((arrS s y h).toList.take (8 + q) ++ L.map bv ++ (arrS s y h).toList.drop (8 + q + (L.map bv).length)).toArray = arrS s (laid y q L) h := by
  apply Array.ext_getElem?
  intro i
  have hs : (arrS s y h).toList.length = 25 := rfl
  rw [List.getElem?_toArray, List.length_map]
  by_cases h1 : i < 8 + q
  · rw [List.append_assoc, List.getElem?_append_left (by rw [List.length_take]; omega), List.getElem?_take, if_pos h1, Array.getElem?_toList]
    by_cases h8 : i < 8
    · exact arrS_out _ _ _ _ (.inl h8)
    · obtain ⟨k, rfl⟩ : ∃ k, i = 8 + k := ⟨i - 8, by omega⟩
      rw [arrS_get s y h (by omega), arrS_get s _ h (by omega)]
      unfold laid; rw [if_neg (by omega)]
  · have hl1 : ((arrS s y h).toList.take (8 + q)).length = 8 + q := by rw [List.length_take]; omega
    by_cases h2 : i < 8 + q + L.length
    · rw [List.append_assoc, List.getElem?_append_right (by omega), hl1, List.getElem?_append_left (by rw [List.length_map]; omega), List.getElem?_map]
      obtain ⟨k, rfl⟩ : ∃ k, i = 8 + k := ⟨i - 8, by omega⟩
      rw [arrS_get s _ h (by omega)]
      have hk : 8 + k - (8 + q) = k - q := by omega
      rw [hk, List.getElem?_eq_getElem (by omega : k - q < L.length), Option.map_some]
      unfold laid bv
      rw [if_pos (by omega), byI_get (List.getElem?_eq_getElem (by omega : k - q < L.length))]
    · rw [List.getElem?_append_right (by rw [List.length_append, hl1, List.length_map]; omega), List.length_append, hl1, List.length_map, List.getElem?_drop, show 8 + q + L.length + (i - (8 + q + L.length)) = i by omega, Array.getElem?_toList]
      by_cases h24 : 24 ≤ i
      · exact arrS_out _ _ _ _ (.inr h24)
      · obtain ⟨k, rfl⟩ : ∃ k, i = 8 + k := ⟨i - 8, by omega⟩
        rw [arrS_get s y h (by omega), arrS_get s _ h (by omega)]
        unfold laid; rw [if_neg (by omega)]
theorem arrS_have (s : W8) (y : Nat → Int) (h h' : Int) : (arrS s y h).setIfInBounds 24 (.int .i64 h') = arrS s y h' := rfl
theorem step_copy {P : Program} {ops : Array Oper} {o : Oper} {a : Act} {w w' : World} {K : Act → World → Prop} {Q : Exit → Act → World → Prop} {E : Prop} (hgd : o.guard = none) (x y : Operand) (t1 t2 : TypeId)
    (ho : o.op = .call { callee := .builtin .copy, args := #[x, y], argTypes := #[t1, t2] }) {u v r : Value} (hx : a.eval x = u) (hy : a.eval y = v) (hr : (Builtin.copy_ #[t1, t2] o.type #[u, v]).run P w = .ok r w') (h : K (a.put o.dst r) w') :
    if Region.wanted o (yielded ops a.tmps) = true then Oper.wp P o a w K Q else E := by
  rw [if_pos (by simp [Region.wanted, hgd])]
  unfold Oper.wp
  have : (execOp a.eval o).run P w = .ok (.value r) w' := by
    simp only [execOp, ho, resolve, Sem.run_bind, Sem.run_pure, Result.andThen_ok, invoke, List.map_toArray, List.map_cons, List.map_nil, hx, hy]
    simp [builtin, hr, Result.andThen]
  rw [this]
  exact h
end Go.Proofs.Ytcfepoopkfhojaa
