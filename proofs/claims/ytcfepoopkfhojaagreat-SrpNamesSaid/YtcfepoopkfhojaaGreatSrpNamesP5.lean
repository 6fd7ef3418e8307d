/- What SrpNames stands on, part 5. -/
import Derived.Test.YtcfepoopkfhojaaGreatSrpNamesP1
import Derived.Test.YtcfepoopkfhojaaGreatSrpNamesP2
import Derived.Test.YtcfepoopkfhojaaGreatSrpNamesP3
import Derived.Test.YtcfepoopkfhojaaGreatSrpNamesP4
set_option maxRecDepth 100000
set_option maxHeartbeats 8000000
set_option linter.unusedVariables false
set_option linter.unusedSimpArgs false
/- sponge: words turned; blocks known whole. -/
namespace Go.Proofs.YtcfepoopkfhojaaGreat
open Go.ChangeShapes Go.WideShapes Go.ChangeAt Go.RowKit
section
variable {w w' : World} {b : Nat} {t : TypeId} {c : Array Value}
end
def xorW (x y : Int) : Int := bits .xor .u32 x y
def addW (x y : Int) : Int := (x + y) % 4294967296
def rotW (m x : Int) : Int := bits .or .u32 (x * m % 4294967296) (x / (4294967296 / m))
theorem w_bd (op : BinOp) (a b : Int) : 0 ≤ bits op .u32 a b ∧ bits op .u32 a b < 4294967296 := by
 have := wrap_within .u32 (bits op .u32 a b)
 unfold bits
 rw [IntKind.wrap_u32]
 omega
theorem zw (x y : Int) : 0 ≤ xorW x y ∧ xorW x y < 4294967296 := w_bd _ _ _
theorem rotW_bd (m x : Int) : 0 ≤ rotW m x ∧ rotW m x < 4294967296 := w_bd _ _ _
theorem addW_bd (x y : Int) : 0 ≤ addW x y ∧ addW x y < 4294967296 := by unfold addW; omega
theorem rot16 (x : Int) (h0 : 0 ≤ x) (h1 : x < 4294967296) (w : World) :
  Calls Tryz.prog 133 #[.int .u32 x, .int .i64 16] w fun e w' => e = .returned (.int .u32 (rotW 65536 x)) ∧ w' = w := by
 have hb : bits BinOp.and IntKind.u64 16 31 = 16 := by decide
 go_enter Tryz.func133, Tryz.ntmps133
 go_wp2
 go_ret
 exact ⟨rfl, rfl⟩
theorem turn16 (x : Int) (h0 : 0 ≤ x) (h1 : x < 4294967296) (w : World) :
  Calls Tryz.prog 130 #[.int .u32 x, .int .i64 16] w fun e w' => e = .returned (.int .u32 (rotW 65536 x)) ∧ w' = w := by
 have hb : bits BinOp.and IntKind.u64 16 31 = 16 := by decide
 go_enter Tryz.func130, Tryz.ntmps130
 go_wp2
 go_ret
 exact ⟨rfl, rfl⟩
theorem rot12 (x : Int) (h0 : 0 ≤ x) (h1 : x < 4294967296) (w : World) :
  Calls Tryz.prog 133 #[.int .u32 x, .int .i64 12] w fun e w' => e = .returned (.int .u32 (rotW 4096 x)) ∧ w' = w := by
 have hb : bits BinOp.and IntKind.u64 12 31 = 12 := by decide
 go_enter Tryz.func133, Tryz.ntmps133
 go_wp2
 go_ret
 exact ⟨rfl, rfl⟩
theorem turn12 (x : Int) (h0 : 0 ≤ x) (h1 : x < 4294967296) (w : World) :
  Calls Tryz.prog 130 #[.int .u32 x, .int .i64 12] w fun e w' => e = .returned (.int .u32 (rotW 4096 x)) ∧ w' = w := by
 have hb : bits BinOp.and IntKind.u64 12 31 = 12 := by decide
 go_enter Tryz.func130, Tryz.ntmps130
 go_wp2
 go_ret
 exact ⟨rfl, rfl⟩
theorem rot8 (x : Int) (h0 : 0 ≤ x) (h1 : x < 4294967296) (w : World) :
  Calls Tryz.prog 133 #[.int .u32 x, .int .i64 8] w fun e w' => e = .returned (.int .u32 (rotW 256 x)) ∧ w' = w := by
 have hb : bits BinOp.and IntKind.u64 8 31 = 8 := by decide
 go_enter Tryz.func133, Tryz.ntmps133
 go_wp2
 go_ret
 exact ⟨rfl, rfl⟩
theorem turn8 (x : Int) (h0 : 0 ≤ x) (h1 : x < 4294967296) (w : World) :
  Calls Tryz.prog 130 #[.int .u32 x, .int .i64 8] w fun e w' => e = .returned (.int .u32 (rotW 256 x)) ∧ w' = w := by
 have hb : bits BinOp.and IntKind.u64 8 31 = 8 := by decide
 go_enter Tryz.func130, Tryz.ntmps130
 go_wp2
 go_ret
 exact ⟨rfl, rfl⟩
theorem rot7 (x : Int) (h0 : 0 ≤ x) (h1 : x < 4294967296) (w : World) :
  Calls Tryz.prog 133 #[.int .u32 x, .int .i64 7] w fun e w' => e = .returned (.int .u32 (rotW 128 x)) ∧ w' = w := by
 have hb : bits BinOp.and IntKind.u64 7 31 = 7 := by decide
 go_enter Tryz.func133, Tryz.ntmps133
 go_wp2
 go_ret
 exact ⟨rfl, rfl⟩
theorem turn7 (x : Int) (h0 : 0 ≤ x) (h1 : x < 4294967296) (w : World) :
  Calls Tryz.prog 130 #[.int .u32 x, .int .i64 7] w fun e w' => e = .returned (.int .u32 (rotW 128 x)) ∧ w' = w := by
 have hb : bits BinOp.and IntKind.u64 7 31 = 7 := by decide
 go_enter Tryz.func130, Tryz.ntmps130
 go_wp2
 go_ret
 exact ⟨rfl, rfl⟩
attribute [irreducible] rotW xorW addW
end Go.Proofs.YtcfepoopkfhojaaGreat
namespace Go.Proofs.YtcfepoopkfhojaaGreat
open Go.ChangeShapes Go.WideShapes Go.ChangeAt Go.RowKit
def q1a (a b c d : Int) : Int := addW a b
def q1d (a b c d : Int) : Int := rotW 65536 (xorW d (q1a a b c d))
def q1c (a b c d : Int) : Int := addW c (q1d a b c d)
def q1b (a b c d : Int) : Int := rotW 4096 (xorW b (q1c a b c d))
def qa (a b c d : Int) : Int := addW (q1a a b c d) (q1b a b c d)
def qd (a b c d : Int) : Int := rotW 256 (xorW (q1d a b c d) (qa a b c d))
def qc (a b c d : Int) : Int := addW (q1c a b c d) (qd a b c d)
def qb (a b c d : Int) : Int := rotW 128 (xorW (q1b a b c d) (qc a b c d))
theorem zgb (a b c d : Int) : 0 ≤ q1a a b c d ∧ q1a a b c d < 4294967296 := addW_bd _ _
theorem zeb (a b c d : Int) : 0 ≤ q1b a b c d ∧ q1b a b c d < 4294967296 := rotW_bd _ _
theorem zhb (a b c d : Int) : 0 ≤ q1c a b c d ∧ q1c a b c d < 4294967296 := addW_bd _ _
theorem zfb (a b c d : Int) : 0 ≤ q1d a b c d ∧ q1d a b c d < 4294967296 := rotW_bd _ _
theorem qa_bd (a b c d : Int) : 0 ≤ qa a b c d ∧ qa a b c d < 4294967296 := addW_bd _ _
theorem qb_bd (a b c d : Int) : 0 ≤ qb a b c d ∧ qb a b c d < 4294967296 := rotW_bd _ _
theorem qc_bd (a b c d : Int) : 0 ≤ qc a b c d ∧ qc a b c d < 4294967296 := addW_bd _ _
theorem qd_bd (a b c d : Int) : 0 ≤ qd a b c d ∧ qd a b c d < 4294967296 := rotW_bd _ _
theorem zja {a w : World} {row : Option Nat} (h : a.grownBy w row) : a.grownBy w.drew row := ⟨h.os, h.tape, h.output, h.size, h.block⟩
theorem quarter_p0 (b : Nat) (t : TypeId) (x0 x1 x2 x3 x4 x5 x6 x7 : Int) (h0 : 0 ≤ x0 ∧ x0 < 4294967296) (h1 : 0 ≤ x1 ∧ x1 < 4294967296) (h2 : 0 ≤ x2 ∧ x2 < 4294967296) (h3 : 0 ≤ x3 ∧ x3 < 4294967296) (h4 : 0 ≤ x4 ∧ x4 < 4294967296) (h5 : 0 ≤ x5 ∧ x5 < 4294967296) (h6 : 0 ≤ x6 ∧ x6 < 4294967296) (h7 : 0 ≤ x7 ∧ x7 < 4294967296) (w : World) (hb : Blk w b t #[Value.int .u32 x0, .int .u32 x1, .int .u32 x2, .int .u32 x3, .int .u32 x4, .int .u32 x5, .int .u32 x6, .int .u32 x7]) :
  Calls Tryz.prog 132 #[.pointer (some ⟨b, 0, none⟩), .pointer (some ⟨b, 1, none⟩), .pointer (some ⟨b, 2, none⟩), .pointer (some ⟨b, 3, none⟩)] w fun e w' => e = .returned (.tuple #[]) ∧ w.grownBy w' (some b) ∧ Blk w' b t #[Value.int .u32 (qa x0 x1 x2 x3), .int .u32 (qb x0 x1 x2 x3), .int .u32 (qc x0 x1 x2 x3), .int .u32 (qd x0 x1 x2 x3), .int .u32 x4, .int .u32 x5, .int .u32 x6, .int .u32 x7] := by
 have g := World.grownBy.refl w (some b)
 go_enter Tryz.func132, Tryz.ntmps132
 go_wp2
 have k1 := (hb.drew).cell (k := 0) (v := .int .u32 x0) rfl
 have k2 := (hb.drew).cell (k := 1) (v := .int .u32 x1) rfl
 have k3 := (hb.drew).frozen 0
 have e1 : IntKind.u32.wrap (x0 + x1) = (q1a x0 x1 x2 x3) := by rw [IntKind.wrap_u32]; unfold q1a addW; rfl
 have := h0.1
 have := h0.2
 have := h1.1
 have := h1.2
 refine wp_region_still_tail 8 (by kernel_rfl) (by kernel_rfl) ?_
 simp only [List.take_succ_cons, List.take_zero, List.drop_succ_cons, List.drop_zero]
 change wpStill _ _ (World.drew _) _ _ _
 still_step; still_step; still_step; still_step; still_step; still_step; still_step; still_step
 refine wpStill_nil ?_
 change wpList _ _ _ _ _ (World.drew _)
 clear e1
 go_wp2
 have hbx := (hb.set 0 (.int .u32 (q1a x0 x1 x2 x3)) (c' := #[Value.int .u32 ((q1a x0 x1 x2 x3)), .int .u32 x1, .int .u32 x2, .int .u32 x3, .int .u32 x4, .int .u32 x5, .int .u32 x6, .int .u32 x7]) rfl).drew
 have gx := zja (zi (p := ⟨b, 0, none⟩) g rfl (.int .u32 (q1a x0 x1 x2 x3)))
 generalize World.drew (World.setCell _ _ _) = w1 at *
 clear k1 k2 k3 hb g
 have k1 := (hbx.drew).cell (k := 3) (v := .int .u32 x3) rfl
 have k2 := (hbx.drew).cell (k := 0) (v := .int .u32 (q1a x0 x1 x2 x3)) rfl
 have k3 := (hbx.drew).frozen 3
 have e1 : bits .xor .u32 x3 (q1a x0 x1 x2 x3) = xorW x3 (q1a x0 x1 x2 x3) := by unfold xorW; rfl
 have := (zgb x0 x1 x2 x3).1
 have := (zgb x0 x1 x2 x3).2
 have := h3.1
 have := h3.2
 refine wp_region_still_tail 10 (by kernel_rfl) (by kernel_rfl) ?_
 simp only [List.take_succ_cons, List.take_zero, List.drop_succ_cons, List.drop_zero]
 change wpStill _ _ (World.drew _) _ _ _
 still_step; still_step; still_step; still_step; still_step; still_step; still_step; still_step
 still_call (rot16 _ (zw _ _).1 (zw _ _).2 _)
 still_step
 refine wpStill_nil ?_
 change wpList _ _ _ _ _ (World.drew _)
 rw [show rotW 65536 (xorW x3 (q1a x0 x1 x2 x3)) = (q1d x0 x1 x2 x3) by unfold q1d; rfl]
 clear e1
 go_wp2
 have hbxx := (hbx.set 3 (.int .u32 (q1d x0 x1 x2 x3)) (c' := #[Value.int .u32 ((q1a x0 x1 x2 x3)), .int .u32 x1, .int .u32 x2, .int .u32 ((q1d x0 x1 x2 x3)), .int .u32 x4, .int .u32 x5, .int .u32 x6, .int .u32 x7]) rfl).drew
 have gxx := zja (zi (p := ⟨b, 3, none⟩) gx rfl (.int .u32 (q1d x0 x1 x2 x3)))
 generalize World.drew (World.setCell _ _ _) = w2 at *
 clear k1 k2 k3 hbx gx
 have k1 := (hbxx.drew).cell (k := 2) (v := .int .u32 x2) rfl
 have k2 := (hbxx.drew).cell (k := 3) (v := .int .u32 (q1d x0 x1 x2 x3)) rfl
 have k3 := (hbxx.drew).frozen 2
 have e1 : IntKind.u32.wrap (x2 + (q1d x0 x1 x2 x3)) = (q1c x0 x1 x2 x3) := by rw [IntKind.wrap_u32]; unfold q1c addW; rfl
 have := (zfb x0 x1 x2 x3).1
 have := (zfb x0 x1 x2 x3).2
 have := h2.1
 have := h2.2
 refine wp_region_still_tail 8 (by kernel_rfl) (by kernel_rfl) ?_
 simp only [List.take_succ_cons, List.take_zero, List.drop_succ_cons, List.drop_zero]
 change wpStill _ _ (World.drew _) _ _ _
 still_step; still_step; still_step; still_step; still_step; still_step; still_step; still_step
 refine wpStill_nil ?_
 change wpList _ _ _ _ _ (World.drew _)
 clear e1
 go_wp2
 have hbxxx := (hbxx.set 2 (.int .u32 (q1c x0 x1 x2 x3)) (c' := #[Value.int .u32 ((q1a x0 x1 x2 x3)), .int .u32 x1, .int .u32 ((q1c x0 x1 x2 x3)), .int .u32 ((q1d x0 x1 x2 x3)), .int .u32 x4, .int .u32 x5, .int .u32 x6, .int .u32 x7]) rfl).drew
 have gxxx := zja (zi (p := ⟨b, 2, none⟩) gxx rfl (.int .u32 (q1c x0 x1 x2 x3)))
 generalize World.drew (World.setCell _ _ _) = w3 at *
 clear k1 k2 k3 hbxx gxx
 have k1 := (hbxxx.drew).cell (k := 1) (v := .int .u32 x1) rfl
 have k2 := (hbxxx.drew).cell (k := 2) (v := .int .u32 (q1c x0 x1 x2 x3)) rfl
 have k3 := (hbxxx.drew).frozen 1
 have e1 : bits .xor .u32 x1 (q1c x0 x1 x2 x3) = xorW x1 (q1c x0 x1 x2 x3) := by unfold xorW; rfl
 have := (zhb x0 x1 x2 x3).1
 have := (zhb x0 x1 x2 x3).2
 have := h1.1
 have := h1.2
 refine wp_region_still_tail 10 (by kernel_rfl) (by kernel_rfl) ?_
 simp only [List.take_succ_cons, List.take_zero, List.drop_succ_cons, List.drop_zero]
 change wpStill _ _ (World.drew _) _ _ _
 still_step; still_step; still_step; still_step; still_step; still_step; still_step; still_step
 still_call (rot12 _ (zw _ _).1 (zw _ _).2 _)
 still_step
 refine wpStill_nil ?_
 change wpList _ _ _ _ _ (World.drew _)
 rw [show rotW 4096 (xorW x1 (q1c x0 x1 x2 x3)) = (q1b x0 x1 x2 x3) by unfold q1b; rfl]
 clear e1
 go_wp2
 have hbxxxx := (hbxxx.set 1 (.int .u32 (q1b x0 x1 x2 x3)) (c' := #[Value.int .u32 ((q1a x0 x1 x2 x3)), .int .u32 ((q1b x0 x1 x2 x3)), .int .u32 ((q1c x0 x1 x2 x3)), .int .u32 ((q1d x0 x1 x2 x3)), .int .u32 x4, .int .u32 x5, .int .u32 x6, .int .u32 x7]) rfl).drew
 have gxxxx := zja (zi (p := ⟨b, 1, none⟩) gxxx rfl (.int .u32 (q1b x0 x1 x2 x3)))
 generalize World.drew (World.setCell _ _ _) = w4 at *
 clear k1 k2 k3 hbxxx gxxx
 have k1 := (hbxxxx.drew).cell (k := 0) (v := .int .u32 (q1a x0 x1 x2 x3)) rfl
 have k2 := (hbxxxx.drew).cell (k := 1) (v := .int .u32 (q1b x0 x1 x2 x3)) rfl
 have k3 := (hbxxxx.drew).frozen 0
 have e1 : IntKind.u32.wrap ((q1a x0 x1 x2 x3) + (q1b x0 x1 x2 x3)) = (qa x0 x1 x2 x3) := by rw [IntKind.wrap_u32]; unfold qa addW; rfl
 have := (zgb x0 x1 x2 x3).1
 have := (zgb x0 x1 x2 x3).2
 have := (zeb x0 x1 x2 x3).1
 have := (zeb x0 x1 x2 x3).2
 refine wp_region_still_tail 8 (by kernel_rfl) (by kernel_rfl) ?_
 simp only [List.take_succ_cons, List.take_zero, List.drop_succ_cons, List.drop_zero]
 change wpStill _ _ (World.drew _) _ _ _
 still_step; still_step; still_step; still_step; still_step; still_step; still_step; still_step
 refine wpStill_nil ?_
 change wpList _ _ _ _ _ (World.drew _)
 clear e1
 go_wp2
 have hbxxxxx := (hbxxxx.set 0 (.int .u32 (qa x0 x1 x2 x3)) (c' := #[Value.int .u32 ((qa x0 x1 x2 x3)), .int .u32 ((q1b x0 x1 x2 x3)), .int .u32 ((q1c x0 x1 x2 x3)), .int .u32 ((q1d x0 x1 x2 x3)), .int .u32 x4, .int .u32 x5, .int .u32 x6, .int .u32 x7]) rfl).drew
 have gxxxxx := zja (zi (p := ⟨b, 0, none⟩) gxxxx rfl (.int .u32 (qa x0 x1 x2 x3)))
 generalize World.drew (World.setCell _ _ _) = w5 at *
 clear k1 k2 k3 hbxxxx gxxxx
 have k1 := (hbxxxxx.drew).cell (k := 3) (v := .int .u32 (q1d x0 x1 x2 x3)) rfl
 have k2 := (hbxxxxx.drew).cell (k := 0) (v := .int .u32 (qa x0 x1 x2 x3)) rfl
 have k3 := (hbxxxxx.drew).frozen 3
 have e1 : bits .xor .u32 (q1d x0 x1 x2 x3) (qa x0 x1 x2 x3) = xorW (q1d x0 x1 x2 x3) (qa x0 x1 x2 x3) := by unfold xorW; rfl
 have := (zfb x0 x1 x2 x3).1
 have := (zfb x0 x1 x2 x3).2
 have := (qa_bd x0 x1 x2 x3).1
 have := (qa_bd x0 x1 x2 x3).2
 refine wp_region_still_tail 10 (by kernel_rfl) (by kernel_rfl) ?_
 simp only [List.take_succ_cons, List.take_zero, List.drop_succ_cons, List.drop_zero]
 change wpStill _ _ (World.drew _) _ _ _
 still_step; still_step; still_step; still_step; still_step; still_step; still_step; still_step
 still_call (rot8 _ (zw _ _).1 (zw _ _).2 _)
 still_step
 refine wpStill_nil ?_
 change wpList _ _ _ _ _ (World.drew _)
 rw [show rotW 256 (xorW (q1d x0 x1 x2 x3) (qa x0 x1 x2 x3)) = (qd x0 x1 x2 x3) by unfold qd; rfl]
 clear e1
 go_wp2
 have hbxxxxxx := (hbxxxxx.set 3 (.int .u32 (qd x0 x1 x2 x3)) (c' := #[Value.int .u32 ((qa x0 x1 x2 x3)), .int .u32 ((q1b x0 x1 x2 x3)), .int .u32 ((q1c x0 x1 x2 x3)), .int .u32 ((qd x0 x1 x2 x3)), .int .u32 x4, .int .u32 x5, .int .u32 x6, .int .u32 x7]) rfl).drew
 have gxxxxxx := zja (zi (p := ⟨b, 3, none⟩) gxxxxx rfl (.int .u32 (qd x0 x1 x2 x3)))
 generalize World.drew (World.setCell _ _ _) = w6 at *
 clear k1 k2 k3 hbxxxxx gxxxxx
 have k1 := (hbxxxxxx.drew).cell (k := 2) (v := .int .u32 (q1c x0 x1 x2 x3)) rfl
 have k2 := (hbxxxxxx.drew).cell (k := 3) (v := .int .u32 (qd x0 x1 x2 x3)) rfl
 have k3 := (hbxxxxxx.drew).frozen 2
 have e1 : IntKind.u32.wrap ((q1c x0 x1 x2 x3) + (qd x0 x1 x2 x3)) = (qc x0 x1 x2 x3) := by rw [IntKind.wrap_u32]; unfold qc addW; rfl
 have := (zhb x0 x1 x2 x3).1
 have := (zhb x0 x1 x2 x3).2
 have := (qd_bd x0 x1 x2 x3).1
 have := (qd_bd x0 x1 x2 x3).2
 refine wp_region_still_tail 8 (by kernel_rfl) (by kernel_rfl) ?_
 simp only [List.take_succ_cons, List.take_zero, List.drop_succ_cons, List.drop_zero]
 change wpStill _ _ (World.drew _) _ _ _
 still_step; still_step; still_step; still_step; still_step; still_step; still_step; still_step
 refine wpStill_nil ?_
 change wpList _ _ _ _ _ (World.drew _)
 clear e1
 go_wp2
 have hbxxxxxxx := (hbxxxxxx.set 2 (.int .u32 (qc x0 x1 x2 x3)) (c' := #[Value.int .u32 ((qa x0 x1 x2 x3)), .int .u32 ((q1b x0 x1 x2 x3)), .int .u32 ((qc x0 x1 x2 x3)), .int .u32 ((qd x0 x1 x2 x3)), .int .u32 x4, .int .u32 x5, .int .u32 x6, .int .u32 x7]) rfl).drew
 have gxxxxxxx := zja (zi (p := ⟨b, 2, none⟩) gxxxxxx rfl (.int .u32 (qc x0 x1 x2 x3)))
 generalize World.drew (World.setCell _ _ _) = w7 at *
 clear k1 k2 k3 hbxxxxxx gxxxxxx
 have k1 := (hbxxxxxxx.drew).cell (k := 1) (v := .int .u32 (q1b x0 x1 x2 x3)) rfl
 have k2 := (hbxxxxxxx.drew).cell (k := 2) (v := .int .u32 (qc x0 x1 x2 x3)) rfl
 have k3 := (hbxxxxxxx.drew).frozen 1
 have e1 : bits .xor .u32 (q1b x0 x1 x2 x3) (qc x0 x1 x2 x3) = xorW (q1b x0 x1 x2 x3) (qc x0 x1 x2 x3) := by unfold xorW; rfl
 have := (zeb x0 x1 x2 x3).1
 have := (zeb x0 x1 x2 x3).2
 have := (qc_bd x0 x1 x2 x3).1
 have := (qc_bd x0 x1 x2 x3).2
 refine wp_region_still_tail 10 (by kernel_rfl) (by kernel_rfl) ?_
 simp only [List.take_succ_cons, List.take_zero, List.drop_succ_cons, List.drop_zero]
 change wpStill _ _ (World.drew _) _ _ _
 still_step; still_step; still_step; still_step; still_step; still_step; still_step; still_step
 still_call (rot7 _ (zw _ _).1 (zw _ _).2 _)
 still_step
 refine wpStill_nil ?_
 change wpList _ _ _ _ _ (World.drew _)
 rw [show rotW 128 (xorW (q1b x0 x1 x2 x3) (qc x0 x1 x2 x3)) = (qb x0 x1 x2 x3) by unfold qb; rfl]
 clear e1
 go_wp2
 have hbxxxxxxxx := (hbxxxxxxx.set 1 (.int .u32 (qb x0 x1 x2 x3)) (c' := #[Value.int .u32 ((qa x0 x1 x2 x3)), .int .u32 ((qb x0 x1 x2 x3)), .int .u32 ((qc x0 x1 x2 x3)), .int .u32 ((qd x0 x1 x2 x3)), .int .u32 x4, .int .u32 x5, .int .u32 x6, .int .u32 x7]) rfl).drew
 have gxxxxxxxx := zja (zi (p := ⟨b, 1, none⟩) gxxxxxxx rfl (.int .u32 (qb x0 x1 x2 x3)))
 generalize World.drew (World.setCell _ _ _) = w8 at *
 clear k1 k2 k3 hbxxxxxxx gxxxxxxx
 exact ⟨rfl, .tuple #[], (by kernel_rfl), rfl, gxxxxxxxx, hbxxxxxxxx⟩
theorem quarter_p1 (b : Nat) (t : TypeId) (x0 x1 x2 x3 x4 x5 x6 x7 : Int) (h0 : 0 ≤ x0 ∧ x0 < 4294967296) (h1 : 0 ≤ x1 ∧ x1 < 4294967296) (h2 : 0 ≤ x2 ∧ x2 < 4294967296) (h3 : 0 ≤ x3 ∧ x3 < 4294967296) (h4 : 0 ≤ x4 ∧ x4 < 4294967296) (h5 : 0 ≤ x5 ∧ x5 < 4294967296) (h6 : 0 ≤ x6 ∧ x6 < 4294967296) (h7 : 0 ≤ x7 ∧ x7 < 4294967296) (w : World) (hb : Blk w b t #[Value.int .u32 x0, .int .u32 x1, .int .u32 x2, .int .u32 x3, .int .u32 x4, .int .u32 x5, .int .u32 x6, .int .u32 x7]) :
  Calls Tryz.prog 132 #[.pointer (some ⟨b, 4, none⟩), .pointer (some ⟨b, 5, none⟩), .pointer (some ⟨b, 6, none⟩), .pointer (some ⟨b, 7, none⟩)] w fun e w' => e = .returned (.tuple #[]) ∧ w.grownBy w' (some b) ∧ Blk w' b t #[Value.int .u32 x0, .int .u32 x1, .int .u32 x2, .int .u32 x3, .int .u32 (qa x4 x5 x6 x7), .int .u32 (qb x4 x5 x6 x7), .int .u32 (qc x4 x5 x6 x7), .int .u32 (qd x4 x5 x6 x7)] := by
 have g := World.grownBy.refl w (some b)
 go_enter Tryz.func132, Tryz.ntmps132
 go_wp2
 have k1 := (hb.drew).cell (k := 4) (v := .int .u32 x4) rfl
 have k2 := (hb.drew).cell (k := 5) (v := .int .u32 x5) rfl
 have k3 := (hb.drew).frozen 4
 have e1 : IntKind.u32.wrap (x4 + x5) = (q1a x4 x5 x6 x7) := by rw [IntKind.wrap_u32]; unfold q1a addW; rfl
 have := h4.1
 have := h4.2
 have := h5.1
 have := h5.2
 refine wp_region_still_tail 8 (by kernel_rfl) (by kernel_rfl) ?_
 simp only [List.take_succ_cons, List.take_zero, List.drop_succ_cons, List.drop_zero]
 change wpStill _ _ (World.drew _) _ _ _
 still_step; still_step; still_step; still_step; still_step; still_step; still_step; still_step
 refine wpStill_nil ?_
 change wpList _ _ _ _ _ (World.drew _)
 clear e1
 go_wp2
 have hbx := (hb.set 4 (.int .u32 (q1a x4 x5 x6 x7)) (c' := #[Value.int .u32 x0, .int .u32 x1, .int .u32 x2, .int .u32 x3, .int .u32 ((q1a x4 x5 x6 x7)), .int .u32 x5, .int .u32 x6, .int .u32 x7]) rfl).drew
 have gx := zja (zi (p := ⟨b, 4, none⟩) g rfl (.int .u32 (q1a x4 x5 x6 x7)))
 generalize World.drew (World.setCell _ _ _) = w1 at *
 clear k1 k2 k3 hb g
 have k1 := (hbx.drew).cell (k := 7) (v := .int .u32 x7) rfl
 have k2 := (hbx.drew).cell (k := 4) (v := .int .u32 (q1a x4 x5 x6 x7)) rfl
 have k3 := (hbx.drew).frozen 7
 have e1 : bits .xor .u32 x7 (q1a x4 x5 x6 x7) = xorW x7 (q1a x4 x5 x6 x7) := by unfold xorW; rfl
 have := (zgb x4 x5 x6 x7).1
 have := (zgb x4 x5 x6 x7).2
 have := h7.1
 have := h7.2
 refine wp_region_still_tail 10 (by kernel_rfl) (by kernel_rfl) ?_
 simp only [List.take_succ_cons, List.take_zero, List.drop_succ_cons, List.drop_zero]
 change wpStill _ _ (World.drew _) _ _ _
 still_step; still_step; still_step; still_step; still_step; still_step; still_step; still_step
 still_call (rot16 _ (zw _ _).1 (zw _ _).2 _)
 still_step
 refine wpStill_nil ?_
 change wpList _ _ _ _ _ (World.drew _)
 rw [show rotW 65536 (xorW x7 (q1a x4 x5 x6 x7)) = (q1d x4 x5 x6 x7) by unfold q1d; rfl]
 clear e1
 go_wp2
 have hbxx := (hbx.set 7 (.int .u32 (q1d x4 x5 x6 x7)) (c' := #[Value.int .u32 x0, .int .u32 x1, .int .u32 x2, .int .u32 x3, .int .u32 ((q1a x4 x5 x6 x7)), .int .u32 x5, .int .u32 x6, .int .u32 ((q1d x4 x5 x6 x7))]) rfl).drew
 have gxx := zja (zi (p := ⟨b, 7, none⟩) gx rfl (.int .u32 (q1d x4 x5 x6 x7)))
 generalize World.drew (World.setCell _ _ _) = w2 at *
 clear k1 k2 k3 hbx gx
 have k1 := (hbxx.drew).cell (k := 6) (v := .int .u32 x6) rfl
 have k2 := (hbxx.drew).cell (k := 7) (v := .int .u32 (q1d x4 x5 x6 x7)) rfl
 have k3 := (hbxx.drew).frozen 6
 have e1 : IntKind.u32.wrap (x6 + (q1d x4 x5 x6 x7)) = (q1c x4 x5 x6 x7) := by rw [IntKind.wrap_u32]; unfold q1c addW; rfl
 have := (zfb x4 x5 x6 x7).1
 have := (zfb x4 x5 x6 x7).2
 have := h6.1
 have := h6.2
 refine wp_region_still_tail 8 (by kernel_rfl) (by kernel_rfl) ?_
 simp only [List.take_succ_cons, List.take_zero, List.drop_succ_cons, List.drop_zero]
 change wpStill _ _ (World.drew _) _ _ _
 still_step; still_step; still_step; still_step; still_step; still_step; still_step; still_step
 refine wpStill_nil ?_
 change wpList _ _ _ _ _ (World.drew _)
 clear e1
 go_wp2
 have hbxxx := (hbxx.set 6 (.int .u32 (q1c x4 x5 x6 x7)) (c' := #[Value.int .u32 x0, .int .u32 x1, .int .u32 x2, .int .u32 x3, .int .u32 ((q1a x4 x5 x6 x7)), .int .u32 x5, .int .u32 ((q1c x4 x5 x6 x7)), .int .u32 ((q1d x4 x5 x6 x7))]) rfl).drew
 have gxxx := zja (zi (p := ⟨b, 6, none⟩) gxx rfl (.int .u32 (q1c x4 x5 x6 x7)))
 generalize World.drew (World.setCell _ _ _) = w3 at *
 clear k1 k2 k3 hbxx gxx
 have k1 := (hbxxx.drew).cell (k := 5) (v := .int .u32 x5) rfl
 have k2 := (hbxxx.drew).cell (k := 6) (v := .int .u32 (q1c x4 x5 x6 x7)) rfl
 have k3 := (hbxxx.drew).frozen 5
 have e1 : bits .xor .u32 x5 (q1c x4 x5 x6 x7) = xorW x5 (q1c x4 x5 x6 x7) := by unfold xorW; rfl
 have := (zhb x4 x5 x6 x7).1
 have := (zhb x4 x5 x6 x7).2
 have := h5.1
 have := h5.2
 refine wp_region_still_tail 10 (by kernel_rfl) (by kernel_rfl) ?_
 simp only [List.take_succ_cons, List.take_zero, List.drop_succ_cons, List.drop_zero]
 change wpStill _ _ (World.drew _) _ _ _
 still_step; still_step; still_step; still_step; still_step; still_step; still_step; still_step
 still_call (rot12 _ (zw _ _).1 (zw _ _).2 _)
 still_step
 refine wpStill_nil ?_
 change wpList _ _ _ _ _ (World.drew _)
 rw [show rotW 4096 (xorW x5 (q1c x4 x5 x6 x7)) = (q1b x4 x5 x6 x7) by unfold q1b; rfl]
 clear e1
 go_wp2
 have hbxxxx := (hbxxx.set 5 (.int .u32 (q1b x4 x5 x6 x7)) (c' := #[Value.int .u32 x0, .int .u32 x1, .int .u32 x2, .int .u32 x3, .int .u32 ((q1a x4 x5 x6 x7)), .int .u32 ((q1b x4 x5 x6 x7)), .int .u32 ((q1c x4 x5 x6 x7)), .int .u32 ((q1d x4 x5 x6 x7))]) rfl).drew
 have gxxxx := zja (zi (p := ⟨b, 5, none⟩) gxxx rfl (.int .u32 (q1b x4 x5 x6 x7)))
 generalize World.drew (World.setCell _ _ _) = w4 at *
 clear k1 k2 k3 hbxxx gxxx
 have k1 := (hbxxxx.drew).cell (k := 4) (v := .int .u32 (q1a x4 x5 x6 x7)) rfl
 have k2 := (hbxxxx.drew).cell (k := 5) (v := .int .u32 (q1b x4 x5 x6 x7)) rfl
 have k3 := (hbxxxx.drew).frozen 4
 have e1 : IntKind.u32.wrap ((q1a x4 x5 x6 x7) + (q1b x4 x5 x6 x7)) = (qa x4 x5 x6 x7) := by rw [IntKind.wrap_u32]; unfold qa addW; rfl
 have := (zgb x4 x5 x6 x7).1
 have := (zgb x4 x5 x6 x7).2
 have := (zeb x4 x5 x6 x7).1
 have := (zeb x4 x5 x6 x7).2
 refine wp_region_still_tail 8 (by kernel_rfl) (by kernel_rfl) ?_
 simp only [List.take_succ_cons, List.take_zero, List.drop_succ_cons, List.drop_zero]
 change wpStill _ _ (World.drew _) _ _ _
 still_step; still_step; still_step; still_step; still_step; still_step; still_step; still_step
 refine wpStill_nil ?_
 change wpList _ _ _ _ _ (World.drew _)
 clear e1
 go_wp2
 have hbxxxxx := (hbxxxx.set 4 (.int .u32 (qa x4 x5 x6 x7)) (c' := #[Value.int .u32 x0, .int .u32 x1, .int .u32 x2, .int .u32 x3, .int .u32 ((qa x4 x5 x6 x7)), .int .u32 ((q1b x4 x5 x6 x7)), .int .u32 ((q1c x4 x5 x6 x7)), .int .u32 ((q1d x4 x5 x6 x7))]) rfl).drew
 have gxxxxx := zja (zi (p := ⟨b, 4, none⟩) gxxxx rfl (.int .u32 (qa x4 x5 x6 x7)))
 generalize World.drew (World.setCell _ _ _) = w5 at *
 clear k1 k2 k3 hbxxxx gxxxx
 have k1 := (hbxxxxx.drew).cell (k := 7) (v := .int .u32 (q1d x4 x5 x6 x7)) rfl
 have k2 := (hbxxxxx.drew).cell (k := 4) (v := .int .u32 (qa x4 x5 x6 x7)) rfl
 have k3 := (hbxxxxx.drew).frozen 7
 have e1 : bits .xor .u32 (q1d x4 x5 x6 x7) (qa x4 x5 x6 x7) = xorW (q1d x4 x5 x6 x7) (qa x4 x5 x6 x7) := by unfold xorW; rfl
 have := (zfb x4 x5 x6 x7).1
 have := (zfb x4 x5 x6 x7).2
 have := (qa_bd x4 x5 x6 x7).1
 have := (qa_bd x4 x5 x6 x7).2
 refine wp_region_still_tail 10 (by kernel_rfl) (by kernel_rfl) ?_
 simp only [List.take_succ_cons, List.take_zero, List.drop_succ_cons, List.drop_zero]
 change wpStill _ _ (World.drew _) _ _ _
 still_step; still_step; still_step; still_step; still_step; still_step; still_step; still_step
 still_call (rot8 _ (zw _ _).1 (zw _ _).2 _)
 still_step
 refine wpStill_nil ?_
 change wpList _ _ _ _ _ (World.drew _)
 rw [show rotW 256 (xorW (q1d x4 x5 x6 x7) (qa x4 x5 x6 x7)) = (qd x4 x5 x6 x7) by unfold qd; rfl]
 clear e1
 go_wp2
 have hbxxxxxx := (hbxxxxx.set 7 (.int .u32 (qd x4 x5 x6 x7)) (c' := #[Value.int .u32 x0, .int .u32 x1, .int .u32 x2, .int .u32 x3, .int .u32 ((qa x4 x5 x6 x7)), .int .u32 ((q1b x4 x5 x6 x7)), .int .u32 ((q1c x4 x5 x6 x7)), .int .u32 ((qd x4 x5 x6 x7))]) rfl).drew
 have gxxxxxx := zja (zi (p := ⟨b, 7, none⟩) gxxxxx rfl (.int .u32 (qd x4 x5 x6 x7)))
 generalize World.drew (World.setCell _ _ _) = w6 at *
 clear k1 k2 k3 hbxxxxx gxxxxx
 have k1 := (hbxxxxxx.drew).cell (k := 6) (v := .int .u32 (q1c x4 x5 x6 x7)) rfl
 have k2 := (hbxxxxxx.drew).cell (k := 7) (v := .int .u32 (qd x4 x5 x6 x7)) rfl
 have k3 := (hbxxxxxx.drew).frozen 6
 have e1 : IntKind.u32.wrap ((q1c x4 x5 x6 x7) + (qd x4 x5 x6 x7)) = (qc x4 x5 x6 x7) := by rw [IntKind.wrap_u32]; unfold qc addW; rfl
 have := (zhb x4 x5 x6 x7).1
 have := (zhb x4 x5 x6 x7).2
 have := (qd_bd x4 x5 x6 x7).1
 have := (qd_bd x4 x5 x6 x7).2
 refine wp_region_still_tail 8 (by kernel_rfl) (by kernel_rfl) ?_
 simp only [List.take_succ_cons, List.take_zero, List.drop_succ_cons, List.drop_zero]
 change wpStill _ _ (World.drew _) _ _ _
 still_step; still_step; still_step; still_step; still_step; still_step; still_step; still_step
 refine wpStill_nil ?_
 change wpList _ _ _ _ _ (World.drew _)
 clear e1
 go_wp2
 have hbxxxxxxx := (hbxxxxxx.set 6 (.int .u32 (qc x4 x5 x6 x7)) (c' := #[Value.int .u32 x0, .int .u32 x1, .int .u32 x2, .int .u32 x3, .int .u32 ((qa x4 x5 x6 x7)), .int .u32 ((q1b x4 x5 x6 x7)), .int .u32 ((qc x4 x5 x6 x7)), .int .u32 ((qd x4 x5 x6 x7))]) rfl).drew
 have gxxxxxxx := zja (zi (p := ⟨b, 6, none⟩) gxxxxxx rfl (.int .u32 (qc x4 x5 x6 x7)))
 generalize World.drew (World.setCell _ _ _) = w7 at *
 clear k1 k2 k3 hbxxxxxx gxxxxxx
 have k1 := (hbxxxxxxx.drew).cell (k := 5) (v := .int .u32 (q1b x4 x5 x6 x7)) rfl
 have k2 := (hbxxxxxxx.drew).cell (k := 6) (v := .int .u32 (qc x4 x5 x6 x7)) rfl
 have k3 := (hbxxxxxxx.drew).frozen 5
 have e1 : bits .xor .u32 (q1b x4 x5 x6 x7) (qc x4 x5 x6 x7) = xorW (q1b x4 x5 x6 x7) (qc x4 x5 x6 x7) := by unfold xorW; rfl
 have := (zeb x4 x5 x6 x7).1
 have := (zeb x4 x5 x6 x7).2
 have := (qc_bd x4 x5 x6 x7).1
 have := (qc_bd x4 x5 x6 x7).2
 refine wp_region_still_tail 10 (by kernel_rfl) (by kernel_rfl) ?_
 simp only [List.take_succ_cons, List.take_zero, List.drop_succ_cons, List.drop_zero]
 change wpStill _ _ (World.drew _) _ _ _
 still_step; still_step; still_step; still_step; still_step; still_step; still_step; still_step
 still_call (rot7 _ (zw _ _).1 (zw _ _).2 _)
 still_step
 refine wpStill_nil ?_
 change wpList _ _ _ _ _ (World.drew _)
 rw [show rotW 128 (xorW (q1b x4 x5 x6 x7) (qc x4 x5 x6 x7)) = (qb x4 x5 x6 x7) by unfold qb; rfl]
 clear e1
 go_wp2
 have hbxxxxxxxx := (hbxxxxxxx.set 5 (.int .u32 (qb x4 x5 x6 x7)) (c' := #[Value.int .u32 x0, .int .u32 x1, .int .u32 x2, .int .u32 x3, .int .u32 ((qa x4 x5 x6 x7)), .int .u32 ((qb x4 x5 x6 x7)), .int .u32 ((qc x4 x5 x6 x7)), .int .u32 ((qd x4 x5 x6 x7))]) rfl).drew
 have gxxxxxxxx := zja (zi (p := ⟨b, 5, none⟩) gxxxxxxx rfl (.int .u32 (qb x4 x5 x6 x7)))
 generalize World.drew (World.setCell _ _ _) = w8 at *
 clear k1 k2 k3 hbxxxxxxx gxxxxxxx
 exact ⟨rfl, .tuple #[], (by kernel_rfl), rfl, gxxxxxxxx, hbxxxxxxxx⟩
theorem quarter_p2 (b : Nat) (t : TypeId) (x0 x1 x2 x3 x4 x5 x6 x7 : Int) (h0 : 0 ≤ x0 ∧ x0 < 4294967296) (h1 : 0 ≤ x1 ∧ x1 < 4294967296) (h2 : 0 ≤ x2 ∧ x2 < 4294967296) (h3 : 0 ≤ x3 ∧ x3 < 4294967296) (h4 : 0 ≤ x4 ∧ x4 < 4294967296) (h5 : 0 ≤ x5 ∧ x5 < 4294967296) (h6 : 0 ≤ x6 ∧ x6 < 4294967296) (h7 : 0 ≤ x7 ∧ x7 < 4294967296) (w : World) (hb : Blk w b t #[Value.int .u32 x0, .int .u32 x1, .int .u32 x2, .int .u32 x3, .int .u32 x4, .int .u32 x5, .int .u32 x6, .int .u32 x7]) :
  Calls Tryz.prog 132 #[.pointer (some ⟨b, 0, none⟩), .pointer (some ⟨b, 5, none⟩), .pointer (some ⟨b, 2, none⟩), .pointer (some ⟨b, 7, none⟩)] w fun e w' => e = .returned (.tuple #[]) ∧ w.grownBy w' (some b) ∧ Blk w' b t #[Value.int .u32 (qa x0 x5 x2 x7), .int .u32 x1, .int .u32 (qc x0 x5 x2 x7), .int .u32 x3, .int .u32 x4, .int .u32 (qb x0 x5 x2 x7), .int .u32 x6, .int .u32 (qd x0 x5 x2 x7)] := by
 have g := World.grownBy.refl w (some b)
 go_enter Tryz.func132, Tryz.ntmps132
 go_wp2
 have k1 := (hb.drew).cell (k := 0) (v := .int .u32 x0) rfl
 have k2 := (hb.drew).cell (k := 5) (v := .int .u32 x5) rfl
 have k3 := (hb.drew).frozen 0
 have e1 : IntKind.u32.wrap (x0 + x5) = (q1a x0 x5 x2 x7) := by rw [IntKind.wrap_u32]; unfold q1a addW; rfl
 have := h0.1
 have := h0.2
 have := h5.1
 have := h5.2
 refine wp_region_still_tail 8 (by kernel_rfl) (by kernel_rfl) ?_
 simp only [List.take_succ_cons, List.take_zero, List.drop_succ_cons, List.drop_zero]
 change wpStill _ _ (World.drew _) _ _ _
 still_step; still_step; still_step; still_step; still_step; still_step; still_step; still_step
 refine wpStill_nil ?_
 change wpList _ _ _ _ _ (World.drew _)
 clear e1
 go_wp2
 have hbx := (hb.set 0 (.int .u32 (q1a x0 x5 x2 x7)) (c' := #[Value.int .u32 ((q1a x0 x5 x2 x7)), .int .u32 x1, .int .u32 x2, .int .u32 x3, .int .u32 x4, .int .u32 x5, .int .u32 x6, .int .u32 x7]) rfl).drew
 have gx := zja (zi (p := ⟨b, 0, none⟩) g rfl (.int .u32 (q1a x0 x5 x2 x7)))
 generalize World.drew (World.setCell _ _ _) = w1 at *
 clear k1 k2 k3 hb g
 have k1 := (hbx.drew).cell (k := 7) (v := .int .u32 x7) rfl
 have k2 := (hbx.drew).cell (k := 0) (v := .int .u32 (q1a x0 x5 x2 x7)) rfl
 have k3 := (hbx.drew).frozen 7
 have e1 : bits .xor .u32 x7 (q1a x0 x5 x2 x7) = xorW x7 (q1a x0 x5 x2 x7) := by unfold xorW; rfl
 have := (zgb x0 x5 x2 x7).1
 have := (zgb x0 x5 x2 x7).2
 have := h7.1
 have := h7.2
 refine wp_region_still_tail 10 (by kernel_rfl) (by kernel_rfl) ?_
 simp only [List.take_succ_cons, List.take_zero, List.drop_succ_cons, List.drop_zero]
 change wpStill _ _ (World.drew _) _ _ _
 still_step; still_step; still_step; still_step; still_step; still_step; still_step; still_step
 still_call (rot16 _ (zw _ _).1 (zw _ _).2 _)
 still_step
 refine wpStill_nil ?_
 change wpList _ _ _ _ _ (World.drew _)
 rw [show rotW 65536 (xorW x7 (q1a x0 x5 x2 x7)) = (q1d x0 x5 x2 x7) by unfold q1d; rfl]
 clear e1
 go_wp2
 have hbxx := (hbx.set 7 (.int .u32 (q1d x0 x5 x2 x7)) (c' := #[Value.int .u32 ((q1a x0 x5 x2 x7)), .int .u32 x1, .int .u32 x2, .int .u32 x3, .int .u32 x4, .int .u32 x5, .int .u32 x6, .int .u32 ((q1d x0 x5 x2 x7))]) rfl).drew
 have gxx := zja (zi (p := ⟨b, 7, none⟩) gx rfl (.int .u32 (q1d x0 x5 x2 x7)))
 generalize World.drew (World.setCell _ _ _) = w2 at *
 clear k1 k2 k3 hbx gx
 have k1 := (hbxx.drew).cell (k := 2) (v := .int .u32 x2) rfl
 have k2 := (hbxx.drew).cell (k := 7) (v := .int .u32 (q1d x0 x5 x2 x7)) rfl
 have k3 := (hbxx.drew).frozen 2
 have e1 : IntKind.u32.wrap (x2 + (q1d x0 x5 x2 x7)) = (q1c x0 x5 x2 x7) := by rw [IntKind.wrap_u32]; unfold q1c addW; rfl
 have := (zfb x0 x5 x2 x7).1
 have := (zfb x0 x5 x2 x7).2
 have := h2.1
 have := h2.2
 refine wp_region_still_tail 8 (by kernel_rfl) (by kernel_rfl) ?_
 simp only [List.take_succ_cons, List.take_zero, List.drop_succ_cons, List.drop_zero]
 change wpStill _ _ (World.drew _) _ _ _
 still_step; still_step; still_step; still_step; still_step; still_step; still_step; still_step
 refine wpStill_nil ?_
 change wpList _ _ _ _ _ (World.drew _)
 clear e1
 go_wp2
 have hbxxx := (hbxx.set 2 (.int .u32 (q1c x0 x5 x2 x7)) (c' := #[Value.int .u32 ((q1a x0 x5 x2 x7)), .int .u32 x1, .int .u32 ((q1c x0 x5 x2 x7)), .int .u32 x3, .int .u32 x4, .int .u32 x5, .int .u32 x6, .int .u32 ((q1d x0 x5 x2 x7))]) rfl).drew
 have gxxx := zja (zi (p := ⟨b, 2, none⟩) gxx rfl (.int .u32 (q1c x0 x5 x2 x7)))
 generalize World.drew (World.setCell _ _ _) = w3 at *
 clear k1 k2 k3 hbxx gxx
 have k1 := (hbxxx.drew).cell (k := 5) (v := .int .u32 x5) rfl
 have k2 := (hbxxx.drew).cell (k := 2) (v := .int .u32 (q1c x0 x5 x2 x7)) rfl
 have k3 := (hbxxx.drew).frozen 5
 have e1 : bits .xor .u32 x5 (q1c x0 x5 x2 x7) = xorW x5 (q1c x0 x5 x2 x7) := by unfold xorW; rfl
 have := (zhb x0 x5 x2 x7).1
 have := (zhb x0 x5 x2 x7).2
 have := h5.1
 have := h5.2
 refine wp_region_still_tail 10 (by kernel_rfl) (by kernel_rfl) ?_
 simp only [List.take_succ_cons, List.take_zero, List.drop_succ_cons, List.drop_zero]
 change wpStill _ _ (World.drew _) _ _ _
 still_step; still_step; still_step; still_step; still_step; still_step; still_step; still_step
 still_call (rot12 _ (zw _ _).1 (zw _ _).2 _)
 still_step
 refine wpStill_nil ?_
 change wpList _ _ _ _ _ (World.drew _)
 rw [show rotW 4096 (xorW x5 (q1c x0 x5 x2 x7)) = (q1b x0 x5 x2 x7) by unfold q1b; rfl]
 clear e1
 go_wp2
 have hbxxxx := (hbxxx.set 5 (.int .u32 (q1b x0 x5 x2 x7)) (c' := #[Value.int .u32 ((q1a x0 x5 x2 x7)), .int .u32 x1, .int .u32 ((q1c x0 x5 x2 x7)), .int .u32 x3, .int .u32 x4, .int .u32 ((q1b x0 x5 x2 x7)), .int .u32 x6, .int .u32 ((q1d x0 x5 x2 x7))]) rfl).drew
 have gxxxx := zja (zi (p := ⟨b, 5, none⟩) gxxx rfl (.int .u32 (q1b x0 x5 x2 x7)))
 generalize World.drew (World.setCell _ _ _) = w4 at *
 clear k1 k2 k3 hbxxx gxxx
 have k1 := (hbxxxx.drew).cell (k := 0) (v := .int .u32 (q1a x0 x5 x2 x7)) rfl
 have k2 := (hbxxxx.drew).cell (k := 5) (v := .int .u32 (q1b x0 x5 x2 x7)) rfl
 have k3 := (hbxxxx.drew).frozen 0
 have e1 : IntKind.u32.wrap ((q1a x0 x5 x2 x7) + (q1b x0 x5 x2 x7)) = (qa x0 x5 x2 x7) := by rw [IntKind.wrap_u32]; unfold qa addW; rfl
 have := (zgb x0 x5 x2 x7).1
 have := (zgb x0 x5 x2 x7).2
 have := (zeb x0 x5 x2 x7).1
 have := (zeb x0 x5 x2 x7).2
 refine wp_region_still_tail 8 (by kernel_rfl) (by kernel_rfl) ?_
 simp only [List.take_succ_cons, List.take_zero, List.drop_succ_cons, List.drop_zero]
 change wpStill _ _ (World.drew _) _ _ _
 still_step; still_step; still_step; still_step; still_step; still_step; still_step; still_step
 refine wpStill_nil ?_
 change wpList _ _ _ _ _ (World.drew _)
 clear e1
 go_wp2
 have hbxxxxx := (hbxxxx.set 0 (.int .u32 (qa x0 x5 x2 x7)) (c' := #[Value.int .u32 ((qa x0 x5 x2 x7)), .int .u32 x1, .int .u32 ((q1c x0 x5 x2 x7)), .int .u32 x3, .int .u32 x4, .int .u32 ((q1b x0 x5 x2 x7)), .int .u32 x6, .int .u32 ((q1d x0 x5 x2 x7))]) rfl).drew
 have gxxxxx := zja (zi (p := ⟨b, 0, none⟩) gxxxx rfl (.int .u32 (qa x0 x5 x2 x7)))
 generalize World.drew (World.setCell _ _ _) = w5 at *
 clear k1 k2 k3 hbxxxx gxxxx
 have k1 := (hbxxxxx.drew).cell (k := 7) (v := .int .u32 (q1d x0 x5 x2 x7)) rfl
 have k2 := (hbxxxxx.drew).cell (k := 0) (v := .int .u32 (qa x0 x5 x2 x7)) rfl
 have k3 := (hbxxxxx.drew).frozen 7
 have e1 : bits .xor .u32 (q1d x0 x5 x2 x7) (qa x0 x5 x2 x7) = xorW (q1d x0 x5 x2 x7) (qa x0 x5 x2 x7) := by unfold xorW; rfl
 have := (zfb x0 x5 x2 x7).1
 have := (zfb x0 x5 x2 x7).2
 have := (qa_bd x0 x5 x2 x7).1
 have := (qa_bd x0 x5 x2 x7).2
 refine wp_region_still_tail 10 (by kernel_rfl) (by kernel_rfl) ?_
 simp only [List.take_succ_cons, List.take_zero, List.drop_succ_cons, List.drop_zero]
 change wpStill _ _ (World.drew _) _ _ _
 still_step; still_step; still_step; still_step; still_step; still_step; still_step; still_step
 still_call (rot8 _ (zw _ _).1 (zw _ _).2 _)
 still_step
 refine wpStill_nil ?_
 change wpList _ _ _ _ _ (World.drew _)
 rw [show rotW 256 (xorW (q1d x0 x5 x2 x7) (qa x0 x5 x2 x7)) = (qd x0 x5 x2 x7) by unfold qd; rfl]
 clear e1
 go_wp2
 have hbxxxxxx := (hbxxxxx.set 7 (.int .u32 (qd x0 x5 x2 x7)) (c' := #[Value.int .u32 ((qa x0 x5 x2 x7)), .int .u32 x1, .int .u32 ((q1c x0 x5 x2 x7)), .int .u32 x3, .int .u32 x4, .int .u32 ((q1b x0 x5 x2 x7)), .int .u32 x6, .int .u32 ((qd x0 x5 x2 x7))]) rfl).drew
 have gxxxxxx := zja (zi (p := ⟨b, 7, none⟩) gxxxxx rfl (.int .u32 (qd x0 x5 x2 x7)))
 generalize World.drew (World.setCell _ _ _) = w6 at *
 clear k1 k2 k3 hbxxxxx gxxxxx
 have k1 := (hbxxxxxx.drew).cell (k := 2) (v := .int .u32 (q1c x0 x5 x2 x7)) rfl
 have k2 := (hbxxxxxx.drew).cell (k := 7) (v := .int .u32 (qd x0 x5 x2 x7)) rfl
 have k3 := (hbxxxxxx.drew).frozen 2
 have e1 : IntKind.u32.wrap ((q1c x0 x5 x2 x7) + (qd x0 x5 x2 x7)) = (qc x0 x5 x2 x7) := by rw [IntKind.wrap_u32]; unfold qc addW; rfl
 have := (zhb x0 x5 x2 x7).1
 have := (zhb x0 x5 x2 x7).2
 have := (qd_bd x0 x5 x2 x7).1
 have := (qd_bd x0 x5 x2 x7).2
 refine wp_region_still_tail 8 (by kernel_rfl) (by kernel_rfl) ?_
 simp only [List.take_succ_cons, List.take_zero, List.drop_succ_cons, List.drop_zero]
 change wpStill _ _ (World.drew _) _ _ _
 still_step; still_step; still_step; still_step; still_step; still_step; still_step; still_step
 refine wpStill_nil ?_
 change wpList _ _ _ _ _ (World.drew _)
 clear e1
 go_wp2
 have hbxxxxxxx := (hbxxxxxx.set 2 (.int .u32 (qc x0 x5 x2 x7)) (c' := #[Value.int .u32 ((qa x0 x5 x2 x7)), .int .u32 x1, .int .u32 ((qc x0 x5 x2 x7)), .int .u32 x3, .int .u32 x4, .int .u32 ((q1b x0 x5 x2 x7)), .int .u32 x6, .int .u32 ((qd x0 x5 x2 x7))]) rfl).drew
 have gxxxxxxx := zja (zi (p := ⟨b, 2, none⟩) gxxxxxx rfl (.int .u32 (qc x0 x5 x2 x7)))
 generalize World.drew (World.setCell _ _ _) = w7 at *
 clear k1 k2 k3 hbxxxxxx gxxxxxx
 have k1 := (hbxxxxxxx.drew).cell (k := 5) (v := .int .u32 (q1b x0 x5 x2 x7)) rfl
 have k2 := (hbxxxxxxx.drew).cell (k := 2) (v := .int .u32 (qc x0 x5 x2 x7)) rfl
 have k3 := (hbxxxxxxx.drew).frozen 5
 have e1 : bits .xor .u32 (q1b x0 x5 x2 x7) (qc x0 x5 x2 x7) = xorW (q1b x0 x5 x2 x7) (qc x0 x5 x2 x7) := by unfold xorW; rfl
 have := (zeb x0 x5 x2 x7).1
 have := (zeb x0 x5 x2 x7).2
 have := (qc_bd x0 x5 x2 x7).1
 have := (qc_bd x0 x5 x2 x7).2
 refine wp_region_still_tail 10 (by kernel_rfl) (by kernel_rfl) ?_
 simp only [List.take_succ_cons, List.take_zero, List.drop_succ_cons, List.drop_zero]
 change wpStill _ _ (World.drew _) _ _ _
 still_step; still_step; still_step; still_step; still_step; still_step; still_step; still_step
 still_call (rot7 _ (zw _ _).1 (zw _ _).2 _)
 still_step
 refine wpStill_nil ?_
 change wpList _ _ _ _ _ (World.drew _)
 rw [show rotW 128 (xorW (q1b x0 x5 x2 x7) (qc x0 x5 x2 x7)) = (qb x0 x5 x2 x7) by unfold qb; rfl]
 clear e1
 go_wp2
 have hbxxxxxxxx := (hbxxxxxxx.set 5 (.int .u32 (qb x0 x5 x2 x7)) (c' := #[Value.int .u32 ((qa x0 x5 x2 x7)), .int .u32 x1, .int .u32 ((qc x0 x5 x2 x7)), .int .u32 x3, .int .u32 x4, .int .u32 ((qb x0 x5 x2 x7)), .int .u32 x6, .int .u32 ((qd x0 x5 x2 x7))]) rfl).drew
 have gxxxxxxxx := zja (zi (p := ⟨b, 5, none⟩) gxxxxxxx rfl (.int .u32 (qb x0 x5 x2 x7)))
 generalize World.drew (World.setCell _ _ _) = w8 at *
 clear k1 k2 k3 hbxxxxxxx gxxxxxxx
 exact ⟨rfl, .tuple #[], (by kernel_rfl), rfl, gxxxxxxxx, hbxxxxxxxx⟩
theorem quarter_p3 (b : Nat) (t : TypeId) (x0 x1 x2 x3 x4 x5 x6 x7 : Int) (h0 : 0 ≤ x0 ∧ x0 < 4294967296) (h1 : 0 ≤ x1 ∧ x1 < 4294967296) (h2 : 0 ≤ x2 ∧ x2 < 4294967296) (h3 : 0 ≤ x3 ∧ x3 < 4294967296) (h4 : 0 ≤ x4 ∧ x4 < 4294967296) (h5 : 0 ≤ x5 ∧ x5 < 4294967296) (h6 : 0 ≤ x6 ∧ x6 < 4294967296) (h7 : 0 ≤ x7 ∧ x7 < 4294967296) (w : World) (hb : Blk w b t #[Value.int .u32 x0, .int .u32 x1, .int .u32 x2, .int .u32 x3, .int .u32 x4, .int .u32 x5, .int .u32 x6, .int .u32 x7]) :
  Calls Tryz.prog 132 #[.pointer (some ⟨b, 4, none⟩), .pointer (some ⟨b, 1, none⟩), .pointer (some ⟨b, 6, none⟩), .pointer (some ⟨b, 3, none⟩)] w fun e w' => e = .returned (.tuple #[]) ∧ w.grownBy w' (some b) ∧ Blk w' b t #[Value.int .u32 x0, .int .u32 (qb x4 x1 x6 x3), .int .u32 x2, .int .u32 (qd x4 x1 x6 x3), .int .u32 (qa x4 x1 x6 x3), .int .u32 x5, .int .u32 (qc x4 x1 x6 x3), .int .u32 x7] := by
 have g := World.grownBy.refl w (some b)
 go_enter Tryz.func132, Tryz.ntmps132
 go_wp2
 have k1 := (hb.drew).cell (k := 4) (v := .int .u32 x4) rfl
 have k2 := (hb.drew).cell (k := 1) (v := .int .u32 x1) rfl
 have k3 := (hb.drew).frozen 4
 have e1 : IntKind.u32.wrap (x4 + x1) = (q1a x4 x1 x6 x3) := by rw [IntKind.wrap_u32]; unfold q1a addW; rfl
 have := h1.1
 have := h1.2
 have := h4.1
 have := h4.2
 refine wp_region_still_tail 8 (by kernel_rfl) (by kernel_rfl) ?_
 simp only [List.take_succ_cons, List.take_zero, List.drop_succ_cons, List.drop_zero]
 change wpStill _ _ (World.drew _) _ _ _
 still_step; still_step; still_step; still_step; still_step; still_step; still_step; still_step
 refine wpStill_nil ?_
 change wpList _ _ _ _ _ (World.drew _)
 clear e1
 go_wp2
 have hbx := (hb.set 4 (.int .u32 (q1a x4 x1 x6 x3)) (c' := #[Value.int .u32 x0, .int .u32 x1, .int .u32 x2, .int .u32 x3, .int .u32 ((q1a x4 x1 x6 x3)), .int .u32 x5, .int .u32 x6, .int .u32 x7]) rfl).drew
 have gx := zja (zi (p := ⟨b, 4, none⟩) g rfl (.int .u32 (q1a x4 x1 x6 x3)))
 generalize World.drew (World.setCell _ _ _) = w1 at *
 clear k1 k2 k3 hb g
 have k1 := (hbx.drew).cell (k := 3) (v := .int .u32 x3) rfl
 have k2 := (hbx.drew).cell (k := 4) (v := .int .u32 (q1a x4 x1 x6 x3)) rfl
 have k3 := (hbx.drew).frozen 3
 have e1 : bits .xor .u32 x3 (q1a x4 x1 x6 x3) = xorW x3 (q1a x4 x1 x6 x3) := by unfold xorW; rfl
 have := (zgb x4 x1 x6 x3).1
 have := (zgb x4 x1 x6 x3).2
 have := h3.1
 have := h3.2
 refine wp_region_still_tail 10 (by kernel_rfl) (by kernel_rfl) ?_
 simp only [List.take_succ_cons, List.take_zero, List.drop_succ_cons, List.drop_zero]
 change wpStill _ _ (World.drew _) _ _ _
 still_step; still_step; still_step; still_step; still_step; still_step; still_step; still_step
 still_call (rot16 _ (zw _ _).1 (zw _ _).2 _)
 still_step
 refine wpStill_nil ?_
 change wpList _ _ _ _ _ (World.drew _)
 rw [show rotW 65536 (xorW x3 (q1a x4 x1 x6 x3)) = (q1d x4 x1 x6 x3) by unfold q1d; rfl]
 clear e1
 go_wp2
 have hbxx := (hbx.set 3 (.int .u32 (q1d x4 x1 x6 x3)) (c' := #[Value.int .u32 x0, .int .u32 x1, .int .u32 x2, .int .u32 ((q1d x4 x1 x6 x3)), .int .u32 ((q1a x4 x1 x6 x3)), .int .u32 x5, .int .u32 x6, .int .u32 x7]) rfl).drew
 have gxx := zja (zi (p := ⟨b, 3, none⟩) gx rfl (.int .u32 (q1d x4 x1 x6 x3)))
 generalize World.drew (World.setCell _ _ _) = w2 at *
 clear k1 k2 k3 hbx gx
 have k1 := (hbxx.drew).cell (k := 6) (v := .int .u32 x6) rfl
 have k2 := (hbxx.drew).cell (k := 3) (v := .int .u32 (q1d x4 x1 x6 x3)) rfl
 have k3 := (hbxx.drew).frozen 6
 have e1 : IntKind.u32.wrap (x6 + (q1d x4 x1 x6 x3)) = (q1c x4 x1 x6 x3) := by rw [IntKind.wrap_u32]; unfold q1c addW; rfl
 have := (zfb x4 x1 x6 x3).1
 have := (zfb x4 x1 x6 x3).2
 have := h6.1
 have := h6.2
 refine wp_region_still_tail 8 (by kernel_rfl) (by kernel_rfl) ?_
 simp only [List.take_succ_cons, List.take_zero, List.drop_succ_cons, List.drop_zero]
 change wpStill _ _ (World.drew _) _ _ _
 still_step; still_step; still_step; still_step; still_step; still_step; still_step; still_step
 refine wpStill_nil ?_
 change wpList _ _ _ _ _ (World.drew _)
 clear e1
 go_wp2
 have hbxxx := (hbxx.set 6 (.int .u32 (q1c x4 x1 x6 x3)) (c' := #[Value.int .u32 x0, .int .u32 x1, .int .u32 x2, .int .u32 ((q1d x4 x1 x6 x3)), .int .u32 ((q1a x4 x1 x6 x3)), .int .u32 x5, .int .u32 ((q1c x4 x1 x6 x3)), .int .u32 x7]) rfl).drew
 have gxxx := zja (zi (p := ⟨b, 6, none⟩) gxx rfl (.int .u32 (q1c x4 x1 x6 x3)))
 generalize World.drew (World.setCell _ _ _) = w3 at *
 clear k1 k2 k3 hbxx gxx
 have k1 := (hbxxx.drew).cell (k := 1) (v := .int .u32 x1) rfl
 have k2 := (hbxxx.drew).cell (k := 6) (v := .int .u32 (q1c x4 x1 x6 x3)) rfl
 have k3 := (hbxxx.drew).frozen 1
 have e1 : bits .xor .u32 x1 (q1c x4 x1 x6 x3) = xorW x1 (q1c x4 x1 x6 x3) := by unfold xorW; rfl
 have := (zhb x4 x1 x6 x3).1
 have := (zhb x4 x1 x6 x3).2
 have := h1.1
 have := h1.2
 refine wp_region_still_tail 10 (by kernel_rfl) (by kernel_rfl) ?_
 simp only [List.take_succ_cons, List.take_zero, List.drop_succ_cons, List.drop_zero]
 change wpStill _ _ (World.drew _) _ _ _
 still_step; still_step; still_step; still_step; still_step; still_step; still_step; still_step
 still_call (rot12 _ (zw _ _).1 (zw _ _).2 _)
 still_step
 refine wpStill_nil ?_
 change wpList _ _ _ _ _ (World.drew _)
 rw [show rotW 4096 (xorW x1 (q1c x4 x1 x6 x3)) = (q1b x4 x1 x6 x3) by unfold q1b; rfl]
 clear e1
 go_wp2
 have hbxxxx := (hbxxx.set 1 (.int .u32 (q1b x4 x1 x6 x3)) (c' := #[Value.int .u32 x0, .int .u32 ((q1b x4 x1 x6 x3)), .int .u32 x2, .int .u32 ((q1d x4 x1 x6 x3)), .int .u32 ((q1a x4 x1 x6 x3)), .int .u32 x5, .int .u32 ((q1c x4 x1 x6 x3)), .int .u32 x7]) rfl).drew
 have gxxxx := zja (zi (p := ⟨b, 1, none⟩) gxxx rfl (.int .u32 (q1b x4 x1 x6 x3)))
 generalize World.drew (World.setCell _ _ _) = w4 at *
 clear k1 k2 k3 hbxxx gxxx
 have k1 := (hbxxxx.drew).cell (k := 4) (v := .int .u32 (q1a x4 x1 x6 x3)) rfl
 have k2 := (hbxxxx.drew).cell (k := 1) (v := .int .u32 (q1b x4 x1 x6 x3)) rfl
 have k3 := (hbxxxx.drew).frozen 4
 have e1 : IntKind.u32.wrap ((q1a x4 x1 x6 x3) + (q1b x4 x1 x6 x3)) = (qa x4 x1 x6 x3) := by rw [IntKind.wrap_u32]; unfold qa addW; rfl
 have := (zgb x4 x1 x6 x3).1
 have := (zgb x4 x1 x6 x3).2
 have := (zeb x4 x1 x6 x3).1
 have := (zeb x4 x1 x6 x3).2
 refine wp_region_still_tail 8 (by kernel_rfl) (by kernel_rfl) ?_
 simp only [List.take_succ_cons, List.take_zero, List.drop_succ_cons, List.drop_zero]
 change wpStill _ _ (World.drew _) _ _ _
 still_step; still_step; still_step; still_step; still_step; still_step; still_step; still_step
 refine wpStill_nil ?_
 change wpList _ _ _ _ _ (World.drew _)
 clear e1
 go_wp2
 have hbxxxxx := (hbxxxx.set 4 (.int .u32 (qa x4 x1 x6 x3)) (c' := #[Value.int .u32 x0, .int .u32 ((q1b x4 x1 x6 x3)), .int .u32 x2, .int .u32 ((q1d x4 x1 x6 x3)), .int .u32 ((qa x4 x1 x6 x3)), .int .u32 x5, .int .u32 ((q1c x4 x1 x6 x3)), .int .u32 x7]) rfl).drew
 have gxxxxx := zja (zi (p := ⟨b, 4, none⟩) gxxxx rfl (.int .u32 (qa x4 x1 x6 x3)))
 generalize World.drew (World.setCell _ _ _) = w5 at *
 clear k1 k2 k3 hbxxxx gxxxx
 have k1 := (hbxxxxx.drew).cell (k := 3) (v := .int .u32 (q1d x4 x1 x6 x3)) rfl
 have k2 := (hbxxxxx.drew).cell (k := 4) (v := .int .u32 (qa x4 x1 x6 x3)) rfl
 have k3 := (hbxxxxx.drew).frozen 3
 have e1 : bits .xor .u32 (q1d x4 x1 x6 x3) (qa x4 x1 x6 x3) = xorW (q1d x4 x1 x6 x3) (qa x4 x1 x6 x3) := by unfold xorW; rfl
 have := (zfb x4 x1 x6 x3).1
 have := (zfb x4 x1 x6 x3).2
 have := (qa_bd x4 x1 x6 x3).1
 have := (qa_bd x4 x1 x6 x3).2
 refine wp_region_still_tail 10 (by kernel_rfl) (by kernel_rfl) ?_
 simp only [List.take_succ_cons, List.take_zero, List.drop_succ_cons, List.drop_zero]
 change wpStill _ _ (World.drew _) _ _ _
 still_step; still_step; still_step; still_step; still_step; still_step; still_step; still_step
 still_call (rot8 _ (zw _ _).1 (zw _ _).2 _)
 still_step
 refine wpStill_nil ?_
 change wpList _ _ _ _ _ (World.drew _)
 rw [show rotW 256 (xorW (q1d x4 x1 x6 x3) (qa x4 x1 x6 x3)) = (qd x4 x1 x6 x3) by unfold qd; rfl]
 clear e1
 go_wp2
 have hbxxxxxx := (hbxxxxx.set 3 (.int .u32 (qd x4 x1 x6 x3)) (c' := #[Value.int .u32 x0, .int .u32 ((q1b x4 x1 x6 x3)), .int .u32 x2, .int .u32 ((qd x4 x1 x6 x3)), .int .u32 ((qa x4 x1 x6 x3)), .int .u32 x5, .int .u32 ((q1c x4 x1 x6 x3)), .int .u32 x7]) rfl).drew
 have gxxxxxx := zja (zi (p := ⟨b, 3, none⟩) gxxxxx rfl (.int .u32 (qd x4 x1 x6 x3)))
 generalize World.drew (World.setCell _ _ _) = w6 at *
 clear k1 k2 k3 hbxxxxx gxxxxx
 have k1 := (hbxxxxxx.drew).cell (k := 6) (v := .int .u32 (q1c x4 x1 x6 x3)) rfl
 have k2 := (hbxxxxxx.drew).cell (k := 3) (v := .int .u32 (qd x4 x1 x6 x3)) rfl
 have k3 := (hbxxxxxx.drew).frozen 6
 have e1 : IntKind.u32.wrap ((q1c x4 x1 x6 x3) + (qd x4 x1 x6 x3)) = (qc x4 x1 x6 x3) := by rw [IntKind.wrap_u32]; unfold qc addW; rfl
 have := (zhb x4 x1 x6 x3).1
 have := (zhb x4 x1 x6 x3).2
 have := (qd_bd x4 x1 x6 x3).1
 have := (qd_bd x4 x1 x6 x3).2
 refine wp_region_still_tail 8 (by kernel_rfl) (by kernel_rfl) ?_
 simp only [List.take_succ_cons, List.take_zero, List.drop_succ_cons, List.drop_zero]
 change wpStill _ _ (World.drew _) _ _ _
 still_step; still_step; still_step; still_step; still_step; still_step; still_step; still_step
 refine wpStill_nil ?_
 change wpList _ _ _ _ _ (World.drew _)
 clear e1
 go_wp2
 have hbxxxxxxx := (hbxxxxxx.set 6 (.int .u32 (qc x4 x1 x6 x3)) (c' := #[Value.int .u32 x0, .int .u32 ((q1b x4 x1 x6 x3)), .int .u32 x2, .int .u32 ((qd x4 x1 x6 x3)), .int .u32 ((qa x4 x1 x6 x3)), .int .u32 x5, .int .u32 ((qc x4 x1 x6 x3)), .int .u32 x7]) rfl).drew
 have gxxxxxxx := zja (zi (p := ⟨b, 6, none⟩) gxxxxxx rfl (.int .u32 (qc x4 x1 x6 x3)))
 generalize World.drew (World.setCell _ _ _) = w7 at *
 clear k1 k2 k3 hbxxxxxx gxxxxxx
 have k1 := (hbxxxxxxx.drew).cell (k := 1) (v := .int .u32 (q1b x4 x1 x6 x3)) rfl
 have k2 := (hbxxxxxxx.drew).cell (k := 6) (v := .int .u32 (qc x4 x1 x6 x3)) rfl
 have k3 := (hbxxxxxxx.drew).frozen 1
 have e1 : bits .xor .u32 (q1b x4 x1 x6 x3) (qc x4 x1 x6 x3) = xorW (q1b x4 x1 x6 x3) (qc x4 x1 x6 x3) := by unfold xorW; rfl
 have := (zeb x4 x1 x6 x3).1
 have := (zeb x4 x1 x6 x3).2
 have := (qc_bd x4 x1 x6 x3).1
 have := (qc_bd x4 x1 x6 x3).2
 refine wp_region_still_tail 10 (by kernel_rfl) (by kernel_rfl) ?_
 simp only [List.take_succ_cons, List.take_zero, List.drop_succ_cons, List.drop_zero]
 change wpStill _ _ (World.drew _) _ _ _
 still_step; still_step; still_step; still_step; still_step; still_step; still_step; still_step
 still_call (rot7 _ (zw _ _).1 (zw _ _).2 _)
 still_step
 refine wpStill_nil ?_
 change wpList _ _ _ _ _ (World.drew _)
 rw [show rotW 128 (xorW (q1b x4 x1 x6 x3) (qc x4 x1 x6 x3)) = (qb x4 x1 x6 x3) by unfold qb; rfl]
 clear e1
 go_wp2
 have hbxxxxxxxx := (hbxxxxxxx.set 1 (.int .u32 (qb x4 x1 x6 x3)) (c' := #[Value.int .u32 x0, .int .u32 ((qb x4 x1 x6 x3)), .int .u32 x2, .int .u32 ((qd x4 x1 x6 x3)), .int .u32 ((qa x4 x1 x6 x3)), .int .u32 x5, .int .u32 ((qc x4 x1 x6 x3)), .int .u32 x7]) rfl).drew
 have gxxxxxxxx := zja (zi (p := ⟨b, 1, none⟩) gxxxxxxx rfl (.int .u32 (qb x4 x1 x6 x3)))
 generalize World.drew (World.setCell _ _ _) = w8 at *
 clear k1 k2 k3 hbxxxxxxx gxxxxxxx
 exact ⟨rfl, .tuple #[], (by kernel_rfl), rfl, gxxxxxxxx, hbxxxxxxxx⟩
end Go.Proofs.YtcfepoopkfhojaaGreat
namespace Go.Proofs.YtcfepoopkfhojaaGreat
open Go.ChangeShapes Go.WideShapes Go.ChangeAt Go.RowKit
section
variable {P : Program}
end
structure W8 where
 (x0 x1 x2 x3 x4 x5 x6 x7 : Int)
def W8.ok (s : W8) : Prop := (0 ≤ s.x0 ∧ s.x0 < 4294967296) ∧ (0 ≤ s.x1 ∧ s.x1 < 4294967296) ∧ (0 ≤ s.x2 ∧ s.x2 < 4294967296) ∧ (0 ≤ s.x3 ∧ s.x3 < 4294967296) ∧ (0 ≤ s.x4 ∧ s.x4 < 4294967296) ∧ (0 ≤ s.x5 ∧ s.x5 < 4294967296) ∧ (0 ≤ s.x6 ∧ s.x6 < 4294967296) ∧ (0 ≤ s.x7 ∧ s.x7 < 4294967296)
def arrW (s : W8) : Array Value := #[Value.int .u32 s.x0, .int .u32 s.x1, .int .u32 s.x2, .int .u32 s.x3, .int .u32 s.x4, .int .u32 s.x5, .int .u32 s.x6, .int .u32 s.x7]
theorem arrW_one (s : W8) : (arrW s).all (·.oneCell') = true := by simp [arrW, Value.oneCell']
theorem size8 : (Tryz.prog.info? 26).map (·.size) = some 8 := by kernel_rfl
theorem sizeW (s : W8) : (Tryz.prog.info? 26).map (·.size) = some (arrW s).size := size8
def W8.r (s : W8) (k : Nat) : W8 := { s with x0 := xorW s.x0 ((k : Int) + 1) }
theorem ok_r {s : W8} (h : s.ok) (k : Nat) : (s.r k).ok := by
 obtain ⟨h0, h1, h2, h3, h4, h5, h6, h7⟩ := h
 exact ⟨zw _ _, h1, h2, h3, h4, h5, h6, h7⟩
def W8.p0 (s : W8) : W8 := { s with x0 := qa s.x0 s.x1 s.x2 s.x3, x1 := qb s.x0 s.x1 s.x2 s.x3, x2 := qc s.x0 s.x1 s.x2 s.x3, x3 := qd s.x0 s.x1 s.x2 s.x3 }
theorem ok_p0 {s : W8} (h : s.ok) : s.p0.ok := by
 obtain ⟨h0, h1, h2, h3, h4, h5, h6, h7⟩ := h
 exact ⟨qa_bd _ _ _ _, qb_bd _ _ _ _, qc_bd _ _ _ _, qd_bd _ _ _ _, h4, h5, h6, h7⟩
theorem quarter_w0 (s : W8) (h : s.ok) (b : Nat) (t : TypeId) (w : World) (hb : Blk w b t (arrW s)) :
  Calls Tryz.prog 132 #[.pointer (some ⟨b, 0, none⟩), .pointer (some ⟨b, 1, none⟩), .pointer (some ⟨b, 2, none⟩), .pointer (some ⟨b, 3, none⟩)] w fun e w' => e = .returned (.tuple #[]) ∧ w.grownBy w' (some b) ∧ Blk w' b t (arrW s.p0) := by
 obtain ⟨h0, h1, h2, h3, h4, h5, h6, h7⟩ := h
 exact quarter_p0 b t _ _ _ _ _ _ _ _ h0 h1 h2 h3 h4 h5 h6 h7 w hb
def W8.p1 (s : W8) : W8 := { s with x4 := qa s.x4 s.x5 s.x6 s.x7, x5 := qb s.x4 s.x5 s.x6 s.x7, x6 := qc s.x4 s.x5 s.x6 s.x7, x7 := qd s.x4 s.x5 s.x6 s.x7 }
theorem ok_p1 {s : W8} (h : s.ok) : s.p1.ok := by
 obtain ⟨h0, h1, h2, h3, h4, h5, h6, h7⟩ := h
 exact ⟨h0, h1, h2, h3, qa_bd _ _ _ _, qb_bd _ _ _ _, qc_bd _ _ _ _, qd_bd _ _ _ _⟩
theorem quarter_w1 (s : W8) (h : s.ok) (b : Nat) (t : TypeId) (w : World) (hb : Blk w b t (arrW s)) :
  Calls Tryz.prog 132 #[.pointer (some ⟨b, 4, none⟩), .pointer (some ⟨b, 5, none⟩), .pointer (some ⟨b, 6, none⟩), .pointer (some ⟨b, 7, none⟩)] w fun e w' => e = .returned (.tuple #[]) ∧ w.grownBy w' (some b) ∧ Blk w' b t (arrW s.p1) := by
 obtain ⟨h0, h1, h2, h3, h4, h5, h6, h7⟩ := h
 exact quarter_p1 b t _ _ _ _ _ _ _ _ h0 h1 h2 h3 h4 h5 h6 h7 w hb
def W8.p2 (s : W8) : W8 := { s with x0 := qa s.x0 s.x5 s.x2 s.x7, x5 := qb s.x0 s.x5 s.x2 s.x7, x2 := qc s.x0 s.x5 s.x2 s.x7, x7 := qd s.x0 s.x5 s.x2 s.x7 }
theorem ok_p2 {s : W8} (h : s.ok) : s.p2.ok := by
 obtain ⟨h0, h1, h2, h3, h4, h5, h6, h7⟩ := h
 exact ⟨qa_bd _ _ _ _, h1, qc_bd _ _ _ _, h3, h4, qb_bd _ _ _ _, h6, qd_bd _ _ _ _⟩
theorem quarter_w2 (s : W8) (h : s.ok) (b : Nat) (t : TypeId) (w : World) (hb : Blk w b t (arrW s)) :
  Calls Tryz.prog 132 #[.pointer (some ⟨b, 0, none⟩), .pointer (some ⟨b, 5, none⟩), .pointer (some ⟨b, 2, none⟩), .pointer (some ⟨b, 7, none⟩)] w fun e w' => e = .returned (.tuple #[]) ∧ w.grownBy w' (some b) ∧ Blk w' b t (arrW s.p2) := by
 obtain ⟨h0, h1, h2, h3, h4, h5, h6, h7⟩ := h
 exact quarter_p2 b t _ _ _ _ _ _ _ _ h0 h1 h2 h3 h4 h5 h6 h7 w hb
def W8.p3 (s : W8) : W8 := { s with x4 := qa s.x4 s.x1 s.x6 s.x3, x1 := qb s.x4 s.x1 s.x6 s.x3, x6 := qc s.x4 s.x1 s.x6 s.x3, x3 := qd s.x4 s.x1 s.x6 s.x3 }
theorem ok_p3 {s : W8} (h : s.ok) : s.p3.ok := by
 obtain ⟨h0, h1, h2, h3, h4, h5, h6, h7⟩ := h
 exact ⟨h0, qb_bd _ _ _ _, h2, qd_bd _ _ _ _, qa_bd _ _ _ _, h5, qc_bd _ _ _ _, h7⟩
theorem quarter_w3 (s : W8) (h : s.ok) (b : Nat) (t : TypeId) (w : World) (hb : Blk w b t (arrW s)) :
  Calls Tryz.prog 132 #[.pointer (some ⟨b, 4, none⟩), .pointer (some ⟨b, 1, none⟩), .pointer (some ⟨b, 6, none⟩), .pointer (some ⟨b, 3, none⟩)] w fun e w' => e = .returned (.tuple #[]) ∧ w.grownBy w' (some b) ∧ Blk w' b t (arrW s.p3) := by
 obtain ⟨h0, h1, h2, h3, h4, h5, h6, h7⟩ := h
 exact quarter_p3 b t _ _ _ _ _ _ _ _ h0 h1 h2 h3 h4 h5 h6 h7 w hb
def mixN : Nat → W8 → W8
 | 0, s => s
 | n + 1, s => ((((mixN n s).r n).p0).p1).p2.p3
def mixW (s : W8) : W8 := mixN 8 s
theorem ok_mixN {s : W8} (h : s.ok) : ∀ n, (mixN n s).ok
 | 0 => h
 | n + 1 => ok_p3 (ok_p2 (ok_p1 (ok_p0 (ok_r (ok_mixN h n) n))))
theorem ok_mixW {s : W8} (h : s.ok) : (mixW s).ok := ok_mixN h 8
theorem Blk.cell0 {w : World} {b : Nat} {t : TypeId} {s : W8} (h : Blk w b t (arrW s)) : w.cell? ⟨b, 0, none⟩ = some (.int .u32 s.x0) := h.cell rfl
theorem Blk.setr {w : World} {b : Nat} {t : TypeId} {s : W8} (h : Blk w b t (arrW s)) (k : Nat) : Blk (w.setCell ⟨b, 0, none⟩ (.int .u32 (s.r k).x0)) b t (arrW (s.r k)) := h.set 0 _ rfl
theorem mix_any (s : W8) (hs : s.ok) (w : World) :
  Calls Tryz.prog 128 #[.agg (arrW s)] w fun e w' => e = .returned (.agg (arrW (mixW s))) ∧ Below w.heap.size w w' := by
 have OK := hid (ok_mixN hs)
 clear hs
 go_enter Tryz.func128, Tryz.ntmps128
 go_wp2
 go_loopw [4] (fun u wr => ∃ k : Nat, k ≤ 8 ∧ u = .int .u32 k ∧ Below w.heap.size w wr ∧ Blk wr w.heap.size 26 (arrW (mixN k s)) ∧ Blk wr (w.heap.size + 1) 26 #[Value.int .u32 0, .int .u32 0, .int .u32 0, .int .u32 0, .int .u32 0, .int .u32 0, .int .u32 0, .int .u32 0]) (fun u _ => 8 - (intOf u).toNat)
 case atStart =>
  refine ⟨0, by omega, rfl, ((Below.refl _ _).alloc (Nat.le_refl _) _).alloc (by simp) _, (Blk.new w _ (arrW s)).alloc _, ?_⟩
  have := Blk.new (w.alloc (.cells (arrW s) 26)) 26 #[Value.int .u32 0, .int .u32 0, .int .u32 0, .int .u32 0, .int .u32 0, .int .u32 0, .int .u32 0, .int .u32 0]
  rw [World.size_alloc] at this
  exact this
 case round =>
  obtain ⟨k, hk, rfl, hB, hb, hz⟩ := hrel
  by_cases hlt : k < 8
  ·have c0 := hb.cell0
   have f0 := hb.frozen 0
   have ok := OK.out k
   have o1 := ok.1.1
   have o2 := ok.1.2
   have OK' := hid ok
   clear ok
   have e1 : bits .xor .u32 (mixN k s).x0 ((k : Int) + 1) = ((mixN k s).r k).x0 := by unfold W8.r xorW; rfl
   go_wp2_with fail
   have b1 := hb.setr k
   have g1 := zi (p := ⟨w.heap.size, 0, none⟩) (World.grownBy.refl wr (some w.heap.size)) rfl (.int .u32 ((mixN k s).r k).x0)
   generalize World.setCell _ _ _ = v1 at *
   clear c0 f0 e1 o1 o2 hb
   refine (quarter_w0 _ (ok_r OK'.out k) _ _ _ b1).mono ?_
   rintro e v2 ⟨rfl, g2, b2⟩
   go_wp2_with fail
   refine (quarter_w1 _ (ok_p0 (ok_r OK'.out k)) _ _ _ b2).mono ?_
   rintro e v3 ⟨rfl, g3, b3⟩
   go_wp2_with fail
   refine (quarter_w2 _ (ok_p1 (ok_p0 (ok_r OK'.out k))) _ _ _ b3).mono ?_
   rintro e v4 ⟨rfl, g4, b4⟩
   go_wp2_with fail
   refine (quarter_w3 _ (ok_p2 (ok_p1 (ok_p0 (ok_r OK'.out k)))) _ _ _ b4).mono ?_
   rintro e v5 ⟨rfl, g5, b5⟩
   go_wp2_with fail
   go_roundw
   case rel =>
    have n1 : some (w.heap.size + 1) ≠ some w.heap.size := by simp
    have B1 := zf hB g1 hB.size (Nat.le_refl _)
    have B2 := zf B1 g2 B1.size (Nat.le_refl _)
    have B3 := zf B2 g3 B2.size (Nat.le_refl _)
    have B4 := zf B3 g4 B3.size (Nat.le_refl _)
    exact ⟨k + 1, by omega, by go_num, zf B4 g5 B4.size (Nat.le_refl _), b5, ((((hz.grown g1 n1).grown g2 n1).grown g3 n1).grown g4 n1).grown g5 n1⟩
   case measure => simp [intOf]; omega
  ·have : k = 8 := by omega
   subst this
   go_wp2_with (first | (refine zy rfl _ _ rfl _ rfl _ _ _ hb Tryz.underlying26 rfl (sizeW _) ?_) | (refine zq rfl _ _ _ rfl _ rfl _ rfl (arrW_one _) _ hz rfl (sizeW _) ?_; intro v gv mv))
   exact bodyPost_ret (zdb rfl rfl mv Tryz.underlying26 rfl (sizeW _)) rfl ⟨rfl, zf hB gv hB.size (by omega)⟩
end Go.Proofs.YtcfepoopkfhojaaGreat
/- sentinelref3.quarter: four words of eight. -/
namespace Go.Proofs.YtcfepoopkfhojaaGreat
open Go.ChangeShapes Go.WideShapes Go.ChangeAt Go.RowKit
theorem one8 (a b c d e f g h : Int) : (#[Value.int .u32 a, .int .u32 b, .int .u32 c, .int .u32 d, .int .u32 e, .int .u32 f, .int .u32 g, .int .u32 h] : Array Value).all (·.oneCell') = true := by simp [Value.oneCell']
theorem rquarter_p0 (x0 x1 x2 x3 x4 x5 x6 x7 : Int) (h0 : 0 ≤ x0 ∧ x0 < 4294967296) (h1 : 0 ≤ x1 ∧ x1 < 4294967296) (h2 : 0 ≤ x2 ∧ x2 < 4294967296) (h3 : 0 ≤ x3 ∧ x3 < 4294967296) (h4 : 0 ≤ x4 ∧ x4 < 4294967296) (h5 : 0 ≤ x5 ∧ x5 < 4294967296) (h6 : 0 ≤ x6 ∧ x6 < 4294967296) (h7 : 0 ≤ x7 ∧ x7 < 4294967296) (w : World) :
  Calls Tryz.prog 121 #[.agg #[Value.int .u32 x0, .int .u32 x1, .int .u32 x2, .int .u32 x3, .int .u32 x4, .int .u32 x5, .int .u32 x6, .int .u32 x7], .int .i64 0, .int .i64 1, .int .i64 2, .int .i64 3] w fun e w' => e = .returned (.agg #[Value.int .u32 (qa x0 x1 x2 x3), .int .u32 (qb x0 x1 x2 x3), .int .u32 (qc x0 x1 x2 x3), .int .u32 (qd x0 x1 x2 x3), .int .u32 x4, .int .u32 x5, .int .u32 x6, .int .u32 x7]) ∧ Below w.heap.size w w' := by
 obtain ⟨b, eb⟩ : ∃ b, b = w.heap.size := ⟨_, rfl⟩
 have hb := (Blk.new w 26 #[Value.int .u32 x0, .int .u32 x1, .int .u32 x2, .int .u32 x3, .int .u32 x4, .int .u32 x5, .int .u32 x6, .int .u32 x7]).alloc (.cells #[Value.int .u32 0, .int .u32 0, .int .u32 0, .int .u32 0, .int .u32 0, .int .u32 0, .int .u32 0, .int .u32 0] 26)
 have hz := Blk.new (w.alloc (.cells #[Value.int .u32 x0, .int .u32 x1, .int .u32 x2, .int .u32 x3, .int .u32 x4, .int .u32 x5, .int .u32 x6, .int .u32 x7] 26)) 26 #[Value.int .u32 0, .int .u32 0, .int .u32 0, .int .u32 0, .int .u32 0, .int .u32 0, .int .u32 0, .int .u32 0]
 rw [World.size_alloc] at hz
 have hB : Below w.heap.size w ((w.alloc (.cells #[Value.int .u32 x0, .int .u32 x1, .int .u32 x2, .int .u32 x3, .int .u32 x4, .int .u32 x5, .int .u32 x6, .int .u32 x7] 26)).alloc (.cells #[Value.int .u32 0, .int .u32 0, .int .u32 0, .int .u32 0, .int .u32 0, .int .u32 0, .int .u32 0, .int .u32 0] 26)) := ((Below.refl _ _).alloc (Nat.le_refl _) _).alloc (by simp) _
 go_enter Tryz.func121, Tryz.ntmps121
 go_wp2
 have g := World.grownBy.refl ((w.alloc (.cells #[Value.int .u32 x0, .int .u32 x1, .int .u32 x2, .int .u32 x3, .int .u32 x4, .int .u32 x5, .int .u32 x6, .int .u32 x7] 26)).alloc (.cells #[Value.int .u32 0, .int .u32 0, .int .u32 0, .int .u32 0, .int .u32 0, .int .u32 0, .int .u32 0, .int .u32 0] 26)) (some w.heap.size)
 generalize World.alloc (World.alloc _ _) _ = w0 at *
 rw [← eb] at hb hz g ⊢
 have EB := hid eb
 clear eb
 have k1 := (hb.drew).cell (k := 0) (v := .int .u32 x0) rfl
 have k2 := (hb.drew).cell (k := 1) (v := .int .u32 x1) rfl
 have k3 := (hb.drew).frozen 0
 have e1 : IntKind.u32.wrap (x0 + x1) = (q1a x0 x1 x2 x3) := by rw [IntKind.wrap_u32]; unfold q1a addW; rfl
 have := h0.1
 have := h0.2
 have := h1.1
 have := h1.2
 refine wp_region_still_tail 9 (by kernel_rfl) (by kernel_rfl) ?_
 simp only [List.take_succ_cons, List.take_zero, List.drop_succ_cons, List.drop_zero]
 change wpStill _ _ (World.drew _) _ _ _
 still_step; still_step; still_step; still_step; still_step; still_step; still_step; still_step; still_step
 refine wpStill_nil ?_
 change wpList _ _ _ _ _ (World.drew _)
 clear e1
 go_wp2
 have hbx := (hb.set 0 (.int .u32 (q1a x0 x1 x2 x3)) (c' := #[Value.int .u32 ((q1a x0 x1 x2 x3)), .int .u32 x1, .int .u32 x2, .int .u32 x3, .int .u32 x4, .int .u32 x5, .int .u32 x6, .int .u32 x7]) rfl).drew
 have gx := zja (zi (p := ⟨b, 0, none⟩) g rfl (.int .u32 (q1a x0 x1 x2 x3)))
 generalize World.drew (World.setCell _ _ _) = w1 at *
 clear k1 k2 k3 hb g
 have k1 := (hbx.drew).cell (k := 3) (v := .int .u32 x3) rfl
 have k2 := (hbx.drew).cell (k := 0) (v := .int .u32 (q1a x0 x1 x2 x3)) rfl
 have k3 := (hbx.drew).frozen 3
 have e1 : bits .xor .u32 x3 (q1a x0 x1 x2 x3) = xorW x3 (q1a x0 x1 x2 x3) := by unfold xorW; rfl
 have := (zgb x0 x1 x2 x3).1
 have := (zgb x0 x1 x2 x3).2
 have := h3.1
 have := h3.2
 refine wp_region_still_tail 10 (by kernel_rfl) (by kernel_rfl) ?_
 simp only [List.take_succ_cons, List.take_zero, List.drop_succ_cons, List.drop_zero]
 change wpStill _ _ (World.drew _) _ _ _
 still_step; still_step; still_step; still_step; still_step; still_step; still_step; still_step
 still_call (turn16 _ (zw _ _).1 (zw _ _).2 _)
 still_step
 refine wpStill_nil ?_
 change wpList _ _ _ _ _ (World.drew _)
 rw [show rotW 65536 (xorW x3 (q1a x0 x1 x2 x3)) = (q1d x0 x1 x2 x3) by unfold q1d; rfl]
 clear e1
 go_wp2
 have hbxx := (hbx.set 3 (.int .u32 (q1d x0 x1 x2 x3)) (c' := #[Value.int .u32 ((q1a x0 x1 x2 x3)), .int .u32 x1, .int .u32 x2, .int .u32 ((q1d x0 x1 x2 x3)), .int .u32 x4, .int .u32 x5, .int .u32 x6, .int .u32 x7]) rfl).drew
 have gxx := zja (zi (p := ⟨b, 3, none⟩) gx rfl (.int .u32 (q1d x0 x1 x2 x3)))
 generalize World.drew (World.setCell _ _ _) = w2 at *
 clear k1 k2 k3 hbx gx
 have k1 := (hbxx.drew).cell (k := 2) (v := .int .u32 x2) rfl
 have k2 := (hbxx.drew).cell (k := 3) (v := .int .u32 (q1d x0 x1 x2 x3)) rfl
 have k3 := (hbxx.drew).frozen 2
 have e1 : IntKind.u32.wrap (x2 + (q1d x0 x1 x2 x3)) = (q1c x0 x1 x2 x3) := by rw [IntKind.wrap_u32]; unfold q1c addW; rfl
 have := (zfb x0 x1 x2 x3).1
 have := (zfb x0 x1 x2 x3).2
 have := h2.1
 have := h2.2
 refine wp_region_still_tail 9 (by kernel_rfl) (by kernel_rfl) ?_
 simp only [List.take_succ_cons, List.take_zero, List.drop_succ_cons, List.drop_zero]
 change wpStill _ _ (World.drew _) _ _ _
 still_step; still_step; still_step; still_step; still_step; still_step; still_step; still_step; still_step
 refine wpStill_nil ?_
 change wpList _ _ _ _ _ (World.drew _)
 clear e1
 go_wp2
 have hbxxx := (hbxx.set 2 (.int .u32 (q1c x0 x1 x2 x3)) (c' := #[Value.int .u32 ((q1a x0 x1 x2 x3)), .int .u32 x1, .int .u32 ((q1c x0 x1 x2 x3)), .int .u32 ((q1d x0 x1 x2 x3)), .int .u32 x4, .int .u32 x5, .int .u32 x6, .int .u32 x7]) rfl).drew
 have gxxx := zja (zi (p := ⟨b, 2, none⟩) gxx rfl (.int .u32 (q1c x0 x1 x2 x3)))
 generalize World.drew (World.setCell _ _ _) = w3 at *
 clear k1 k2 k3 hbxx gxx
 have k1 := (hbxxx.drew).cell (k := 1) (v := .int .u32 x1) rfl
 have k2 := (hbxxx.drew).cell (k := 2) (v := .int .u32 (q1c x0 x1 x2 x3)) rfl
 have k3 := (hbxxx.drew).frozen 1
 have e1 : bits .xor .u32 x1 (q1c x0 x1 x2 x3) = xorW x1 (q1c x0 x1 x2 x3) := by unfold xorW; rfl
 have := (zhb x0 x1 x2 x3).1
 have := (zhb x0 x1 x2 x3).2
 have := h1.1
 have := h1.2
 refine wp_region_still_tail 10 (by kernel_rfl) (by kernel_rfl) ?_
 simp only [List.take_succ_cons, List.take_zero, List.drop_succ_cons, List.drop_zero]
 change wpStill _ _ (World.drew _) _ _ _
 still_step; still_step; still_step; still_step; still_step; still_step; still_step; still_step
 still_call (turn12 _ (zw _ _).1 (zw _ _).2 _)
 still_step
 refine wpStill_nil ?_
 change wpList _ _ _ _ _ (World.drew _)
 rw [show rotW 4096 (xorW x1 (q1c x0 x1 x2 x3)) = (q1b x0 x1 x2 x3) by unfold q1b; rfl]
 clear e1
 go_wp2
 have hbxxxx := (hbxxx.set 1 (.int .u32 (q1b x0 x1 x2 x3)) (c' := #[Value.int .u32 ((q1a x0 x1 x2 x3)), .int .u32 ((q1b x0 x1 x2 x3)), .int .u32 ((q1c x0 x1 x2 x3)), .int .u32 ((q1d x0 x1 x2 x3)), .int .u32 x4, .int .u32 x5, .int .u32 x6, .int .u32 x7]) rfl).drew
 have gxxxx := zja (zi (p := ⟨b, 1, none⟩) gxxx rfl (.int .u32 (q1b x0 x1 x2 x3)))
 generalize World.drew (World.setCell _ _ _) = w4 at *
 clear k1 k2 k3 hbxxx gxxx
 have k1 := (hbxxxx.drew).cell (k := 0) (v := .int .u32 (q1a x0 x1 x2 x3)) rfl
 have k2 := (hbxxxx.drew).cell (k := 1) (v := .int .u32 (q1b x0 x1 x2 x3)) rfl
 have k3 := (hbxxxx.drew).frozen 0
 have e1 : IntKind.u32.wrap ((q1a x0 x1 x2 x3) + (q1b x0 x1 x2 x3)) = (qa x0 x1 x2 x3) := by rw [IntKind.wrap_u32]; unfold qa addW; rfl
 have := (zgb x0 x1 x2 x3).1
 have := (zgb x0 x1 x2 x3).2
 have := (zeb x0 x1 x2 x3).1
 have := (zeb x0 x1 x2 x3).2
 refine wp_region_still_tail 9 (by kernel_rfl) (by kernel_rfl) ?_
 simp only [List.take_succ_cons, List.take_zero, List.drop_succ_cons, List.drop_zero]
 change wpStill _ _ (World.drew _) _ _ _
 still_step; still_step; still_step; still_step; still_step; still_step; still_step; still_step; still_step
 refine wpStill_nil ?_
 change wpList _ _ _ _ _ (World.drew _)
 clear e1
 go_wp2
 have hbxxxxx := (hbxxxx.set 0 (.int .u32 (qa x0 x1 x2 x3)) (c' := #[Value.int .u32 ((qa x0 x1 x2 x3)), .int .u32 ((q1b x0 x1 x2 x3)), .int .u32 ((q1c x0 x1 x2 x3)), .int .u32 ((q1d x0 x1 x2 x3)), .int .u32 x4, .int .u32 x5, .int .u32 x6, .int .u32 x7]) rfl).drew
 have gxxxxx := zja (zi (p := ⟨b, 0, none⟩) gxxxx rfl (.int .u32 (qa x0 x1 x2 x3)))
 generalize World.drew (World.setCell _ _ _) = w5 at *
 clear k1 k2 k3 hbxxxx gxxxx
 have k1 := (hbxxxxx.drew).cell (k := 3) (v := .int .u32 (q1d x0 x1 x2 x3)) rfl
 have k2 := (hbxxxxx.drew).cell (k := 0) (v := .int .u32 (qa x0 x1 x2 x3)) rfl
 have k3 := (hbxxxxx.drew).frozen 3
 have e1 : bits .xor .u32 (q1d x0 x1 x2 x3) (qa x0 x1 x2 x3) = xorW (q1d x0 x1 x2 x3) (qa x0 x1 x2 x3) := by unfold xorW; rfl
 have := (zfb x0 x1 x2 x3).1
 have := (zfb x0 x1 x2 x3).2
 have := (qa_bd x0 x1 x2 x3).1
 have := (qa_bd x0 x1 x2 x3).2
 refine wp_region_still_tail 10 (by kernel_rfl) (by kernel_rfl) ?_
 simp only [List.take_succ_cons, List.take_zero, List.drop_succ_cons, List.drop_zero]
 change wpStill _ _ (World.drew _) _ _ _
 still_step; still_step; still_step; still_step; still_step; still_step; still_step; still_step
 still_call (turn8 _ (zw _ _).1 (zw _ _).2 _)
 still_step
 refine wpStill_nil ?_
 change wpList _ _ _ _ _ (World.drew _)
 rw [show rotW 256 (xorW (q1d x0 x1 x2 x3) (qa x0 x1 x2 x3)) = (qd x0 x1 x2 x3) by unfold qd; rfl]
 clear e1
 go_wp2
 have hbxxxxxx := (hbxxxxx.set 3 (.int .u32 (qd x0 x1 x2 x3)) (c' := #[Value.int .u32 ((qa x0 x1 x2 x3)), .int .u32 ((q1b x0 x1 x2 x3)), .int .u32 ((q1c x0 x1 x2 x3)), .int .u32 ((qd x0 x1 x2 x3)), .int .u32 x4, .int .u32 x5, .int .u32 x6, .int .u32 x7]) rfl).drew
 have gxxxxxx := zja (zi (p := ⟨b, 3, none⟩) gxxxxx rfl (.int .u32 (qd x0 x1 x2 x3)))
 generalize World.drew (World.setCell _ _ _) = w6 at *
 clear k1 k2 k3 hbxxxxx gxxxxx
 have k1 := (hbxxxxxx.drew).cell (k := 2) (v := .int .u32 (q1c x0 x1 x2 x3)) rfl
 have k2 := (hbxxxxxx.drew).cell (k := 3) (v := .int .u32 (qd x0 x1 x2 x3)) rfl
 have k3 := (hbxxxxxx.drew).frozen 2
 have e1 : IntKind.u32.wrap ((q1c x0 x1 x2 x3) + (qd x0 x1 x2 x3)) = (qc x0 x1 x2 x3) := by rw [IntKind.wrap_u32]; unfold qc addW; rfl
 have := (zhb x0 x1 x2 x3).1
 have := (zhb x0 x1 x2 x3).2
 have := (qd_bd x0 x1 x2 x3).1
 have := (qd_bd x0 x1 x2 x3).2
 refine wp_region_still_tail 9 (by kernel_rfl) (by kernel_rfl) ?_
 simp only [List.take_succ_cons, List.take_zero, List.drop_succ_cons, List.drop_zero]
 change wpStill _ _ (World.drew _) _ _ _
 still_step; still_step; still_step; still_step; still_step; still_step; still_step; still_step; still_step
 refine wpStill_nil ?_
 change wpList _ _ _ _ _ (World.drew _)
 clear e1
 go_wp2
 have hbxxxxxxx := (hbxxxxxx.set 2 (.int .u32 (qc x0 x1 x2 x3)) (c' := #[Value.int .u32 ((qa x0 x1 x2 x3)), .int .u32 ((q1b x0 x1 x2 x3)), .int .u32 ((qc x0 x1 x2 x3)), .int .u32 ((qd x0 x1 x2 x3)), .int .u32 x4, .int .u32 x5, .int .u32 x6, .int .u32 x7]) rfl).drew
 have gxxxxxxx := zja (zi (p := ⟨b, 2, none⟩) gxxxxxx rfl (.int .u32 (qc x0 x1 x2 x3)))
 generalize World.drew (World.setCell _ _ _) = w7 at *
 clear k1 k2 k3 hbxxxxxx gxxxxxx
 have k1 := (hbxxxxxxx.drew).cell (k := 1) (v := .int .u32 (q1b x0 x1 x2 x3)) rfl
 have k2 := (hbxxxxxxx.drew).cell (k := 2) (v := .int .u32 (qc x0 x1 x2 x3)) rfl
 have k3 := (hbxxxxxxx.drew).frozen 1
 have e1 : bits .xor .u32 (q1b x0 x1 x2 x3) (qc x0 x1 x2 x3) = xorW (q1b x0 x1 x2 x3) (qc x0 x1 x2 x3) := by unfold xorW; rfl
 have := (zeb x0 x1 x2 x3).1
 have := (zeb x0 x1 x2 x3).2
 have := (qc_bd x0 x1 x2 x3).1
 have := (qc_bd x0 x1 x2 x3).2
 refine wp_region_still_tail 10 (by kernel_rfl) (by kernel_rfl) ?_
 simp only [List.take_succ_cons, List.take_zero, List.drop_succ_cons, List.drop_zero]
 change wpStill _ _ (World.drew _) _ _ _
 still_step; still_step; still_step; still_step; still_step; still_step; still_step; still_step
 still_call (turn7 _ (zw _ _).1 (zw _ _).2 _)
 still_step
 refine wpStill_nil ?_
 change wpList _ _ _ _ _ (World.drew _)
 rw [show rotW 128 (xorW (q1b x0 x1 x2 x3) (qc x0 x1 x2 x3)) = (qb x0 x1 x2 x3) by unfold qb; rfl]
 clear e1
 go_upto_region 9 with fail
 have hbxxxxxxxx := (hbxxxxxxx.set 1 (.int .u32 (qb x0 x1 x2 x3)) (c' := #[Value.int .u32 ((qa x0 x1 x2 x3)), .int .u32 ((qb x0 x1 x2 x3)), .int .u32 ((qc x0 x1 x2 x3)), .int .u32 ((qd x0 x1 x2 x3)), .int .u32 x4, .int .u32 x5, .int .u32 x6, .int .u32 x7]) rfl).drew
 have gxxxxxxxx := zja (zi (p := ⟨b, 1, none⟩) gxxxxxxx rfl (.int .u32 (qb x0 x1 x2 x3)))
 generalize World.drew (World.setCell _ _ _) = w8 at *
 clear k1 k2 k3 hbxxxxxxx gxxxxxxx
 have hz2 := hz.grown gxxxxxxxx (by simp)
 have hB2 := zf hB gxxxxxxxx hB.size (Nat.le_of_eq EB.out.symm)
 go_wp2_with (first | (refine zy rfl _ _ rfl _ rfl _ _ _ hbxxxxxxxx Tryz.underlying26 rfl size8 ?_) | (refine zq rfl _ _ _ rfl _ rfl _ rfl (one8 _ _ _ _ _ _ _ _) _ hz2 rfl size8 ?_; intro v gv mv))
 exact bodyPost_ret (zdb rfl rfl mv Tryz.underlying26 rfl size8) rfl ⟨rfl, zf hB2 gv hB2.size (by have := EB.out; omega)⟩
theorem rquarter_p1 (x0 x1 x2 x3 x4 x5 x6 x7 : Int) (h0 : 0 ≤ x0 ∧ x0 < 4294967296) (h1 : 0 ≤ x1 ∧ x1 < 4294967296) (h2 : 0 ≤ x2 ∧ x2 < 4294967296) (h3 : 0 ≤ x3 ∧ x3 < 4294967296) (h4 : 0 ≤ x4 ∧ x4 < 4294967296) (h5 : 0 ≤ x5 ∧ x5 < 4294967296) (h6 : 0 ≤ x6 ∧ x6 < 4294967296) (h7 : 0 ≤ x7 ∧ x7 < 4294967296) (w : World) :
  Calls Tryz.prog 121 #[.agg #[Value.int .u32 x0, .int .u32 x1, .int .u32 x2, .int .u32 x3, .int .u32 x4, .int .u32 x5, .int .u32 x6, .int .u32 x7], .int .i64 4, .int .i64 5, .int .i64 6, .int .i64 7] w fun e w' => e = .returned (.agg #[Value.int .u32 x0, .int .u32 x1, .int .u32 x2, .int .u32 x3, .int .u32 (qa x4 x5 x6 x7), .int .u32 (qb x4 x5 x6 x7), .int .u32 (qc x4 x5 x6 x7), .int .u32 (qd x4 x5 x6 x7)]) ∧ Below w.heap.size w w' := by
 obtain ⟨b, eb⟩ : ∃ b, b = w.heap.size := ⟨_, rfl⟩
 have hb := (Blk.new w 26 #[Value.int .u32 x0, .int .u32 x1, .int .u32 x2, .int .u32 x3, .int .u32 x4, .int .u32 x5, .int .u32 x6, .int .u32 x7]).alloc (.cells #[Value.int .u32 0, .int .u32 0, .int .u32 0, .int .u32 0, .int .u32 0, .int .u32 0, .int .u32 0, .int .u32 0] 26)
 have hz := Blk.new (w.alloc (.cells #[Value.int .u32 x0, .int .u32 x1, .int .u32 x2, .int .u32 x3, .int .u32 x4, .int .u32 x5, .int .u32 x6, .int .u32 x7] 26)) 26 #[Value.int .u32 0, .int .u32 0, .int .u32 0, .int .u32 0, .int .u32 0, .int .u32 0, .int .u32 0, .int .u32 0]
 rw [World.size_alloc] at hz
 have hB : Below w.heap.size w ((w.alloc (.cells #[Value.int .u32 x0, .int .u32 x1, .int .u32 x2, .int .u32 x3, .int .u32 x4, .int .u32 x5, .int .u32 x6, .int .u32 x7] 26)).alloc (.cells #[Value.int .u32 0, .int .u32 0, .int .u32 0, .int .u32 0, .int .u32 0, .int .u32 0, .int .u32 0, .int .u32 0] 26)) := ((Below.refl _ _).alloc (Nat.le_refl _) _).alloc (by simp) _
 go_enter Tryz.func121, Tryz.ntmps121
 go_wp2
 have g := World.grownBy.refl ((w.alloc (.cells #[Value.int .u32 x0, .int .u32 x1, .int .u32 x2, .int .u32 x3, .int .u32 x4, .int .u32 x5, .int .u32 x6, .int .u32 x7] 26)).alloc (.cells #[Value.int .u32 0, .int .u32 0, .int .u32 0, .int .u32 0, .int .u32 0, .int .u32 0, .int .u32 0, .int .u32 0] 26)) (some w.heap.size)
 generalize World.alloc (World.alloc _ _) _ = w0 at *
 rw [← eb] at hb hz g ⊢
 have EB := hid eb
 clear eb
 have k1 := (hb.drew).cell (k := 4) (v := .int .u32 x4) rfl
 have k2 := (hb.drew).cell (k := 5) (v := .int .u32 x5) rfl
 have k3 := (hb.drew).frozen 4
 have e1 : IntKind.u32.wrap (x4 + x5) = (q1a x4 x5 x6 x7) := by rw [IntKind.wrap_u32]; unfold q1a addW; rfl
 have := h4.1
 have := h4.2
 have := h5.1
 have := h5.2
 refine wp_region_still_tail 9 (by kernel_rfl) (by kernel_rfl) ?_
 simp only [List.take_succ_cons, List.take_zero, List.drop_succ_cons, List.drop_zero]
 change wpStill _ _ (World.drew _) _ _ _
 still_step; still_step; still_step; still_step; still_step; still_step; still_step; still_step; still_step
 refine wpStill_nil ?_
 change wpList _ _ _ _ _ (World.drew _)
 clear e1
 go_wp2
 have hbx := (hb.set 4 (.int .u32 (q1a x4 x5 x6 x7)) (c' := #[Value.int .u32 x0, .int .u32 x1, .int .u32 x2, .int .u32 x3, .int .u32 ((q1a x4 x5 x6 x7)), .int .u32 x5, .int .u32 x6, .int .u32 x7]) rfl).drew
 have gx := zja (zi (p := ⟨b, 4, none⟩) g rfl (.int .u32 (q1a x4 x5 x6 x7)))
 generalize World.drew (World.setCell _ _ _) = w1 at *
 clear k1 k2 k3 hb g
 have k1 := (hbx.drew).cell (k := 7) (v := .int .u32 x7) rfl
 have k2 := (hbx.drew).cell (k := 4) (v := .int .u32 (q1a x4 x5 x6 x7)) rfl
 have k3 := (hbx.drew).frozen 7
 have e1 : bits .xor .u32 x7 (q1a x4 x5 x6 x7) = xorW x7 (q1a x4 x5 x6 x7) := by unfold xorW; rfl
 have := (zgb x4 x5 x6 x7).1
 have := (zgb x4 x5 x6 x7).2
 have := h7.1
 have := h7.2
 refine wp_region_still_tail 10 (by kernel_rfl) (by kernel_rfl) ?_
 simp only [List.take_succ_cons, List.take_zero, List.drop_succ_cons, List.drop_zero]
 change wpStill _ _ (World.drew _) _ _ _
 still_step; still_step; still_step; still_step; still_step; still_step; still_step; still_step
 still_call (turn16 _ (zw _ _).1 (zw _ _).2 _)
 still_step
 refine wpStill_nil ?_
 change wpList _ _ _ _ _ (World.drew _)
 rw [show rotW 65536 (xorW x7 (q1a x4 x5 x6 x7)) = (q1d x4 x5 x6 x7) by unfold q1d; rfl]
 clear e1
 go_wp2
 have hbxx := (hbx.set 7 (.int .u32 (q1d x4 x5 x6 x7)) (c' := #[Value.int .u32 x0, .int .u32 x1, .int .u32 x2, .int .u32 x3, .int .u32 ((q1a x4 x5 x6 x7)), .int .u32 x5, .int .u32 x6, .int .u32 ((q1d x4 x5 x6 x7))]) rfl).drew
 have gxx := zja (zi (p := ⟨b, 7, none⟩) gx rfl (.int .u32 (q1d x4 x5 x6 x7)))
 generalize World.drew (World.setCell _ _ _) = w2 at *
 clear k1 k2 k3 hbx gx
 have k1 := (hbxx.drew).cell (k := 6) (v := .int .u32 x6) rfl
 have k2 := (hbxx.drew).cell (k := 7) (v := .int .u32 (q1d x4 x5 x6 x7)) rfl
 have k3 := (hbxx.drew).frozen 6
 have e1 : IntKind.u32.wrap (x6 + (q1d x4 x5 x6 x7)) = (q1c x4 x5 x6 x7) := by rw [IntKind.wrap_u32]; unfold q1c addW; rfl
 have := (zfb x4 x5 x6 x7).1
 have := (zfb x4 x5 x6 x7).2
 have := h6.1
 have := h6.2
 refine wp_region_still_tail 9 (by kernel_rfl) (by kernel_rfl) ?_
 simp only [List.take_succ_cons, List.take_zero, List.drop_succ_cons, List.drop_zero]
 change wpStill _ _ (World.drew _) _ _ _
 still_step; still_step; still_step; still_step; still_step; still_step; still_step; still_step; still_step
 refine wpStill_nil ?_
 change wpList _ _ _ _ _ (World.drew _)
 clear e1
 go_wp2
 have hbxxx := (hbxx.set 6 (.int .u32 (q1c x4 x5 x6 x7)) (c' := #[Value.int .u32 x0, .int .u32 x1, .int .u32 x2, .int .u32 x3, .int .u32 ((q1a x4 x5 x6 x7)), .int .u32 x5, .int .u32 ((q1c x4 x5 x6 x7)), .int .u32 ((q1d x4 x5 x6 x7))]) rfl).drew
 have gxxx := zja (zi (p := ⟨b, 6, none⟩) gxx rfl (.int .u32 (q1c x4 x5 x6 x7)))
 generalize World.drew (World.setCell _ _ _) = w3 at *
 clear k1 k2 k3 hbxx gxx
 have k1 := (hbxxx.drew).cell (k := 5) (v := .int .u32 x5) rfl
 have k2 := (hbxxx.drew).cell (k := 6) (v := .int .u32 (q1c x4 x5 x6 x7)) rfl
 have k3 := (hbxxx.drew).frozen 5
 have e1 : bits .xor .u32 x5 (q1c x4 x5 x6 x7) = xorW x5 (q1c x4 x5 x6 x7) := by unfold xorW; rfl
 have := (zhb x4 x5 x6 x7).1
 have := (zhb x4 x5 x6 x7).2
 have := h5.1
 have := h5.2
 refine wp_region_still_tail 10 (by kernel_rfl) (by kernel_rfl) ?_
 simp only [List.take_succ_cons, List.take_zero, List.drop_succ_cons, List.drop_zero]
 change wpStill _ _ (World.drew _) _ _ _
 still_step; still_step; still_step; still_step; still_step; still_step; still_step; still_step
 still_call (turn12 _ (zw _ _).1 (zw _ _).2 _)
 still_step
 refine wpStill_nil ?_
 change wpList _ _ _ _ _ (World.drew _)
 rw [show rotW 4096 (xorW x5 (q1c x4 x5 x6 x7)) = (q1b x4 x5 x6 x7) by unfold q1b; rfl]
 clear e1
 go_wp2
 have hbxxxx := (hbxxx.set 5 (.int .u32 (q1b x4 x5 x6 x7)) (c' := #[Value.int .u32 x0, .int .u32 x1, .int .u32 x2, .int .u32 x3, .int .u32 ((q1a x4 x5 x6 x7)), .int .u32 ((q1b x4 x5 x6 x7)), .int .u32 ((q1c x4 x5 x6 x7)), .int .u32 ((q1d x4 x5 x6 x7))]) rfl).drew
 have gxxxx := zja (zi (p := ⟨b, 5, none⟩) gxxx rfl (.int .u32 (q1b x4 x5 x6 x7)))
 generalize World.drew (World.setCell _ _ _) = w4 at *
 clear k1 k2 k3 hbxxx gxxx
 have k1 := (hbxxxx.drew).cell (k := 4) (v := .int .u32 (q1a x4 x5 x6 x7)) rfl
 have k2 := (hbxxxx.drew).cell (k := 5) (v := .int .u32 (q1b x4 x5 x6 x7)) rfl
 have k3 := (hbxxxx.drew).frozen 4
 have e1 : IntKind.u32.wrap ((q1a x4 x5 x6 x7) + (q1b x4 x5 x6 x7)) = (qa x4 x5 x6 x7) := by rw [IntKind.wrap_u32]; unfold qa addW; rfl
 have := (zgb x4 x5 x6 x7).1
 have := (zgb x4 x5 x6 x7).2
 have := (zeb x4 x5 x6 x7).1
 have := (zeb x4 x5 x6 x7).2
 refine wp_region_still_tail 9 (by kernel_rfl) (by kernel_rfl) ?_
 simp only [List.take_succ_cons, List.take_zero, List.drop_succ_cons, List.drop_zero]
 change wpStill _ _ (World.drew _) _ _ _
 still_step; still_step; still_step; still_step; still_step; still_step; still_step; still_step; still_step
 refine wpStill_nil ?_
 change wpList _ _ _ _ _ (World.drew _)
 clear e1
 go_wp2
 have hbxxxxx := (hbxxxx.set 4 (.int .u32 (qa x4 x5 x6 x7)) (c' := #[Value.int .u32 x0, .int .u32 x1, .int .u32 x2, .int .u32 x3, .int .u32 ((qa x4 x5 x6 x7)), .int .u32 ((q1b x4 x5 x6 x7)), .int .u32 ((q1c x4 x5 x6 x7)), .int .u32 ((q1d x4 x5 x6 x7))]) rfl).drew
 have gxxxxx := zja (zi (p := ⟨b, 4, none⟩) gxxxx rfl (.int .u32 (qa x4 x5 x6 x7)))
 generalize World.drew (World.setCell _ _ _) = w5 at *
 clear k1 k2 k3 hbxxxx gxxxx
 have k1 := (hbxxxxx.drew).cell (k := 7) (v := .int .u32 (q1d x4 x5 x6 x7)) rfl
 have k2 := (hbxxxxx.drew).cell (k := 4) (v := .int .u32 (qa x4 x5 x6 x7)) rfl
 have k3 := (hbxxxxx.drew).frozen 7
 have e1 : bits .xor .u32 (q1d x4 x5 x6 x7) (qa x4 x5 x6 x7) = xorW (q1d x4 x5 x6 x7) (qa x4 x5 x6 x7) := by unfold xorW; rfl
 have := (zfb x4 x5 x6 x7).1
 have := (zfb x4 x5 x6 x7).2
 have := (qa_bd x4 x5 x6 x7).1
 have := (qa_bd x4 x5 x6 x7).2
 refine wp_region_still_tail 10 (by kernel_rfl) (by kernel_rfl) ?_
 simp only [List.take_succ_cons, List.take_zero, List.drop_succ_cons, List.drop_zero]
 change wpStill _ _ (World.drew _) _ _ _
 still_step; still_step; still_step; still_step; still_step; still_step; still_step; still_step
 still_call (turn8 _ (zw _ _).1 (zw _ _).2 _)
 still_step
 refine wpStill_nil ?_
 change wpList _ _ _ _ _ (World.drew _)
 rw [show rotW 256 (xorW (q1d x4 x5 x6 x7) (qa x4 x5 x6 x7)) = (qd x4 x5 x6 x7) by unfold qd; rfl]
 clear e1
 go_wp2
 have hbxxxxxx := (hbxxxxx.set 7 (.int .u32 (qd x4 x5 x6 x7)) (c' := #[Value.int .u32 x0, .int .u32 x1, .int .u32 x2, .int .u32 x3, .int .u32 ((qa x4 x5 x6 x7)), .int .u32 ((q1b x4 x5 x6 x7)), .int .u32 ((q1c x4 x5 x6 x7)), .int .u32 ((qd x4 x5 x6 x7))]) rfl).drew
 have gxxxxxx := zja (zi (p := ⟨b, 7, none⟩) gxxxxx rfl (.int .u32 (qd x4 x5 x6 x7)))
 generalize World.drew (World.setCell _ _ _) = w6 at *
 clear k1 k2 k3 hbxxxxx gxxxxx
 have k1 := (hbxxxxxx.drew).cell (k := 6) (v := .int .u32 (q1c x4 x5 x6 x7)) rfl
 have k2 := (hbxxxxxx.drew).cell (k := 7) (v := .int .u32 (qd x4 x5 x6 x7)) rfl
 have k3 := (hbxxxxxx.drew).frozen 6
 have e1 : IntKind.u32.wrap ((q1c x4 x5 x6 x7) + (qd x4 x5 x6 x7)) = (qc x4 x5 x6 x7) := by rw [IntKind.wrap_u32]; unfold qc addW; rfl
 have := (zhb x4 x5 x6 x7).1
 have := (zhb x4 x5 x6 x7).2
 have := (qd_bd x4 x5 x6 x7).1
 have := (qd_bd x4 x5 x6 x7).2
 refine wp_region_still_tail 9 (by kernel_rfl) (by kernel_rfl) ?_
 simp only [List.take_succ_cons, List.take_zero, List.drop_succ_cons, List.drop_zero]
 change wpStill _ _ (World.drew _) _ _ _
 still_step; still_step; still_step; still_step; still_step; still_step; still_step; still_step; still_step
 refine wpStill_nil ?_
 change wpList _ _ _ _ _ (World.drew _)
 clear e1
 go_wp2
 have hbxxxxxxx := (hbxxxxxx.set 6 (.int .u32 (qc x4 x5 x6 x7)) (c' := #[Value.int .u32 x0, .int .u32 x1, .int .u32 x2, .int .u32 x3, .int .u32 ((qa x4 x5 x6 x7)), .int .u32 ((q1b x4 x5 x6 x7)), .int .u32 ((qc x4 x5 x6 x7)), .int .u32 ((qd x4 x5 x6 x7))]) rfl).drew
 have gxxxxxxx := zja (zi (p := ⟨b, 6, none⟩) gxxxxxx rfl (.int .u32 (qc x4 x5 x6 x7)))
 generalize World.drew (World.setCell _ _ _) = w7 at *
 clear k1 k2 k3 hbxxxxxx gxxxxxx
 have k1 := (hbxxxxxxx.drew).cell (k := 5) (v := .int .u32 (q1b x4 x5 x6 x7)) rfl
 have k2 := (hbxxxxxxx.drew).cell (k := 6) (v := .int .u32 (qc x4 x5 x6 x7)) rfl
 have k3 := (hbxxxxxxx.drew).frozen 5
 have e1 : bits .xor .u32 (q1b x4 x5 x6 x7) (qc x4 x5 x6 x7) = xorW (q1b x4 x5 x6 x7) (qc x4 x5 x6 x7) := by unfold xorW; rfl
 have := (zeb x4 x5 x6 x7).1
 have := (zeb x4 x5 x6 x7).2
 have := (qc_bd x4 x5 x6 x7).1
 have := (qc_bd x4 x5 x6 x7).2
 refine wp_region_still_tail 10 (by kernel_rfl) (by kernel_rfl) ?_
 simp only [List.take_succ_cons, List.take_zero, List.drop_succ_cons, List.drop_zero]
 change wpStill _ _ (World.drew _) _ _ _
 still_step; still_step; still_step; still_step; still_step; still_step; still_step; still_step
 still_call (turn7 _ (zw _ _).1 (zw _ _).2 _)
 still_step
 refine wpStill_nil ?_
 change wpList _ _ _ _ _ (World.drew _)
 rw [show rotW 128 (xorW (q1b x4 x5 x6 x7) (qc x4 x5 x6 x7)) = (qb x4 x5 x6 x7) by unfold qb; rfl]
 clear e1
 go_upto_region 9 with fail
 have hbxxxxxxxx := (hbxxxxxxx.set 5 (.int .u32 (qb x4 x5 x6 x7)) (c' := #[Value.int .u32 x0, .int .u32 x1, .int .u32 x2, .int .u32 x3, .int .u32 ((qa x4 x5 x6 x7)), .int .u32 ((qb x4 x5 x6 x7)), .int .u32 ((qc x4 x5 x6 x7)), .int .u32 ((qd x4 x5 x6 x7))]) rfl).drew
 have gxxxxxxxx := zja (zi (p := ⟨b, 5, none⟩) gxxxxxxx rfl (.int .u32 (qb x4 x5 x6 x7)))
 generalize World.drew (World.setCell _ _ _) = w8 at *
 clear k1 k2 k3 hbxxxxxxx gxxxxxxx
 have hz2 := hz.grown gxxxxxxxx (by simp)
 have hB2 := zf hB gxxxxxxxx hB.size (Nat.le_of_eq EB.out.symm)
 go_wp2_with (first | (refine zy rfl _ _ rfl _ rfl _ _ _ hbxxxxxxxx Tryz.underlying26 rfl size8 ?_) | (refine zq rfl _ _ _ rfl _ rfl _ rfl (one8 _ _ _ _ _ _ _ _) _ hz2 rfl size8 ?_; intro v gv mv))
 exact bodyPost_ret (zdb rfl rfl mv Tryz.underlying26 rfl size8) rfl ⟨rfl, zf hB2 gv hB2.size (by have := EB.out; omega)⟩
theorem rquarter_p2 (x0 x1 x2 x3 x4 x5 x6 x7 : Int) (h0 : 0 ≤ x0 ∧ x0 < 4294967296) (h1 : 0 ≤ x1 ∧ x1 < 4294967296) (h2 : 0 ≤ x2 ∧ x2 < 4294967296) (h3 : 0 ≤ x3 ∧ x3 < 4294967296) (h4 : 0 ≤ x4 ∧ x4 < 4294967296) (h5 : 0 ≤ x5 ∧ x5 < 4294967296) (h6 : 0 ≤ x6 ∧ x6 < 4294967296) (h7 : 0 ≤ x7 ∧ x7 < 4294967296) (w : World) :
  Calls Tryz.prog 121 #[.agg #[Value.int .u32 x0, .int .u32 x1, .int .u32 x2, .int .u32 x3, .int .u32 x4, .int .u32 x5, .int .u32 x6, .int .u32 x7], .int .i64 0, .int .i64 5, .int .i64 2, .int .i64 7] w fun e w' => e = .returned (.agg #[Value.int .u32 (qa x0 x5 x2 x7), .int .u32 x1, .int .u32 (qc x0 x5 x2 x7), .int .u32 x3, .int .u32 x4, .int .u32 (qb x0 x5 x2 x7), .int .u32 x6, .int .u32 (qd x0 x5 x2 x7)]) ∧ Below w.heap.size w w' := by
 obtain ⟨b, eb⟩ : ∃ b, b = w.heap.size := ⟨_, rfl⟩
 have hb := (Blk.new w 26 #[Value.int .u32 x0, .int .u32 x1, .int .u32 x2, .int .u32 x3, .int .u32 x4, .int .u32 x5, .int .u32 x6, .int .u32 x7]).alloc (.cells #[Value.int .u32 0, .int .u32 0, .int .u32 0, .int .u32 0, .int .u32 0, .int .u32 0, .int .u32 0, .int .u32 0] 26)
 have hz := Blk.new (w.alloc (.cells #[Value.int .u32 x0, .int .u32 x1, .int .u32 x2, .int .u32 x3, .int .u32 x4, .int .u32 x5, .int .u32 x6, .int .u32 x7] 26)) 26 #[Value.int .u32 0, .int .u32 0, .int .u32 0, .int .u32 0, .int .u32 0, .int .u32 0, .int .u32 0, .int .u32 0]
 rw [World.size_alloc] at hz
 have hB : Below w.heap.size w ((w.alloc (.cells #[Value.int .u32 x0, .int .u32 x1, .int .u32 x2, .int .u32 x3, .int .u32 x4, .int .u32 x5, .int .u32 x6, .int .u32 x7] 26)).alloc (.cells #[Value.int .u32 0, .int .u32 0, .int .u32 0, .int .u32 0, .int .u32 0, .int .u32 0, .int .u32 0, .int .u32 0] 26)) := ((Below.refl _ _).alloc (Nat.le_refl _) _).alloc (by simp) _
 go_enter Tryz.func121, Tryz.ntmps121
 go_wp2
 have g := World.grownBy.refl ((w.alloc (.cells #[Value.int .u32 x0, .int .u32 x1, .int .u32 x2, .int .u32 x3, .int .u32 x4, .int .u32 x5, .int .u32 x6, .int .u32 x7] 26)).alloc (.cells #[Value.int .u32 0, .int .u32 0, .int .u32 0, .int .u32 0, .int .u32 0, .int .u32 0, .int .u32 0, .int .u32 0] 26)) (some w.heap.size)
 generalize World.alloc (World.alloc _ _) _ = w0 at *
 rw [← eb] at hb hz g ⊢
 have EB := hid eb
 clear eb
 have k1 := (hb.drew).cell (k := 0) (v := .int .u32 x0) rfl
 have k2 := (hb.drew).cell (k := 5) (v := .int .u32 x5) rfl
 have k3 := (hb.drew).frozen 0
 have e1 : IntKind.u32.wrap (x0 + x5) = (q1a x0 x5 x2 x7) := by rw [IntKind.wrap_u32]; unfold q1a addW; rfl
 have := h0.1
 have := h0.2
 have := h5.1
 have := h5.2
 refine wp_region_still_tail 9 (by kernel_rfl) (by kernel_rfl) ?_
 simp only [List.take_succ_cons, List.take_zero, List.drop_succ_cons, List.drop_zero]
 change wpStill _ _ (World.drew _) _ _ _
 still_step; still_step; still_step; still_step; still_step; still_step; still_step; still_step; still_step
 refine wpStill_nil ?_
 change wpList _ _ _ _ _ (World.drew _)
 clear e1
 go_wp2
 have hbx := (hb.set 0 (.int .u32 (q1a x0 x5 x2 x7)) (c' := #[Value.int .u32 ((q1a x0 x5 x2 x7)), .int .u32 x1, .int .u32 x2, .int .u32 x3, .int .u32 x4, .int .u32 x5, .int .u32 x6, .int .u32 x7]) rfl).drew
 have gx := zja (zi (p := ⟨b, 0, none⟩) g rfl (.int .u32 (q1a x0 x5 x2 x7)))
 generalize World.drew (World.setCell _ _ _) = w1 at *
 clear k1 k2 k3 hb g
 have k1 := (hbx.drew).cell (k := 7) (v := .int .u32 x7) rfl
 have k2 := (hbx.drew).cell (k := 0) (v := .int .u32 (q1a x0 x5 x2 x7)) rfl
 have k3 := (hbx.drew).frozen 7
 have e1 : bits .xor .u32 x7 (q1a x0 x5 x2 x7) = xorW x7 (q1a x0 x5 x2 x7) := by unfold xorW; rfl
 have := (zgb x0 x5 x2 x7).1
 have := (zgb x0 x5 x2 x7).2
 have := h7.1
 have := h7.2
 refine wp_region_still_tail 10 (by kernel_rfl) (by kernel_rfl) ?_
 simp only [List.take_succ_cons, List.take_zero, List.drop_succ_cons, List.drop_zero]
 change wpStill _ _ (World.drew _) _ _ _
 still_step; still_step; still_step; still_step; still_step; still_step; still_step; still_step
 still_call (turn16 _ (zw _ _).1 (zw _ _).2 _)
 still_step
 refine wpStill_nil ?_
 change wpList _ _ _ _ _ (World.drew _)
 rw [show rotW 65536 (xorW x7 (q1a x0 x5 x2 x7)) = (q1d x0 x5 x2 x7) by unfold q1d; rfl]
 clear e1
 go_wp2
 have hbxx := (hbx.set 7 (.int .u32 (q1d x0 x5 x2 x7)) (c' := #[Value.int .u32 ((q1a x0 x5 x2 x7)), .int .u32 x1, .int .u32 x2, .int .u32 x3, .int .u32 x4, .int .u32 x5, .int .u32 x6, .int .u32 ((q1d x0 x5 x2 x7))]) rfl).drew
 have gxx := zja (zi (p := ⟨b, 7, none⟩) gx rfl (.int .u32 (q1d x0 x5 x2 x7)))
 generalize World.drew (World.setCell _ _ _) = w2 at *
 clear k1 k2 k3 hbx gx
 have k1 := (hbxx.drew).cell (k := 2) (v := .int .u32 x2) rfl
 have k2 := (hbxx.drew).cell (k := 7) (v := .int .u32 (q1d x0 x5 x2 x7)) rfl
 have k3 := (hbxx.drew).frozen 2
 have e1 : IntKind.u32.wrap (x2 + (q1d x0 x5 x2 x7)) = (q1c x0 x5 x2 x7) := by rw [IntKind.wrap_u32]; unfold q1c addW; rfl
 have := (zfb x0 x5 x2 x7).1
 have := (zfb x0 x5 x2 x7).2
 have := h2.1
 have := h2.2
 refine wp_region_still_tail 9 (by kernel_rfl) (by kernel_rfl) ?_
 simp only [List.take_succ_cons, List.take_zero, List.drop_succ_cons, List.drop_zero]
 change wpStill _ _ (World.drew _) _ _ _
 still_step; still_step; still_step; still_step; still_step; still_step; still_step; still_step; still_step
 refine wpStill_nil ?_
 change wpList _ _ _ _ _ (World.drew _)
 clear e1
 go_wp2
 have hbxxx := (hbxx.set 2 (.int .u32 (q1c x0 x5 x2 x7)) (c' := #[Value.int .u32 ((q1a x0 x5 x2 x7)), .int .u32 x1, .int .u32 ((q1c x0 x5 x2 x7)), .int .u32 x3, .int .u32 x4, .int .u32 x5, .int .u32 x6, .int .u32 ((q1d x0 x5 x2 x7))]) rfl).drew
 have gxxx := zja (zi (p := ⟨b, 2, none⟩) gxx rfl (.int .u32 (q1c x0 x5 x2 x7)))
 generalize World.drew (World.setCell _ _ _) = w3 at *
 clear k1 k2 k3 hbxx gxx
 have k1 := (hbxxx.drew).cell (k := 5) (v := .int .u32 x5) rfl
 have k2 := (hbxxx.drew).cell (k := 2) (v := .int .u32 (q1c x0 x5 x2 x7)) rfl
 have k3 := (hbxxx.drew).frozen 5
 have e1 : bits .xor .u32 x5 (q1c x0 x5 x2 x7) = xorW x5 (q1c x0 x5 x2 x7) := by unfold xorW; rfl
 have := (zhb x0 x5 x2 x7).1
 have := (zhb x0 x5 x2 x7).2
 have := h5.1
 have := h5.2
 refine wp_region_still_tail 10 (by kernel_rfl) (by kernel_rfl) ?_
 simp only [List.take_succ_cons, List.take_zero, List.drop_succ_cons, List.drop_zero]
 change wpStill _ _ (World.drew _) _ _ _
 still_step; still_step; still_step; still_step; still_step; still_step; still_step; still_step
 still_call (turn12 _ (zw _ _).1 (zw _ _).2 _)
 still_step
 refine wpStill_nil ?_
 change wpList _ _ _ _ _ (World.drew _)
 rw [show rotW 4096 (xorW x5 (q1c x0 x5 x2 x7)) = (q1b x0 x5 x2 x7) by unfold q1b; rfl]
 clear e1
 go_wp2
 have hbxxxx := (hbxxx.set 5 (.int .u32 (q1b x0 x5 x2 x7)) (c' := #[Value.int .u32 ((q1a x0 x5 x2 x7)), .int .u32 x1, .int .u32 ((q1c x0 x5 x2 x7)), .int .u32 x3, .int .u32 x4, .int .u32 ((q1b x0 x5 x2 x7)), .int .u32 x6, .int .u32 ((q1d x0 x5 x2 x7))]) rfl).drew
 have gxxxx := zja (zi (p := ⟨b, 5, none⟩) gxxx rfl (.int .u32 (q1b x0 x5 x2 x7)))
 generalize World.drew (World.setCell _ _ _) = w4 at *
 clear k1 k2 k3 hbxxx gxxx
 have k1 := (hbxxxx.drew).cell (k := 0) (v := .int .u32 (q1a x0 x5 x2 x7)) rfl
 have k2 := (hbxxxx.drew).cell (k := 5) (v := .int .u32 (q1b x0 x5 x2 x7)) rfl
 have k3 := (hbxxxx.drew).frozen 0
 have e1 : IntKind.u32.wrap ((q1a x0 x5 x2 x7) + (q1b x0 x5 x2 x7)) = (qa x0 x5 x2 x7) := by rw [IntKind.wrap_u32]; unfold qa addW; rfl
 have := (zgb x0 x5 x2 x7).1
 have := (zgb x0 x5 x2 x7).2
 have := (zeb x0 x5 x2 x7).1
 have := (zeb x0 x5 x2 x7).2
 refine wp_region_still_tail 9 (by kernel_rfl) (by kernel_rfl) ?_
 simp only [List.take_succ_cons, List.take_zero, List.drop_succ_cons, List.drop_zero]
 change wpStill _ _ (World.drew _) _ _ _
 still_step; still_step; still_step; still_step; still_step; still_step; still_step; still_step; still_step
 refine wpStill_nil ?_
 change wpList _ _ _ _ _ (World.drew _)
 clear e1
 go_wp2
 have hbxxxxx := (hbxxxx.set 0 (.int .u32 (qa x0 x5 x2 x7)) (c' := #[Value.int .u32 ((qa x0 x5 x2 x7)), .int .u32 x1, .int .u32 ((q1c x0 x5 x2 x7)), .int .u32 x3, .int .u32 x4, .int .u32 ((q1b x0 x5 x2 x7)), .int .u32 x6, .int .u32 ((q1d x0 x5 x2 x7))]) rfl).drew
 have gxxxxx := zja (zi (p := ⟨b, 0, none⟩) gxxxx rfl (.int .u32 (qa x0 x5 x2 x7)))
 generalize World.drew (World.setCell _ _ _) = w5 at *
 clear k1 k2 k3 hbxxxx gxxxx
 have k1 := (hbxxxxx.drew).cell (k := 7) (v := .int .u32 (q1d x0 x5 x2 x7)) rfl
 have k2 := (hbxxxxx.drew).cell (k := 0) (v := .int .u32 (qa x0 x5 x2 x7)) rfl
 have k3 := (hbxxxxx.drew).frozen 7
 have e1 : bits .xor .u32 (q1d x0 x5 x2 x7) (qa x0 x5 x2 x7) = xorW (q1d x0 x5 x2 x7) (qa x0 x5 x2 x7) := by unfold xorW; rfl
 have := (zfb x0 x5 x2 x7).1
 have := (zfb x0 x5 x2 x7).2
 have := (qa_bd x0 x5 x2 x7).1
 have := (qa_bd x0 x5 x2 x7).2
 refine wp_region_still_tail 10 (by kernel_rfl) (by kernel_rfl) ?_
 simp only [List.take_succ_cons, List.take_zero, List.drop_succ_cons, List.drop_zero]
 change wpStill _ _ (World.drew _) _ _ _
 still_step; still_step; still_step; still_step; still_step; still_step; still_step; still_step
 still_call (turn8 _ (zw _ _).1 (zw _ _).2 _)
 still_step
 refine wpStill_nil ?_
 change wpList _ _ _ _ _ (World.drew _)
 rw [show rotW 256 (xorW (q1d x0 x5 x2 x7) (qa x0 x5 x2 x7)) = (qd x0 x5 x2 x7) by unfold qd; rfl]
 clear e1
 go_wp2
 have hbxxxxxx := (hbxxxxx.set 7 (.int .u32 (qd x0 x5 x2 x7)) (c' := #[Value.int .u32 ((qa x0 x5 x2 x7)), .int .u32 x1, .int .u32 ((q1c x0 x5 x2 x7)), .int .u32 x3, .int .u32 x4, .int .u32 ((q1b x0 x5 x2 x7)), .int .u32 x6, .int .u32 ((qd x0 x5 x2 x7))]) rfl).drew
 have gxxxxxx := zja (zi (p := ⟨b, 7, none⟩) gxxxxx rfl (.int .u32 (qd x0 x5 x2 x7)))
 generalize World.drew (World.setCell _ _ _) = w6 at *
 clear k1 k2 k3 hbxxxxx gxxxxx
 have k1 := (hbxxxxxx.drew).cell (k := 2) (v := .int .u32 (q1c x0 x5 x2 x7)) rfl
 have k2 := (hbxxxxxx.drew).cell (k := 7) (v := .int .u32 (qd x0 x5 x2 x7)) rfl
 have k3 := (hbxxxxxx.drew).frozen 2
 have e1 : IntKind.u32.wrap ((q1c x0 x5 x2 x7) + (qd x0 x5 x2 x7)) = (qc x0 x5 x2 x7) := by rw [IntKind.wrap_u32]; unfold qc addW; rfl
 have := (zhb x0 x5 x2 x7).1
 have := (zhb x0 x5 x2 x7).2
 have := (qd_bd x0 x5 x2 x7).1
 have := (qd_bd x0 x5 x2 x7).2
 refine wp_region_still_tail 9 (by kernel_rfl) (by kernel_rfl) ?_
 simp only [List.take_succ_cons, List.take_zero, List.drop_succ_cons, List.drop_zero]
 change wpStill _ _ (World.drew _) _ _ _
 still_step; still_step; still_step; still_step; still_step; still_step; still_step; still_step; still_step
 refine wpStill_nil ?_
 change wpList _ _ _ _ _ (World.drew _)
 clear e1
 go_wp2
 have hbxxxxxxx := (hbxxxxxx.set 2 (.int .u32 (qc x0 x5 x2 x7)) (c' := #[Value.int .u32 ((qa x0 x5 x2 x7)), .int .u32 x1, .int .u32 ((qc x0 x5 x2 x7)), .int .u32 x3, .int .u32 x4, .int .u32 ((q1b x0 x5 x2 x7)), .int .u32 x6, .int .u32 ((qd x0 x5 x2 x7))]) rfl).drew
 have gxxxxxxx := zja (zi (p := ⟨b, 2, none⟩) gxxxxxx rfl (.int .u32 (qc x0 x5 x2 x7)))
 generalize World.drew (World.setCell _ _ _) = w7 at *
 clear k1 k2 k3 hbxxxxxx gxxxxxx
 have k1 := (hbxxxxxxx.drew).cell (k := 5) (v := .int .u32 (q1b x0 x5 x2 x7)) rfl
 have k2 := (hbxxxxxxx.drew).cell (k := 2) (v := .int .u32 (qc x0 x5 x2 x7)) rfl
 have k3 := (hbxxxxxxx.drew).frozen 5
 have e1 : bits .xor .u32 (q1b x0 x5 x2 x7) (qc x0 x5 x2 x7) = xorW (q1b x0 x5 x2 x7) (qc x0 x5 x2 x7) := by unfold xorW; rfl
 have := (zeb x0 x5 x2 x7).1
 have := (zeb x0 x5 x2 x7).2
 have := (qc_bd x0 x5 x2 x7).1
 have := (qc_bd x0 x5 x2 x7).2
 refine wp_region_still_tail 10 (by kernel_rfl) (by kernel_rfl) ?_
 simp only [List.take_succ_cons, List.take_zero, List.drop_succ_cons, List.drop_zero]
 change wpStill _ _ (World.drew _) _ _ _
 still_step; still_step; still_step; still_step; still_step; still_step; still_step; still_step
 still_call (turn7 _ (zw _ _).1 (zw _ _).2 _)
 still_step
 refine wpStill_nil ?_
 change wpList _ _ _ _ _ (World.drew _)
 rw [show rotW 128 (xorW (q1b x0 x5 x2 x7) (qc x0 x5 x2 x7)) = (qb x0 x5 x2 x7) by unfold qb; rfl]
 clear e1
 go_upto_region 9 with fail
 have hbxxxxxxxx := (hbxxxxxxx.set 5 (.int .u32 (qb x0 x5 x2 x7)) (c' := #[Value.int .u32 ((qa x0 x5 x2 x7)), .int .u32 x1, .int .u32 ((qc x0 x5 x2 x7)), .int .u32 x3, .int .u32 x4, .int .u32 ((qb x0 x5 x2 x7)), .int .u32 x6, .int .u32 ((qd x0 x5 x2 x7))]) rfl).drew
 have gxxxxxxxx := zja (zi (p := ⟨b, 5, none⟩) gxxxxxxx rfl (.int .u32 (qb x0 x5 x2 x7)))
 generalize World.drew (World.setCell _ _ _) = w8 at *
 clear k1 k2 k3 hbxxxxxxx gxxxxxxx
 have hz2 := hz.grown gxxxxxxxx (by simp)
 have hB2 := zf hB gxxxxxxxx hB.size (Nat.le_of_eq EB.out.symm)
 go_wp2_with (first | (refine zy rfl _ _ rfl _ rfl _ _ _ hbxxxxxxxx Tryz.underlying26 rfl size8 ?_) | (refine zq rfl _ _ _ rfl _ rfl _ rfl (one8 _ _ _ _ _ _ _ _) _ hz2 rfl size8 ?_; intro v gv mv))
 exact bodyPost_ret (zdb rfl rfl mv Tryz.underlying26 rfl size8) rfl ⟨rfl, zf hB2 gv hB2.size (by have := EB.out; omega)⟩
theorem rquarter_p3 (x0 x1 x2 x3 x4 x5 x6 x7 : Int) (h0 : 0 ≤ x0 ∧ x0 < 4294967296) (h1 : 0 ≤ x1 ∧ x1 < 4294967296) (h2 : 0 ≤ x2 ∧ x2 < 4294967296) (h3 : 0 ≤ x3 ∧ x3 < 4294967296) (h4 : 0 ≤ x4 ∧ x4 < 4294967296) (h5 : 0 ≤ x5 ∧ x5 < 4294967296) (h6 : 0 ≤ x6 ∧ x6 < 4294967296) (h7 : 0 ≤ x7 ∧ x7 < 4294967296) (w : World) :
  Calls Tryz.prog 121 #[.agg #[Value.int .u32 x0, .int .u32 x1, .int .u32 x2, .int .u32 x3, .int .u32 x4, .int .u32 x5, .int .u32 x6, .int .u32 x7], .int .i64 4, .int .i64 1, .int .i64 6, .int .i64 3] w fun e w' => e = .returned (.agg #[Value.int .u32 x0, .int .u32 (qb x4 x1 x6 x3), .int .u32 x2, .int .u32 (qd x4 x1 x6 x3), .int .u32 (qa x4 x1 x6 x3), .int .u32 x5, .int .u32 (qc x4 x1 x6 x3), .int .u32 x7]) ∧ Below w.heap.size w w' := by
 obtain ⟨b, eb⟩ : ∃ b, b = w.heap.size := ⟨_, rfl⟩
 have hb := (Blk.new w 26 #[Value.int .u32 x0, .int .u32 x1, .int .u32 x2, .int .u32 x3, .int .u32 x4, .int .u32 x5, .int .u32 x6, .int .u32 x7]).alloc (.cells #[Value.int .u32 0, .int .u32 0, .int .u32 0, .int .u32 0, .int .u32 0, .int .u32 0, .int .u32 0, .int .u32 0] 26)
 have hz := Blk.new (w.alloc (.cells #[Value.int .u32 x0, .int .u32 x1, .int .u32 x2, .int .u32 x3, .int .u32 x4, .int .u32 x5, .int .u32 x6, .int .u32 x7] 26)) 26 #[Value.int .u32 0, .int .u32 0, .int .u32 0, .int .u32 0, .int .u32 0, .int .u32 0, .int .u32 0, .int .u32 0]
 rw [World.size_alloc] at hz
 have hB : Below w.heap.size w ((w.alloc (.cells #[Value.int .u32 x0, .int .u32 x1, .int .u32 x2, .int .u32 x3, .int .u32 x4, .int .u32 x5, .int .u32 x6, .int .u32 x7] 26)).alloc (.cells #[Value.int .u32 0, .int .u32 0, .int .u32 0, .int .u32 0, .int .u32 0, .int .u32 0, .int .u32 0, .int .u32 0] 26)) := ((Below.refl _ _).alloc (Nat.le_refl _) _).alloc (by simp) _
 go_enter Tryz.func121, Tryz.ntmps121
 go_wp2
 have g := World.grownBy.refl ((w.alloc (.cells #[Value.int .u32 x0, .int .u32 x1, .int .u32 x2, .int .u32 x3, .int .u32 x4, .int .u32 x5, .int .u32 x6, .int .u32 x7] 26)).alloc (.cells #[Value.int .u32 0, .int .u32 0, .int .u32 0, .int .u32 0, .int .u32 0, .int .u32 0, .int .u32 0, .int .u32 0] 26)) (some w.heap.size)
 generalize World.alloc (World.alloc _ _) _ = w0 at *
 rw [← eb] at hb hz g ⊢
 have EB := hid eb
 clear eb
 have k1 := (hb.drew).cell (k := 4) (v := .int .u32 x4) rfl
 have k2 := (hb.drew).cell (k := 1) (v := .int .u32 x1) rfl
 have k3 := (hb.drew).frozen 4
 have e1 : IntKind.u32.wrap (x4 + x1) = (q1a x4 x1 x6 x3) := by rw [IntKind.wrap_u32]; unfold q1a addW; rfl
 have := h1.1
 have := h1.2
 have := h4.1
 have := h4.2
 refine wp_region_still_tail 9 (by kernel_rfl) (by kernel_rfl) ?_
 simp only [List.take_succ_cons, List.take_zero, List.drop_succ_cons, List.drop_zero]
 change wpStill _ _ (World.drew _) _ _ _
 still_step; still_step; still_step; still_step; still_step; still_step; still_step; still_step; still_step
 refine wpStill_nil ?_
 change wpList _ _ _ _ _ (World.drew _)
 clear e1
 go_wp2
 have hbx := (hb.set 4 (.int .u32 (q1a x4 x1 x6 x3)) (c' := #[Value.int .u32 x0, .int .u32 x1, .int .u32 x2, .int .u32 x3, .int .u32 ((q1a x4 x1 x6 x3)), .int .u32 x5, .int .u32 x6, .int .u32 x7]) rfl).drew
 have gx := zja (zi (p := ⟨b, 4, none⟩) g rfl (.int .u32 (q1a x4 x1 x6 x3)))
 generalize World.drew (World.setCell _ _ _) = w1 at *
 clear k1 k2 k3 hb g
 have k1 := (hbx.drew).cell (k := 3) (v := .int .u32 x3) rfl
 have k2 := (hbx.drew).cell (k := 4) (v := .int .u32 (q1a x4 x1 x6 x3)) rfl
 have k3 := (hbx.drew).frozen 3
 have e1 : bits .xor .u32 x3 (q1a x4 x1 x6 x3) = xorW x3 (q1a x4 x1 x6 x3) := by unfold xorW; rfl
 have := (zgb x4 x1 x6 x3).1
 have := (zgb x4 x1 x6 x3).2
 have := h3.1
 have := h3.2
 refine wp_region_still_tail 10 (by kernel_rfl) (by kernel_rfl) ?_
 simp only [List.take_succ_cons, List.take_zero, List.drop_succ_cons, List.drop_zero]
 change wpStill _ _ (World.drew _) _ _ _
 still_step; still_step; still_step; still_step; still_step; still_step; still_step; still_step
 still_call (turn16 _ (zw _ _).1 (zw _ _).2 _)
 still_step
 refine wpStill_nil ?_
 change wpList _ _ _ _ _ (World.drew _)
 rw [show rotW 65536 (xorW x3 (q1a x4 x1 x6 x3)) = (q1d x4 x1 x6 x3) by unfold q1d; rfl]
 clear e1
 go_wp2
 have hbxx := (hbx.set 3 (.int .u32 (q1d x4 x1 x6 x3)) (c' := #[Value.int .u32 x0, .int .u32 x1, .int .u32 x2, .int .u32 ((q1d x4 x1 x6 x3)), .int .u32 ((q1a x4 x1 x6 x3)), .int .u32 x5, .int .u32 x6, .int .u32 x7]) rfl).drew
 have gxx := zja (zi (p := ⟨b, 3, none⟩) gx rfl (.int .u32 (q1d x4 x1 x6 x3)))
 generalize World.drew (World.setCell _ _ _) = w2 at *
 clear k1 k2 k3 hbx gx
 have k1 := (hbxx.drew).cell (k := 6) (v := .int .u32 x6) rfl
 have k2 := (hbxx.drew).cell (k := 3) (v := .int .u32 (q1d x4 x1 x6 x3)) rfl
 have k3 := (hbxx.drew).frozen 6
 have e1 : IntKind.u32.wrap (x6 + (q1d x4 x1 x6 x3)) = (q1c x4 x1 x6 x3) := by rw [IntKind.wrap_u32]; unfold q1c addW; rfl
 have := (zfb x4 x1 x6 x3).1
 have := (zfb x4 x1 x6 x3).2
 have := h6.1
 have := h6.2
 refine wp_region_still_tail 9 (by kernel_rfl) (by kernel_rfl) ?_
 simp only [List.take_succ_cons, List.take_zero, List.drop_succ_cons, List.drop_zero]
 change wpStill _ _ (World.drew _) _ _ _
 still_step; still_step; still_step; still_step; still_step; still_step; still_step; still_step; still_step
 refine wpStill_nil ?_
 change wpList _ _ _ _ _ (World.drew _)
 clear e1
 go_wp2
 have hbxxx := (hbxx.set 6 (.int .u32 (q1c x4 x1 x6 x3)) (c' := #[Value.int .u32 x0, .int .u32 x1, .int .u32 x2, .int .u32 ((q1d x4 x1 x6 x3)), .int .u32 ((q1a x4 x1 x6 x3)), .int .u32 x5, .int .u32 ((q1c x4 x1 x6 x3)), .int .u32 x7]) rfl).drew
 have gxxx := zja (zi (p := ⟨b, 6, none⟩) gxx rfl (.int .u32 (q1c x4 x1 x6 x3)))
 generalize World.drew (World.setCell _ _ _) = w3 at *
 clear k1 k2 k3 hbxx gxx
 have k1 := (hbxxx.drew).cell (k := 1) (v := .int .u32 x1) rfl
 have k2 := (hbxxx.drew).cell (k := 6) (v := .int .u32 (q1c x4 x1 x6 x3)) rfl
 have k3 := (hbxxx.drew).frozen 1
 have e1 : bits .xor .u32 x1 (q1c x4 x1 x6 x3) = xorW x1 (q1c x4 x1 x6 x3) := by unfold xorW; rfl
 have := (zhb x4 x1 x6 x3).1
 have := (zhb x4 x1 x6 x3).2
 have := h1.1
 have := h1.2
 refine wp_region_still_tail 10 (by kernel_rfl) (by kernel_rfl) ?_
 simp only [List.take_succ_cons, List.take_zero, List.drop_succ_cons, List.drop_zero]
 change wpStill _ _ (World.drew _) _ _ _
 still_step; still_step; still_step; still_step; still_step; still_step; still_step; still_step
 still_call (turn12 _ (zw _ _).1 (zw _ _).2 _)
 still_step
 refine wpStill_nil ?_
 change wpList _ _ _ _ _ (World.drew _)
 rw [show rotW 4096 (xorW x1 (q1c x4 x1 x6 x3)) = (q1b x4 x1 x6 x3) by unfold q1b; rfl]
 clear e1
 go_wp2
 have hbxxxx := (hbxxx.set 1 (.int .u32 (q1b x4 x1 x6 x3)) (c' := #[Value.int .u32 x0, .int .u32 ((q1b x4 x1 x6 x3)), .int .u32 x2, .int .u32 ((q1d x4 x1 x6 x3)), .int .u32 ((q1a x4 x1 x6 x3)), .int .u32 x5, .int .u32 ((q1c x4 x1 x6 x3)), .int .u32 x7]) rfl).drew
 have gxxxx := zja (zi (p := ⟨b, 1, none⟩) gxxx rfl (.int .u32 (q1b x4 x1 x6 x3)))
 generalize World.drew (World.setCell _ _ _) = w4 at *
 clear k1 k2 k3 hbxxx gxxx
 have k1 := (hbxxxx.drew).cell (k := 4) (v := .int .u32 (q1a x4 x1 x6 x3)) rfl
 have k2 := (hbxxxx.drew).cell (k := 1) (v := .int .u32 (q1b x4 x1 x6 x3)) rfl
 have k3 := (hbxxxx.drew).frozen 4
 have e1 : IntKind.u32.wrap ((q1a x4 x1 x6 x3) + (q1b x4 x1 x6 x3)) = (qa x4 x1 x6 x3) := by rw [IntKind.wrap_u32]; unfold qa addW; rfl
 have := (zgb x4 x1 x6 x3).1
 have := (zgb x4 x1 x6 x3).2
 have := (zeb x4 x1 x6 x3).1
 have := (zeb x4 x1 x6 x3).2
 refine wp_region_still_tail 9 (by kernel_rfl) (by kernel_rfl) ?_
 simp only [List.take_succ_cons, List.take_zero, List.drop_succ_cons, List.drop_zero]
 change wpStill _ _ (World.drew _) _ _ _
 still_step; still_step; still_step; still_step; still_step; still_step; still_step; still_step; still_step
 refine wpStill_nil ?_
 change wpList _ _ _ _ _ (World.drew _)
 clear e1
 go_wp2
 have hbxxxxx := (hbxxxx.set 4 (.int .u32 (qa x4 x1 x6 x3)) (c' := #[Value.int .u32 x0, .int .u32 ((q1b x4 x1 x6 x3)), .int .u32 x2, .int .u32 ((q1d x4 x1 x6 x3)), .int .u32 ((qa x4 x1 x6 x3)), .int .u32 x5, .int .u32 ((q1c x4 x1 x6 x3)), .int .u32 x7]) rfl).drew
 have gxxxxx := zja (zi (p := ⟨b, 4, none⟩) gxxxx rfl (.int .u32 (qa x4 x1 x6 x3)))
 generalize World.drew (World.setCell _ _ _) = w5 at *
 clear k1 k2 k3 hbxxxx gxxxx
 have k1 := (hbxxxxx.drew).cell (k := 3) (v := .int .u32 (q1d x4 x1 x6 x3)) rfl
 have k2 := (hbxxxxx.drew).cell (k := 4) (v := .int .u32 (qa x4 x1 x6 x3)) rfl
 have k3 := (hbxxxxx.drew).frozen 3
 have e1 : bits .xor .u32 (q1d x4 x1 x6 x3) (qa x4 x1 x6 x3) = xorW (q1d x4 x1 x6 x3) (qa x4 x1 x6 x3) := by unfold xorW; rfl
 have := (zfb x4 x1 x6 x3).1
 have := (zfb x4 x1 x6 x3).2
 have := (qa_bd x4 x1 x6 x3).1
 have := (qa_bd x4 x1 x6 x3).2
 refine wp_region_still_tail 10 (by kernel_rfl) (by kernel_rfl) ?_
 simp only [List.take_succ_cons, List.take_zero, List.drop_succ_cons, List.drop_zero]
 change wpStill _ _ (World.drew _) _ _ _
 still_step; still_step; still_step; still_step; still_step; still_step; still_step; still_step
 still_call (turn8 _ (zw _ _).1 (zw _ _).2 _)
 still_step
 refine wpStill_nil ?_
 change wpList _ _ _ _ _ (World.drew _)
 rw [show rotW 256 (xorW (q1d x4 x1 x6 x3) (qa x4 x1 x6 x3)) = (qd x4 x1 x6 x3) by unfold qd; rfl]
 clear e1
 go_wp2
 have hbxxxxxx := (hbxxxxx.set 3 (.int .u32 (qd x4 x1 x6 x3)) (c' := #[Value.int .u32 x0, .int .u32 ((q1b x4 x1 x6 x3)), .int .u32 x2, .int .u32 ((qd x4 x1 x6 x3)), .int .u32 ((qa x4 x1 x6 x3)), .int .u32 x5, .int .u32 ((q1c x4 x1 x6 x3)), .int .u32 x7]) rfl).drew
 have gxxxxxx := zja (zi (p := ⟨b, 3, none⟩) gxxxxx rfl (.int .u32 (qd x4 x1 x6 x3)))
 generalize World.drew (World.setCell _ _ _) = w6 at *
 clear k1 k2 k3 hbxxxxx gxxxxx
 have k1 := (hbxxxxxx.drew).cell (k := 6) (v := .int .u32 (q1c x4 x1 x6 x3)) rfl
 have k2 := (hbxxxxxx.drew).cell (k := 3) (v := .int .u32 (qd x4 x1 x6 x3)) rfl
 have k3 := (hbxxxxxx.drew).frozen 6
 have e1 : IntKind.u32.wrap ((q1c x4 x1 x6 x3) + (qd x4 x1 x6 x3)) = (qc x4 x1 x6 x3) := by rw [IntKind.wrap_u32]; unfold qc addW; rfl
 have := (zhb x4 x1 x6 x3).1
 have := (zhb x4 x1 x6 x3).2
 have := (qd_bd x4 x1 x6 x3).1
 have := (qd_bd x4 x1 x6 x3).2
 refine wp_region_still_tail 9 (by kernel_rfl) (by kernel_rfl) ?_
 simp only [List.take_succ_cons, List.take_zero, List.drop_succ_cons, List.drop_zero]
 change wpStill _ _ (World.drew _) _ _ _
 still_step; still_step; still_step; still_step; still_step; still_step; still_step; still_step; still_step
 refine wpStill_nil ?_
 change wpList _ _ _ _ _ (World.drew _)
 clear e1
 go_wp2
 have hbxxxxxxx := (hbxxxxxx.set 6 (.int .u32 (qc x4 x1 x6 x3)) (c' := #[Value.int .u32 x0, .int .u32 ((q1b x4 x1 x6 x3)), .int .u32 x2, .int .u32 ((qd x4 x1 x6 x3)), .int .u32 ((qa x4 x1 x6 x3)), .int .u32 x5, .int .u32 ((qc x4 x1 x6 x3)), .int .u32 x7]) rfl).drew
 have gxxxxxxx := zja (zi (p := ⟨b, 6, none⟩) gxxxxxx rfl (.int .u32 (qc x4 x1 x6 x3)))
 generalize World.drew (World.setCell _ _ _) = w7 at *
 clear k1 k2 k3 hbxxxxxx gxxxxxx
 have k1 := (hbxxxxxxx.drew).cell (k := 1) (v := .int .u32 (q1b x4 x1 x6 x3)) rfl
 have k2 := (hbxxxxxxx.drew).cell (k := 6) (v := .int .u32 (qc x4 x1 x6 x3)) rfl
 have k3 := (hbxxxxxxx.drew).frozen 1
 have e1 : bits .xor .u32 (q1b x4 x1 x6 x3) (qc x4 x1 x6 x3) = xorW (q1b x4 x1 x6 x3) (qc x4 x1 x6 x3) := by unfold xorW; rfl
 have := (zeb x4 x1 x6 x3).1
 have := (zeb x4 x1 x6 x3).2
 have := (qc_bd x4 x1 x6 x3).1
 have := (qc_bd x4 x1 x6 x3).2
 refine wp_region_still_tail 10 (by kernel_rfl) (by kernel_rfl) ?_
 simp only [List.take_succ_cons, List.take_zero, List.drop_succ_cons, List.drop_zero]
 change wpStill _ _ (World.drew _) _ _ _
 still_step; still_step; still_step; still_step; still_step; still_step; still_step; still_step
 still_call (turn7 _ (zw _ _).1 (zw _ _).2 _)
 still_step
 refine wpStill_nil ?_
 change wpList _ _ _ _ _ (World.drew _)
 rw [show rotW 128 (xorW (q1b x4 x1 x6 x3) (qc x4 x1 x6 x3)) = (qb x4 x1 x6 x3) by unfold qb; rfl]
 clear e1
 go_upto_region 9 with fail
 have hbxxxxxxxx := (hbxxxxxxx.set 1 (.int .u32 (qb x4 x1 x6 x3)) (c' := #[Value.int .u32 x0, .int .u32 ((qb x4 x1 x6 x3)), .int .u32 x2, .int .u32 ((qd x4 x1 x6 x3)), .int .u32 ((qa x4 x1 x6 x3)), .int .u32 x5, .int .u32 ((qc x4 x1 x6 x3)), .int .u32 x7]) rfl).drew
 have gxxxxxxxx := zja (zi (p := ⟨b, 1, none⟩) gxxxxxxx rfl (.int .u32 (qb x4 x1 x6 x3)))
 generalize World.drew (World.setCell _ _ _) = w8 at *
 clear k1 k2 k3 hbxxxxxxx gxxxxxxx
 have hz2 := hz.grown gxxxxxxxx (by simp)
 have hB2 := zf hB gxxxxxxxx hB.size (Nat.le_of_eq EB.out.symm)
 go_wp2_with (first | (refine zy rfl _ _ rfl _ rfl _ _ _ hbxxxxxxxx Tryz.underlying26 rfl size8 ?_) | (refine zq rfl _ _ _ rfl _ rfl _ rfl (one8 _ _ _ _ _ _ _ _) _ hz2 rfl size8 ?_; intro v gv mv))
 exact bodyPost_ret (zdb rfl rfl mv Tryz.underlying26 rfl size8) rfl ⟨rfl, zf hB2 gv hB2.size (by have := EB.out; omega)⟩
end Go.Proofs.YtcfepoopkfhojaaGreat
namespace Go.Proofs.YtcfepoopkfhojaaGreat
open Go.ChangeShapes Go.WideShapes Go.ChangeAt Go.RowKit
theorem rquarter_w0 (s : W8) (h : s.ok) (w : World) :
  Calls Tryz.prog 121 #[.agg (arrW s), .int .i64 0, .int .i64 1, .int .i64 2, .int .i64 3] w fun e w' => e = .returned (.agg (arrW s.p0)) ∧ Below w.heap.size w w' := by
 obtain ⟨h0, h1, h2, h3, h4, h5, h6, h7⟩ := h
 exact rquarter_p0 _ _ _ _ _ _ _ _ h0 h1 h2 h3 h4 h5 h6 h7 w
theorem rquarter_w1 (s : W8) (h : s.ok) (w : World) :
  Calls Tryz.prog 121 #[.agg (arrW s), .int .i64 4, .int .i64 5, .int .i64 6, .int .i64 7] w fun e w' => e = .returned (.agg (arrW s.p1)) ∧ Below w.heap.size w w' := by
 obtain ⟨h0, h1, h2, h3, h4, h5, h6, h7⟩ := h
 exact rquarter_p1 _ _ _ _ _ _ _ _ h0 h1 h2 h3 h4 h5 h6 h7 w
theorem rquarter_w2 (s : W8) (h : s.ok) (w : World) :
  Calls Tryz.prog 121 #[.agg (arrW s), .int .i64 0, .int .i64 5, .int .i64 2, .int .i64 7] w fun e w' => e = .returned (.agg (arrW s.p2)) ∧ Below w.heap.size w w' := by
 obtain ⟨h0, h1, h2, h3, h4, h5, h6, h7⟩ := h
 exact rquarter_p2 _ _ _ _ _ _ _ _ h0 h1 h2 h3 h4 h5 h6 h7 w
theorem rquarter_w3 (s : W8) (h : s.ok) (w : World) :
  Calls Tryz.prog 121 #[.agg (arrW s), .int .i64 4, .int .i64 1, .int .i64 6, .int .i64 3] w fun e w' => e = .returned (.agg (arrW s.p3)) ∧ Below w.heap.size w w' := by
 obtain ⟨h0, h1, h2, h3, h4, h5, h6, h7⟩ := h
 exact rquarter_p3 _ _ _ _ _ _ _ _ h0 h1 h2 h3 h4 h5 h6 h7 w
theorem rmix_any (s : W8) (hs : s.ok) (w : World) :
  Calls Tryz.prog 97 #[.agg (arrW s)] w fun e w' => e = .returned (.agg (arrW (mixW s))) ∧ Below w.heap.size w w' := by
 have OK := hid (ok_mixN hs)
 clear hs
 go_enter Tryz.func97, Tryz.ntmps97
 go_wp2
 go_loopw [3] (fun u wr => ∃ k : Nat, k ≤ 8 ∧ u = .int .i64 ((k : Int) + 1) ∧ Below w.heap.size w wr ∧ Blk wr w.heap.size 26 (arrW (mixN k s)) ∧ Blk wr (w.heap.size + 1) 26 #[Value.int .u32 0, .int .u32 0, .int .u32 0, .int .u32 0, .int .u32 0, .int .u32 0, .int .u32 0, .int .u32 0]) (fun u _ => 9 - (intOf u).toNat)
 case atStart =>
  refine ⟨0, by omega, rfl, ((Below.refl _ _).alloc (Nat.le_refl _) _).alloc (by simp) _, (Blk.new w _ (arrW s)).alloc _, ?_⟩
  have := Blk.new (w.alloc (.cells (arrW s) 26)) 26 #[Value.int .u32 0, .int .u32 0, .int .u32 0, .int .u32 0, .int .u32 0, .int .u32 0, .int .u32 0, .int .u32 0]
  rw [World.size_alloc] at this
  exact this
 case round =>
  obtain ⟨k, hk, rfl, hB, hb, hz⟩ := hrel
  by_cases hlt : k < 8
  ·have c0 := hb.cell0
   have f0 := hb.frozen 0
   have ok := OK.out k
   have o1 := ok.1.1
   have o2 := ok.1.2
   have OK' := hid ok
   clear ok
   have e1 : bits .xor .u32 (mixN k s).x0 ((k : Int) + 1) = ((mixN k s).r k).x0 := by unfold W8.r xorW; rfl
   go_upto_region 5 with fail
   have b1 := hb.setr k
   have g1 := zi (p := ⟨w.heap.size, 0, none⟩) (World.grownBy.refl wr (some w.heap.size)) rfl (.int .u32 ((mixN k s).r k).x0)
   generalize World.setCell _ _ _ = v1 at *
   clear c0 f0 e1 o1 o2 hb
   have n1 : some (w.heap.size + 1) ≠ some w.heap.size := by simp
   have z1 := hz.grown g1 n1
   have B1 := zf hB g1 hB.size (Nat.le_refl _)
   clear hz hB g1
   go_wp2_with (refine zy rfl _ _ rfl _ rfl _ _ _ b1 Tryz.underlying26 rfl (sizeW _) ?_)
   refine (rquarter_w0 _ (ok_r OK'.out k) _).mono ?_
   rintro e v2 ⟨rfl, g2⟩
   go_wp2_with fail
   refine (rquarter_w1 _ (ok_p0 (ok_r OK'.out k)) _).mono ?_
   rintro e v3 ⟨rfl, g3⟩
   go_wp2_with fail
   refine (rquarter_w2 _ (ok_p1 (ok_p0 (ok_r OK'.out k))) _).mono ?_
   rintro e v4 ⟨rfl, g4⟩
   go_wp2_with fail
   refine (rquarter_w3 _ (ok_p2 (ok_p1 (ok_p0 (ok_r OK'.out k)))) _).mono ?_
   rintro e v5 ⟨rfl, g5⟩
   have G := zr (zr (zr g2 g3) g4) g5
   have b2 := b1.step G
   have z2 := z1.step G
   have B2 := B1.trans (G.mono B1.size)
   clear g2 g3 g4 g5 G b1 z1 B1
   go_wp2_with (refine zq rfl _ _ _ rfl _ rfl _ rfl (arrW_one _) _ b2 rfl (sizeW _) ?_; intro v6 g6 b6)
   go_roundw
   case rel => exact ⟨k + 1, by omega, by go_num, zf B2 g6 B2.size (Nat.le_refl _), b6, z2.grown g6 n1⟩
   case measure => simp [intOf]; omega
  ·have : k = 8 := by omega
   subst this
   go_wp2_with (first | (refine zy rfl _ _ rfl _ rfl _ _ _ hb Tryz.underlying26 rfl (sizeW _) ?_) | (refine zq rfl _ _ _ rfl _ rfl _ rfl (arrW_one _) _ hz rfl (sizeW _) ?_; intro v gv mv))
   exact bodyPost_ret (zdb rfl rfl mv Tryz.underlying26 rfl (sizeW _)) rfl ⟨rfl, zf hB gv hB.size (by omega)⟩
end Go.Proofs.YtcfepoopkfhojaaGreat
