/- What WireStreams stands on, part 14. -/
import Derived.Test.YtlbkogdmojlpmaaWireStreamsP1
import Derived.Test.YtlbkogdmojlpmaaWireStreamsP2
import Derived.Test.YtlbkogdmojlpmaaWireStreamsP3
import Derived.Test.YtlbkogdmojlpmaaWireStreamsP4
import Derived.Test.YtlbkogdmojlpmaaWireStreamsP5
import Derived.Test.YtlbkogdmojlpmaaWireStreamsP6
import Derived.Test.YtlbkogdmojlpmaaWireStreamsP7
import Derived.Test.YtlbkogdmojlpmaaWireStreamsP8
import Derived.Test.YtlbkogdmojlpmaaWireStreamsP9
import Derived.Test.YtlbkogdmojlpmaaWireStreamsP10
import Derived.Test.YtlbkogdmojlpmaaWireStreamsP11
import Derived.Test.YtlbkogdmojlpmaaWireStreamsP12
import Derived.Test.YtlbkogdmojlpmaaWireStreamsP13
set_option maxRecDepth 100000
set_option maxHeartbeats 8000000
set_option linter.unusedVariables false
set_option linter.unusedSimpArgs false
namespace Go.Proofs.Ytlbkogdmojlpmaa
open Go.ChangeShapes Go.WideShapes Go.ChangeAt Go.RowKit
theorem str_eqsT {s t : ByteArray} (h : s = t) : decide (s.toList = t.toList) = true := by subst h; exact decide_eq_true rfl
theorem str_eqsF {s t : ByteArray} (h : ¬ s = t) : decide (s.toList = t.toList) = false := decide_eq_false fun e => h (by
  rw [ByteArray.toList_eq, ByteArray.toList_eq] at e
  cases s; cases t
  congr 1
  exact Array.toList_inj.1 e)
noncomputable def eqM (m m2 : MsgN) : Bool := decide (m.k = m2.k) && decide (m.p = m2.p) && decide (m.c = m2.c) && decide (m.e = m2.e) && @decide (m.s = m2.s) (Classical.propDecidable _) && decide (m.a = m2.a) && decide (m.b = m2.b) && decide (m.l5 = m2.l5) && decide (m.l6 = m2.l6) && decide (m.l7 = m2.l7) && decide (m.l8 = m2.l8) && decide (m.l9 = m2.l9)
theorem eqM_iff (m m2 : MsgN) : eqM m m2 = true ↔ m = m2 := by
  unfold eqM
  simp only [Bool.and_eq_true, decide_eq_true_eq]
  constructor
  · rintro ⟨⟨⟨⟨⟨⟨⟨⟨⟨⟨⟨h1, h2⟩, h3⟩, h4⟩, h5⟩, h6⟩, h7⟩, h8⟩, h9⟩, h10⟩, h11⟩, h12⟩
    cases m; cases m2
    simp_all
  · rintro rfl; simp
theorem eqM_self (m : MsgN) : eqM m m = true := (eqM_iff m m).2 rfl
theorem msgs_any (m m2 : MsgN) (V V2 : MsgV) (ho : MsgOk m) (ho2 : MsgOk m2) (w : World) (hm : MsgIs w m V) (hm2 : MsgIs w m2 V2) :
  Calls Try.prog 21 #[.agg (msgA m V), .agg (msgA m2 V2)] w fun e w' => e = .returned (.bool (eqM m m2)) ∧ Below w.heap.size w w' := by
 refine zg (args := [.agg (msgA m V), .agg (msgA m2 V2)]) 97 Try.func21 rfl rfl rfl ?_
 intro fa F
 have M := Mx.start w
 replace M := M.argB 0 hm.h5 (fun g e => by cases e)
 replace M := M.argB 1 hm.h6 (fun g e => by cases e)
 replace M := M.argB 2 hm.h7 (fun g e => by cases e)
 replace M := M.argB 3 hm.h8 (fun g e => by cases e)
 replace M := M.argB 4 hm.h9 (fun g e => by cases e)
 replace M := M.argB 5 hm2.h5 (fun g e => by cases e)
 replace M := M.argB 6 hm2.h6 (fun g e => by cases e)
 replace M := M.argB 7 hm2.h7 (fun g e => by cases e)
 replace M := M.argB 8 hm2.h8 (fun g e => by cases e)
 replace M := M.argB 9 hm2.h9 (fun g e => by cases e)
 refine zT fun _ hK1 => ?_
 refine zf (za rfl) rfl F rfl M 10 (t := 29) (c := msgA m V) (by unfold execOp; simp only [(F.get (t := 0) rfl)]; kernel_rfl) ?_
 intro g2 a2 w2 F2 M2
 clear F M
 refine zf (za rfl) rfl F2 rfl M2 11 (t := 29) (c := msgA m2 V2) (by unfold execOp; simp only [(F2.get (t := 1) rfl)]; kernel_rfl) ?_
 intro g3 a3 w3 F3 M3
 clear F2 M2
 refine rm rfl F3 fun _ F4 => ?_
 refine hK1 _ _ (zS fun _ hK5 => ?_)
 simp only [List.append_eq, List.cons_append, List.nil_append]
 refine zR ?_
 refine zB 4 [(2, .pointer (some ⟨g2, 0, none⟩)), (3, .pointer (some ⟨g3, 0, none⟩)), (4, .bool false), (6, .int .i64 m.k), (8, .int .i64 m2.k)] [0, 1] (zj (M3.blk (k := 10) rfl) (zj (M3.blk (k := 11) rfl) dnil)) [g2, g3] F4 fun _ F6 => ?_
 by_cases h7 : m.k = m2.k
 rotate_left
 ·refine rn rfl rfl F6 rfl (.bool false) (zq _ _ _ _ rfl (F6.get rfl) (F6.get rfl) Try.underlying3 (zr h7)) fun _ F80 => ?_
  refine zB 88 [(4, .bool false)] [] dnil [] F80 fun _ F81 => ?_
  refine hK5 _ _ (wp_ret ?_)
  try simp only [Exit.then, Exit.inBlock, Exit.jump]
  exact bodyPost_ret (res1 rfl (F81.get rfl)) F81.defers ⟨by rw [show eqM m m2 = false from by unfold eqM; simp [h7]], M3.below⟩
 refine rn rfl rfl F6 rfl (.bool true) (zq _ _ _ _ rfl (F6.get rfl) (F6.get rfl) Try.underlying3 (zka h7)) fun _ F8 => ?_
 refine zB 5 [(2, .pointer (some ⟨g2, 0, none⟩)), (3, .pointer (some ⟨g3, 0, none⟩)), (4, .bool false), (10, .bool true), (12, .int .i64 m.p), (14, .int .i64 m2.p)] [0, 1] (zj (M3.blk (k := 10) rfl) (zj (M3.blk (k := 11) rfl) dnil)) [g2, g3] F8 fun _ F9 => ?_
 by_cases h10 : m.p = m2.p
 rotate_left
 ·refine ze (w' := w3) (zb rfl rfl rfl (F9.get rfl)) rfl F9 rfl (.bool false) (zq _ _ _ _ rfl (F9.get rfl) (F9.get rfl) Try.underlying3 (zr h10)) fun _ F78 => ?_
  refine zB 82 [(4, .bool false)] [] dnil [] F78 fun _ F79 => ?_
  refine hK5 _ _ (wp_ret ?_)
  try simp only [Exit.then, Exit.inBlock, Exit.jump]
  exact bodyPost_ret (res1 rfl (F79.get rfl)) F79.defers ⟨by rw [show eqM m m2 = false from by unfold eqM; simp [h7, h10]], M3.below⟩
 refine ze (w' := w3) (zb rfl rfl rfl (F9.get rfl)) rfl F9 rfl (.bool true) (zq _ _ _ _ rfl (F9.get rfl) (F9.get rfl) Try.underlying3 (zka h10)) fun _ F11 => ?_
 refine zB 6 [(2, .pointer (some ⟨g2, 0, none⟩)), (3, .pointer (some ⟨g3, 0, none⟩)), (4, .bool false), (17, .bool true), (19, .int .i64 m.c), (21, .int .i64 m2.c)] [0, 1] (zj (M3.blk (k := 10) rfl) (zj (M3.blk (k := 11) rfl) dnil)) [g2, g3] F11 fun _ F12 => ?_
 by_cases h13 : m.c = m2.c
 rotate_left
 ·refine ze (w' := w3) (zb rfl rfl rfl (F12.get rfl)) rfl F12 rfl (.bool false) (zq _ _ _ _ rfl (F12.get rfl) (F12.get rfl) Try.underlying3 (zr h13)) fun _ F76 => ?_
  refine zB 75 [(4, .bool false)] [] dnil [] F76 fun _ F77 => ?_
  refine hK5 _ _ (wp_ret ?_)
  try simp only [Exit.then, Exit.inBlock, Exit.jump]
  exact bodyPost_ret (res1 rfl (F77.get rfl)) F77.defers ⟨by rw [show eqM m m2 = false from by unfold eqM; simp [h7, h10, h13]], M3.below⟩
 refine ze (w' := w3) (zb rfl rfl rfl (F12.get rfl)) rfl F12 rfl (.bool true) (zq _ _ _ _ rfl (F12.get rfl) (F12.get rfl) Try.underlying3 (zka h13)) fun _ F14 => ?_
 refine zB 6 [(2, .pointer (some ⟨g2, 0, none⟩)), (3, .pointer (some ⟨g3, 0, none⟩)), (4, .bool false), (24, .bool true), (26, .int .i64 m.e), (28, .int .i64 m2.e)] [0, 1] (zj (M3.blk (k := 10) rfl) (zj (M3.blk (k := 11) rfl) dnil)) [g2, g3] F14 fun _ F15 => ?_
 by_cases h16 : m.e = m2.e
 rotate_left
 ·refine ze (w' := w3) (zb rfl rfl rfl (F15.get rfl)) rfl F15 rfl (.bool false) (zq _ _ _ _ rfl (F15.get rfl) (F15.get rfl) Try.underlying24 (zr h16)) fun _ F74 => ?_
  refine zB 68 [(4, .bool false)] [] dnil [] F74 fun _ F75 => ?_
  refine hK5 _ _ (wp_ret ?_)
  try simp only [Exit.then, Exit.inBlock, Exit.jump]
  exact bodyPost_ret (res1 rfl (F75.get rfl)) F75.defers ⟨by rw [show eqM m m2 = false from by unfold eqM; simp [h7, h10, h13, h16]], M3.below⟩
 refine ze (w' := w3) (zb rfl rfl rfl (F15.get rfl)) rfl F15 rfl (.bool true) (zq _ _ _ _ rfl (F15.get rfl) (F15.get rfl) Try.underlying24 (zka h16)) fun _ F17 => ?_
 refine zB 6 [(2, .pointer (some ⟨g2, 0, none⟩)), (3, .pointer (some ⟨g3, 0, none⟩)), (4, .bool false), (31, .bool true), (33, .string m.s), (35, .string m2.s)] [0, 1] (zj (M3.blk (k := 10) rfl) (zj (M3.blk (k := 11) rfl) dnil)) [g2, g3] F17 fun _ F18 => ?_
 by_cases h19 : m.s = m2.s
 rotate_left
 ·refine ze (w' := w3) (zb rfl rfl rfl (F18.get rfl)) rfl F18 rfl (.bool false) (y_eqS _ _ _ rfl (F18.get rfl) (F18.get rfl) (str_eqsF h19)) fun _ F72 => ?_
  refine zB 61 [(4, .bool false)] [] dnil [] F72 fun _ F73 => ?_
  refine hK5 _ _ (wp_ret ?_)
  try simp only [Exit.then, Exit.inBlock, Exit.jump]
  exact bodyPost_ret (res1 rfl (F73.get rfl)) F73.defers ⟨by rw [show eqM m m2 = false from by unfold eqM; simp [h7, h10, h13, h16, h19]], M3.below⟩
 refine ze (w' := w3) (zb rfl rfl rfl (F18.get rfl)) rfl F18 rfl (.bool true) (y_eqS _ _ _ rfl (F18.get rfl) (F18.get rfl) (str_eqsT h19)) fun _ F20 => ?_
 refine zB 6 [(2, .pointer (some ⟨g2, 0, none⟩)), (3, .pointer (some ⟨g3, 0, none⟩)), (4, .bool false), (38, .bool true), (40, numV m.a), (42, numV m2.a)] [0, 1] (zj (M3.blk (k := 10) rfl) (zj (M3.blk (k := 11) rfl) dnil)) [g2, g3] F20 fun _ F21 => ?_
 by_cases h22 : m.a = m2.a
 rotate_left
 ·refine ze (w' := w3) (zb rfl rfl rfl (F21.get rfl)) rfl F21 rfl (.bool false) (y_eqA _ _ _ _ rfl (F21.get rfl) (F21.get rfl) (by kernel_rfl) (eqn_diff ho.a ho2.a h22 _)) fun _ F70 => ?_
  refine zB 54 [(4, .bool false)] [] dnil [] F70 fun _ F71 => ?_
  refine hK5 _ _ (wp_ret ?_)
  try simp only [Exit.then, Exit.inBlock, Exit.jump]
  exact bodyPost_ret (res1 rfl (F71.get rfl)) F71.defers ⟨by rw [show eqM m m2 = false from by unfold eqM; simp [h7, h10, h13, h16, h19, h22]], M3.below⟩
 refine ze (w' := w3) (zb rfl rfl rfl (F21.get rfl)) rfl F21 rfl (.bool true) (y_eqA _ _ _ _ rfl (F21.get rfl) (F21.get rfl) (by kernel_rfl) (by rw [h22]; exact eqn_same _ _)) fun _ F23 => ?_
 refine zB 6 [(2, .pointer (some ⟨g2, 0, none⟩)), (3, .pointer (some ⟨g3, 0, none⟩)), (4, .bool false), (45, .bool true), (47, numV m.b), (49, numV m2.b)] [0, 1] (zj (M3.blk (k := 10) rfl) (zj (M3.blk (k := 11) rfl) dnil)) [g2, g3] F23 fun _ F24 => ?_
 by_cases h25 : m.b = m2.b
 rotate_left
 ·refine ze (w' := w3) (zb rfl rfl rfl (F24.get rfl)) rfl F24 rfl (.bool false) (y_eqA _ _ _ _ rfl (F24.get rfl) (F24.get rfl) (by kernel_rfl) (eqn_diff ho.b ho2.b h25 _)) fun _ F68 => ?_
  refine zB 47 [(4, .bool false)] [] dnil [] F68 fun _ F69 => ?_
  refine hK5 _ _ (wp_ret ?_)
  try simp only [Exit.then, Exit.inBlock, Exit.jump]
  exact bodyPost_ret (res1 rfl (F69.get rfl)) F69.defers ⟨by rw [show eqM m m2 = false from by unfold eqM; simp [h7, h10, h13, h16, h19, h22, h25]], M3.below⟩
 refine ze (w' := w3) (zb rfl rfl rfl (F24.get rfl)) rfl F24 rfl (.bool true) (y_eqA _ _ _ _ rfl (F24.get rfl) (F24.get rfl) (by kernel_rfl) (by rw [h25]; exact eqn_same _ _)) fun _ F26 => ?_
 refine zB 4 [(2, .pointer (some ⟨g2, 0, none⟩)), (3, .pointer (some ⟨g3, 0, none⟩)), (4, .bool false), (52, .bool true), (54, V.v5)] [0] (zj (M3.blk (k := 10) rfl) dnil) [g2] F26 fun _ F27 => ?_
 refine ze (w' := w3) (zb rfl rfl rfl (F27.get rfl)) rfl F27 rfl (.string (⟨(m.l5).toArray⟩)) (y_str _ rfl (F27.get rfl) (M3.isb (k := 0) rfl)) fun _ F28 => ?_
 refine zA 2 [(56, .pointer (some ⟨g3, 21, none⟩)), (57, V2.v5)] [0] (zj (M3.blk (k := 11) rfl) dnil) [g3] F28 fun _ F29 => ?_
 refine ze (w' := w3) (zb rfl rfl rfl (F29.get rfl)) rfl F29 rfl (.string (⟨(m2.l5).toArray⟩)) (y_str _ rfl (F29.get rfl) (M3.isb (k := 5) rfl)) fun _ F30 => ?_
 by_cases h31 : m.l5 = m2.l5
 rotate_left
 ·refine ze (w' := w3) (zb rfl rfl rfl (F30.get rfl)) rfl F30 rfl (.bool false) (y_eqS _ _ _ rfl (F30.get rfl) (F30.get rfl) (str_ne h31)) fun _ F66 => ?_
  refine zB 38 [(4, .bool false)] [] dnil [] F66 fun _ F67 => ?_
  refine hK5 _ _ (wp_ret ?_)
  try simp only [Exit.then, Exit.inBlock, Exit.jump]
  exact bodyPost_ret (res1 rfl (F67.get rfl)) F67.defers ⟨by rw [show eqM m m2 = false from by unfold eqM; simp [h7, h10, h13, h16, h19, h22, h25, h31]], M3.below⟩
 refine ze (w' := w3) (zb rfl rfl rfl (F30.get rfl)) rfl F30 rfl (.bool true) (y_eqS _ _ _ rfl (F30.get rfl) (F30.get rfl) (str_eq h31)) fun _ F32 => ?_
 refine zB 4 [(2, .pointer (some ⟨g2, 0, none⟩)), (3, .pointer (some ⟨g3, 0, none⟩)), (4, .bool false), (61, .bool true), (63, V.v6)] [0] (zj (M3.blk (k := 10) rfl) dnil) [g2] F32 fun _ F33 => ?_
 refine ze (w' := w3) (zb rfl rfl rfl (F33.get rfl)) rfl F33 rfl (.string (⟨(m.l6).toArray⟩)) (y_str _ rfl (F33.get rfl) (M3.isb (k := 1) rfl)) fun _ F34 => ?_
 refine zA 2 [(65, .pointer (some ⟨g3, 22, none⟩)), (66, V2.v6)] [0] (zj (M3.blk (k := 11) rfl) dnil) [g3] F34 fun _ F35 => ?_
 refine ze (w' := w3) (zb rfl rfl rfl (F35.get rfl)) rfl F35 rfl (.string (⟨(m2.l6).toArray⟩)) (y_str _ rfl (F35.get rfl) (M3.isb (k := 6) rfl)) fun _ F36 => ?_
 by_cases h37 : m.l6 = m2.l6
 rotate_left
 ·refine ze (w' := w3) (zb rfl rfl rfl (F36.get rfl)) rfl F36 rfl (.bool false) (y_eqS _ _ _ rfl (F36.get rfl) (F36.get rfl) (str_ne h37)) fun _ F64 => ?_
  refine zB 29 [(4, .bool false)] [] dnil [] F64 fun _ F65 => ?_
  refine hK5 _ _ (wp_ret ?_)
  try simp only [Exit.then, Exit.inBlock, Exit.jump]
  exact bodyPost_ret (res1 rfl (F65.get rfl)) F65.defers ⟨by rw [show eqM m m2 = false from by unfold eqM; simp [h7, h10, h13, h16, h19, h22, h25, h31, h37]], M3.below⟩
 refine ze (w' := w3) (zb rfl rfl rfl (F36.get rfl)) rfl F36 rfl (.bool true) (y_eqS _ _ _ rfl (F36.get rfl) (F36.get rfl) (str_eq h37)) fun _ F38 => ?_
 refine zB 4 [(2, .pointer (some ⟨g2, 0, none⟩)), (3, .pointer (some ⟨g3, 0, none⟩)), (4, .bool false), (70, .bool true), (72, V.v7)] [0] (zj (M3.blk (k := 10) rfl) dnil) [g2] F38 fun _ F39 => ?_
 refine ze (w' := w3) (zb rfl rfl rfl (F39.get rfl)) rfl F39 rfl (.string (⟨(m.l7).toArray⟩)) (y_str _ rfl (F39.get rfl) (M3.isb (k := 2) rfl)) fun _ F40 => ?_
 refine zA 2 [(74, .pointer (some ⟨g3, 23, none⟩)), (75, V2.v7)] [0] (zj (M3.blk (k := 11) rfl) dnil) [g3] F40 fun _ F41 => ?_
 refine ze (w' := w3) (zb rfl rfl rfl (F41.get rfl)) rfl F41 rfl (.string (⟨(m2.l7).toArray⟩)) (y_str _ rfl (F41.get rfl) (M3.isb (k := 7) rfl)) fun _ F42 => ?_
 by_cases h43 : m.l7 = m2.l7
 rotate_left
 ·refine ze (w' := w3) (zb rfl rfl rfl (F42.get rfl)) rfl F42 rfl (.bool false) (y_eqS _ _ _ rfl (F42.get rfl) (F42.get rfl) (str_ne h43)) fun _ F62 => ?_
  refine zB 20 [(4, .bool false)] [] dnil [] F62 fun _ F63 => ?_
  refine hK5 _ _ (wp_ret ?_)
  try simp only [Exit.then, Exit.inBlock, Exit.jump]
  exact bodyPost_ret (res1 rfl (F63.get rfl)) F63.defers ⟨by rw [show eqM m m2 = false from by unfold eqM; simp [h7, h10, h13, h16, h19, h22, h25, h31, h37, h43]], M3.below⟩
 refine ze (w' := w3) (zb rfl rfl rfl (F42.get rfl)) rfl F42 rfl (.bool true) (y_eqS _ _ _ rfl (F42.get rfl) (F42.get rfl) (str_eq h43)) fun _ F44 => ?_
 refine zB 4 [(2, .pointer (some ⟨g2, 0, none⟩)), (3, .pointer (some ⟨g3, 0, none⟩)), (4, .bool false), (79, .bool true), (81, V.v8)] [0] (zj (M3.blk (k := 10) rfl) dnil) [g2] F44 fun _ F45 => ?_
 refine ze (w' := w3) (zb rfl rfl rfl (F45.get rfl)) rfl F45 rfl (.string (⟨(m.l8).toArray⟩)) (y_str _ rfl (F45.get rfl) (M3.isb (k := 3) rfl)) fun _ F46 => ?_
 refine zA 2 [(83, .pointer (some ⟨g3, 24, none⟩)), (84, V2.v8)] [0] (zj (M3.blk (k := 11) rfl) dnil) [g3] F46 fun _ F47 => ?_
 refine ze (w' := w3) (zb rfl rfl rfl (F47.get rfl)) rfl F47 rfl (.string (⟨(m2.l8).toArray⟩)) (y_str _ rfl (F47.get rfl) (M3.isb (k := 8) rfl)) fun _ F48 => ?_
 by_cases h49 : m.l8 = m2.l8
 rotate_left
 ·refine ze (w' := w3) (zb rfl rfl rfl (F48.get rfl)) rfl F48 rfl (.bool false) (y_eqS _ _ _ rfl (F48.get rfl) (F48.get rfl) (str_ne h49)) fun _ F60 => ?_
  refine zB 11 [(4, .bool false)] [] dnil [] F60 fun _ F61 => ?_
  refine hK5 _ _ (wp_ret ?_)
  try simp only [Exit.then, Exit.inBlock, Exit.jump]
  exact bodyPost_ret (res1 rfl (F61.get rfl)) F61.defers ⟨by rw [show eqM m m2 = false from by unfold eqM; simp [h7, h10, h13, h16, h19, h22, h25, h31, h37, h43, h49]], M3.below⟩
 refine ze (w' := w3) (zb rfl rfl rfl (F48.get rfl)) rfl F48 rfl (.bool true) (y_eqS _ _ _ rfl (F48.get rfl) (F48.get rfl) (str_eq h49)) fun _ F50 => ?_
 refine zB 4 [(3, .pointer (some ⟨g3, 0, none⟩)), (4, .bool false), (88, .bool true), (90, V.v9)] [0] (zj (M3.blk (k := 10) rfl) dnil) [g2] F50 fun _ F51 => ?_
 refine ze (w' := w3) (zb rfl rfl rfl (F51.get rfl)) rfl F51 rfl (.string (⟨(m.l9).toArray⟩)) (y_str _ rfl (F51.get rfl) (M3.isb (k := 4) rfl)) fun _ F52 => ?_
 refine zB 2 [(4, .bool false), (88, .bool true), (91, .string (⟨(m.l9).toArray⟩)), (93, V2.v9)] [0] (zj (M3.blk (k := 11) rfl) dnil) [g3] F52 fun _ F53 => ?_
 refine ze (w' := w3) (zb rfl rfl rfl (F53.get rfl)) rfl F53 rfl (.string (⟨(m2.l9).toArray⟩)) (y_str _ rfl (F53.get rfl) (M3.isb (k := 9) rfl)) fun _ F54 => ?_
 by_cases h55 : m.l9 = m2.l9
 ·refine ze (w' := w3) (zb rfl rfl rfl (F54.get rfl)) rfl F54 rfl (.bool true) (y_eqS _ _ _ rfl (F54.get rfl) (F54.get rfl) (str_eq h55)) fun _ F56 => ?_
  refine zB 2 [(4, .bool true)] [] dnil [] F56 fun _ F57 => ?_
  refine hK5 _ _ (wp_ret ?_)
  try simp only [Exit.then, Exit.inBlock, Exit.jump]
  exact bodyPost_ret (res1 rfl (F57.get rfl)) F57.defers ⟨by rw [show eqM m m2 = true from by unfold eqM; simp [h7, h10, h13, h16, h19, h22, h25, h31, h37, h43, h49, h55]], M3.below⟩
 refine ze (w' := w3) (zb rfl rfl rfl (F54.get rfl)) rfl F54 rfl (.bool false) (y_eqS _ _ _ rfl (F54.get rfl) (F54.get rfl) (str_ne h55)) fun _ F58 => ?_
 refine zB 2 [(4, .bool false)] [] dnil [] F58 fun _ F59 => ?_
 refine hK5 _ _ (wp_ret ?_)
 try simp only [Exit.then, Exit.inBlock, Exit.jump]
 exact bodyPost_ret (res1 rfl (F59.get rfl)) F59.defers ⟨by rw [show eqM m m2 = false from by unfold eqM; simp [h7, h10, h13, h16, h19, h22, h25, h31, h37, h43, h49, h55]], M3.below⟩
end Go.Proofs.Ytlbkogdmojlpmaa
namespace Go.Proofs.Ytlbkogdmojlpmaa
open Go.ChangeShapes Go.WideShapes Go.ChangeAt Go.RowKit
theorem enc_is (m : MsgN) (V : MsgV) (ho : MsgOk m) (hs : m.s.size ≤ 1000) (ok : Bool) (l : List UInt8) (h1 : z4a m = ok) (h2 : encL m = l) (w : World) (hm : MsgIs w m V) : Calls Try.prog 17 #[.agg (msgA m V)] w fun e w' => ∃ t, e = .returned t ∧ ∃ v, t = .tuple #[v, .bool ok] ∧ Byt w' w.heap.size v l ∧ Below w.heap.size w w' := by
  subst h1 h2; exact encode_ex m V ho hs w hm
theorem renc_is (m : MsgN) (V : MsgV) (ho : MsgOk m) (hs : m.s.size ≤ 1000) (ok : Bool) (l : List UInt8) (h1 : z4a m = ok) (h2 : encL m = l) (w : World) (hm : MsgIs w m V) : Calls Try.prog 18 #[.agg (msgA m V)] w fun e w' => ∃ t, e = .returned t ∧ ∃ v, t = .tuple #[v, .bool ok] ∧ Byt w' w.heap.size v l ∧ Below w.heap.size w w' := by
  subst h1 h2; exact rencode_ex m V ho hs w hm
theorem msgs_is (m m2 : MsgN) (V V2 : MsgV) (ho : MsgOk m) (ho2 : MsgOk m2) (ok : Bool) (h1 : eqM m m2 = ok) (w : World) (hm : MsgIs w m V) (hm2 : MsgIs w m2 V2) : Calls Try.prog 21 #[.agg (msgA m V), .agg (msgA m2 V2)] w fun e w' => e = .returned (.bool ok) ∧ Below w.heap.size w w' := by
  subst h1; exact msgs_any m m2 V V2 ho ho2 w hm hm2
theorem rec_is (r : RecN) (V : RecV) (ho : RecOk r) (ok : Bool) (l : List UInt8) (h1 : zkb r = ok) (h2 : recE r = l) (w : World) (hm : RecIs w r V) : Calls Try.prog 35 #[.agg (recA r V)] w fun e w' => ∃ t, e = .returned t ∧ ∃ v, t = .tuple #[v, .bool ok] ∧ Byt w' w.heap.size v l ∧ Below w.heap.size w w' := by
  subst h1 h2; exact record_ex r V ho w hm
theorem rd_is (b : List UInt8) (bv : Value) (hl : b.length ≤ 100000) (ok : Bool) (r : RecN) (h1 : rdOk b = ok) (h2 : rdR b = r) (w : World) (hb : IsB w b bv) : Calls Try.prog 37 #[bv] w fun e w' => ∃ t, e = .returned t ∧ ∃ V, t = .tuple #[.agg (recA r V), .bool ok] ∧ RecIs w' r V ∧ (∀ q, bfp V.v2 q ∨ bfp V.v5 q → w.heap.size ≤ q) ∧ Below w.heap.size w w' := by
  subst h1 h2; exact (readrec_any b bv hl w hb).mono fun e w' ⟨V, k1, k2, k3, k4⟩ => ⟨_, k1, V, rfl, k2, k3, k4⟩
theorem make_is (kind n : Int) (s : ByteArray) (b : List UInt8) (v : Value) (hkd : -9223372036854775808 ≤ kind ∧ kind < 9223372036854775808) (hN : -9223372036854775808 ≤ n ∧ n < 9223372036854775808) (hs : s.size ≤ 40) (m : MsgN) (hm : mkM kind n s b = m) (w : World) (hv : IsB w b v) : Calls Try.prog 16 #[.int .i64 kind, .int .i64 n, .string s, v] w fun e w' => ∃ t, e = .returned t ∧ ∃ V, t = .agg (msgA m V) ∧ MsgIs w' m V ∧ (∀ g, z6a V g → w.heap.size ≤ g) ∧ Below w.heap.size w w' := by
  subst hm; exact make_msg kind n s b v hkd hN hs w hv
section
variable {G : Option Nat} {w0 w : World} {R : List (Nat × Res)}
theorem Mx.nilT (M : Mx G w0 w R) (i : Nat) : Mx G w0 w ((i, tlR [] (zN)) :: R) :=
  M.cons i _ (show Tl w (zN) [] from .inl ⟨rfl, rfl⟩) tlR_dep (fun g hg => by cases hg) (fun _ g hg => by cases hg) fun _ _ _ _ _ g hg => by cases hg
theorem Mx.newRec {w' : World} (M : Mx G w0 w R) (h : Below w.heap.size w w') {r : RecN} {V : RecV} (hm : RecIs w' r V) (hlo : ∀ q, bfp V.v2 q ∨ bfp V.v5 q → w.heap.size ≤ q) (a b : Nat) : Mx G w0 w' ((b, bytR r.l5 V.v5) :: (a, bytR r.l2 V.v2) :: R) := by
  obtain ⟨M1, n1⟩ := (M.step h).roB2 (N := w.heap.size) (fun k s e _ g hg => M.lt k s e g hg) a hm.h2 (fun g hg => hlo g (.inl hg))
  exact (M1.roB2 n1 b hm.h5 (fun g hg => hlo g (.inr hg))).1
theorem next_is (M0 : Mx G w0 w R) (k q g : Nat) (l : List UInt8) (u : Value) (n : Int) (b : Bool) (hk : look R k = some (blkR g 94 #[u, .int .i64 n, .bool b])) (hq : look R q = some (tlR l u)) (hne : k ≠ q) (hl : l.length ≤ 1000000) (k5 k6 k7 k8 k9 : Nat) (m : MsgN) (ok bad : Bool) (l2 : List UInt8) (h1 : nxM l = m) (h2 : nxOk l = ok) (h3 : (b || nxBad l) = bad) (h4 : nxL l = l2) :
    Calls Try.prog 30 #[.pointer (some ⟨g, 0, none⟩)] w fun e w' => ∃ t, e = .returned t ∧ ∃ u' V, Mx G w0 w' ((k9, bytR m.l9 V.v9) :: (k8, bytR m.l8 V.v8) :: (k7, bytR m.l7 V.v7) :: (k6, bytR m.l6 V.v6) :: (k5, bytR m.l5 V.v5) :: (k, blkR g 94 #[u', .int .i64 n, .bool bad]) :: (q, tlR l2 u') :: R) ∧ t = .tuple #[.agg (msgA m V), .bool ok] := by
  subst h1 h2 h3 h4; exact next_any M0 k q g l u n b hk hq hne hl k5 k6 k7 k8 k9
theorem rnext_is (M0 : Mx G w0 w R) (k q g : Nat) (l : List UInt8) (u : Value) (n : Int) (hk : look R k = some (blkR g 96 #[u, .int .i64 n, .bool false])) (hq : look R q = some (bytR l u)) (hne : k ≠ q) (hl : l.length ≤ 1000000) (k5 k6 k7 k8 k9 : Nat) (m : MsgN) (ok bad : Bool) (l2 : List UInt8) (h1 : nxM l = m) (h2 : nxOk l = ok) (h3 : nxBad l = bad) (h4 : nxR l = l2) :
    Calls Try.prog 31 #[.pointer (some ⟨g, 0, none⟩)] w fun e w' => ∃ t, e = .returned t ∧ ∃ u' V, Mx G w0 w' ((k9, bytR m.l9 V.v9) :: (k8, bytR m.l8 V.v8) :: (k7, bytR m.l7 V.v7) :: (k6, bytR m.l6 V.v6) :: (k5, bytR m.l5 V.v5) :: (k, blkR g 96 #[u', .int .i64 n, .bool bad]) :: (q, bytR l2 u') :: R) ∧ t = .tuple #[.agg (msgA m V), .bool ok] := by
  subst h1 h2 h3 h4; exact rnext_any M0 k q g l u n hk hq hne hl k5 k6 k7 k8 k9
theorem rnextb_is (M0 : Mx G w0 w R) (k q g : Nat) (l : List UInt8) (u : Value) (n : Int) (hk : look R k = some (blkR g 96 #[u, .int .i64 n, .bool true])) (hq : look R q = some (bytR l u)) (hne : k ≠ q) (hl : l.length ≤ 1000000) (k5 k6 k7 k8 k9 : Nat) :
    Calls Try.prog 31 #[.pointer (some ⟨g, 0, none⟩)] w fun e w' => ∃ t, e = .returned t ∧ ∃ u' V, Mx G w0 w' ((k9, bytR mZero.l9 V.v9) :: (k8, bytR mZero.l8 V.v8) :: (k7, bytR mZero.l7 V.v7) :: (k6, bytR mZero.l6 V.v6) :: (k5, bytR mZero.l5 V.v5) :: (k, blkR g 96 #[u', .int .i64 n, .bool true]) :: (q, bytR l u') :: R) ∧ t = .tuple #[.agg (msgA mZero V), .bool false] :=
  (rnext_bad M0 k q g l u n hk hq hne hl).mono fun e w' ⟨t, h1, u', M, ht⟩ => ⟨t, h1, u', vZero, M.five k5 k6 k7 k8 k9, ht⟩
end
theorem mZero_ok : MsgOk mZero := ⟨by decide, by decide, by decide, by decide, by decide, by decide, by decide⟩
theorem decR_ok (b : List UInt8) : MsgOk (decR b) ∧ (decR b).s.size ≤ 1000 := by
  cases h : decOk b with
  | true => rw [(decOk_is h).2.2]; exact decM_msgok b
  | false => rw [decR_no h]; exact ⟨mZero_ok, by decide⟩
theorem nxM_ok (l : List UInt8) : MsgOk (nxM l) ∧ (nxM l).s.size ≤ 1000 := by
  unfold nxM
  cases nxOk l with
  | true => exact decR_ok _
  | false => exact ⟨mZero_ok, show mZero.s.size ≤ 1000 by decide⟩
end Go.Proofs.Ytlbkogdmojlpmaa
namespace Go.Proofs.Ytlbkogdmojlpmaa
open Go.ChangeShapes Go.WideShapes Go.ChangeAt Go.RowKit
def m7 : MsgN := ⟨7, 0, 0, 0, "".toUTF8, 0, 0, [], [], [], [], []⟩
def rA : RecN := ⟨1, ⟨#[97]⟩, [], 0, 0, [], 0, 0, 0⟩
theorem m7_ok : MsgOk m7 := ⟨by decide, by decide, by decide, by decide, by decide, by decide, by decide⟩
theorem rA_ok : RecOk rA := ⟨by decide, by decide, by decide, by decide, by decide, by decide, by decide⟩
theorem m7_right : zab m7 = true := by
  unfold zab
  rw [show wantOk m7.k m7.p = true from rfl, show decide (hasB m7 = wantN m7.k m7.p) = true from by decide]
  unfold zca
  rw [show nilB m7.s = true from decide_eq_true rfl, show topI m7.a 8 = 0 from topI_none 8, show topI m7.b 8 = 0 from topI_none 8]
  simp [m7]
theorem enc7 : z4a m7 = true ∧ encL m7 = [0, 1, 7] := by
  have h : z4a m7 = true := by
    unfold z4a
    rw [m7_right]
    decide
  exact ⟨h, by rw [encL_ok h]; decide⟩
theorem rA_name : NameOk rA.s := by
  refine ⟨by decide, by decide, fun i h => ?_⟩
  have : i = 0 := by have h1 : rA.s.size = 1 := rfl; omega
  subst this
  exact (show (33 : Int) ≤ ((97 : UInt8).toNat : Int) ∧ ((97 : UInt8).toNat : Int) ≤ 126 by decide)
theorem rA_keep : zkb rA = true := by
  unfold zkb
  rw [show nameB rA.s = true from @decide_eq_true _ (Classical.propDecidable _) rA_name, show topI rA.a 8 = 0 from topI_none 8, show topI rA.b 8 = 0 from topI_none 8]
  decide
theorem known_1 : wrN true 0 (([0, 1, 7] : List UInt8).take 1) = 1 ∧ nxM (([0, 1, 7] : List UInt8).take 1) = mZero ∧ nxOk (([0, 1, 7] : List UInt8).take 1) = false ∧ (false || nxBad (([0, 1, 7] : List UInt8).take 1)) = false ∧ nxL (([0, 1, 7] : List UInt8).take 1) = ([0, 1, 7] : List UInt8).take 1 := by
  obtain ⟨h1, h2⟩ := nx_short (l := ([0, 1, 7] : List UInt8).take 1) (by decide)
  refine ⟨rfl, by rw [nxM, h1]; rfl, h1, by rw [h2]; rfl, by rw [nxL, h1, h2]; rfl⟩
theorem known_2 : wrL true (([0, 1, 7] : List UInt8).take 1) (([0, 1, 7] : List UInt8).drop 1) = [0, 1, 7] ∧ wrN true 1 (([0, 1, 7] : List UInt8).drop 1) = 3 ∧ nxM ([0, 1, 7] : List UInt8) = m7 ∧ nxOk ([0, 1, 7] : List UInt8) = true ∧ (false || nxBad ([0, 1, 7] : List UInt8)) = false ∧ nxL ([0, 1, 7] : List UInt8) = [] := by
  obtain ⟨e1, e2⟩ := enc7
  obtain ⟨d1, d2⟩ := decOk_enc m7_ok e1
  rw [e2] at d1 d2
  have hF : nxF ([0, 1, 7] : List UInt8) = 1 := rfl
  have hT : ([0, 1, 7] : List UInt8).take (2 + nxF ([0, 1, 7] : List UInt8)) = [0, 1, 7] := rfl
  obtain ⟨h1, h2⟩ := nx_whole (l := ([0, 1, 7] : List UInt8)) (by decide) (by rw [hF]; decide) (by rw [hF]; decide)
  rw [hT, d1] at h1 h2
  exact ⟨rfl, rfl, by rw [nxM, h1, hT, d2]; rfl, h1, by rw [h2]; rfl, by rw [nxL, h1]; rfl⟩
theorem y_eqPN {a : Act} {w : World} {o : Oper} (ty tz : TypeId) (hu : Try.prog.underlying ty = some (.pointer (Try.prog.pointee ty))) (hgt : Try.prog.eqGuardType Try.prog.depth ty = false) (x : Operand) {p : Addr} (ho : o.op = .binOp .eql ty x (.const (.pointer none)) tz) (hx : a.eval x = .pointer (some p)) : (execOp a.eval o).run Try.prog w = .ok (.value (.bool false)) w :=
  y_eqV ty tz x _ ho hx (v := .pointer none) rfl (by simp [eqGuard, go_sem, hgt]) (by rw [run_eql_pointer_nil (h := hu)]; rfl)
theorem lknown_any  (w : World) :
  Calls Try.prog 15 #[] w fun e w' => e = .returned (.bool true) ∧ Below w.heap.size w w' := by
 obtain ⟨L, hL⟩ : ∃ L, L = ([0, 1, 7] : List UInt8) := ⟨_, rfl⟩
 obtain ⟨RB, hRB⟩ : ∃ l, recE rA = l := ⟨_, rfl⟩
 have hRl : RB.length ≤ 100000 := by rw [← hRB, show recE rA = recL rA from if_pos rA_keep]; decide
 have k1 := known_1
 have k2 := known_2
 have hL3 : L.length = 3 := by rw [hL]; rfl
 rw [← hL] at k1 k2
 obtain ⟨e1, e2⟩ := enc7
 rw [← hL] at e2
 obtain ⟨y1, y2⟩ := rd_rec rA_ok rA_keep
 rw [hRB] at y1 y2
 refine zg (args := []) 100 Try.func15 rfl rfl rfl ?_
 intro fa F
 have M := Mx.start w
 refine zT fun _ hK21 => ?_
 refine rm rfl F fun _ F22 => ?_
 refine hK21 _ _ (zS fun _ hK23 => ?_)
 refine zR ?_
 refine rn rfl rfl F22 rfl (.agg (msgA ⟨7, 0, 0, 0, "".toUTF8, 0, 0, [], [], [], [], []⟩ ⟨zN, zN, zN, zN, zN⟩)) (by unfold execOp; simp only [List.map_toArray, List.map_cons, List.map_nil, ]; kernel_rfl) fun _ F24 => ?_
 refine zd (za rfl) rfl F24 rfl rfl (zE Try.func17 rfl) #[.agg (msgA ⟨7, 0, 0, 0, "".toUTF8, 0, 0, [], [], [], [], []⟩ ⟨zN, zN, zN, zN, zN⟩)] (zp (F24.get rfl)) (enc_is m7 vZero m7_ok (by decide) true L e1 e2 w ⟨zc _, zc _, zc _, zc _, zc _⟩) ?_
 rintro _ w25 a25 ⟨v25, rfl, hv25, b25⟩ F25
 have M25 := M.newO b25 0 hv25
 clear M b25 hv25
 obtain ⟨A25, c25, rfl⟩ := (M25.isO (k := 0) rfl).shape
 refine zB 5 [(0, .bool false), (1, .slice A25 (L).length c25), (2, .bool true)] [] dnil [] F25 fun _ F26 => ?_
 refine hK23 _ _ (zS fun _ hK27 => ?_)
 refine zR ?_
 refine zd (za rfl) rfl F26 rfl rfl (zE Try.func26 rfl) #[] (args0) (new_any w25) ?_
 rintro _ w28 a28 ⟨g28, rfl, hg28, hc28, b28⟩ F28
 have M28 := (M25.newb b28 1 hg28 hc28).nilT 2
 clear M25 b28 hg28 hc28
 refine rm rfl F28 fun _ F29 => ?_
 refine hK27 _ _ (zS fun _ hK30 => ?_)
 refine zT fun _ hK31 => ?_
 refine rm rfl F29 fun _ F32 => ?_
 refine rn rfl rfl F32 rfl (.bool false) (y_eqPN 46 _ Try.underlying46 (by kernel_rfl) _ rfl (F32.get rfl)) fun _ F33 => ?_
 refine hK31 _ _ (wp_cond_false (F33.get rfl) ?_)
 refine wp_skip ?_
 refine hK30 _ _ (zS fun _ hK34 => ?_)
 refine zR ?_
 refine rm rfl F33 fun _ F35 => ?_
 refine rm rfl F35 fun _ F36 => ?_
 refine rm rfl F36 fun _ F37 => ?_
 refine rn rfl rfl F37 rfl (.int .i64 3) (z9 _ rfl (F37.get rfl) (M28.isO (k := 0) rfl) (by rw [hL3]; rfl)) fun _ F38 => ?_
 refine rn rfl rfl F38 rfl (.int .i64 1) (y_min _ _ rfl rfl (F38.get rfl) (by decide)) fun _ F39 => ?_
 refine z9a (za rfl) rfl F39 rfl (z8b _ _ rfl (F39.get rfl) (M28.isO (k := 0) rfl) (F39.get rfl) (j := 1) rfl (by omega)) ?_
 intro v40 a40 h40 F40
 have og41 := M28.owns (k := 0) rfl
 have M41 := M28.tame (k := 0) rfl
 clear M28
 have M40 := M41.partB 3 (k := 0) rfl h40.1 h40.2
 clear M41
 obtain ⟨A40, c40, rfl⟩ := (M40.isb (k := 3) rfl).shape
 refine zd (za rfl) rfl F40 rfl rfl (zE Try.func28 rfl) #[.pointer (some ⟨g28, 0, none⟩), .slice A40 ((L.take 1)).length c40] (zea (F40.get rfl) (F40.get rfl)) (swrite_any M40 1 2 3 g28 [] (L.take 1) (zN) (.slice A40 ((L.take 1)).length c40) 0 false rfl rfl rfl (by decide) (by decide) (by simp only [List.length_nil, List.length_take]; omega) (by decide) true rfl) ?_
 rintro _ w42 a42 ⟨u42, N42, rfl⟩ F42
 rw [(show wrL true [] (L.take 1) = L.take 1 from rfl)] at N42
 rw [k1.1] at N42
 clear M40
 replace N42 : Mx _ _ _ ((1, blkR g28 94 #[u42, .int .i64 1, .bool false]) :: _) := N42
 refine hK34 _ _ (zS fun _ hK43 => ?_)
 refine zR ?_
 refine rm rfl F42 fun _ F44 => ?_
 refine zd (za rfl) rfl F44 rfl rfl (zE Try.func30 rfl) #[.pointer (some ⟨g28, 0, none⟩)] (zp (F44.get rfl)) (next_is N42 1 2 g28 (L.take 1) u42 1 false rfl rfl (by decide) (by rw [List.length_take]; omega) 4 5 6 7 8 mZero false false (L.take 1) k1.2.1 k1.2.2.1 k1.2.2.2.1 k1.2.2.2.2) ?_
 rintro _ w45 a45 ⟨u45, V45, N45, rfl⟩ F45
 clear N42
 refine zB 3 [(0, .bool false), (1, .slice A25 (L).length c25), (2, .bool true), (3, .pointer (some ⟨g28, 0, none⟩)), (30, .agg (msgA mZero V45)), (31, .bool false)] [] dnil [] F45 fun _ F46 => ?_
 refine zf (za rfl) rfl F46 rfl N45 9 (t := 29) (c := msgA ⟨0, 0, 0, 0, "".toUTF8, 0, 0, [], [], [], [], []⟩ ⟨zN, zN, zN, zN, zN⟩) (by unfold execOp; kernel_rfl) ?_
 intro g47 a47 w47 F47 M47
 clear F46 N45
 refine zn (za rfl) rfl F47 M47 (k := 9) rfl _ _ _ rfl (F47.get rfl) (F47.get rfl) (msgA mZero V45) _ rfl (zL rfl) (zy (w := w47) ⟨(M47.isb (k := 4) rfl), (M47.isb (k := 5) rfl), (M47.isb (k := 6) rfl), (M47.isb (k := 7) rfl), (M47.isb (k := 8) rfl)⟩) (zt rfl) (by kernel_rfl) ?_
 intro w48 M48
 clear M47
 refine rm rfl F47 fun _ F49 => ?_
 refine hK43 _ _ (zS fun _ hK50 => ?_)
 refine zR ?_
 refine rm rfl F49 fun _ F51 => ?_
 refine rm rfl F51 fun _ F52 => ?_
 refine rm rfl F52 fun _ F53 => ?_
 refine rn rfl rfl F53 rfl (.int .i64 3) (z9 _ rfl (F53.get rfl) (M48.isb (k := 0) rfl) (by rw [hL3]; rfl)) fun _ F54 => ?_
 refine rn rfl rfl F54 rfl (.int .i64 1) (y_min _ _ rfl rfl (F54.get rfl) (by decide)) fun _ F55 => ?_
 refine z9a (za rfl) rfl F55 rfl (y_slFrom _ _ rfl (F55.get rfl) (M48.isb (k := 0) rfl) (F55.get rfl) (i := 1) rfl (by omega)) ?_
 intro v56 a56 h56 F56
 have M56 := M48.partB 10 (k := 0) rfl h56.1 h56.2
 clear M48
 obtain ⟨A56, c56, rfl⟩ := (M56.isb (k := 10) rfl).shape
 refine zd (za rfl) rfl F56 rfl rfl (zE Try.func28 rfl) #[.pointer (some ⟨g28, 0, none⟩), .slice A56 ((L.drop 1)).length c56] (zea (F56.get rfl) (F56.get rfl)) (swrite_any M56 1 2 10 g28 (L.take 1) (L.drop 1) u45 (.slice A56 ((L.drop 1)).length c56) 1 false rfl rfl rfl (by decide) (by decide) (by simp only [List.length_take, List.length_drop]; omega) (by decide) true (by decide)) ?_
 rintro _ w57 a57 ⟨u57, N57, rfl⟩ F57
 rw [k2.1] at N57
 rw [k2.2.1] at N57
 clear M56
 replace N57 : Mx _ _ _ ((1, blkR g28 94 #[u57, .int .i64 3, .bool false]) :: _) := N57
 refine hK50 _ _ (zS fun _ hK58 => ?_)
 refine zR ?_
 refine rm rfl F57 fun _ F59 => ?_
 refine zd (za rfl) rfl F59 rfl rfl (zE Try.func30 rfl) #[.pointer (some ⟨g28, 0, none⟩)] (zp (F59.get rfl)) (next_is N57 1 2 g28 L u57 3 false rfl rfl (by decide) (by omega) 11 12 13 14 15 m7 true false ([] : List UInt8) k2.2.2.1 k2.2.2.2.1 k2.2.2.2.2.1 k2.2.2.2.2.2) ?_
 rintro _ w60 a60 ⟨u60, V60, N60, rfl⟩ F60
 clear N57
 refine zA 3 [(39, .tuple #[.agg (msgA m7 V60), .bool true]), (42, .agg (msgA m7 V60)), (43, .bool true)] [] dnil [] F60 fun _ F61 => ?_
 refine zf (za rfl) rfl F61 rfl N60 16 (t := 29) (c := msgA ⟨0, 0, 0, 0, "".toUTF8, 0, 0, [], [], [], [], []⟩ ⟨zN, zN, zN, zN, zN⟩) (by unfold execOp; kernel_rfl) ?_
 intro g62 a62 w62 F62 M62
 clear F61 N60
 refine zn (za rfl) rfl F62 M62 (k := 16) rfl _ _ _ rfl (F62.get rfl) (F62.get rfl) (msgA m7 V60) _ rfl (zL rfl) (zy (w := w62) ⟨(M62.isb (k := 11) rfl), (M62.isb (k := 12) rfl), (M62.isb (k := 13) rfl), (M62.isb (k := 14) rfl), (M62.isb (k := 15) rfl)⟩) (zt rfl) (by kernel_rfl) ?_
 intro w63 M63
 clear M62
 refine rm rfl F62 fun _ F64 => ?_
 refine hK58 _ _ (zS fun _ hK65 => ?_)
 refine zR ?_
 refine rn rfl rfl F64 rfl (.agg (recA ⟨1, ({ data := #[97] }), [], 0, 0, [], 0, 0, 0⟩ ⟨zN, zN⟩)) (by unfold execOp; simp only [List.map_toArray, List.map_cons, List.map_nil, ]; kernel_rfl) fun _ F66 => ?_
 refine zd (za rfl) rfl F66 rfl rfl (zE Try.func35 rfl) #[.agg (recA ⟨1, ({ data := #[97] }), [], 0, 0, [], 0, 0, 0⟩ ⟨zN, zN⟩)] (zp (F66.get rfl)) (rec_is rA rvZero rA_ok true RB rA_keep hRB w63 ⟨zc _, zc _⟩) ?_
 rintro _ w67 a67 ⟨v67, rfl, hv67, b67⟩ F67
 have M67 := M63.newO b67 17 hv67
 clear M63 b67 hv67
 obtain ⟨A67, c67, rfl⟩ := (M67.isO (k := 17) rfl).shape
 refine zA 5 [(44, .tuple #[.slice A67 (RB).length c67, .bool true]), (47, .slice A67 (RB).length c67), (48, .bool true), (8, .slice A67 (RB).length c67), (9, .bool true)] [] dnil [] F67 fun _ F68 => ?_
 refine hK65 _ _ (zS fun _ hK69 => ?_)
 refine zR ?_
 refine rm rfl F68 fun _ F70 => ?_
 refine zd (za rfl) rfl F70 rfl rfl (zE Try.func37 rfl) #[.slice A67 (RB).length c67] (zp (F70.get rfl)) (rd_is RB (.slice A67 (RB).length c67) hRl true rA y1 y2 w67 (M67.isO (k := 17) rfl)) ?_
 rintro _ w71 a71 ⟨V71, rfl, is71, lo71, b71⟩ F71
 have M71 := M67.newRec b71 is71 lo71 18 19
 clear M67 b71 lo71
 refine zA 3 [(49, .tuple #[.agg (recA rA V71), .bool true]), (52, .agg (recA rA V71)), (53, .bool true)] [] dnil [] F71 fun _ F72 => ?_
 refine zf (za rfl) rfl F72 rfl M71 20 (t := 54) (c := recA ⟨0, "".toUTF8, [], 0, 0, [], 0, 0, 0⟩ ⟨zN, zN⟩) (by unfold execOp; kernel_rfl) ?_
 intro g73 a73 w73 F73 M73
 clear F72 M71
 refine zn (za rfl) rfl F73 M73 (k := 20) rfl _ _ _ rfl (F73.get rfl) (F73.get rfl) (recA rA V71) _ rfl (zL rfl) (recA_one (w := w73) ⟨(M73.isb (k := 18) rfl), (M73.isb (k := 19) rfl)⟩) (zt rfl) (by kernel_rfl) ?_
 intro w74 M74
 clear M73
 refine rm rfl F73 fun _ F75 => ?_
 refine hK69 _ _ (zS fun _ hK76 => ?_)
 refine zR ?_
 refine rm rfl F75 fun _ F77 => ?_
 refine rm rfl F77 fun _ F78 => ?_
 refine rm rfl F78 fun _ F79 => ?_
 refine ze (w' := w74) (zb rfl rfl rfl (F79.get rfl)) rfl F79 rfl (.int .i64 3) (z9 _ rfl (F79.get rfl) (M74.isb (k := 0) rfl) (by rw [hL3]; rfl)) fun _ F80 => ?_
 refine zA 4 [(58, .bool true), (59, .bool true), (60, .bool true), (61, .slice A25 (L).length c25)] [] dnil [] F80 fun _ F81 => ?_
 refine ze (w' := w74) (zb rfl rfl rfl (F81.get rfl)) rfl F81 rfl ((ixV (.slice A25 (L).length c25) 1)) (zgb _ _ rfl (F81.get rfl) (M74.isb (k := 0) rfl) rfl rfl (by omega)) fun _ F82 => ?_
 refine ze (w' := w74) (zb rfl rfl rfl (F82.get rfl)) rfl F82 rfl (.int .u8 (((1 : UInt8).toNat : Nat) : Int)) (zvb _ rfl (F82.get rfl) (M74.isb (k := 0) rfl) (by rw [hL]; rfl) rfl) fun _ F83 => ?_
 refine ze (w' := w74) (zb rfl rfl rfl (F83.get rfl)) rfl F83 rfl (.bool true) (zq _ _ _ _ rfl (F83.get rfl) rfl Try.underlying5 (zka (by decide))) fun _ F84 => ?_
 refine zA 3 [(65, .bool true), (66, .bool true), (67, .slice A25 (L).length c25)] [] dnil [] F84 fun _ F85 => ?_
 refine ze (w' := w74) (zb rfl rfl rfl (F85.get rfl)) rfl F85 rfl ((ixV (.slice A25 (L).length c25) 2)) (zgb _ _ rfl (F85.get rfl) (M74.isb (k := 0) rfl) rfl rfl (by omega)) fun _ F86 => ?_
 refine ze (w' := w74) (zb rfl rfl rfl (F86.get rfl)) rfl F86 rfl (.int .u8 (((7 : UInt8).toNat : Nat) : Int)) (zvb _ rfl (F86.get rfl) (M74.isb (k := 0) rfl) (by rw [hL]; rfl) rfl) fun _ F87 => ?_
 refine ze (w' := w74) (zb rfl rfl rfl (F87.get rfl)) rfl F87 rfl (.bool true) (zq _ _ _ _ rfl (F87.get rfl) rfl Try.underlying5 (zka (by decide))) fun _ F88 => ?_
 refine zB 11 [(0, .bool false), (3, .pointer (some ⟨g28, 0, none⟩)), (9, .bool true), (10, .pointer (some ⟨g73, 0, none⟩)), (11, .bool true), (79, .bool true), (81, .int .i64 m7.k)] [0] (zj (M74.blk (k := 16) rfl) dnil) [g62] F88 fun _ F89 => ?_
 refine ze (w' := w74) (zb rfl rfl rfl (F89.get rfl)) rfl F89 rfl (.bool true) (zq _ _ _ _ rfl (F89.get rfl) rfl Try.underlying3 (zka (show m7.k = 7 from rfl))) fun _ F90 => ?_
 refine zA 3 [(83, .bool true), (84, .bool true), (85, .pointer (some ⟨g28, 0, none⟩))] [] dnil [] F90 fun _ F91 => ?_
 refine zd (zb rfl rfl rfl (F91.get rfl)) rfl F91 rfl rfl (zE Try.func32 rfl) #[.pointer (some ⟨g28, 0, none⟩)] (zp (F91.get rfl)) (zh ((bad_any g28 u60 3 false w74 (M74.blk (k := 1) rfl)))) ?_
 rintro _ w92 a92 ⟨rfl, b92⟩ F92
 have M92 := M74.step b92
 refine zB 11 [(0, .bool false), (95, .bool true), (97, .string rA.s)] [0] (zj (M92.blk (k := 20) rfl) dnil) [g73] F92 fun _ F93 => ?_
 refine ze (w' := w92) (zb rfl rfl rfl (F93.get rfl)) rfl F93 rfl (.bool true) (y_eqS _ _ _ rfl (F93.get rfl) rfl (decide_eq_true rfl)) fun _ F94 => ?_
 refine zB 2 [(0, .bool true)] [] dnil [] F94 fun _ F95 => ?_
 refine hK76 _ _ (wp_ret ?_)
 try simp only [Exit.then, Exit.inBlock, Exit.jump]
 exact bodyPost_ret (res1 rfl (F95.get rfl)) F95.defers ⟨rfl, M92.below⟩
end Go.Proofs.Ytlbkogdmojlpmaa
namespace Go.Proofs.Ytlbkogdmojlpmaa
open Go.ChangeShapes Go.WideShapes Go.ChangeAt Go.RowKit
theorem nx_nil {l : List UInt8} (h : l = []) : nxM l = mZero ∧ nxOk l = false ∧ nxBad l = false ∧ nxL l = [] := by
  obtain ⟨h1, h2⟩ := nx_short (l := l) (by rw [h]; decide)
  exact ⟨by rw [nxM, h1]; rfl, h1, h2, by rw [nxL, h1, h2]; exact h⟩
end Go.Proofs.Ytlbkogdmojlpmaa
namespace Go.Proofs.Ytlbkogdmojlpmaa
open Go.ChangeShapes Go.WideShapes Go.ChangeAt Go.RowKit
theorem Rd.isB' {w : World} {A : Option Addr} {l : List UInt8} {n c : Nat} (h : Rd w A l) (hn : l.length = n) (hc : n ≤ c) (hm : c ≤ maxLen) (hz : A = none → c = 0) : IsB w l (.slice A n c) := by
  subst hn
  exact ⟨A, c, rfl, hc, hm, hz, h⟩
theorem nmB_ne (s : ByteArray) : sBy (nmB s) ≠ [] := by
  by_cases h : (sBy s).length = 0
  · rw [nmB_nil h]; simp [sBy]
  · rw [nmB_some h]
    simp only [sBy, List.toList_toArray]
    intro e
    have := congrArg List.length e
    rw [List.length_take] at this
    have h2 := nmL_len (sBy s)
    unfold sBy at h h2
    simp only [List.length_nil] at this
    omega
theorem nmB_size (s : ByteArray) : 0 < (nmB s).size ∧ (nmB s).size ≤ 16 := by
  have h := nmB_ne s
  have e : (sBy (nmB s)).length = (nmB s).size := sBy_len _
  refine ⟨by have := List.length_pos_iff.2 h; omega, ?_⟩
  by_cases h0 : (sBy s).length = 0
  · rw [nmB_nil h0]; decide
  · rw [← e, nmB_some h0]
    simp only [sBy, List.toList_toArray, List.length_take]
    omega
theorem kn (n : Int) {k : Int} (hk : 0 < k) : 0 < (1 + n % k).toNat ∧ (1 + n % k).toNat ≤ k.toNat := by
  have h1 := Int.emod_nonneg n (show k ≠ 0 by omega)
  have h2 := Int.emod_lt_of_pos n hk
  omega
theorem mkM_ok (kind n : Int) (s : ByteArray) (b : List UInt8) : MsgOk (mkM kind n s b) ∧ (mkM kind n s b).s.size ≤ 1000 := by
  have h2 := Int.emod_two_eq n
  have hA := kn n (show (0 : Int) < 4294967295 by decide)
  have hC := kn (n.tdiv 3) (show (0 : Int) < 70000 by decide)
  have h11 := Int.emod_nonneg n (show (11 : Int) ≠ 0 by decide)
  have h11' := Int.emod_lt_of_pos n (show (0 : Int) < 11 by decide)
  have h40 := Int.emod_nonneg n (show (1099511627776 : Int) ≠ 0 by decide)
  have h40' := Int.emod_lt_of_pos n (show (0 : Int) < 1099511627776 by decide)
  have hs := nmB_size s
  have e1 : ("".toUTF8).size ≤ 1000000 := by decide
  have e2 : ("".toUTF8).size ≤ 1000 := by decide
  unfold mkM
  by_cases k0 : kind % 12 = 0
  · rw [if_pos k0]
    by_cases q : n % 2 = 0
    · rw [if_pos q]; exact ⟨⟨(by dsimp only; omega), (by dsimp only; omega), (by dsimp only; omega), (by dsimp only; omega), (by dsimp only; first | exact e1 | omega), Nat.lt_trans (m := 4294967296) (by dsimp only; omega) (by decide), Nat.lt_trans (m := 4294967296) (by dsimp only; omega) (by decide)⟩, (by dsimp only; first | exact e2 | omega)⟩
    · rw [if_neg q]; exact ⟨⟨(by dsimp only; omega), (by dsimp only; omega), (by dsimp only; omega), (by dsimp only; omega), (by dsimp only; first | exact e1 | omega), Nat.lt_trans (m := 4294967296) (by dsimp only; omega) (by decide), Nat.lt_trans (m := 4294967296) (by dsimp only; omega) (by decide)⟩, (by dsimp only; first | exact e2 | omega)⟩
  rw [if_neg k0]
  by_cases k1 : kind % 12 = 1
  · rw [if_pos k1]
    by_cases q : n % 2 = 0
    · rw [if_pos q]; exact ⟨⟨(by dsimp only; omega), (by dsimp only; omega), (by dsimp only; omega), (by dsimp only; omega), (by dsimp only; first | exact e1 | omega), Nat.lt_trans (m := 4294967296) (by dsimp only; omega) (by decide), Nat.lt_trans (m := 4294967296) (by dsimp only; omega) (by decide)⟩, (by dsimp only; first | exact e2 | omega)⟩
    · rw [if_neg q]; exact ⟨⟨(by dsimp only; omega), (by dsimp only; omega), (by dsimp only; omega), (by dsimp only; omega), (by dsimp only; first | exact e1 | omega), Nat.lt_trans (m := 4294967296) (by dsimp only; omega) (by decide), Nat.lt_trans (m := 4294967296) (by dsimp only; omega) (by decide)⟩, (by dsimp only; first | exact e2 | omega)⟩
  rw [if_neg k1]
  by_cases k2 : kind % 12 = 2
  · rw [if_pos k2]
    exact ⟨⟨(by dsimp only; omega), (by dsimp only; omega), (by dsimp only; omega), (by dsimp only; omega), (by dsimp only; first | exact e1 | omega), Nat.lt_trans (m := 4294967296) (by dsimp only; omega) (by decide), Nat.lt_trans (m := 4294967296) (by dsimp only; omega) (by decide)⟩, (by dsimp only; first | exact e2 | omega)⟩
  rw [if_neg k2]
  by_cases k3 : kind % 12 = 3
  · rw [if_pos k3]
    by_cases q : n.tdiv 2 % 2 = 0
    · rw [if_pos q]; exact ⟨⟨(by dsimp only; omega), (by dsimp only; omega), (by dsimp only; omega), (by dsimp only; omega), (by dsimp only; first | exact e1 | omega), Nat.lt_trans (m := 4294967296) (by dsimp only; omega) (by decide), Nat.lt_trans (m := 4294967296) (by dsimp only; omega) (by decide)⟩, (by dsimp only; first | exact e2 | omega)⟩
    · rw [if_neg q]; exact ⟨⟨(by dsimp only; omega), (by dsimp only; omega), (by dsimp only; omega), (by dsimp only; omega), (by dsimp only; first | exact e1 | omega), Nat.lt_trans (m := 4294967296) (by dsimp only; omega) (by decide), Nat.lt_trans (m := 4294967296) (by dsimp only; omega) (by decide)⟩, (by dsimp only; first | exact e2 | omega)⟩
  rw [if_neg k3]
  by_cases k4 : kind % 12 = 4
  · rw [if_pos k4]
    exact ⟨⟨(by dsimp only; omega), (by dsimp only; omega), (by dsimp only; omega), (by dsimp only; omega), (by dsimp only; first | exact e1 | omega), Nat.lt_trans (m := 4294967296) (by dsimp only; omega) (by decide), Nat.lt_trans (m := 4294967296) (by dsimp only; omega) (by decide)⟩, (by dsimp only; first | exact e2 | omega)⟩
  rw [if_neg k4]
  by_cases k5 : kind % 12 = 5
  · rw [if_pos k5]
    exact ⟨⟨(by dsimp only; omega), (by dsimp only; omega), (by dsimp only; omega), (by dsimp only; omega), (by dsimp only; first | exact e1 | omega), Nat.lt_trans (m := 4294967296) (by dsimp only; omega) (by decide), Nat.lt_trans (m := 4294967296) (by dsimp only; omega) (by decide)⟩, (by dsimp only; first | exact e2 | omega)⟩
  rw [if_neg k5]
  by_cases k6 : kind % 12 = 6
  · rw [if_pos k6]
    exact ⟨⟨(by dsimp only; omega), (by dsimp only; omega), (by dsimp only; omega), (by dsimp only; omega), (by dsimp only; first | exact e1 | omega), Nat.lt_trans (m := 4294967296) (by dsimp only; omega) (by decide), Nat.lt_trans (m := 4294967296) (by dsimp only; omega) (by decide)⟩, (by dsimp only; first | exact e2 | omega)⟩
  rw [if_neg k6]
  by_cases k7 : kind % 12 = 7
  · rw [if_pos k7]
    exact ⟨⟨(by dsimp only; omega), (by dsimp only; omega), (by dsimp only; omega), (by dsimp only; omega), (by dsimp only; first | exact e1 | omega), Nat.lt_trans (m := 4294967296) (by dsimp only; omega) (by decide), Nat.lt_trans (m := 4294967296) (by dsimp only; omega) (by decide)⟩, (by dsimp only; first | exact e2 | omega)⟩
  rw [if_neg k7]
  by_cases k8 : kind % 12 = 8
  · rw [if_pos k8]
    exact ⟨⟨(by dsimp only; omega), (by dsimp only; omega), (by dsimp only; omega), (by dsimp only; omega), (by dsimp only; first | exact e1 | omega), Nat.lt_trans (m := 4294967296) (by dsimp only; omega) (by decide), Nat.lt_trans (m := 4294967296) (by dsimp only; omega) (by decide)⟩, (by dsimp only; first | exact e2 | omega)⟩
  rw [if_neg k8]
  by_cases k9 : kind % 12 = 9
  · rw [if_pos k9]
    exact ⟨⟨(by dsimp only; omega), (by dsimp only; omega), (by dsimp only; omega), (by dsimp only; omega), (by dsimp only; first | exact e1 | omega), Nat.lt_trans (m := 4294967296) (by dsimp only; omega) (by decide), Nat.lt_trans (m := 4294967296) (by dsimp only; omega) (by decide)⟩, (by dsimp only; first | exact e2 | omega)⟩
  rw [if_neg k9]
  by_cases k10 : kind % 12 = 10
  · rw [if_pos k10]
    exact ⟨⟨(by dsimp only; omega), (by dsimp only; omega), (by dsimp only; omega), (by dsimp only; omega), (by dsimp only; first | exact e1 | omega), Nat.lt_trans (m := 4294967296) (by dsimp only; omega) (by decide), Nat.lt_trans (m := 4294967296) (by dsimp only; omega) (by decide)⟩, (by dsimp only; first | exact e2 | omega)⟩
  rw [if_neg k10]
  exact ⟨⟨(by dsimp only; omega), (by dsimp only; omega), (by dsimp only; omega), (by dsimp only; omega), (by dsimp only; first | exact e1 | omega), Nat.lt_trans (m := 4294967296) (by dsimp only; omega) (by decide), Nat.lt_trans (m := 4294967296) (by dsimp only; omega) (by decide)⟩, (by dsimp only; first | exact e2 | omega)⟩
end Go.Proofs.Ytlbkogdmojlpmaa
namespace Go.Proofs.Ytlbkogdmojlpmaa
open Go.ChangeShapes Go.WideShapes Go.ChangeAt Go.RowKit Go.Shelf
def JQ {α : Type} (G : Option Nat) (w0 : World) (PRE : (Nat → Bool) → Prop) (RL : α → (Nat → Bool) → (Nat → Value) → List (Nat × Res)) (S : Nat → Bool) (p : Nat → Value) (w : World) : Prop := PRE S ∧ ∃ x, Mx G w0 w (RL x S p)
theorem JQ.mk {α : Type} {G : Option Nat} {w0 : World} {PRE : (Nat → Bool) → Prop} {RL : α → (Nat → Bool) → (Nat → Value) → List (Nat × Res)} {S : Nat → Bool} {p : Nat → Value} {w : World} (h : PRE S) (x : α) (M : Mx G w0 w (RL x S p)) : JQ G w0 PRE RL S p w := ⟨h, x, M⟩
def ifp (A : Option Addr) (n : Nat) (g : Nat) : Prop := 0 < n ∧ ∃ o, A = some ⟨g, o, none⟩
def intR (A : Option Addr) (n : Nat) (x : Nat → Int) : Res := ⟨false, ifp A n, fun w => RdI w A n x⟩
theorem RdI.same {u u' : World} {A : Option Addr} {n : Nat} {x : Nat → Int} (hs : Same (ifp A n) u u') (h : RdI u A n x) : RdI u' A n x :=
  ⟨h.1, h.2.1, fun hn => by
    obtain ⟨b, o, e, h1, h2⟩ := h.2.2 hn
    refine ⟨b, o, e, Nat.lt_of_lt_of_le h1 hs.size, fun k hk => ?_⟩
    have hb := hs.at_ b _ ⟨hn, o, e⟩ (Array.getElem?_eq_getElem h1)
    rw [← h2 k hk]
    simp only [World.cell?, hb, Array.getElem?_eq_getElem h1]⟩
section
variable {G : Option Nat} {w0 w : World} {R : List (Nat × Res)}
theorem Mx.argI (M : Mx G w0 w R) (i : Nat) {A : Option Addr} {n : Nat} {x : Nat → Int} (h : RdI w0 A n x) (hG : ∀ g, G = some g → ¬ ifp A n g) : Mx G w0 w ((i, intR A n x) :: R) :=
  M.arg i _ (RdI.same (u := w0) ⟨fun g o hg ho => (M.grown.block g (Array.getElem?_eq_some_iff.1 ho).1 (fun e => hG g e.symm hg)).trans ho, M.grown.size⟩ h) (fun _ _ hs h => RdI.same hs h) rfl fun g hg => by
    refine ⟨?_, fun e => hG g e hg⟩
    obtain ⟨hn, o, e⟩ := hg
    obtain ⟨b, q, e2, h1, -⟩ := h.2.2 hn
    rw [e] at e2
    cases e2
    exact h1
theorem Mx.rdI (M : Mx G w0 w R) {k : Nat} {A : Option Addr} {n : Nat} {x : Nat → Int} (h : look R k = some (intR A n x)) : RdI w A n x := M.at_ k _ h
end
section
variable {a : Act} {w : World} {o : Oper} {A : Option Addr} {n c : Nat} {x : Nat → Int}
theorem y_ixJ (y k : Operand) (ho : o.op = .indexAddr 38 y k) (hx : a.eval y = .slice A n c) (hB : RdI w A n x) {z : Int} {i : Nat} (hk : a.eval k = .int .i64 z) (hz : z = (i : Int)) (hi : i < n) : (execOp a.eval o).run Try.prog w = .ok (.value (ixV (.slice A n c) i)) w := by
  subst hz
  obtain ⟨b, q, rfl, hb, hc⟩ := hB.2.2 (by omega)
  unfold execOp
  simp only [ho, hx, hk]
  have h0 : ¬ ((i : Int) < 0) := by omega
  have h5 : (i : Int) < (n : Int) := by omega
  simp [go_sem, h0, h5, hi, ixV, zdb]
theorem y_ldJ (y : Operand) (ho : o.op = .load 3 y) {i : Nat} (hx : a.eval y = ixV (.slice A n c) i) (hB : RdI w A n x) (hi : i < n) : (execOp a.eval o).run Try.prog w = .ok (.value (.int .i64 (x i))) w := by
  obtain ⟨g, q, rfl, hb, hc⟩ := hB.2.2 (by omega)
  have hcell := hc i hi
  have hx' : a.eval y = .pointer (some ⟨g, q + i, none⟩) := by rw [hx]; simp [ixV, zdb]
  have h6 : (isAgg 3).run Try.prog w = .ok false w := by
    unfold isAgg
    simp only [Sem.run_bind, run_underlying Try.underlying3, Result.andThen_ok]
    rfl
  unfold execOp
  simp only [ho, hx', Instr.loadAt, Instr.sureAddr, loadVar, Sem.run_bind, Sem.run_pure, Result.andThen_ok, h6, Bool.false_eq_true, if_false]
  simp [hcell, Result.andThen]
end
end Go.Proofs.Ytlbkogdmojlpmaa
namespace Go.Proofs.Ytlbkogdmojlpmaa
open Go.ChangeShapes Go.WideShapes Go.ChangeAt Go.RowKit
theorem nx_step (l : List UInt8) : (nxBad l = false → nxR l = nxL l) ∧ (nxBad l = true → nxL l = []) ∧ (nxL l).length ≤ l.length ∧ (nxR l).length ≤ l.length := by
  have hx : nxOk l = true → nxBad l = false := fun h => by
    unfold nxOk at h
    simp only [Bool.and_eq_true, decide_eq_true_eq] at h
    obtain ⟨⟨⟨h1, h2⟩, h3⟩, h4⟩ := h
    obtain ⟨-, e⟩ := nx_whole h1 h2 h3
    rw [e, h4]; rfl
  unfold nxR nxL
  cases ho : nxOk l with
  | true =>
    have hb := hx ho
    refine ⟨fun _ => rfl, fun h => ?_, ?_, ?_⟩
    · rw [hb] at h; cases h
    · show (l.drop _).length ≤ _; rw [List.length_drop]; omega
    · show (l.drop _).length ≤ _; rw [List.length_drop]; omega
  | false =>
    cases hb : nxBad l with
    | true => exact ⟨fun h => (by cases h), fun _ => rfl, Nat.zero_le _, Nat.le_refl _⟩
    | false => exact ⟨fun _ => rfl, fun h => (by cases h), Nat.le_refl _, Nat.le_refl _⟩
theorem wrOk_s {n : Int} (b : Bool) (h : n < 100000) : wrOk n b = !b := by unfold wrOk; rw [decide_eq_true h, Bool.and_true]
theorem wr_pair {bt ok : Bool} {L L2 P : List UInt8} {n : Int} (h : (!bt) = ok) (hf : bt = false → L2 = L) (hn : 0 ≤ n) : ((!ok) = false → wrR ok L2 P = wrL ok L P) ∧ ((!ok) = true → wrL ok L P = []) ∧ (wrL ok L P).length ≤ L.length + P.length ∧ (wrR ok L2 P).length ≤ L2.length + P.length ∧ 0 ≤ wrN ok n P ∧ wrN ok n P ≤ n + (P.length : Int) := by
  cases bt with
  | false =>
    subst h
    refine ⟨fun _ => (by rw [hf rfl]; rfl), fun e => (by cases e), ?_, ?_, ?_, ?_⟩
    · show (L ++ P).length ≤ _; rw [List.length_append]; omega
    · show (L2 ++ P).length ≤ _; rw [List.length_append]; omega
    · show 0 ≤ n + (P.length : Int); omega
    · show n + (P.length : Int) ≤ _; omega
  | true =>
    subst h
    refine ⟨fun e => (by cases e), fun _ => rfl, Nat.zero_le _, ?_, hn, ?_⟩
    · show L2.length ≤ _; omega
    · show n ≤ _; omega
theorem nx_pair {ba : Bool} {La Lb : List UInt8} (hf : ba = false → Lb = La) (ht : ba = true → La = []) : cond ba mZero (nxM Lb) = nxM La ∧ (!ba && nxOk Lb) = nxOk La ∧ (ba || nxBad Lb) = (ba || nxBad La) ∧ ((ba || nxBad La) = false → cond ba Lb (nxR Lb) = nxL La) ∧ ((ba || nxBad La) = true → nxL La = []) ∧ (nxL La).length ≤ La.length ∧ (cond ba Lb (nxR Lb)).length ≤ Lb.length := by
  obtain ⟨s1, s2, s3, s4⟩ := nx_step La
  cases ba with
  | false =>
    have e := hf rfl
    subst e
    exact ⟨rfl, rfl, rfl, s1, s2, s3, s4⟩
  | true =>
    obtain ⟨e1, e2, e3, e4⟩ := nx_nil (ht rfl)
    exact ⟨e1.symm, e2.symm, rfl, fun e => (by cases e), fun _ => e4, by rw [e4]; exact Nat.zero_le _, Nat.le_refl _⟩
theorem rnextc_is {G : Option Nat} {w0 w : World} {R : List (Nat × Res)} (M0 : Mx G w0 w R) (k q g : Nat) (l : List UInt8) (u : Value) (n : Int) (b : Bool) (hk : look R k = some (blkR g 96 #[u, .int .i64 n, .bool b])) (hq : look R q = some (bytR l u)) (hne : k ≠ q) (hl : l.length ≤ 1000000) (k5 k6 k7 k8 k9 : Nat) (m : MsgN) (ok bad : Bool) (l2 : List UInt8) (h1 : cond b mZero (nxM l) = m) (h2 : (!b && nxOk l) = ok) (h3 : (b || nxBad l) = bad) (h4 : cond b l (nxR l) = l2) :
    Calls Try.prog 31 #[.pointer (some ⟨g, 0, none⟩)] w fun e w' => ∃ t, e = .returned t ∧ ∃ u' V, Mx G w0 w' ((k9, bytR m.l9 V.v9) :: (k8, bytR m.l8 V.v8) :: (k7, bytR m.l7 V.v7) :: (k6, bytR m.l6 V.v6) :: (k5, bytR m.l5 V.v5) :: (k, blkR g 96 #[u', .int .i64 n, .bool bad]) :: (q, bytR l2 u') :: R) ∧ t = .tuple #[.agg (msgA m V), .bool ok] := by
  cases b with
  | false => exact rnext_is M0 k q g l u n hk hq hne hl k5 k6 k7 k8 k9 m ok bad l2 h1 h2 h3 h4
  | true =>
    subst h1 h2 h3 h4
    exact rnextb_is M0 k q g l u n hk hq hne hl k5 k6 k7 k8 k9
theorem u8_wf {a : Int} (h : (Lit.int .u8 a).wf = true) : 0 ≤ a ∧ a < 256 := by
  have := bounds_u8 h
  omega
theorem u8_ex {a : Int} (h : 0 ≤ a) (h2 : a < 256) : ∃ c : UInt8, a = ((c.toNat : Nat) : Int) := ⟨zx a, by have := zcc a; omega⟩
theorem y_addU8 {a : Act} {w : World} {o : Oper} (ty tz : TypeId) (x y : Operand) {p q : Int} (ho : o.op = .binOp .add ty x y tz) (hx : a.eval x = .int .u8 p) (hy : a.eval y = .int .u8 q) : (execOp a.eval o).run Try.prog w = .ok (.value (.int .u8 (((zx (p + q)).toNat : Nat) : Int))) w := by
  unfold execOp; simp only [ho, hx, hy]; simp [go_sem, z3a]
theorem in_ex (a : Int) {n : Nat} (h : 0 < n) : ∃ j : Nat, a % (n : Int) = (j : Int) ∧ j < n := by
  have h1 := Int.emod_nonneg a (show (n : Int) ≠ 0 by omega)
  have h2 := Int.emod_lt_of_pos a (show (0 : Int) < n by omega)
  exact ⟨(a % (n : Int)).toNat, by omega, by omega⟩
theorem encL_nn {m : MsgN} (h : z4a m = false) : encL m = [] := if_neg (by rw [h]; exact Bool.false_ne_true)
theorem encL_le (m : MsgN) : (encL m).length ≤ 202 := by
  cases h : z4a m with
  | false => rw [encL_nn h]; simp
  | true =>
    rw [encL_ok h, encF_len, encRk_len]
    unfold z4a at h
    simp only [Bool.and_eq_true, decide_eq_true_eq] at h
    omega
theorem WireStreams_walk (A0 : Option Addr) (n0 cap0 : Nat) (x0 : Nat → Int)
  (a1 : Int) (hk1 : -9223372036854775808 ≤ a1) (hl1 : a1 < 9223372036854775808)
  (a2 : ByteArray) (hS2 : a2.size ≤ maxLen)
  (A3 : Option Addr) (n3 cap3 : Nat) (l3 : List UInt8) (hn3 : l3.length = n3) (hc3 : n3 ≤ cap3) (hm3 : cap3 ≤ maxLen) (hz3 : A3 = none → cap3 = 0)
  (A4 : Option Addr) (n4 cap4 : Nat) (x4 : Nat → Int)
  (a5 : Int) (hk5 : -9223372036854775808 ≤ a5) (hl5 : a5 < 9223372036854775808)
  (a6 : Int) (hk6 : 0 ≤ a6) (hl6 : a6 < 256) (w : World) (hr0 : RdI w A0 n0 x0) (hr3 : Rd w A3 l3) (hr4 : RdI w A4 n4 x4) (hup4 : n4 * 8 ≤ 140737488351232) :
  Calls Try.prog 6 #[.slice A0 n0 cap0, .int .i64 a1, .string a2, .slice A3 n3 cap3, .slice A4 n4 cap4, .int .i64 a5, .int .u8 a6] w fun e w' => e = .returned (.bool true) ∧ Below w.heap.size w w' := by
 have ib3 : IsB w l3 (.slice A3 n3 cap3) := hr3.isB' hn3 hc3 hm3 hz3
 obtain ⟨c6, rfl⟩ := u8_ex hk6 hl6
 by_cases b0 : 40 < a2.size
 ·refine zg (args := [.slice A0 n0 cap0, .int .i64 a1, .string a2, .slice A3 n3 cap3, .slice A4 n4 cap4, .int .i64 a5, .int .u8 ((c6.toNat : Nat) : Int)]) 163 Try.func6 rfl rfl rfl ?_
  intro fa F
  have M := Mx.start w
  replace M := M.argB 0 ib3 (fun g e => by cases e)
  replace M := M.argI 1 hr0 (fun g e => by cases e)
  replace M := M.argI 2 hr4 (fun g e => by cases e)
  refine zT fun _ hK21 => ?_
  refine rm rfl F fun _ F22 => ?_
  refine hK21 _ _ (zS fun _ hK23 => ?_)
  refine zT fun _ hK24 => ?_
  refine zd (za rfl) rfl F22 rfl rfl (zE Try.func15 rfl) #[] (args0) (zh (lknown_any w)) ?_
  rintro _ w25 a25 ⟨rfl, b25⟩ F25
  have M25 := M.step b25
  refine rn rfl rfl F25 rfl (.bool false) (run_not _ _ rfl (F25.get (t := 29) rfl)) fun _ F26 => ?_
  refine hK24 _ _ (wp_cond_false (F26.get rfl) ?_)
  refine wp_skip ?_
  refine hK23 _ _ (zS fun _ hK27 => ?_)
  refine zT fun _ hK28 => ?_
  refine rm rfl F26 fun _ F29 => ?_
  refine rn rfl rfl F29 rfl (.int .i64 (a2.size : Int)) (y_lenS _ rfl (F29.get rfl) rfl) fun _ F30 => ?_
  refine rn rfl rfl F30 rfl (.bool true) (zya _ _ _ _ rfl (F30.get rfl) rfl (decide_eq_true (show (40 : Int) < (a2.size : Int) by omega))) fun _ F31 => ?_
  refine zA 5 [(34, .bool true), (35, undef), (36, undef), (37, undef), (38, .bool true)] [] dnil [] F31 fun _ F32 => ?_
  refine hK28 _ _ (wp_cond_true (F32.get rfl) ?_)
  refine zT fun _ hK33 => ?_
  refine rm rfl F32 fun _ F34 => ?_
  refine hK33 _ _ (wp_ret ?_)
  try simp only [Exit.then, Exit.inBlock, Exit.jump]
  exact bodyPost_ret (res1 rfl (F34.get rfl)) F34.defers ⟨rfl, M25.below⟩
 by_cases b1 : 100 < l3.length
 ·refine zg (args := [.slice A0 n0 cap0, .int .i64 a1, .string a2, .slice A3 n3 cap3, .slice A4 n4 cap4, .int .i64 a5, .int .u8 ((c6.toNat : Nat) : Int)]) 163 Try.func6 rfl rfl rfl ?_
  intro fa F
  have M := Mx.start w
  replace M := M.argB 0 ib3 (fun g e => by cases e)
  replace M := M.argI 1 hr0 (fun g e => by cases e)
  replace M := M.argI 2 hr4 (fun g e => by cases e)
  refine zT fun _ hK21 => ?_
  refine rm rfl F fun _ F22 => ?_
  refine hK21 _ _ (zS fun _ hK23 => ?_)
  refine zT fun _ hK24 => ?_
  refine zd (za rfl) rfl F22 rfl rfl (zE Try.func15 rfl) #[] (args0) (zh (lknown_any w)) ?_
  rintro _ w25 a25 ⟨rfl, b25⟩ F25
  have M25 := M.step b25
  refine rn rfl rfl F25 rfl (.bool false) (run_not _ _ rfl (F25.get (t := 29) rfl)) fun _ F26 => ?_
  refine hK24 _ _ (wp_cond_false (F26.get rfl) ?_)
  refine wp_skip ?_
  refine hK23 _ _ (zS fun _ hK27 => ?_)
  refine zT fun _ hK28 => ?_
  refine rm rfl F26 fun _ F29 => ?_
  refine rn rfl rfl F29 rfl (.int .i64 (a2.size : Int)) (y_lenS _ rfl (F29.get rfl) rfl) fun _ F30 => ?_
  refine rn rfl rfl F30 rfl (.bool false) (zya _ _ _ _ rfl (F30.get rfl) rfl (decide_eq_false (show ¬ (40 : Int) < (a2.size : Int) by omega))) fun _ F31 => ?_
  refine rm rfl F31 fun _ F32 => ?_
  refine rm rfl F32 fun _ F33 => ?_
  refine ze (w' := w25) (zb rfl rfl rfl (F33.get rfl)) rfl F33 rfl (.int .i64 (l3.length : Int)) (z9 _ rfl (F33.get rfl) (M25.isb (k := 0) rfl) rfl) fun _ F34 => ?_
  refine ze (w' := w25) (zb rfl rfl rfl (F34.get rfl)) rfl F34 rfl (.bool true) (zya _ _ _ _ rfl (F34.get rfl) rfl (decide_eq_true (show (100 : Int) < (l3.length : Int) by omega))) fun _ F35 => ?_
  refine rn rfl rfl F35 rfl (.bool true) (zqa rfl (F35.get rfl) (F35.get rfl)) fun _ F36 => ?_
  refine hK28 _ _ (wp_cond_true (F36.get rfl) ?_)
  refine zT fun _ hK37 => ?_
  refine rm rfl F36 fun _ F38 => ?_
  refine hK37 _ _ (wp_ret ?_)
  try simp only [Exit.then, Exit.inBlock, Exit.jump]
  exact bodyPost_ret (res1 rfl (F38.get rfl)) F38.defers ⟨rfl, M25.below⟩
 have hs : a2.size ≤ 40 := by omega
 refine zg (args := [.slice A0 n0 cap0, .int .i64 a1, .string a2, .slice A3 n3 cap3, .slice A4 n4 cap4, .int .i64 a5, .int .u8 ((c6.toNat : Nat) : Int)]) 163 Try.func6 rfl rfl rfl ?_
 intro fa F
 have M := Mx.start w
 replace M := M.argB 0 ib3 (fun g e => by cases e)
 replace M := M.argI 1 hr0 (fun g e => by cases e)
 replace M := M.argI 2 hr4 (fun g e => by cases e)
 refine zT fun _ hK21 => ?_
 refine rm rfl F fun _ F22 => ?_
 refine hK21 _ _ (zS fun _ hK23 => ?_)
 refine zT fun _ hK24 => ?_
 refine zd (za rfl) rfl F22 rfl rfl (zE Try.func15 rfl) #[] (args0) (zh (lknown_any w)) ?_
 rintro _ w25 a25 ⟨rfl, b25⟩ F25
 have M25 := M.step b25
 refine rn rfl rfl F25 rfl (.bool false) (run_not _ _ rfl (F25.get (t := 29) rfl)) fun _ F26 => ?_
 refine hK24 _ _ (wp_cond_false (F26.get rfl) ?_)
 refine wp_skip ?_
 refine hK23 _ _ (zS fun _ hK27 => ?_)
 refine zT fun _ hK28 => ?_
 refine rm rfl F26 fun _ F29 => ?_
 refine rn rfl rfl F29 rfl (.int .i64 (a2.size : Int)) (y_lenS _ rfl (F29.get rfl) rfl) fun _ F30 => ?_
 refine rn rfl rfl F30 rfl (.bool false) (zya _ _ _ _ rfl (F30.get rfl) rfl (decide_eq_false (show ¬ (40 : Int) < (a2.size : Int) by omega))) fun _ F31 => ?_
 refine rm rfl F31 fun _ F32 => ?_
 refine rm rfl F32 fun _ F33 => ?_
 refine ze (w' := w25) (zb rfl rfl rfl (F33.get rfl)) rfl F33 rfl (.int .i64 (l3.length : Int)) (z9 _ rfl (F33.get rfl) (M25.isb (k := 0) rfl) rfl) fun _ F34 => ?_
 refine ze (w' := w25) (zb rfl rfl rfl (F34.get rfl)) rfl F34 rfl (.bool false) (zya _ _ _ _ rfl (F34.get rfl) rfl (decide_eq_false (show ¬ (100 : Int) < (l3.length : Int) by omega))) fun _ F35 => ?_
 refine rn rfl rfl F35 rfl (.bool false) (zqa rfl (F35.get rfl) (F35.get rfl)) fun _ F36 => ?_
 refine hK28 _ _ (wp_cond_false (F36.get rfl) ?_)
 refine wp_skip ?_
 refine hK27 _ _ (zS fun _ hK37 => ?_)
 refine zR ?_
 refine rm rfl F36 fun _ F38 => ?_
 refine hK37 _ _ ?_
 have M39 := M25.nilO 3
 clear M25
 refine zS fun K40 hK40 => ?_
 have J40 : ∀ (L : List UInt8) (v15 : Value) (aJ : Act) (wJ : World), (L.length ≤ 1616) → Fx 163 aJ [(4, .slice A4 n4 cap4), (5, .int .i64 a5), (6, .int .u8 ((c6.toNat : Nat) : Int)), (15, v15)] → Mx none w wJ [(0, bytR l3 (.slice A3 n3 cap3)), (1, intR A0 n0 x0), (2, intR A4 n4 x4), (3, ownR L v15)] → K40 aJ wJ := by
  clear F38 M39
  intro L v15 a40 w40 I40 F40 M40
  refine hK40 _ _ ?_
  have hLa := I40
  refine zS fun K41 hK41 => ?_
  have J41 : ∀ (Z : List UInt8) (vZ : Value) (aJ : Act) (wJ : World), (Z.length ≤ 1616) → Fx 163 aJ [(4, .slice A4 n4 cap4), (15, vZ)] → Mx none w wJ [(0, bytR l3 (.slice A3 n3 cap3)), (1, intR A0 n0 x0), (2, intR A4 n4 x4), (3, ownR Z vZ)] → K41 aJ wJ := by
   clear F40 M40
   intro Z vZ a41 w41 I41 F41 M41
   refine hK41 _ _ ?_
   have hZl := I41
   have M42 := M41.tame (k := 3) rfl
   clear M41
   obtain ⟨Az, cz, rfl⟩ := (M42.isb (k := 3) rfl).shape
   refine zT fun _ hK43 => ?_
   refine zd (za rfl) rfl F41 rfl rfl (zE Try.func26 rfl) #[] (args0) (new_any w41) ?_
   rintro _ w44 a44 ⟨g44, rfl, hg44, hc44, b44⟩ F44
   have M44 := (M42.newb b44 4 hg44 hc44).nilT 5
   clear M42 b44 hg44 hc44
   refine zd (za rfl) rfl F44 rfl rfl (zE Try.func27 rfl) #[] (args0) (rnew_any w44) ?_
   rintro _ w45 a45 ⟨g45, rfl, hg45, hc45, b45⟩ F45
   have M45 := (M44.newb b45 6 hg45 hc45).nilB 7
   clear M44 b45 hg45 hc45
   refine rm rfl F45 fun _ F46 => ?_
   refine rm rfl F46 fun _ F47 => ?_
   refine hK43 _ _ (zS fun _ hK48 => ?_)
   refine zT fun _ hK49 => ?_
   refine rm rfl F47 fun _ F50 => ?_
   refine rn rfl rfl F50 rfl (.bool false) (y_eqPN 46 _ Try.underlying46 (by kernel_rfl) _ rfl (F50.get rfl)) fun _ F51 => ?_
   refine hK49 _ _ (wp_cond_false (F51.get rfl) ?_)
   refine wp_skip ?_
   refine hK48 _ _ (zS fun _ hK52 => ?_)
   refine zR ?_
   refine rm rfl F51 fun _ F53 => ?_
   refine hK52 _ _ (zS fun _ hK54 => ?_)
   refine zT fun _ hK55 => ?_
   refine rm rfl F53 fun _ F56 => ?_
   refine hK55 _ _ (wp_block ?_)
   refine zzb (α := Nat × Nat × Int × Bool × List UInt8 × List UInt8 × Value × Value) (n := 163) (G := none) (w0 := w) (fun x => [(4, .slice A4 n4 cap4), (15, .slice Az Z.length cz), (19, .pointer (some ⟨g44, 0, none⟩)), (20, .pointer (some ⟨g45, 0, none⟩)), (21, .int .i64 (x.1 : Int)), (22, .int .i64 (x.2.1 : Int))]) (fun x => [(0, bytR l3 (.slice A3 n3 cap3)), (1, intR A0 n0 x0), (2, intR A4 n4 x4), (3, bytR Z (.slice Az Z.length cz)), (4, blkR g44 94 (#[x.2.2.2.2.2.2.1, .int .i64 x.2.2.1, .bool x.2.2.2.1])), (5, tlR x.2.2.2.2.1 x.2.2.2.2.2.2.1), (6, blkR g45 96 (#[x.2.2.2.2.2.2.2, .int .i64 x.2.2.1, .bool x.2.2.2.1])), (7, bytR x.2.2.2.2.2.1 x.2.2.2.2.2.2.2)]) (fun k x => k = ((n4 - x.2.1) + (Z.length - x.1) + (1 - x.2.1)) ∧ (x.1 ≤ Z.length ∧ x.2.1 ≤ n4 + x.1 + 1 ∧ 0 ≤ x.2.2.1 ∧ x.2.2.1 ≤ (x.1 : Int) ∧ x.2.2.2.2.1.length ≤ x.1 ∧ x.2.2.2.2.2.1.length ≤ x.1 ∧ (x.2.2.2.1 = false → x.2.2.2.2.2.1 = x.2.2.2.2.1) ∧ (x.2.2.2.1 = true → x.2.2.2.2.1 = []))) _ ⟨0, 0, 0, false, [], [], zN, zN⟩ ⟨rfl, ⟨Nat.zero_le _, Nat.zero_le _, by decide, by decide, by decide, by decide, fun _ => rfl, fun e => by cases e⟩⟩ (F56.sub ⟨rfl, rfl, rfl, rfl, rfl, rfl, trivial⟩) (M45.sub ⟨rfl, rfl, rfl, rfl, rfl, rfl, rfl, rfl, trivial⟩) ?_
   clear F56 M45
   rintro k57 ⟨kp, jn, nt, bt, L, L2, u, u2⟩ a57 w57 K57 ⟨ek57, I57⟩ F57 M57 hK57
   replace F57 : Fx 163 a57 [(4, .slice A4 n4 cap4), (15, .slice Az Z.length cz), (19, .pointer (some ⟨g44, 0, none⟩)), (20, .pointer (some ⟨g45, 0, none⟩)), (21, .int .i64 (kp : Int)), (22, .int .i64 (jn : Int))] := F57
   replace M57 : Mx _ _ w57 [(0, bytR l3 (.slice A3 n3 cap3)), (1, intR A0 n0 x0), (2, intR A4 n4 x4), (3, bytR Z (.slice Az Z.length cz)), (4, blkR g44 94 (#[u, .int .i64 nt, .bool bt])), (5, tlR L u), (6, blkR g45 96 (#[u2, .int .i64 nt, .bool bt])), (7, bytR L2 u2)] := M57
   replace I57 : kp ≤ Z.length ∧ jn ≤ n4 + kp + 1 ∧ 0 ≤ nt ∧ nt ≤ (kp : Int) ∧ L.length ≤ kp ∧ L2.length ≤ kp ∧ (bt = false → L2 = L) ∧ (bt = true → L = []) := I57
   replace ek57 : k57 = ((n4 - jn) + (Z.length - kp) + (1 - jn)) := ek57
   obtain ⟨hkz, hjk, hn0, hn1, hl1, hl2, hf, ht⟩ := I57
   obtain ⟨oke, hoke⟩ : ∃ b, wrOk nt bt = b := ⟨_, rfl⟩
   refine zS fun K58 hK58 => ?_
   have J58 : ∀  (aJ : Act) (wJ : World), (kp < Z.length ∨ jn = 0) → Fx 163 aJ [(4, .slice A4 n4 cap4), (15, .slice Az Z.length cz), (19, .pointer (some ⟨g44, 0, none⟩)), (20, .pointer (some ⟨g45, 0, none⟩)), (21, .int .i64 (kp : Int)), (22, .int .i64 (jn : Int))] → Mx none w wJ [(0, bytR l3 (.slice A3 n3 cap3)), (1, intR A0 n0 x0), (2, intR A4 n4 x4), (3, bytR Z (.slice Az Z.length cz)), (4, blkR g44 94 (#[u, .int .i64 nt, .bool bt])), (5, tlR L u), (6, blkR g45 96 (#[u2, .int .i64 nt, .bool bt])), (7, bytR L2 u2)] → K58 aJ wJ := by
    clear F57 M57
    intro  a58 w58 I58 F58 M58
    refine hK58 _ _ ?_
    have hent := I58
    refine zS fun _ hK59 => ?_
    refine wp_block ?_
    refine zT fun _ hK60 => ?_
    refine rm rfl F58 fun _ F61 => ?_
    refine hK60 _ _ (zS fun K62 hK62 => ?_)
    have J62 : ∀ (cc : Nat) (aJ : Act) (wJ : World), ((jn < n4 ∨ cc = 1) ∧ cc ≤ 60) → Fx 163 aJ [(4, .slice A4 n4 cap4), (15, .slice Az Z.length cz), (19, .pointer (some ⟨g44, 0, none⟩)), (20, .pointer (some ⟨g45, 0, none⟩)), (21, .int .i64 (kp : Int)), (22, .int .i64 (jn : Int)), (23, .int .i64 (cc : Int))] → Mx none w wJ [(0, bytR l3 (.slice A3 n3 cap3)), (1, intR A0 n0 x0), (2, intR A4 n4 x4), (3, bytR Z (.slice Az Z.length cz)), (4, blkR g44 94 (#[u, .int .i64 nt, .bool bt])), (5, tlR L u), (6, blkR g45 96 (#[u2, .int .i64 nt, .bool bt])), (7, bytR L2 u2)] → K62 aJ wJ := by
     clear F61 M58
     intro cc a62 w62 I62 F62 M62
     refine hK62 _ _ ?_
     obtain ⟨hcc, hcb⟩ := I62
     obtain ⟨c2, hc2⟩ : ∃ x, min cc (Z.length - kp) = x := ⟨_, rfl⟩
     have hc3 : kp + c2 ≤ Z.length := by omega
     have hP : ((Z.drop kp).take ((kp + c2) - kp)).length = c2 := by rw [List.length_take, List.length_drop]; omega
     obtain ⟨okw, hokw⟩ : ∃ b, (!bt) = b := ⟨_, rfl⟩
     obtain ⟨v1, v2, v3, v4, v5, v6⟩ := wr_pair (P := ((Z.drop kp).take ((kp + c2) - kp))) hokw hf hn0
     refine zT fun _ hK63 => ?_
     refine rm rfl F62 fun _ F64 => ?_
     refine rm rfl F64 fun _ F65 => ?_
     refine rn rfl rfl F65 rfl (.int .i64 (Z.length : Int)) (z9 _ rfl (F65.get rfl) (M62.isb (k := 3) rfl) rfl) fun _ F66 => ?_
     refine rm rfl F66 fun _ F67 => ?_
     refine rn rfl rfl F67 rfl (.int .i64 ((Z.length - kp : Nat) : Int)) (y_subI _ _ _ _ rfl (F67.get rfl) (F67.get rfl) (by omega) (by omega)) fun _ F68 => ?_
     refine rn rfl rfl F68 rfl (.int .i64 (c2 : Int)) (y_min _ _ rfl (F68.get rfl) (F68.get rfl) (by split <;> omega)) fun _ F69 => ?_
     refine rm rfl F69 fun _ F70 => ?_
     refine hK63 _ _ (zS fun _ hK71 => ?_)
     refine zS fun _ hK72 => ?_
     refine z1b F70 [fun vE => vE = .pointer (some ⟨g44, 0, none⟩), fun vE => vE = .slice Az Z.length cz, fun vE => vE = .int .i64 (kp : Int), fun vE => vE = .int .i64 (kp : Int), fun vE => vE = .int .i64 (c2 : Int), fun vE => vE = .int .i64 ((kp + c2 : Nat) : Int), fun _ => True, fun vE => vE = .bool okw, fun vE => vE = .pointer (some ⟨g45, 0, none⟩), fun vE => vE = .slice Az Z.length cz, fun vE => vE = .int .i64 (kp : Int), fun vE => vE = .int .i64 (kp : Int), fun vE => vE = .int .i64 (c2 : Int), fun vE => vE = .int .i64 ((kp + c2 : Nat) : Int), fun _ => True] (JQ none w (fun SV => True) (fun (xJ : Value × Value) SV pV => [(0, bytR l3 (.slice A3 n3 cap3)), (1, intR A0 n0 x0), (2, intR A4 n4 x4), (3, bytR Z (.slice Az Z.length cz)), (4, eitherR (SV 7) (blkR g44 94 #[xJ.1, .int .i64 (wrN okw nt ((Z.drop kp).take ((kp + c2) - kp))), .bool (!okw)]) (blkR g44 94 (#[u, .int .i64 nt, .bool bt]))), (5, eitherR (SV 7) (tlR (wrL okw L ((Z.drop kp).take ((kp + c2) - kp))) xJ.1) (tlR L u)), (6, blkR g45 96 (#[u2, .int .i64 nt, .bool bt])), (7, bytR L2 u2), (8, condR (SV 6) (bytR ((Z.drop kp).take ((kp + c2) - kp)) (pV 6))), (9, condR (SV 14) (bytR ((Z.drop kp).take ((kp + c2) - kp)) (pV 14)))])) 15 rfl (by kernel_rfl) rfl ⟨trivial, trivial, trivial, trivial, trivial, trivial, trivial, trivial, trivial, trivial, trivial, trivial, trivial, trivial, trivial, trivial⟩ (fun p => JQ.mk trivial (.int .i64 0, .int .i64 0) ((((M62.step (zib _)).triv 8).triv 9).sub ⟨rfl, rfl, rfl, rfl, rfl, rfl, rfl, rfl, rfl, rfl, trivial⟩)) ⟨?_, ?_, ?_, ?_, ?_, ?_, ?_, ?_, ?_, ?_, ?_, ?_, ?_, ?_, ?_, trivial⟩ ?_
     ·intro ua uw SV pV M0 hk hn hd
      obtain ⟨HP, xJ, M⟩ := M0
      replace M : Mx none w uw _ := M
      have e19 : ua.eval (.tmp 19) = .pointer (some ⟨g44, 0, none⟩) := (show ua.eval (.tmp 19) = _ from hd 19 (by decide)).trans (F70.get (t := 19) rfl)
      exact zl (za rfl) (.pointer (some ⟨g44, 0, none⟩)) (zua _ (.inl rfl) e19) rfl ((JQ.mk trivial xJ (M.sub ⟨rfl, rfl, rfl, rfl, rfl, rfl, rfl, rfl, rfl, rfl, trivial⟩)))
     ·intro ua uw SV pV M0 hk hn hd
      obtain ⟨HP, xJ, M⟩ := M0
      replace M : Mx none w uw _ := M
      have e15 : ua.eval (.tmp 15) = .slice Az Z.length cz := (show ua.eval (.tmp 15) = _ from hd 15 (by decide)).trans (F70.get (t := 15) rfl)
      exact zl (za rfl) (.slice Az Z.length cz) (zua _ (.inl rfl) e15) rfl ((JQ.mk trivial xJ (M.sub ⟨rfl, rfl, rfl, rfl, rfl, rfl, rfl, rfl, rfl, rfl, trivial⟩)))
     ·intro ua uw SV pV M0 hk hn hd
      obtain ⟨HP, xJ, M⟩ := M0
      replace M : Mx none w uw _ := M
      have e21 : ua.eval (.tmp 21) = .int .i64 (kp : Int) := (show ua.eval (.tmp 21) = _ from hd 21 (by decide)).trans (F70.get (t := 21) rfl)
      exact zl (za rfl) (.int .i64 (kp : Int)) (zua _ (.inl rfl) e21) rfl ((JQ.mk trivial xJ (M.sub ⟨rfl, rfl, rfl, rfl, rfl, rfl, rfl, rfl, rfl, rfl, trivial⟩)))
     ·intro ua uw SV pV M0 hk hn hd
      obtain ⟨HP, xJ, M⟩ := M0
      replace M : Mx none w uw _ := M
      have e21 : ua.eval (.tmp 21) = .int .i64 (kp : Int) := (show ua.eval (.tmp 21) = _ from hd 21 (by decide)).trans (F70.get (t := 21) rfl)
      exact zl (za rfl) (.int .i64 (kp : Int)) (zua _ (.inl rfl) e21) rfl ((JQ.mk trivial xJ (M.sub ⟨rfl, rfl, rfl, rfl, rfl, rfl, rfl, rfl, rfl, rfl, trivial⟩)))
     ·intro ua uw SV pV M0 hk hn hd
      obtain ⟨HP, xJ, M⟩ := M0
      replace M : Mx none w uw _ := M
      have e23 : ua.eval (.tmp 23) = .int .i64 (c2 : Int) := (show ua.eval (.tmp 23) = _ from hd 23 (by decide)).trans (F70.get (t := 23) rfl)
      exact zl (za rfl) (.int .i64 (c2 : Int)) (zua _ (.inl rfl) e23) rfl ((JQ.mk trivial xJ (M.sub ⟨rfl, rfl, rfl, rfl, rfl, rfl, rfl, rfl, rfl, rfl, trivial⟩)))
     ·intro ua uw SV pV M0 hk hn hd
      obtain ⟨HP, xJ, M⟩ := M0
      replace M : Mx none w uw _ := M
      obtain ⟨s3, f111, q111⟩ := (show SV 3 = true ∧ ua.eval (.tmp 111) = pV 3 ∧ stE _ 3 (pV 3) from hd 111 (by decide))
      have e111 : ua.eval (.tmp 111) = .int .i64 (kp : Int) := f111.trans q111
      obtain ⟨s4, f112, q112⟩ := (show SV 4 = true ∧ ua.eval (.tmp 112) = pV 4 ∧ stE _ 4 (pV 4) from hd 112 (by decide))
      have e112 : ua.eval (.tmp 112) = .int .i64 (c2 : Int) := f112.trans q112
      exact zl (za rfl) (.int .i64 ((kp + c2 : Nat) : Int)) (zz _ _ _ _ rfl e111 e112 (by omega) (by omega)) rfl ((JQ.mk trivial xJ (M.sub ⟨rfl, rfl, rfl, rfl, rfl, rfl, rfl, rfl, rfl, rfl, trivial⟩)))
     ·intro ua uw SV pV M0 hk hn hd
      obtain ⟨HP, xJ, M⟩ := M0
      replace M : Mx none w uw _ := M
      obtain ⟨s1, f109, q109⟩ := (show SV 1 = true ∧ ua.eval (.tmp 109) = pV 1 ∧ stE _ 1 (pV 1) from hd 109 (by decide))
      have e109 : ua.eval (.tmp 109) = .slice Az Z.length cz := f109.trans q109
      obtain ⟨s2, f110, q110⟩ := (show SV 2 = true ∧ ua.eval (.tmp 110) = pV 2 ∧ stE _ 2 (pV 2) from hd 110 (by decide))
      have e110 : ua.eval (.tmp 110) = .int .i64 (kp : Int) := f110.trans q110
      obtain ⟨s5, f113, q113⟩ := (show SV 5 = true ∧ ua.eval (.tmp 113) = pV 5 ∧ stE _ 5 (pV 5) from hd 113 (by decide))
      have e113 : ua.eval (.tmp 113) = .int .i64 ((kp + c2 : Nat) : Int) := f113.trans q113
      exact hopM_exE (za rfl) (y_slOf _ _ _ rfl e109 (M.isb (k := 3) rfl) e110 (i := kp) rfl e113 (j := (kp + c2)) rfl (by omega) (by omega)) fun v h => ⟨trivial, (JQ.mk trivial xJ ((M.partB 8 (k := 3) rfl h.1 h.2).sub ⟨rfl, rfl, rfl, rfl, rfl, rfl, rfl, rfl, rfl, rfl, trivial⟩))⟩
     ·intro ua uw SV pV M0 hk hn hd
      obtain ⟨HP, xJ, M⟩ := M0
      replace M : Mx none w uw _ := M
      obtain ⟨s0, f108, q108⟩ := (show SV 0 = true ∧ ua.eval (.tmp 108) = pV 0 ∧ stE _ 0 (pV 0) from hd 108 (by decide))
      have e108 : ua.eval (.tmp 108) = .pointer (some ⟨g44, 0, none⟩) := f108.trans q108
      obtain ⟨s6, f114, q114⟩ := (show SV 6 = true ∧ ua.eval (.tmp 114) = pV 6 ∧ stE _ 6 (pV 6) from hd 114 (by decide))
      have e114 : ua.eval (.tmp 114) = (pV 6) := f114
      exact hopM_call (za rfl) rfl #[.pointer (some ⟨g44, 0, none⟩), (pV 6)] (zea e108 e114) (zE Try.func28 rfl) ((swrite_any M 4 5 8 g44 L ((Z.drop kp).take ((kp + c2) - kp)) u (pV 6) nt bt (eitherR_r hk rfl) (eitherR_r hk rfl) (condR_look s6 rfl) (by decide) (by decide) (by first | omega | (simp; omega)) ⟨by omega, by omega⟩ okw ((wrOk_s _ (by omega)).trans hokw)).mono fun e w2 h => (by obtain ⟨t, h1, u2_, N, h2⟩ := h; exact ⟨t, h1, h2, (JQ.mk trivial (u2_, xJ.2) (N.sub ⟨rfl, rfl, rfl, rfl, rfl, rfl, rfl, rfl, rfl, rfl, trivial⟩))⟩))
     ·intro ua uw SV pV M0 hk hn hd
      obtain ⟨HP, xJ, M⟩ := M0
      replace M : Mx none w uw _ := M
      have e20 : ua.eval (.tmp 20) = .pointer (some ⟨g45, 0, none⟩) := (show ua.eval (.tmp 20) = _ from hd 20 (by decide)).trans (F70.get (t := 20) rfl)
      exact zl (za rfl) (.pointer (some ⟨g45, 0, none⟩)) (zua _ (.inl rfl) e20) rfl ((JQ.mk trivial xJ (M.sub ⟨rfl, rfl, rfl, rfl, rfl, rfl, rfl, rfl, rfl, rfl, trivial⟩)))
     ·intro ua uw SV pV M0 hk hn hd
      obtain ⟨HP, xJ, M⟩ := M0
      replace M : Mx none w uw _ := M
      have e15 : ua.eval (.tmp 15) = .slice Az Z.length cz := (show ua.eval (.tmp 15) = _ from hd 15 (by decide)).trans (F70.get (t := 15) rfl)
      exact zl (za rfl) (.slice Az Z.length cz) (zua _ (.inl rfl) e15) rfl ((JQ.mk trivial xJ (M.sub ⟨rfl, rfl, rfl, rfl, rfl, rfl, rfl, rfl, rfl, rfl, trivial⟩)))
     ·intro ua uw SV pV M0 hk hn hd
      obtain ⟨HP, xJ, M⟩ := M0
      replace M : Mx none w uw _ := M
      have e21 : ua.eval (.tmp 21) = .int .i64 (kp : Int) := (show ua.eval (.tmp 21) = _ from hd 21 (by decide)).trans (F70.get (t := 21) rfl)
      exact zl (za rfl) (.int .i64 (kp : Int)) (zua _ (.inl rfl) e21) rfl ((JQ.mk trivial xJ (M.sub ⟨rfl, rfl, rfl, rfl, rfl, rfl, rfl, rfl, rfl, rfl, trivial⟩)))
     ·intro ua uw SV pV M0 hk hn hd
      obtain ⟨HP, xJ, M⟩ := M0
      replace M : Mx none w uw _ := M
      have e21 : ua.eval (.tmp 21) = .int .i64 (kp : Int) := (show ua.eval (.tmp 21) = _ from hd 21 (by decide)).trans (F70.get (t := 21) rfl)
      exact zl (za rfl) (.int .i64 (kp : Int)) (zua _ (.inl rfl) e21) rfl ((JQ.mk trivial xJ (M.sub ⟨rfl, rfl, rfl, rfl, rfl, rfl, rfl, rfl, rfl, rfl, trivial⟩)))
     ·intro ua uw SV pV M0 hk hn hd
      obtain ⟨HP, xJ, M⟩ := M0
      replace M : Mx none w uw _ := M
      have e23 : ua.eval (.tmp 23) = .int .i64 (c2 : Int) := (show ua.eval (.tmp 23) = _ from hd 23 (by decide)).trans (F70.get (t := 23) rfl)
      exact zl (za rfl) (.int .i64 (c2 : Int)) (zua _ (.inl rfl) e23) rfl ((JQ.mk trivial xJ (M.sub ⟨rfl, rfl, rfl, rfl, rfl, rfl, rfl, rfl, rfl, rfl, trivial⟩)))
     ·intro ua uw SV pV M0 hk hn hd
      obtain ⟨HP, xJ, M⟩ := M0
      replace M : Mx none w uw _ := M
      obtain ⟨s11, f119, q119⟩ := (show SV 11 = true ∧ ua.eval (.tmp 119) = pV 11 ∧ stE _ 11 (pV 11) from hd 119 (by decide))
      have e119 : ua.eval (.tmp 119) = .int .i64 (kp : Int) := f119.trans q119
      obtain ⟨s12, f120, q120⟩ := (show SV 12 = true ∧ ua.eval (.tmp 120) = pV 12 ∧ stE _ 12 (pV 12) from hd 120 (by decide))
      have e120 : ua.eval (.tmp 120) = .int .i64 (c2 : Int) := f120.trans q120
      exact zl (za rfl) (.int .i64 ((kp + c2 : Nat) : Int)) (zz _ _ _ _ rfl e119 e120 (by omega) (by omega)) rfl ((JQ.mk trivial xJ (M.sub ⟨rfl, rfl, rfl, rfl, rfl, rfl, rfl, rfl, rfl, rfl, trivial⟩)))
     ·intro ua uw SV pV M0 hk hn hd
      obtain ⟨HP, xJ, M⟩ := M0
      replace M : Mx none w uw _ := M
      obtain ⟨s9, f117, q117⟩ := (show SV 9 = true ∧ ua.eval (.tmp 117) = pV 9 ∧ stE _ 9 (pV 9) from hd 117 (by decide))
      have e117 : ua.eval (.tmp 117) = .slice Az Z.length cz := f117.trans q117
      obtain ⟨s10, f118, q118⟩ := (show SV 10 = true ∧ ua.eval (.tmp 118) = pV 10 ∧ stE _ 10 (pV 10) from hd 118 (by decide))
      have e118 : ua.eval (.tmp 118) = .int .i64 (kp : Int) := f118.trans q118
      obtain ⟨s13, f121, q121⟩ := (show SV 13 = true ∧ ua.eval (.tmp 121) = pV 13 ∧ stE _ 13 (pV 13) from hd 121 (by decide))
      have e121 : ua.eval (.tmp 121) = .int .i64 ((kp + c2 : Nat) : Int) := f121.trans q121
      exact hopM_exE (za rfl) (y_slOf _ _ _ rfl e117 (M.isb (k := 3) rfl) e118 (i := kp) rfl e121 (j := (kp + c2)) rfl (by omega) (by omega)) fun v h => ⟨trivial, (JQ.mk trivial xJ ((M.partB 9 (k := 3) rfl h.1 h.2).sub ⟨rfl, rfl, rfl, rfl, rfl, rfl, rfl, rfl, rfl, rfl, trivial⟩))⟩
     intro p73 a73 w73 M73 G73 y73
     obtain ⟨-, -, -, -, -, -, -, q7, q8, -, -, -, -, -, q14, -⟩ := y73
     have r7 : p73 7 = .bool okw := q7
     have r8 : p73 8 = .pointer (some ⟨g45, 0, none⟩) := q8
     obtain ⟨-, xJ73, M73⟩ := M73
     replace M73 : Mx _ _ w73 [(0, bytR l3 (.slice A3 n3 cap3)), (1, intR A0 n0 x0), (2, intR A4 n4 x4), (3, bytR Z (.slice Az Z.length cz)), (4, eitherR true (blkR g44 94 #[xJ73.1, .int .i64 (wrN okw nt ((Z.drop kp).take ((kp + c2) - kp))), .bool (!okw)]) (blkR g44 94 (#[u, .int .i64 nt, .bool bt]))), (5, eitherR true (tlR (wrL okw L ((Z.drop kp).take ((kp + c2) - kp))) xJ73.1) (tlR L u)), (6, blkR g45 96 (#[u2, .int .i64 nt, .bool bt])), (7, bytR L2 u2), (8, condR true (bytR ((Z.drop kp).take ((kp + c2) - kp)) (p73 6))), (9, condR true (bytR ((Z.drop kp).take ((kp + c2) - kp)) (p73 14)))] := M73
     simp only [List.take, layV, Nat.zero_add, Nat.reduceAdd, r7, r8] at G73
     obtain ⟨Ap73_8, cp73_8, hp73_8⟩ := (M73.isb (k := 8) rfl).shape
     rw [hp73_8] at M73
     try rw [hp73_8] at G73
     obtain ⟨Ap73_9, cp73_9, hp73_9⟩ := (M73.isb (k := 9) rfl).shape
     rw [hp73_9] at M73
     try rw [hp73_9] at G73
     refine zd (za rfl) rfl G73 rfl rfl (zE Try.func29 rfl) #[.pointer (some ⟨g45, 0, none⟩), (.slice Ap73_9 (((Z.drop kp).take ((kp + c2) - kp))).length cp73_9)] (zea (G73.get rfl) (G73.get rfl)) (rwrite_any M73 6 7 9 g45 L2 ((Z.drop kp).take ((kp + c2) - kp)) u2 (.slice Ap73_9 (((Z.drop kp).take ((kp + c2) - kp))).length cp73_9) nt bt rfl rfl rfl (by decide) (by decide) (by first | omega | (simp; omega)) ⟨by omega, by omega⟩ okw ((wrOk_s _ (by omega)).trans hokw)) ?_
     rintro _ w74 a74 ⟨u74, N74, rfl⟩ F74
     skip
     skip
     clear M73
     refine rn rfl rfl F74 rfl (.bool false) (y_neB _ _ rfl (F74.get rfl) (F74.get rfl) (by cases okw <;> rfl)) fun _ F75 => ?_
     refine hK72 _ _ (wp_cond_false (F75.get rfl) ?_)
     refine wp_skip ?_
     refine hK71 _ _ (zS fun _ hK76 => ?_)
     refine zR ?_
     refine rm rfl F75 fun _ F77 => ?_
     refine rm rfl F77 fun _ F78 => ?_
     refine rn rfl rfl F78 rfl (.int .i64 ((kp + c2 : Nat) : Int)) (zz _ _ _ _ rfl (F78.get rfl) (F78.get rfl) (by omega) (by omega)) fun _ F79 => ?_
     refine rm rfl F79 fun _ F80 => ?_
     refine hK76 _ _ (zS fun _ hK81 => ?_)
     refine zR ?_
     refine rm rfl F80 fun _ F82 => ?_
     refine hK81 _ _ (wp_block ?_)
     refine zzb (α := Nat × Bool × List UInt8 × List UInt8 × Value × Value) (n := 163) (G := none) (w0 := w) (fun x => [(4, .slice A4 n4 cap4), (15, .slice Az Z.length cz), (19, .pointer (some ⟨g44, 0, none⟩)), (20, .pointer (some ⟨g45, 0, none⟩)), (21, .int .i64 ((kp + c2 : Nat) : Int)), (22, .int .i64 (jn : Int)), (24, .int .i64 (x.1 : Int))]) (fun x => [(0, bytR l3 (.slice A3 n3 cap3)), (1, intR A0 n0 x0), (2, intR A4 n4 x4), (3, bytR Z (.slice Az Z.length cz)), (4, blkR g44 94 (#[x.2.2.2.2.1, .int .i64 (wrN okw nt ((Z.drop kp).take ((kp + c2) - kp))), .bool x.2.1])), (5, tlR x.2.2.1 x.2.2.2.2.1), (6, blkR g45 96 (#[x.2.2.2.2.2, .int .i64 (wrN okw nt ((Z.drop kp).take ((kp + c2) - kp))), .bool x.2.1])), (7, bytR x.2.2.2.1 x.2.2.2.2.2), (8, bytR ((Z.drop kp).take ((kp + c2) - kp)) (.slice Ap73_8 (((Z.drop kp).take ((kp + c2) - kp))).length cp73_8)), (9, bytR ((Z.drop kp).take ((kp + c2) - kp)) (.slice Ap73_9 (((Z.drop kp).take ((kp + c2) - kp))).length cp73_9))]) (fun k x => k = (3 - x.1) ∧ (x.1 ≤ 3 ∧ x.2.2.1.length ≤ kp + c2 ∧ x.2.2.2.1.length ≤ kp + c2 ∧ (x.2.1 = false → x.2.2.2.1 = x.2.2.1) ∧ (x.2.1 = true → x.2.2.1 = []))) _ ⟨0, (!okw), (wrL okw L ((Z.drop kp).take ((kp + c2) - kp))), (wrR okw L2 ((Z.drop kp).take ((kp + c2) - kp))), xJ73.1, u74⟩ ⟨rfl, ⟨Nat.zero_le _, by (dsimp only; omega), by (dsimp only; omega), v1, v2⟩⟩ (F82.sub ⟨rfl, rfl, rfl, rfl, rfl, rfl, rfl, trivial⟩) (N74.sub ⟨rfl, rfl, rfl, rfl, rfl, rfl, rfl, rfl, rfl, rfl, trivial⟩) ?_
     clear F82 N74
     rintro k83 ⟨j3, ba, La, Lb, ua, ub⟩ a83 w83 K83 ⟨ek83, I83⟩ F83 M83 hK83
     replace F83 : Fx 163 a83 [(4, .slice A4 n4 cap4), (15, .slice Az Z.length cz), (19, .pointer (some ⟨g44, 0, none⟩)), (20, .pointer (some ⟨g45, 0, none⟩)), (21, .int .i64 ((kp + c2 : Nat) : Int)), (22, .int .i64 (jn : Int)), (24, .int .i64 (j3 : Int))] := F83
     replace M83 : Mx _ _ w83 [(0, bytR l3 (.slice A3 n3 cap3)), (1, intR A0 n0 x0), (2, intR A4 n4 x4), (3, bytR Z (.slice Az Z.length cz)), (4, blkR g44 94 (#[ua, .int .i64 (wrN okw nt ((Z.drop kp).take ((kp + c2) - kp))), .bool ba])), (5, tlR La ua), (6, blkR g45 96 (#[ub, .int .i64 (wrN okw nt ((Z.drop kp).take ((kp + c2) - kp))), .bool ba])), (7, bytR Lb ub), (8, bytR ((Z.drop kp).take ((kp + c2) - kp)) (.slice Ap73_8 (((Z.drop kp).take ((kp + c2) - kp))).length cp73_8)), (9, bytR ((Z.drop kp).take ((kp + c2) - kp)) (.slice Ap73_9 (((Z.drop kp).take ((kp + c2) - kp))).length cp73_9))] := M83
     replace I83 : j3 ≤ 3 ∧ La.length ≤ kp + c2 ∧ Lb.length ≤ kp + c2 ∧ (ba = false → Lb = La) ∧ (ba = true → La = []) := I83
     replace ek83 : k83 = (3 - j3) := ek83
     obtain ⟨h3, hla, hlb, hf3, ht3⟩ := I83
     by_cases hx3 : j3 < 3
     ·obtain ⟨mx, hmx⟩ : ∃ m, nxM La = m := ⟨_, rfl⟩
      obtain ⟨okx, hokx⟩ : ∃ m, nxOk La = m := ⟨_, rfl⟩
      obtain ⟨bx, hbx⟩ : ∃ m, (ba || nxBad La) = m := ⟨_, rfl⟩
      have hmo := (nxM_ok La).1
      rw [hmx] at hmo
      obtain ⟨p1, p2, p3, p4, p5, p6, p7⟩ := nx_pair hf3 ht3
      rw [hbx] at p4 p5
      refine zS fun _ hK84 => zS fun _ hK85 => ?_
      refine zR ?_
      refine rm rfl F83 fun _ F86 => ?_
      refine rn rfl rfl F86 rfl (.bool true) (zoa _ _ _ _ rfl (F86.get rfl) rfl (decide_eq_true (show (j3 : Int) < 3 by omega))) fun _ F87 => ?_
      refine hK85 _ _ (wp_cond_true (F87.get rfl) ?_)
      refine wp_skip ?_
      refine hK84 _ _ (zS fun _ hK88 => ?_)
      refine wp_block ?_
      refine zT fun _ hK89 => ?_
      refine rm rfl F87 fun _ F90 => ?_
      refine zd (za rfl) rfl F90 rfl rfl (zE Try.func30 rfl) #[.pointer (some ⟨g44, 0, none⟩)] (zp (F90.get rfl)) (next_is M83 4 5 g44 La ua (wrN okw nt ((Z.drop kp).take ((kp + c2) - kp))) ba rfl rfl (by decide) (by omega) 10 11 12 13 14 mx okx bx (nxL La) hmx hokx hbx rfl) ?_
      rintro _ w91 a91 ⟨u91, V91, N91, rfl⟩ F91
      clear M83
      refine zA 3 [(132, .tuple #[.agg (msgA mx V91), .bool okx]), (135, .agg (msgA mx V91)), (136, .bool okx)] [] dnil [] F91 fun _ F92 => ?_
      refine zf (za rfl) rfl F92 rfl N91 15 (t := 29) (c := msgA ⟨0, 0, 0, 0, "".toUTF8, 0, 0, [], [], [], [], []⟩ ⟨zN, zN, zN, zN, zN⟩) (by unfold execOp; kernel_rfl) ?_
      intro g93 a93 w93 F93 M93
      clear F92 N91
      refine zn (za rfl) rfl F93 M93 (k := 15) rfl _ _ _ rfl (F93.get rfl) (F93.get rfl) (msgA mx V91) _ rfl (zL rfl) (zy (w := w93) ⟨(M93.isb (k := 10) rfl), (M93.isb (k := 11) rfl), (M93.isb (k := 12) rfl), (M93.isb (k := 13) rfl), (M93.isb (k := 14) rfl)⟩) (zt rfl) (by kernel_rfl) ?_
      intro w94 M94
      clear M93
      refine rm rfl F93 fun _ F95 => ?_
      refine hK89 _ _ (zS fun _ hK96 => ?_)
      refine zR ?_
      refine rm rfl F95 fun _ F97 => ?_
      refine zd (za rfl) rfl F97 rfl rfl (zE Try.func31 rfl) #[.pointer (some ⟨g45, 0, none⟩)] (zp (F97.get rfl)) (rnextc_is M94 6 7 g45 Lb ub (wrN okw nt ((Z.drop kp).take ((kp + c2) - kp))) ba rfl rfl (by decide) (by omega) 16 17 18 19 20 mx okx bx (cond ba Lb (nxR Lb)) (p1.trans hmx) (p2.trans hokx) (p3.trans hbx) rfl) ?_
      rintro _ w98 a98 ⟨u98, V98, N98, rfl⟩ F98
      clear M94
      refine zA 3 [(137, .tuple #[.agg (msgA mx V98), .bool okx]), (140, .agg (msgA mx V98)), (141, .bool okx)] [] dnil [] F98 fun _ F99 => ?_
      refine zf (za rfl) rfl F99 rfl N98 21 (t := 29) (c := msgA ⟨0, 0, 0, 0, "".toUTF8, 0, 0, [], [], [], [], []⟩ ⟨zN, zN, zN, zN, zN⟩) (by unfold execOp; kernel_rfl) ?_
      intro g100 a100 w100 F100 M100
      clear F99 N98
      refine zn (za rfl) rfl F100 M100 (k := 21) rfl _ _ _ rfl (F100.get rfl) (F100.get rfl) (msgA mx V98) _ rfl (zL rfl) (zy (w := w100) ⟨(M100.isb (k := 16) rfl), (M100.isb (k := 17) rfl), (M100.isb (k := 18) rfl), (M100.isb (k := 19) rfl), (M100.isb (k := 20) rfl)⟩) (zt rfl) (by kernel_rfl) ?_
      intro w101 M101
      clear M100
      refine rm rfl F100 fun _ F102 => ?_
      refine hK96 _ _ (zS fun _ hK103 => ?_)
      refine zR ?_
      refine rm rfl F102 fun _ F104 => ?_
      refine rm rfl F104 fun _ F105 => ?_
      refine rn rfl rfl F105 rfl (.bool false) (y_neB _ _ rfl (F105.get rfl) (F105.get rfl) (by cases okx <;> rfl)) fun _ F106 => ?_
      refine zA 3 [(145, .bool false), (146, .agg (msgA mx V91)), (147, .agg (msgA mx V98))] [0, 1] (zj (M101.blk (k := 15) rfl) (zj (M101.blk (k := 21) rfl) dnil)) [g93, g100] F106 fun _ F107 => ?_
      refine zd (zb rfl rfl rfl (F107.get rfl)) rfl F107 rfl rfl (zE Try.func21 rfl) #[.agg (msgA mx V91), .agg (msgA mx V98)] (zea (F107.get rfl) (F107.get rfl)) (zh ((msgs_is mx mx V91 V98 hmo hmo true (eqM_self mx) w101 ⟨(M101.isb (k := 10) rfl), (M101.isb (k := 11) rfl), (M101.isb (k := 12) rfl), (M101.isb (k := 13) rfl), (M101.isb (k := 14) rfl)⟩ ⟨(M101.isb (k := 16) rfl), (M101.isb (k := 17) rfl), (M101.isb (k := 18) rfl), (M101.isb (k := 19) rfl), (M101.isb (k := 20) rfl)⟩))) ?_
      rintro _ w108 a108 ⟨rfl, b108⟩ F108
      have M108 := M101.step b108
      refine zA 4 [(149, .bool false), (150, .bool false), (151, .bool false), (152, .pointer (some ⟨g44, 0, none⟩))] [] dnil [] F108 fun _ F109 => ?_
      refine zd (zb rfl rfl rfl (F109.get rfl)) rfl F109 rfl rfl (zE Try.func32 rfl) #[.pointer (some ⟨g44, 0, none⟩)] (zp (F109.get rfl)) (zh ((bad_any g44 u91 (wrN okw nt ((Z.drop kp).take ((kp + c2) - kp))) bx w108 (M108.blk (k := 4) rfl)))) ?_
      rintro _ w110 a110 ⟨rfl, b110⟩ F110
      have M110 := M108.step b110
      refine rm rfl F110 fun _ F111 => ?_
      refine zd (zb rfl rfl rfl (F111.get rfl)) rfl F111 rfl rfl (zE Try.func33 rfl) #[.pointer (some ⟨g45, 0, none⟩)] (zp (F111.get rfl)) (zh ((rbad_any g45 u98 (wrN okw nt ((Z.drop kp).take ((kp + c2) - kp))) bx w110 (M110.blk (k := 6) rfl)))) ?_
      rintro _ w112 a112 ⟨rfl, b112⟩ F112
      have M112 := M110.step b112
      refine ze (w' := w112) (zb rfl rfl rfl (F112.get rfl)) rfl F112 rfl (.bool false) (y_neB _ _ rfl (F112.get rfl) (F112.get rfl) (by cases bx <;> rfl)) fun _ F113 => ?_
      refine rn rfl rfl F113 rfl (.bool false) (zqa rfl (F113.get rfl) (F113.get rfl)) fun _ F114 => ?_
      refine hK103 _ _ (wp_cond_false (F114.get rfl) ?_)
      refine wp_skip ?_
      refine hK88 _ _ (zR ?_)
      refine rm rfl F114 fun _ F115 => ?_
      refine rn rfl rfl F115 rfl (.int .i64 ((j3 + 1 : Nat) : Int)) (zz _ _ _ _ rfl (F115.get rfl) rfl (by omega) (by omega)) fun _ F116 => ?_
      refine rm rfl F116 fun _ F117 => ?_
      subst ek83
      exact hK83 _ ⟨(j3 + 1), bx, (nxL La), (cond ba Lb (nxR Lb)), u91, u98⟩ _ _ (by dsimp only; omega) ⟨rfl, ⟨by (dsimp only; omega), by (dsimp only; omega), by (dsimp only; omega), p4, p5⟩⟩ (F117.sub ⟨rfl, rfl, rfl, rfl, rfl, rfl, rfl, trivial⟩) (M112.sub ⟨rfl, rfl, rfl, rfl, rfl, rfl, rfl, rfl, rfl, rfl, trivial⟩)
     ·refine zS fun _ hK118 => ?_
      refine zT fun _ hK119 => ?_
      refine rm rfl F83 fun _ F120 => ?_
      refine rn rfl rfl F120 rfl (.bool false) (zoa _ _ _ _ rfl (F120.get rfl) rfl (decide_eq_false (show ¬ (j3 : Int) < 3 by omega))) fun _ F121 => ?_
      refine hK119 _ _ (wp_cond_false (F121.get rfl) ?_)
      refine wp_exit ?_
      simp only [Exit.then, Exit.inBlock, ↓reduceIte, Nat.reduceEqDiff]
      refine hK59 _ _ (zR ?_)
      refine rm rfl F121 fun _ F122 => ?_
      refine rn rfl rfl F122 rfl (.int .i64 ((jn + 1 : Nat) : Int)) (zz _ _ _ _ rfl (F122.get rfl) rfl (by omega) (by omega)) fun _ F123 => ?_
      refine rm rfl F123 fun _ F124 => ?_
      subst ek57
      exact hK57 _ ⟨(kp + c2), (jn + 1), (wrN okw nt ((Z.drop kp).take ((kp + c2) - kp))), ba, La, Lb, ua, ub⟩ _ _ (by dsimp only; omega) ⟨rfl, ⟨by (dsimp only; omega), by (dsimp only; omega), by (dsimp only; omega), by (dsimp only; omega), by (dsimp only; omega), by (dsimp only; omega), hf3, ht3⟩⟩ (F124.sub ⟨rfl, rfl, rfl, rfl, rfl, rfl, trivial⟩) (M83.sub ⟨rfl, rfl, rfl, rfl, rfl, rfl, rfl, rfl, trivial⟩)
    refine zT fun _ hK125 => ?_
    refine rm rfl F61 fun _ F126 => ?_
    refine rm rfl F126 fun _ F127 => ?_
    refine rn rfl rfl F127 rfl (.int .i64 (n4 : Int)) (y_lnG 38 Try.underlying38 _ rfl (F127.get rfl) rfl) fun _ F128 => ?_
    by_cases h129 : (jn : Int) < (n4 : Int)
    ·have hxb := hr4.2.1 jn
     obtain ⟨cW, hcW⟩ : ∃ c : Nat, (x4 jn) % 60 = (c : Int) ∧ c < 60 := ⟨((x4 jn) % 60).toNat, by omega, by omega⟩
     refine rn rfl rfl F128 rfl (.bool true) (zoa _ _ _ _ rfl (F128.get rfl) (F128.get rfl) (decide_eq_true h129)) fun _ F130 => ?_
     refine hK125 _ _ (wp_cond_true (F130.get rfl) ?_)
     refine zR ?_
     refine rm rfl F130 fun _ F131 => ?_
     refine rm rfl F131 fun _ F132 => ?_
     refine rn rfl rfl F132 rfl ((ixV (.slice A4 n4 cap4) jn)) (y_ixJ _ _ rfl (F132.get rfl) (M58.rdI (k := 2) rfl) (F132.get rfl) rfl (by omega)) fun _ F133 => ?_
     refine rn rfl rfl F133 rfl (.int .i64 (x4 jn)) (y_ldJ _ rfl (F133.get rfl) (M58.rdI (k := 2) rfl) (by omega)) fun _ F134 => ?_
     refine zd (za rfl) rfl F134 rfl rfl (zE Try.func22 rfl) #[.int .i64 (x4 jn), .int .i64 60] (zea (F134.get rfl) rfl) (zh ((hcW.1 ▸ zo (x4 jn) 60 (by omega) (by omega) (by omega) (by omega) w58))) ?_
     rintro _ w135 a135 ⟨rfl, rfl⟩ F135
     refine rm rfl F135 fun _ F136 => ?_
     exact J62 cW _ _ ⟨by omega, by omega⟩ (F136.sub ⟨rfl, rfl, rfl, rfl, rfl, rfl, rfl, trivial⟩) (M58.sub ⟨rfl, rfl, rfl, rfl, rfl, rfl, rfl, rfl, trivial⟩)
    ·refine rn rfl rfl F128 rfl (.bool false) (zoa _ _ _ _ rfl (F128.get rfl) (F128.get rfl) (decide_eq_false h129)) fun _ F137 => ?_
     refine hK125 _ _ (wp_cond_false (F137.get rfl) ?_)
     refine wp_skip ?_
     exact J62 1 _ _ (by omega) (F137.sub ⟨rfl, rfl, rfl, rfl, rfl, rfl, rfl, trivial⟩) (M58.sub ⟨rfl, rfl, rfl, rfl, rfl, rfl, rfl, rfl, trivial⟩)
   refine zT fun _ hK138 => ?_
   refine rm rfl F57 fun _ F139 => ?_
   refine rm rfl F139 fun _ F140 => ?_
   refine rn rfl rfl F140 rfl (.int .i64 (Z.length : Int)) (z9 _ rfl (F140.get rfl) (M57.isb (k := 3) rfl) rfl) fun _ F141 => ?_
   by_cases h142 : (kp : Int) < (Z.length : Int)
   ·refine rn rfl rfl F141 rfl (.bool true) (zoa _ _ _ _ rfl (F141.get rfl) (F141.get rfl) (decide_eq_true h142)) fun _ F143 => ?_
    refine zA 4 [(87, .bool true), (88, undef), (89, undef), (90, .bool true)] [] dnil [] F143 fun _ F144 => ?_
    refine hK138 _ _ (wp_cond_true (F144.get rfl) ?_)
    refine wp_skip ?_
    exact J58  _ _ (by omega) (F144.sub ⟨rfl, rfl, rfl, rfl, rfl, rfl, trivial⟩) (M57.sub ⟨rfl, rfl, rfl, rfl, rfl, rfl, rfl, rfl, trivial⟩)
   ·refine rn rfl rfl F141 rfl (.bool false) (zoa _ _ _ _ rfl (F141.get rfl) (F141.get rfl) (decide_eq_false h142)) fun _ F145 => ?_
    refine rm rfl F145 fun _ F146 => ?_
    refine rm rfl F146 fun _ F147 => ?_
    by_cases h148 : (jn : Int) = 0
    ·refine ze (w' := w57) (zb rfl rfl rfl (F147.get rfl)) rfl F147 rfl (.bool true) (zq _ _ _ _ rfl (F147.get rfl) rfl Try.underlying3 (zka h148)) fun _ F149 => ?_
     refine rn rfl rfl F149 rfl (.bool true) (zqa rfl (F149.get rfl) (F149.get rfl)) fun _ F150 => ?_
     refine hK138 _ _ (wp_cond_true (F150.get rfl) ?_)
     refine wp_skip ?_
     exact J58  _ _ (by omega) (F150.sub ⟨rfl, rfl, rfl, rfl, rfl, rfl, trivial⟩) (M57.sub ⟨rfl, rfl, rfl, rfl, rfl, rfl, rfl, rfl, trivial⟩)
    ·refine ze (w' := w57) (zb rfl rfl rfl (F147.get rfl)) rfl F147 rfl (.bool false) (zq _ _ _ _ rfl (F147.get rfl) rfl Try.underlying3 (zr h148)) fun _ F151 => ?_
     refine rn rfl rfl F151 rfl (.bool false) (zqa rfl (F151.get rfl) (F151.get rfl)) fun _ F152 => ?_
     refine hK138 _ _ (wp_cond_false (F152.get rfl) ?_)
     refine wp_exit ?_
     simp only [Exit.then, Exit.inBlock, ↓reduceIte, Nat.reduceEqDiff]
     refine hK54 _ _ (zS fun _ hK153 => ?_)
     refine zR ?_
     refine rm rfl F152 fun _ F154 => ?_
     have M155 := M57.nilB 8
     clear M57
     refine zd (za rfl) rfl F154 rfl rfl (zE Try.func28 rfl) #[.pointer (some ⟨g44, 0, none⟩), zN] (zea (F154.get rfl) rfl) (swrite_any M155 4 5 8 g44 L [] u (zN) nt bt rfl rfl rfl (by decide) (by decide) (by first | omega | (simp; omega)) ⟨by omega, by omega⟩ oke hoke) ?_
     rintro _ w156 a156 ⟨u156, N156, rfl⟩ F156
     skip
     skip
     clear M155
     refine rm rfl F156 fun _ F157 => ?_
     have M158 := N156.nilB 9
     clear N156
     refine zd (za rfl) rfl F157 rfl rfl (zE Try.func29 rfl) #[.pointer (some ⟨g45, 0, none⟩), zN] (zea (F157.get rfl) rfl) (rwrite_any M158 6 7 9 g45 L2 [] u2 (zN) nt bt rfl rfl rfl (by decide) (by decide) (by first | omega | (simp; omega)) ⟨by omega, by omega⟩ oke hoke) ?_
     rintro _ w159 a159 ⟨u159, N159, rfl⟩ F159
     skip
     skip
     clear M158
     refine rn rfl rfl F159 rfl (.bool true) (y_eqB _ _ rfl (F159.get rfl) (F159.get rfl) (by cases oke <;> rfl)) fun _ F160 => ?_
     refine rm rfl F160 fun _ F161 => ?_
     refine hK153 _ _ (wp_ret ?_)
     try simp only [Exit.then, Exit.inBlock, Exit.jump]
     exact bodyPost_ret (res1 rfl (F161.get rfl)) F161.defers ⟨rfl, N159.below⟩
  refine zT fun _ hK162 => ?_
  refine rm rfl F40 fun _ F163 => ?_
  refine rn rfl rfl F163 rfl (.int .i64 (L.length : Int)) (z9 _ rfl (F163.get rfl) (M40.isO (k := 3) rfl) rfl) fun _ F164 => ?_
  by_cases h165 : 0 < (L.length : Int)
  ·obtain ⟨p, hp, hpl⟩ : ∃ p : Nat, a5 % (L.length : Int) = (p : Int) ∧ p < L.length := in_ex _ (by omega)
   obtain ⟨bz, hbz⟩ : ∃ b, L[p]? = some b := ⟨_, List.getElem?_eq_getElem hpl⟩
   refine rn rfl rfl F164 rfl (.bool true) (zya _ _ _ _ rfl (F164.get rfl) rfl (decide_eq_true h165)) fun _ F166 => ?_
   refine hK162 _ _ (wp_cond_true (F166.get rfl) ?_)
   refine zR ?_
   refine rm rfl F166 fun _ F167 => ?_
   refine rm rfl F167 fun _ F168 => ?_
   refine rm rfl F168 fun _ F169 => ?_
   refine rn rfl rfl F169 rfl (.int .i64 (L.length : Int)) (z9 _ rfl (F169.get rfl) (M40.isO (k := 3) rfl) rfl) fun _ F170 => ?_
   refine zd (za rfl) rfl F170 rfl rfl (zE Try.func22 rfl) #[.int .i64 a5, .int .i64 (L.length : Int)] (zea (F170.get rfl) (F170.get rfl)) (zh ((hp ▸ zo a5 (L.length : Int) (by omega) (by omega) (by omega) (by omega) w40))) ?_
   rintro _ w171 a171 ⟨rfl, rfl⟩ F171
   refine rn rfl rfl F171 rfl ((ixV (v15) p)) (zgb _ _ rfl (F171.get rfl) (M40.isO (k := 3) rfl) (F171.get rfl) rfl hpl) fun _ F172 => ?_
   refine rn rfl rfl F172 rfl (.int .u8 ((bz.toNat : Nat) : Int)) (zvb _ rfl (F172.get rfl) (M40.isO (k := 3) rfl) hbz rfl) fun _ F173 => ?_
   refine rm rfl F173 fun _ F174 => ?_
   refine rn rfl rfl F174 rfl (.int .u8 (((zx (((bz.toNat : Nat) : Int) + ((c6.toNat : Nat) : Int))).toNat : Nat) : Int)) (y_addU8 _ _ _ _ rfl (F174.get rfl) (F174.get rfl)) fun _ F175 => ?_
   refine rn rfl rfl F175 rfl ((ixV (v15) p)) (zgb _ _ rfl (F175.get rfl) (M40.isO (k := 3) rfl) (F175.get rfl) rfl hpl) fun _ F176 => ?_
   refine wl_doM (za rfl) rfl F176 (run_setO M40 (k := 3) rfl _ _ rfl (F176.get rfl) (zx (((bz.toNat : Nat) : Int) + ((c6.toNat : Nat) : Int))) (F176.get rfl) rfl (by omega)) ?_
   intro w177 M177
   clear M40
   exact J41 (L.set p (zx (((bz.toNat : Nat) : Int) + ((c6.toNat : Nat) : Int)))) v15 _ _ (by first | omega | (rw [List.length_set]; omega)) (F176.sub ⟨rfl, rfl, trivial⟩) (M177.sub ⟨rfl, rfl, rfl, rfl, trivial⟩)
  ·refine rn rfl rfl F164 rfl (.bool false) (zya _ _ _ _ rfl (F164.get rfl) rfl (decide_eq_false h165)) fun _ F178 => ?_
   refine hK162 _ _ (wp_cond_false (F178.get rfl) ?_)
   refine wp_skip ?_
   exact J41 L v15 _ _ (by first | omega | (rw [List.length_set]; omega)) (F178.sub ⟨rfl, rfl, trivial⟩) (M40.sub ⟨rfl, rfl, rfl, rfl, trivial⟩)
 refine zT fun _ hK179 => ?_
 refine rm rfl F38 fun _ F180 => ?_
 refine hK179 _ _ (wp_block ?_)
 refine zzb (α := Nat × List UInt8 × Value) (n := 163) (G := none) (w0 := w) (fun x => [(0, .slice A0 n0 cap0), (1, .int .i64 a1), (2, .string a2), (3, .slice A3 n3 cap3), (4, .slice A4 n4 cap4), (5, .int .i64 a5), (6, .int .u8 ((c6.toNat : Nat) : Int)), (16, .int .i64 (x.1 : Int)), (15, x.2.2)]) (fun x => [(0, bytR l3 (.slice A3 n3 cap3)), (1, intR A0 n0 x0), (2, intR A4 n4 x4), (3, ownR x.2.1 x.2.2)]) (fun k x => k = (8 - x.1) ∧ (x.1 ≤ 8 ∧ x.2.1.length ≤ 202 * x.1)) _ ⟨0, [], (zN)⟩ ⟨rfl, ⟨Nat.zero_le _, Nat.le_refl _⟩⟩ (F180.sub ⟨rfl, rfl, rfl, rfl, rfl, rfl, rfl, rfl, rfl, trivial⟩) (M39.sub ⟨rfl, rfl, rfl, rfl, trivial⟩) ?_
 clear F180 M39
 rintro k181 ⟨jn, L, v15⟩ a181 w181 K181 ⟨ek181, I181⟩ F181 M181 hK181
 replace F181 : Fx 163 a181 [(0, .slice A0 n0 cap0), (1, .int .i64 a1), (2, .string a2), (3, .slice A3 n3 cap3), (4, .slice A4 n4 cap4), (5, .int .i64 a5), (6, .int .u8 ((c6.toNat : Nat) : Int)), (16, .int .i64 (jn : Int)), (15, v15)] := F181
 replace M181 : Mx _ _ w181 [(0, bytR l3 (.slice A3 n3 cap3)), (1, intR A0 n0 x0), (2, intR A4 n4 x4), (3, ownR L v15)] := M181
 replace I181 : jn ≤ 8 ∧ L.length ≤ 202 * jn := I181
 replace ek181 : k181 = (8 - jn) := ek181
 obtain ⟨hj, hLl⟩ := I181
 refine zS fun _ hK182 => zS fun _ hK183 => ?_
 refine zR ?_
 refine rm rfl F181 fun _ F184 => ?_
 refine rm rfl F184 fun _ F185 => ?_
 refine rn rfl rfl F185 rfl (.int .i64 (n0 : Int)) (y_lnG 38 Try.underlying38 _ rfl (F185.get rfl) rfl) fun _ F186 => ?_
 by_cases h187 : (jn : Int) < (n0 : Int)
 rotate_left
 ·refine rn rfl rfl F186 rfl (.bool false) (zoa _ _ _ _ rfl (F186.get rfl) (F186.get rfl) (decide_eq_false h187)) fun _ F217 => ?_
  refine zA 4 [(43, .bool false), (44, undef), (45, undef), (46, .bool false)] [] dnil [] F217 fun _ F218 => ?_
  refine hK183 _ _ (wp_cond_false (F218.get rfl) ?_)
  refine wp_exit ?_
  simp only [Exit.then, Exit.inBlock, ↓reduceIte, Nat.reduceEqDiff]
  exact J40 L v15 _ _ (by omega) (F218.sub ⟨rfl, rfl, rfl, rfl, trivial⟩) (M181.sub ⟨rfl, rfl, rfl, rfl, trivial⟩)
 refine rn rfl rfl F186 rfl (.bool true) (zoa _ _ _ _ rfl (F186.get rfl) (F186.get rfl) (decide_eq_true h187)) fun _ F188 => ?_
 refine rm rfl F188 fun _ F189 => ?_
 refine rm rfl F189 fun _ F190 => ?_
 by_cases h191 : (jn : Int) < 8
 rotate_left
 ·refine ze (w' := w181) (zb rfl rfl rfl (F190.get rfl)) rfl F190 rfl (.bool false) (zoa _ _ _ _ rfl (F190.get rfl) rfl (decide_eq_false h191)) fun _ F215 => ?_
  refine rn rfl rfl F215 rfl (.bool false) (z7b rfl (F215.get rfl) (F215.get rfl)) fun _ F216 => ?_
  refine hK183 _ _ (wp_cond_false (F216.get rfl) ?_)
  refine wp_exit ?_
  simp only [Exit.then, Exit.inBlock, ↓reduceIte, Nat.reduceEqDiff]
  exact J40 L v15 _ _ (by omega) (F216.sub ⟨rfl, rfl, rfl, rfl, trivial⟩) (M181.sub ⟨rfl, rfl, rfl, rfl, trivial⟩)
 have hkb := hr0.2.1 jn
 obtain ⟨nW, hnW⟩ : ∃ z, IntKind.i64.wrap (a1 + (jn : Int)) = z := ⟨_, rfl⟩
 have hnb : -9223372036854775808 ≤ nW ∧ nW < 9223372036854775808 := by rw [← hnW, IntKind.wrap_i64]; omega
 obtain ⟨m, em⟩ : ∃ x, mkM (x0 jn) nW a2 l3 = x := ⟨_, rfl⟩
 obtain ⟨om, zm⟩ := mkM_ok (x0 jn) nW a2 l3
 rw [em] at om zm
 obtain ⟨qm, hm1⟩ : ∃ x, z4a m = x := ⟨_, rfl⟩
 obtain ⟨xm, hm2⟩ : ∃ x, encL m = x := ⟨_, rfl⟩
 have hxl : xm.length ≤ 202 := by rw [← hm2]; exact encL_le m
 refine ze (w' := w181) (zb rfl rfl rfl (F190.get rfl)) rfl F190 rfl (.bool true) (zoa _ _ _ _ rfl (F190.get rfl) rfl (decide_eq_true h191)) fun _ F192 => ?_
 refine rn rfl rfl F192 rfl (.bool true) (z7b rfl (F192.get rfl) (F192.get rfl)) fun _ F193 => ?_
 refine hK183 _ _ (wp_cond_true (F193.get rfl) ?_)
 refine wp_skip ?_
 refine hK182 _ _ (zS fun _ hK194 => ?_)
 refine wp_block ?_
 refine zT fun _ hK195 => ?_
 refine rm rfl F193 fun _ F196 => ?_
 refine rm rfl F196 fun _ F197 => ?_
 refine rn rfl rfl F197 rfl ((ixV (.slice A0 n0 cap0) jn)) (y_ixJ _ _ rfl (F197.get rfl) (M181.rdI (k := 1) rfl) (F197.get rfl) rfl (by omega)) fun _ F198 => ?_
 refine rn rfl rfl F198 rfl (.int .i64 (x0 jn)) (y_ldJ _ rfl (F198.get rfl) (M181.rdI (k := 1) rfl) (by omega)) fun _ F199 => ?_
 refine rm rfl F199 fun _ F200 => ?_
 refine rm rfl F200 fun _ F201 => ?_
 refine rn rfl rfl F201 rfl (.int .i64 nW) (y_addW _ _ _ _ rfl (F201.get rfl) (F201.get rfl) hnW) fun _ F202 => ?_
 refine rm rfl F202 fun _ F203 => ?_
 refine rm rfl F203 fun _ F204 => ?_
 refine zd (za rfl) rfl F204 rfl rfl (zE Try.func16 rfl) #[.int .i64 (x0 jn), .int .i64 nW, .string a2, .slice A3 n3 cap3] (args4 (F204.get rfl) (F204.get rfl) (F204.get rfl) (F204.get rfl)) (make_is (x0 jn) nW a2 l3 (.slice A3 n3 cap3) hkb hnb hs m em w181 (M181.isb (k := 0) rfl)) ?_
 rintro _ w205 a205 ⟨V205, rfl, is205, lo205, b205⟩ F205
 have M205 := M181.newMsg b205 is205 lo205 4 5 6 7 8
 clear M181 b205 lo205
 refine zd (za rfl) rfl F205 rfl rfl (zE Try.func18 rfl) #[.agg (msgA m V205)] (zp (F205.get rfl)) (renc_is m V205 om zm qm xm hm1 hm2 w205 ⟨(M205.isb (k := 4) rfl), (M205.isb (k := 5) rfl), (M205.isb (k := 6) rfl), (M205.isb (k := 7) rfl), (M205.isb (k := 8) rfl)⟩) ?_
 rintro _ w206 a206 ⟨v206, rfl, hv206, b206⟩ F206
 have M206 := M205.newO b206 9 hv206
 clear M205 b206 hv206
 obtain ⟨A206, c206, rfl⟩ := (M206.isO (k := 9) rfl).shape
 refine zA 5 [(49, .tuple #[.slice A206 (xm).length c206, .bool qm]), (61, .slice A206 (xm).length c206), (62, .bool qm), (17, .slice A206 (xm).length c206), (18, .bool qm)] [] dnil [] F206 fun _ F207 => ?_
 refine hK195 _ _ (zR ?_)
 refine rm rfl F207 fun _ F208 => ?_
 refine rm rfl F208 fun _ F209 => ?_
 refine zba (za rfl) rfl F209 rfl (z2a M206 (k := 3) rfl _ _ rfl (F209.get rfl) (F209.get rfl) (M206.isO (k := 9) rfl) (by first | omega | (simp; omega))) ?_
 intro v210 a210 w210 F210 M210
 clear F209 M206
 obtain ⟨A210, c210, rfl⟩ := (M210.isO (k := 3) rfl).shape
 refine rm rfl F210 fun _ F211 => ?_
 refine hK194 _ _ (zR ?_)
 refine rm rfl F211 fun _ F212 => ?_
 refine rn rfl rfl F212 rfl (.int .i64 ((jn + 1 : Nat) : Int)) (zz _ _ _ _ rfl (F212.get rfl) rfl (by omega) (by omega)) fun _ F213 => ?_
 refine rm rfl F213 fun _ F214 => ?_
 subst ek181
 exact hK181 _ ⟨(jn + 1), (L ++ xm), .slice A210 ((L ++ xm)).length c210⟩ _ _ (by dsimp only; omega) ⟨rfl, ⟨by dsimp only; omega, by dsimp only; rw [List.length_append]; omega⟩⟩ (F214.sub ⟨rfl, rfl, rfl, rfl, rfl, rfl, rfl, rfl, rfl, trivial⟩) (M210.sub ⟨rfl, rfl, rfl, rfl, trivial⟩)
end Go.Proofs.Ytlbkogdmojlpmaa
