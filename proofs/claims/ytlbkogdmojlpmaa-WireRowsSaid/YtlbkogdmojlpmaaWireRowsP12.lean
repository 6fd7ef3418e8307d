/- What WireRows stands on, part 12. -/
import Derived.Test.YtlbkogdmojlpmaaWireRowsP1
import Derived.Test.YtlbkogdmojlpmaaWireRowsP2
import Derived.Test.YtlbkogdmojlpmaaWireRowsP3
import Derived.Test.YtlbkogdmojlpmaaWireRowsP4
import Derived.Test.YtlbkogdmojlpmaaWireRowsP5
import Derived.Test.YtlbkogdmojlpmaaWireRowsP6
import Derived.Test.YtlbkogdmojlpmaaWireRowsP7
import Derived.Test.YtlbkogdmojlpmaaWireRowsP8
import Derived.Test.YtlbkogdmojlpmaaWireRowsP9
import Derived.Test.YtlbkogdmojlpmaaWireRowsP10
import Derived.Test.YtlbkogdmojlpmaaWireRowsP11
set_option maxRecDepth 100000
set_option maxHeartbeats 8000000
set_option linter.unusedVariables false
set_option linter.unusedSimpArgs false
namespace Go.Proofs.Ytlbkogdmojlpmaa
open Go.ChangeShapes Go.WideShapes Go.ChangeAt Go.RowKit
theorem str_eqsT {s t : ByteArray} (h : s = t) : decide (s.toList = t.toList) = true := by subst h; exact decide_eq_true rfl
theorem str_eqsF {s t : ByteArray} (h : ¬ s = t) : decide (s.toList = t.toList) = false := decide_eq_false fun e => h (by
  rw [ByteArray.toList_eq, ByteArray.toList_eq] at e
  cases s; cases t
  congr 1
  exact Array.toList_inj.1 e)
noncomputable def eqM (m m2 : MsgN) : Bool := decide (m.k = m2.k) && decide (m.p = m2.p) && decide (m.c = m2.c) && decide (m.e = m2.e) && @decide (m.s = m2.s) (Classical.propDecidable _) && decide (m.a = m2.a) && decide (m.b = m2.b) && decide (m.l5 = m2.l5) && decide (m.l6 = m2.l6) && decide (m.l7 = m2.l7) && decide (m.l8 = m2.l8) && decide (m.l9 = m2.l9)
theorem eqM_iff (m m2 : MsgN) : eqM m m2 = true ↔ m = m2 := by
  unfold eqM
  simp only [Bool.and_eq_true, decide_eq_true_eq]
  constructor
  · rintro ⟨⟨⟨⟨⟨⟨⟨⟨⟨⟨⟨h1, h2⟩, h3⟩, h4⟩, h5⟩, h6⟩, h7⟩, h8⟩, h9⟩, h10⟩, h11⟩, h12⟩
    cases m; cases m2
    simp_all
  · rintro rfl; simp
theorem eqM_self (m : MsgN) : eqM m m = true := (eqM_iff m m).2 rfl
theorem msgs_any (m m2 : MsgN) (V V2 : MsgV) (ho : MsgOk m) (ho2 : MsgOk m2) (w : World) (hm : MsgIs w m V) (hm2 : MsgIs w m2 V2) :
  Calls Try.prog 21 #[.agg (msgA m V), .agg (msgA m2 V2)] w fun e w' => e = .returned (.bool (eqM m m2)) ∧ Below w.heap.size w w' := by
 refine zg (args := [.agg (msgA m V), .agg (msgA m2 V2)]) 97 Try.func21 rfl rfl rfl ?_
 intro fa F
 have M := Mx.start w
 replace M := M.argB 0 hm.h5 (fun g e => by cases e)
 replace M := M.argB 1 hm.h6 (fun g e => by cases e)
 replace M := M.argB 2 hm.h7 (fun g e => by cases e)
 replace M := M.argB 3 hm.h8 (fun g e => by cases e)
 replace M := M.argB 4 hm.h9 (fun g e => by cases e)
 replace M := M.argB 5 hm2.h5 (fun g e => by cases e)
 replace M := M.argB 6 hm2.h6 (fun g e => by cases e)
 replace M := M.argB 7 hm2.h7 (fun g e => by cases e)
 replace M := M.argB 8 hm2.h8 (fun g e => by cases e)
 replace M := M.argB 9 hm2.h9 (fun g e => by cases e)
 refine zT fun _ hK1 => ?_
 refine zh (za rfl) rfl F rfl M 10 (t := 29) (c := msgA m V) (by unfold execOp; simp only [(F.get (t := 0) rfl)]; kernel_rfl) ?_
 intro g2 a2 w2 F2 M2
 clear F M
 refine zh (za rfl) rfl F2 rfl M2 11 (t := 29) (c := msgA m2 V2) (by unfold execOp; simp only [(F2.get (t := 1) rfl)]; kernel_rfl) ?_
 intro g3 a3 w3 F3 M3
 clear F2 M2
 refine rm rfl F3 fun _ F4 => ?_
 refine hK1 _ _ (zS fun _ hK5 => ?_)
 simp only [List.append_eq, List.cons_append, List.nil_append]
 refine zR ?_
 refine zB 4 [(2, .pointer (some ⟨g2, 0, none⟩)), (3, .pointer (some ⟨g3, 0, none⟩)), (4, .bool false), (6, .int .i64 m.k), (8, .int .i64 m2.k)] [0, 1] (zi (M3.blk (k := 10) rfl) (zi (M3.blk (k := 11) rfl) dnil)) [g2, g3] F4 fun _ F6 => ?_
 by_cases h7 : m.k = m2.k
 rotate_left
 ·refine rn rfl rfl F6 rfl (.bool false) (zl _ _ _ _ rfl (F6.get rfl) (F6.get rfl) Try.underlying3 (zn h7)) fun _ F80 => ?_
  refine zB 88 [(4, .bool false)] [] dnil [] F80 fun _ F81 => ?_
  refine hK5 _ _ (wp_ret ?_)
  try simp only [Exit.then, Exit.inBlock, Exit.jump]
  exact bodyPost_ret (res1 rfl (F81.get rfl)) F81.defers ⟨by rw [show eqM m m2 = false from by unfold eqM; simp [h7]], M3.below⟩
 refine rn rfl rfl F6 rfl (.bool true) (zl _ _ _ _ rfl (F6.get rfl) (F6.get rfl) Try.underlying3 (zia h7)) fun _ F8 => ?_
 refine zB 5 [(2, .pointer (some ⟨g2, 0, none⟩)), (3, .pointer (some ⟨g3, 0, none⟩)), (4, .bool false), (10, .bool true), (12, .int .i64 m.p), (14, .int .i64 m2.p)] [0, 1] (zi (M3.blk (k := 10) rfl) (zi (M3.blk (k := 11) rfl) dnil)) [g2, g3] F8 fun _ F9 => ?_
 by_cases h10 : m.p = m2.p
 rotate_left
 ·refine ze (w' := w3) (zb rfl rfl rfl (F9.get rfl)) rfl F9 rfl (.bool false) (zl _ _ _ _ rfl (F9.get rfl) (F9.get rfl) Try.underlying3 (zn h10)) fun _ F78 => ?_
  refine zB 82 [(4, .bool false)] [] dnil [] F78 fun _ F79 => ?_
  refine hK5 _ _ (wp_ret ?_)
  try simp only [Exit.then, Exit.inBlock, Exit.jump]
  exact bodyPost_ret (res1 rfl (F79.get rfl)) F79.defers ⟨by rw [show eqM m m2 = false from by unfold eqM; simp [h7, h10]], M3.below⟩
 refine ze (w' := w3) (zb rfl rfl rfl (F9.get rfl)) rfl F9 rfl (.bool true) (zl _ _ _ _ rfl (F9.get rfl) (F9.get rfl) Try.underlying3 (zia h10)) fun _ F11 => ?_
 refine zB 6 [(2, .pointer (some ⟨g2, 0, none⟩)), (3, .pointer (some ⟨g3, 0, none⟩)), (4, .bool false), (17, .bool true), (19, .int .i64 m.c), (21, .int .i64 m2.c)] [0, 1] (zi (M3.blk (k := 10) rfl) (zi (M3.blk (k := 11) rfl) dnil)) [g2, g3] F11 fun _ F12 => ?_
 by_cases h13 : m.c = m2.c
 rotate_left
 ·refine ze (w' := w3) (zb rfl rfl rfl (F12.get rfl)) rfl F12 rfl (.bool false) (zl _ _ _ _ rfl (F12.get rfl) (F12.get rfl) Try.underlying3 (zn h13)) fun _ F76 => ?_
  refine zB 75 [(4, .bool false)] [] dnil [] F76 fun _ F77 => ?_
  refine hK5 _ _ (wp_ret ?_)
  try simp only [Exit.then, Exit.inBlock, Exit.jump]
  exact bodyPost_ret (res1 rfl (F77.get rfl)) F77.defers ⟨by rw [show eqM m m2 = false from by unfold eqM; simp [h7, h10, h13]], M3.below⟩
 refine ze (w' := w3) (zb rfl rfl rfl (F12.get rfl)) rfl F12 rfl (.bool true) (zl _ _ _ _ rfl (F12.get rfl) (F12.get rfl) Try.underlying3 (zia h13)) fun _ F14 => ?_
 refine zB 6 [(2, .pointer (some ⟨g2, 0, none⟩)), (3, .pointer (some ⟨g3, 0, none⟩)), (4, .bool false), (24, .bool true), (26, .int .i64 m.e), (28, .int .i64 m2.e)] [0, 1] (zi (M3.blk (k := 10) rfl) (zi (M3.blk (k := 11) rfl) dnil)) [g2, g3] F14 fun _ F15 => ?_
 by_cases h16 : m.e = m2.e
 rotate_left
 ·refine ze (w' := w3) (zb rfl rfl rfl (F15.get rfl)) rfl F15 rfl (.bool false) (zl _ _ _ _ rfl (F15.get rfl) (F15.get rfl) Try.underlying24 (zn h16)) fun _ F74 => ?_
  refine zB 68 [(4, .bool false)] [] dnil [] F74 fun _ F75 => ?_
  refine hK5 _ _ (wp_ret ?_)
  try simp only [Exit.then, Exit.inBlock, Exit.jump]
  exact bodyPost_ret (res1 rfl (F75.get rfl)) F75.defers ⟨by rw [show eqM m m2 = false from by unfold eqM; simp [h7, h10, h13, h16]], M3.below⟩
 refine ze (w' := w3) (zb rfl rfl rfl (F15.get rfl)) rfl F15 rfl (.bool true) (zl _ _ _ _ rfl (F15.get rfl) (F15.get rfl) Try.underlying24 (zia h16)) fun _ F17 => ?_
 refine zB 6 [(2, .pointer (some ⟨g2, 0, none⟩)), (3, .pointer (some ⟨g3, 0, none⟩)), (4, .bool false), (31, .bool true), (33, .string m.s), (35, .string m2.s)] [0, 1] (zi (M3.blk (k := 10) rfl) (zi (M3.blk (k := 11) rfl) dnil)) [g2, g3] F17 fun _ F18 => ?_
 by_cases h19 : m.s = m2.s
 rotate_left
 ·refine ze (w' := w3) (zb rfl rfl rfl (F18.get rfl)) rfl F18 rfl (.bool false) (y_eqS _ _ _ rfl (F18.get rfl) (F18.get rfl) (str_eqsF h19)) fun _ F72 => ?_
  refine zB 61 [(4, .bool false)] [] dnil [] F72 fun _ F73 => ?_
  refine hK5 _ _ (wp_ret ?_)
  try simp only [Exit.then, Exit.inBlock, Exit.jump]
  exact bodyPost_ret (res1 rfl (F73.get rfl)) F73.defers ⟨by rw [show eqM m m2 = false from by unfold eqM; simp [h7, h10, h13, h16, h19]], M3.below⟩
 refine ze (w' := w3) (zb rfl rfl rfl (F18.get rfl)) rfl F18 rfl (.bool true) (y_eqS _ _ _ rfl (F18.get rfl) (F18.get rfl) (str_eqsT h19)) fun _ F20 => ?_
 refine zB 6 [(2, .pointer (some ⟨g2, 0, none⟩)), (3, .pointer (some ⟨g3, 0, none⟩)), (4, .bool false), (38, .bool true), (40, numV m.a), (42, numV m2.a)] [0, 1] (zi (M3.blk (k := 10) rfl) (zi (M3.blk (k := 11) rfl) dnil)) [g2, g3] F20 fun _ F21 => ?_
 by_cases h22 : m.a = m2.a
 rotate_left
 ·refine ze (w' := w3) (zb rfl rfl rfl (F21.get rfl)) rfl F21 rfl (.bool false) (y_eqA _ _ _ _ rfl (F21.get rfl) (F21.get rfl) (by kernel_rfl) (eqn_diff ho.a ho2.a h22 _)) fun _ F70 => ?_
  refine zB 54 [(4, .bool false)] [] dnil [] F70 fun _ F71 => ?_
  refine hK5 _ _ (wp_ret ?_)
  try simp only [Exit.then, Exit.inBlock, Exit.jump]
  exact bodyPost_ret (res1 rfl (F71.get rfl)) F71.defers ⟨by rw [show eqM m m2 = false from by unfold eqM; simp [h7, h10, h13, h16, h19, h22]], M3.below⟩
 refine ze (w' := w3) (zb rfl rfl rfl (F21.get rfl)) rfl F21 rfl (.bool true) (y_eqA _ _ _ _ rfl (F21.get rfl) (F21.get rfl) (by kernel_rfl) (by rw [h22]; exact eqn_same _ _)) fun _ F23 => ?_
 refine zB 6 [(2, .pointer (some ⟨g2, 0, none⟩)), (3, .pointer (some ⟨g3, 0, none⟩)), (4, .bool false), (45, .bool true), (47, numV m.b), (49, numV m2.b)] [0, 1] (zi (M3.blk (k := 10) rfl) (zi (M3.blk (k := 11) rfl) dnil)) [g2, g3] F23 fun _ F24 => ?_
 by_cases h25 : m.b = m2.b
 rotate_left
 ·refine ze (w' := w3) (zb rfl rfl rfl (F24.get rfl)) rfl F24 rfl (.bool false) (y_eqA _ _ _ _ rfl (F24.get rfl) (F24.get rfl) (by kernel_rfl) (eqn_diff ho.b ho2.b h25 _)) fun _ F68 => ?_
  refine zB 47 [(4, .bool false)] [] dnil [] F68 fun _ F69 => ?_
  refine hK5 _ _ (wp_ret ?_)
  try simp only [Exit.then, Exit.inBlock, Exit.jump]
  exact bodyPost_ret (res1 rfl (F69.get rfl)) F69.defers ⟨by rw [show eqM m m2 = false from by unfold eqM; simp [h7, h10, h13, h16, h19, h22, h25]], M3.below⟩
 refine ze (w' := w3) (zb rfl rfl rfl (F24.get rfl)) rfl F24 rfl (.bool true) (y_eqA _ _ _ _ rfl (F24.get rfl) (F24.get rfl) (by kernel_rfl) (by rw [h25]; exact eqn_same _ _)) fun _ F26 => ?_
 refine zB 4 [(2, .pointer (some ⟨g2, 0, none⟩)), (3, .pointer (some ⟨g3, 0, none⟩)), (4, .bool false), (52, .bool true), (54, V.v5)] [0] (zi (M3.blk (k := 10) rfl) dnil) [g2] F26 fun _ F27 => ?_
 refine ze (w' := w3) (zb rfl rfl rfl (F27.get rfl)) rfl F27 rfl (.string (⟨(m.l5).toArray⟩)) (y_str _ rfl (F27.get rfl) (M3.isb (k := 0) rfl)) fun _ F28 => ?_
 refine zA 2 [(56, .pointer (some ⟨g3, 21, none⟩)), (57, V2.v5)] [0] (zi (M3.blk (k := 11) rfl) dnil) [g3] F28 fun _ F29 => ?_
 refine ze (w' := w3) (zb rfl rfl rfl (F29.get rfl)) rfl F29 rfl (.string (⟨(m2.l5).toArray⟩)) (y_str _ rfl (F29.get rfl) (M3.isb (k := 5) rfl)) fun _ F30 => ?_
 by_cases h31 : m.l5 = m2.l5
 rotate_left
 ·refine ze (w' := w3) (zb rfl rfl rfl (F30.get rfl)) rfl F30 rfl (.bool false) (y_eqS _ _ _ rfl (F30.get rfl) (F30.get rfl) (str_ne h31)) fun _ F66 => ?_
  refine zB 38 [(4, .bool false)] [] dnil [] F66 fun _ F67 => ?_
  refine hK5 _ _ (wp_ret ?_)
  try simp only [Exit.then, Exit.inBlock, Exit.jump]
  exact bodyPost_ret (res1 rfl (F67.get rfl)) F67.defers ⟨by rw [show eqM m m2 = false from by unfold eqM; simp [h7, h10, h13, h16, h19, h22, h25, h31]], M3.below⟩
 refine ze (w' := w3) (zb rfl rfl rfl (F30.get rfl)) rfl F30 rfl (.bool true) (y_eqS _ _ _ rfl (F30.get rfl) (F30.get rfl) (str_eq h31)) fun _ F32 => ?_
 refine zB 4 [(2, .pointer (some ⟨g2, 0, none⟩)), (3, .pointer (some ⟨g3, 0, none⟩)), (4, .bool false), (61, .bool true), (63, V.v6)] [0] (zi (M3.blk (k := 10) rfl) dnil) [g2] F32 fun _ F33 => ?_
 refine ze (w' := w3) (zb rfl rfl rfl (F33.get rfl)) rfl F33 rfl (.string (⟨(m.l6).toArray⟩)) (y_str _ rfl (F33.get rfl) (M3.isb (k := 1) rfl)) fun _ F34 => ?_
 refine zA 2 [(65, .pointer (some ⟨g3, 22, none⟩)), (66, V2.v6)] [0] (zi (M3.blk (k := 11) rfl) dnil) [g3] F34 fun _ F35 => ?_
 refine ze (w' := w3) (zb rfl rfl rfl (F35.get rfl)) rfl F35 rfl (.string (⟨(m2.l6).toArray⟩)) (y_str _ rfl (F35.get rfl) (M3.isb (k := 6) rfl)) fun _ F36 => ?_
 by_cases h37 : m.l6 = m2.l6
 rotate_left
 ·refine ze (w' := w3) (zb rfl rfl rfl (F36.get rfl)) rfl F36 rfl (.bool false) (y_eqS _ _ _ rfl (F36.get rfl) (F36.get rfl) (str_ne h37)) fun _ F64 => ?_
  refine zB 29 [(4, .bool false)] [] dnil [] F64 fun _ F65 => ?_
  refine hK5 _ _ (wp_ret ?_)
  try simp only [Exit.then, Exit.inBlock, Exit.jump]
  exact bodyPost_ret (res1 rfl (F65.get rfl)) F65.defers ⟨by rw [show eqM m m2 = false from by unfold eqM; simp [h7, h10, h13, h16, h19, h22, h25, h31, h37]], M3.below⟩
 refine ze (w' := w3) (zb rfl rfl rfl (F36.get rfl)) rfl F36 rfl (.bool true) (y_eqS _ _ _ rfl (F36.get rfl) (F36.get rfl) (str_eq h37)) fun _ F38 => ?_
 refine zB 4 [(2, .pointer (some ⟨g2, 0, none⟩)), (3, .pointer (some ⟨g3, 0, none⟩)), (4, .bool false), (70, .bool true), (72, V.v7)] [0] (zi (M3.blk (k := 10) rfl) dnil) [g2] F38 fun _ F39 => ?_
 refine ze (w' := w3) (zb rfl rfl rfl (F39.get rfl)) rfl F39 rfl (.string (⟨(m.l7).toArray⟩)) (y_str _ rfl (F39.get rfl) (M3.isb (k := 2) rfl)) fun _ F40 => ?_
 refine zA 2 [(74, .pointer (some ⟨g3, 23, none⟩)), (75, V2.v7)] [0] (zi (M3.blk (k := 11) rfl) dnil) [g3] F40 fun _ F41 => ?_
 refine ze (w' := w3) (zb rfl rfl rfl (F41.get rfl)) rfl F41 rfl (.string (⟨(m2.l7).toArray⟩)) (y_str _ rfl (F41.get rfl) (M3.isb (k := 7) rfl)) fun _ F42 => ?_
 by_cases h43 : m.l7 = m2.l7
 rotate_left
 ·refine ze (w' := w3) (zb rfl rfl rfl (F42.get rfl)) rfl F42 rfl (.bool false) (y_eqS _ _ _ rfl (F42.get rfl) (F42.get rfl) (str_ne h43)) fun _ F62 => ?_
  refine zB 20 [(4, .bool false)] [] dnil [] F62 fun _ F63 => ?_
  refine hK5 _ _ (wp_ret ?_)
  try simp only [Exit.then, Exit.inBlock, Exit.jump]
  exact bodyPost_ret (res1 rfl (F63.get rfl)) F63.defers ⟨by rw [show eqM m m2 = false from by unfold eqM; simp [h7, h10, h13, h16, h19, h22, h25, h31, h37, h43]], M3.below⟩
 refine ze (w' := w3) (zb rfl rfl rfl (F42.get rfl)) rfl F42 rfl (.bool true) (y_eqS _ _ _ rfl (F42.get rfl) (F42.get rfl) (str_eq h43)) fun _ F44 => ?_
 refine zB 4 [(2, .pointer (some ⟨g2, 0, none⟩)), (3, .pointer (some ⟨g3, 0, none⟩)), (4, .bool false), (79, .bool true), (81, V.v8)] [0] (zi (M3.blk (k := 10) rfl) dnil) [g2] F44 fun _ F45 => ?_
 refine ze (w' := w3) (zb rfl rfl rfl (F45.get rfl)) rfl F45 rfl (.string (⟨(m.l8).toArray⟩)) (y_str _ rfl (F45.get rfl) (M3.isb (k := 3) rfl)) fun _ F46 => ?_
 refine zA 2 [(83, .pointer (some ⟨g3, 24, none⟩)), (84, V2.v8)] [0] (zi (M3.blk (k := 11) rfl) dnil) [g3] F46 fun _ F47 => ?_
 refine ze (w' := w3) (zb rfl rfl rfl (F47.get rfl)) rfl F47 rfl (.string (⟨(m2.l8).toArray⟩)) (y_str _ rfl (F47.get rfl) (M3.isb (k := 8) rfl)) fun _ F48 => ?_
 by_cases h49 : m.l8 = m2.l8
 rotate_left
 ·refine ze (w' := w3) (zb rfl rfl rfl (F48.get rfl)) rfl F48 rfl (.bool false) (y_eqS _ _ _ rfl (F48.get rfl) (F48.get rfl) (str_ne h49)) fun _ F60 => ?_
  refine zB 11 [(4, .bool false)] [] dnil [] F60 fun _ F61 => ?_
  refine hK5 _ _ (wp_ret ?_)
  try simp only [Exit.then, Exit.inBlock, Exit.jump]
  exact bodyPost_ret (res1 rfl (F61.get rfl)) F61.defers ⟨by rw [show eqM m m2 = false from by unfold eqM; simp [h7, h10, h13, h16, h19, h22, h25, h31, h37, h43, h49]], M3.below⟩
 refine ze (w' := w3) (zb rfl rfl rfl (F48.get rfl)) rfl F48 rfl (.bool true) (y_eqS _ _ _ rfl (F48.get rfl) (F48.get rfl) (str_eq h49)) fun _ F50 => ?_
 refine zB 4 [(3, .pointer (some ⟨g3, 0, none⟩)), (4, .bool false), (88, .bool true), (90, V.v9)] [0] (zi (M3.blk (k := 10) rfl) dnil) [g2] F50 fun _ F51 => ?_
 refine ze (w' := w3) (zb rfl rfl rfl (F51.get rfl)) rfl F51 rfl (.string (⟨(m.l9).toArray⟩)) (y_str _ rfl (F51.get rfl) (M3.isb (k := 4) rfl)) fun _ F52 => ?_
 refine zB 2 [(4, .bool false), (88, .bool true), (91, .string (⟨(m.l9).toArray⟩)), (93, V2.v9)] [0] (zi (M3.blk (k := 11) rfl) dnil) [g3] F52 fun _ F53 => ?_
 refine ze (w' := w3) (zb rfl rfl rfl (F53.get rfl)) rfl F53 rfl (.string (⟨(m2.l9).toArray⟩)) (y_str _ rfl (F53.get rfl) (M3.isb (k := 9) rfl)) fun _ F54 => ?_
 by_cases h55 : m.l9 = m2.l9
 ·refine ze (w' := w3) (zb rfl rfl rfl (F54.get rfl)) rfl F54 rfl (.bool true) (y_eqS _ _ _ rfl (F54.get rfl) (F54.get rfl) (str_eq h55)) fun _ F56 => ?_
  refine zB 2 [(4, .bool true)] [] dnil [] F56 fun _ F57 => ?_
  refine hK5 _ _ (wp_ret ?_)
  try simp only [Exit.then, Exit.inBlock, Exit.jump]
  exact bodyPost_ret (res1 rfl (F57.get rfl)) F57.defers ⟨by rw [show eqM m m2 = true from by unfold eqM; simp [h7, h10, h13, h16, h19, h22, h25, h31, h37, h43, h49, h55]], M3.below⟩
 refine ze (w' := w3) (zb rfl rfl rfl (F54.get rfl)) rfl F54 rfl (.bool false) (y_eqS _ _ _ rfl (F54.get rfl) (F54.get rfl) (str_ne h55)) fun _ F58 => ?_
 refine zB 2 [(4, .bool false)] [] dnil [] F58 fun _ F59 => ?_
 refine hK5 _ _ (wp_ret ?_)
 try simp only [Exit.then, Exit.inBlock, Exit.jump]
 exact bodyPost_ret (res1 rfl (F59.get rfl)) F59.defers ⟨by rw [show eqM m m2 = false from by unfold eqM; simp [h7, h10, h13, h16, h19, h22, h25, h31, h37, h43, h49, h55]], M3.below⟩
end Go.Proofs.Ytlbkogdmojlpmaa
namespace Go.Proofs.Ytlbkogdmojlpmaa
open Go.ChangeShapes Go.WideShapes Go.ChangeAt Go.RowKit
theorem enc_is (m : MsgN) (V : MsgV) (ho : MsgOk m) (hs : m.s.size ≤ 1000) (ok : Bool) (l : List UInt8) (h1 : zwa m = ok) (h2 : encL m = l) (w : World) (hm : MsgIs w m V) : Calls Try.prog 17 #[.agg (msgA m V)] w fun e w' => ∃ t, e = .returned t ∧ ∃ v, t = .tuple #[v, .bool ok] ∧ Byt w' w.heap.size v l ∧ Below w.heap.size w w' := by
  subst h1 h2; exact encode_ex m V ho hs w hm
theorem renc_is (m : MsgN) (V : MsgV) (ho : MsgOk m) (hs : m.s.size ≤ 1000) (ok : Bool) (l : List UInt8) (h1 : zwa m = ok) (h2 : encL m = l) (w : World) (hm : MsgIs w m V) : Calls Try.prog 18 #[.agg (msgA m V)] w fun e w' => ∃ t, e = .returned t ∧ ∃ v, t = .tuple #[v, .bool ok] ∧ Byt w' w.heap.size v l ∧ Below w.heap.size w w' := by
  subst h1 h2; exact rencode_ex m V ho hs w hm
theorem msgs_is (m m2 : MsgN) (V V2 : MsgV) (ho : MsgOk m) (ho2 : MsgOk m2) (ok : Bool) (h1 : eqM m m2 = ok) (w : World) (hm : MsgIs w m V) (hm2 : MsgIs w m2 V2) : Calls Try.prog 21 #[.agg (msgA m V), .agg (msgA m2 V2)] w fun e w' => e = .returned (.bool ok) ∧ Below w.heap.size w w' := by
  subst h1; exact msgs_any m m2 V V2 ho ho2 w hm hm2
theorem rec_is (r : RecN) (V : RecV) (ho : RecOk r) (ok : Bool) (l : List UInt8) (h1 : z6a r = ok) (h2 : recE r = l) (w : World) (hm : RecIs w r V) : Calls Try.prog 35 #[.agg (recA r V)] w fun e w' => ∃ t, e = .returned t ∧ ∃ v, t = .tuple #[v, .bool ok] ∧ Byt w' w.heap.size v l ∧ Below w.heap.size w w' := by
  subst h1 h2; exact record_ex r V ho w hm
theorem rd_is (b : List UInt8) (bv : Value) (hl : b.length ≤ 100000) (ok : Bool) (r : RecN) (h1 : rdOk b = ok) (h2 : rdR b = r) (w : World) (hb : IsB w b bv) : Calls Try.prog 37 #[bv] w fun e w' => ∃ t, e = .returned t ∧ ∃ V, t = .tuple #[.agg (recA r V), .bool ok] ∧ RecIs w' r V ∧ (∀ q, bfp V.v2 q ∨ bfp V.v5 q → w.heap.size ≤ q) ∧ Below w.heap.size w w' := by
  subst h1 h2; exact (readrec_any b bv hl w hb).mono fun e w' ⟨V, k1, k2, k3, k4⟩ => ⟨_, k1, V, rfl, k2, k3, k4⟩
theorem make_is (kind n : Int) (s : ByteArray) (b : List UInt8) (v : Value) (hkd : -9223372036854775808 ≤ kind ∧ kind < 9223372036854775808) (hN : -9223372036854775808 ≤ n ∧ n < 9223372036854775808) (hs : s.size ≤ 40) (m : MsgN) (hm : mkM kind n s b = m) (w : World) (hv : IsB w b v) : Calls Try.prog 16 #[.int .i64 kind, .int .i64 n, .string s, v] w fun e w' => ∃ t, e = .returned t ∧ ∃ V, t = .agg (msgA m V) ∧ MsgIs w' m V ∧ (∀ g, z1a V g → w.heap.size ≤ g) ∧ Below w.heap.size w w' := by
  subst hm; exact make_msg kind n s b v hkd hN hs w hv
section
variable {G : Option Nat} {w0 w : World} {R : List (Nat × Res)}
theorem Mx.nilT (M : Mx G w0 w R) (i : Nat) : Mx G w0 w ((i, tlR [] (zN)) :: R) :=
  M.cons i _ (show Tl w (zN) [] from .inl ⟨rfl, rfl⟩) tlR_dep (fun g hg => by cases hg) (fun _ g hg => by cases hg) fun _ _ _ _ _ g hg => by cases hg
theorem Mx.newRec {w' : World} (M : Mx G w0 w R) (h : Below w.heap.size w w') {r : RecN} {V : RecV} (hm : RecIs w' r V) (hlo : ∀ q, bfp V.v2 q ∨ bfp V.v5 q → w.heap.size ≤ q) (a b : Nat) : Mx G w0 w' ((b, bytR r.l5 V.v5) :: (a, bytR r.l2 V.v2) :: R) := by
  obtain ⟨M1, n1⟩ := (M.step h).roB2 (N := w.heap.size) (fun k s e _ g hg => M.lt k s e g hg) a hm.h2 (fun g hg => hlo g (.inl hg))
  exact (M1.roB2 n1 b hm.h5 (fun g hg => hlo g (.inr hg))).1
theorem next_is (M0 : Mx G w0 w R) (k q g : Nat) (l : List UInt8) (u : Value) (n : Int) (b : Bool) (hk : look R k = some (blkR g 94 #[u, .int .i64 n, .bool b])) (hq : look R q = some (tlR l u)) (hne : k ≠ q) (hl : l.length ≤ 1000000) (k5 k6 k7 k8 k9 : Nat) (m : MsgN) (ok bad : Bool) (l2 : List UInt8) (h1 : nxM l = m) (h2 : nxOk l = ok) (h3 : (b || nxBad l) = bad) (h4 : nxL l = l2) :
    Calls Try.prog 30 #[.pointer (some ⟨g, 0, none⟩)] w fun e w' => ∃ t, e = .returned t ∧ ∃ u' V, Mx G w0 w' ((k9, bytR m.l9 V.v9) :: (k8, bytR m.l8 V.v8) :: (k7, bytR m.l7 V.v7) :: (k6, bytR m.l6 V.v6) :: (k5, bytR m.l5 V.v5) :: (k, blkR g 94 #[u', .int .i64 n, .bool bad]) :: (q, tlR l2 u') :: R) ∧ t = .tuple #[.agg (msgA m V), .bool ok] := by
  subst h1 h2 h3 h4; exact next_any M0 k q g l u n b hk hq hne hl k5 k6 k7 k8 k9
end
end Go.Proofs.Ytlbkogdmojlpmaa
namespace Go.Proofs.Ytlbkogdmojlpmaa
open Go.ChangeShapes Go.WideShapes Go.ChangeAt Go.RowKit
def m7 : MsgN := ⟨7, 0, 0, 0, "".toUTF8, 0, 0, [], [], [], [], []⟩
def rA : RecN := ⟨1, ⟨#[97]⟩, [], 0, 0, [], 0, 0, 0⟩
theorem m7_ok : MsgOk m7 := ⟨by decide, by decide, by decide, by decide, by decide, by decide, by decide⟩
theorem rA_ok : RecOk rA := ⟨by decide, by decide, by decide, by decide, by decide, by decide, by decide⟩
theorem m7_right : z2a m7 = true := by
  unfold z2a
  rw [show wantOk m7.k m7.p = true from rfl, show decide (hasB m7 = wantN m7.k m7.p) = true from by decide]
  unfold z6
  rw [show nilB m7.s = true from decide_eq_true rfl, show topI m7.a 8 = 0 from topI_none 8, show topI m7.b 8 = 0 from topI_none 8]
  simp [m7]
theorem enc7 : zwa m7 = true ∧ encL m7 = [0, 1, 7] := by
  have h : zwa m7 = true := by
    unfold zwa
    rw [m7_right]
    decide
  exact ⟨h, by rw [encL_ok h]; decide⟩
theorem rA_name : NameOk rA.s := by
  refine ⟨by decide, by decide, fun i h => ?_⟩
  have : i = 0 := by have h1 : rA.s.size = 1 := rfl; omega
  subst this
  exact (show (33 : Int) ≤ ((97 : UInt8).toNat : Int) ∧ ((97 : UInt8).toNat : Int) ≤ 126 by decide)
theorem rA_keep : z6a rA = true := by
  unfold z6a
  rw [show nameB rA.s = true from @decide_eq_true _ (Classical.propDecidable _) rA_name, show topI rA.a 8 = 0 from topI_none 8, show topI rA.b 8 = 0 from topI_none 8]
  decide
theorem known_1 : wrN true 0 (([0, 1, 7] : List UInt8).take 1) = 1 ∧ nxM (([0, 1, 7] : List UInt8).take 1) = mZero ∧ nxOk (([0, 1, 7] : List UInt8).take 1) = false ∧ (false || nxBad (([0, 1, 7] : List UInt8).take 1)) = false ∧ nxL (([0, 1, 7] : List UInt8).take 1) = ([0, 1, 7] : List UInt8).take 1 := by
  obtain ⟨h1, h2⟩ := nx_short (l := ([0, 1, 7] : List UInt8).take 1) (by decide)
  refine ⟨rfl, by rw [nxM, h1]; rfl, h1, by rw [h2]; rfl, by rw [nxL, h1, h2]; rfl⟩
theorem known_2 : wrL true (([0, 1, 7] : List UInt8).take 1) (([0, 1, 7] : List UInt8).drop 1) = [0, 1, 7] ∧ wrN true 1 (([0, 1, 7] : List UInt8).drop 1) = 3 ∧ nxM ([0, 1, 7] : List UInt8) = m7 ∧ nxOk ([0, 1, 7] : List UInt8) = true ∧ (false || nxBad ([0, 1, 7] : List UInt8)) = false ∧ nxL ([0, 1, 7] : List UInt8) = [] := by
  obtain ⟨e1, e2⟩ := enc7
  obtain ⟨d1, d2⟩ := decOk_enc m7_ok e1
  rw [e2] at d1 d2
  have hF : nxF ([0, 1, 7] : List UInt8) = 1 := rfl
  have hT : ([0, 1, 7] : List UInt8).take (2 + nxF ([0, 1, 7] : List UInt8)) = [0, 1, 7] := rfl
  obtain ⟨h1, h2⟩ := nx_whole (l := ([0, 1, 7] : List UInt8)) (by decide) (by rw [hF]; decide) (by rw [hF]; decide)
  rw [hT, d1] at h1 h2
  exact ⟨rfl, rfl, by rw [nxM, h1, hT, d2]; rfl, h1, by rw [h2]; rfl, by rw [nxL, h1]; rfl⟩
theorem y_eqPN {a : Act} {w : World} {o : Oper} (ty tz : TypeId) (hu : Try.prog.underlying ty = some (.pointer (Try.prog.pointee ty))) (hgt : Try.prog.eqGuardType Try.prog.depth ty = false) (x : Operand) {p : Addr} (ho : o.op = .binOp .eql ty x (.const (.pointer none)) tz) (hx : a.eval x = .pointer (some p)) : (execOp a.eval o).run Try.prog w = .ok (.value (.bool false)) w :=
  y_eqV ty tz x _ ho hx (v := .pointer none) rfl (by simp [eqGuard, go_sem, hgt]) (by rw [run_eql_pointer_nil (h := hu)]; rfl)
theorem lknown_any  (w : World) :
  Calls Try.prog 15 #[] w fun e w' => e = .returned (.bool true) ∧ Below w.heap.size w w' := by
 obtain ⟨L, hL⟩ : ∃ L, L = ([0, 1, 7] : List UInt8) := ⟨_, rfl⟩
 obtain ⟨RB, hRB⟩ : ∃ l, recE rA = l := ⟨_, rfl⟩
 have hRl : RB.length ≤ 100000 := by rw [← hRB, show recE rA = recL rA from if_pos rA_keep]; decide
 have k1 := known_1
 have k2 := known_2
 have hL3 : L.length = 3 := by rw [hL]; rfl
 rw [← hL] at k1 k2
 obtain ⟨e1, e2⟩ := enc7
 rw [← hL] at e2
 obtain ⟨y1, y2⟩ := rd_rec rA_ok rA_keep
 rw [hRB] at y1 y2
 refine zg (args := []) 100 Try.func15 rfl rfl rfl ?_
 intro fa F
 have M := Mx.start w
 refine zT fun _ hK21 => ?_
 refine rm rfl F fun _ F22 => ?_
 refine hK21 _ _ (zS fun _ hK23 => ?_)
 refine zR ?_
 refine rn rfl rfl F22 rfl (.agg (msgA ⟨7, 0, 0, 0, "".toUTF8, 0, 0, [], [], [], [], []⟩ ⟨zN, zN, zN, zN, zN⟩)) (by unfold execOp; simp only [List.map_toArray, List.map_cons, List.map_nil, ]; kernel_rfl) fun _ F24 => ?_
 refine zd (za rfl) rfl F24 rfl rfl (zE Try.func17 rfl) #[.agg (msgA ⟨7, 0, 0, 0, "".toUTF8, 0, 0, [], [], [], [], []⟩ ⟨zN, zN, zN, zN, zN⟩)] (zk (F24.get rfl)) (enc_is m7 vZero m7_ok (by decide) true L e1 e2 w ⟨zc _, zc _, zc _, zc _, zc _⟩) ?_
 rintro _ w25 a25 ⟨v25, rfl, hv25, b25⟩ F25
 have M25 := M.newO b25 0 hv25
 clear M b25 hv25
 obtain ⟨A25, c25, rfl⟩ := (M25.isO (k := 0) rfl).shape
 refine zB 5 [(0, .bool false), (1, .slice A25 (L).length c25), (2, .bool true)] [] dnil [] F25 fun _ F26 => ?_
 refine hK23 _ _ (zS fun _ hK27 => ?_)
 refine zR ?_
 refine zd (za rfl) rfl F26 rfl rfl (zE Try.func26 rfl) #[] (args0) (new_any w25) ?_
 rintro _ w28 a28 ⟨g28, rfl, hg28, hc28, b28⟩ F28
 have M28 := (M25.newb b28 1 hg28 hc28).nilT 2
 clear M25 b28 hg28 hc28
 refine rm rfl F28 fun _ F29 => ?_
 refine hK27 _ _ (zS fun _ hK30 => ?_)
 refine zT fun _ hK31 => ?_
 refine rm rfl F29 fun _ F32 => ?_
 refine rn rfl rfl F32 rfl (.bool false) (y_eqPN 46 _ Try.underlying46 (by kernel_rfl) _ rfl (F32.get rfl)) fun _ F33 => ?_
 refine hK31 _ _ (wp_cond_false (F33.get rfl) ?_)
 refine wp_skip ?_
 refine hK30 _ _ (zS fun _ hK34 => ?_)
 refine zR ?_
 refine rm rfl F33 fun _ F35 => ?_
 refine rm rfl F35 fun _ F36 => ?_
 refine rm rfl F36 fun _ F37 => ?_
 refine rn rfl rfl F37 rfl (.int .i64 3) (zca _ rfl (F37.get rfl) (M28.isO (k := 0) rfl) (by rw [hL3]; rfl)) fun _ F38 => ?_
 refine rn rfl rfl F38 rfl (.int .i64 1) (y_min _ _ rfl rfl (F38.get rfl) (by decide)) fun _ F39 => ?_
 refine wl_runE (za rfl) rfl F39 rfl (y_slTo _ _ rfl (F39.get rfl) (M28.isO (k := 0) rfl) (F39.get rfl) (j := 1) rfl (by omega)) ?_
 intro v40 a40 h40 F40
 have og41 := M28.owns (k := 0) rfl
 have M41 := M28.tame (k := 0) rfl
 clear M28
 have M40 := M41.partB 3 (k := 0) rfl h40.1 h40.2
 clear M41
 obtain ⟨A40, c40, rfl⟩ := (M40.isb (k := 3) rfl).shape
 refine zd (za rfl) rfl F40 rfl rfl (zE Try.func28 rfl) #[.pointer (some ⟨g28, 0, none⟩), .slice A40 ((L.take 1)).length c40] (z9 (F40.get rfl) (F40.get rfl)) (swrite_any M40 1 2 3 g28 [] (L.take 1) (zN) (.slice A40 ((L.take 1)).length c40) 0 false rfl rfl rfl (by decide) (by decide) (by simp only [List.length_nil, List.length_take]; omega) (by decide) true rfl) ?_
 rintro _ w42 a42 ⟨u42, N42, rfl⟩ F42
 rw [(show wrL true [] (L.take 1) = L.take 1 from rfl)] at N42
 rw [k1.1] at N42
 clear M40
 replace N42 : Mx _ _ _ ((1, blkR g28 94 #[u42, .int .i64 1, .bool false]) :: _) := N42
 refine hK34 _ _ (zS fun _ hK43 => ?_)
 refine zR ?_
 refine rm rfl F42 fun _ F44 => ?_
 refine zd (za rfl) rfl F44 rfl rfl (zE Try.func30 rfl) #[.pointer (some ⟨g28, 0, none⟩)] (zk (F44.get rfl)) (next_is N42 1 2 g28 (L.take 1) u42 1 false rfl rfl (by decide) (by rw [List.length_take]; omega) 4 5 6 7 8 mZero false false (L.take 1) k1.2.1 k1.2.2.1 k1.2.2.2.1 k1.2.2.2.2) ?_
 rintro _ w45 a45 ⟨u45, V45, N45, rfl⟩ F45
 clear N42
 refine zB 3 [(0, .bool false), (1, .slice A25 (L).length c25), (2, .bool true), (3, .pointer (some ⟨g28, 0, none⟩)), (30, .agg (msgA mZero V45)), (31, .bool false)] [] dnil [] F45 fun _ F46 => ?_
 refine zh (za rfl) rfl F46 rfl N45 9 (t := 29) (c := msgA ⟨0, 0, 0, 0, "".toUTF8, 0, 0, [], [], [], [], []⟩ ⟨zN, zN, zN, zN, zN⟩) (by unfold execOp; kernel_rfl) ?_
 intro g47 a47 w47 F47 M47
 clear F46 N45
 refine zx (za rfl) rfl F47 M47 (k := 9) rfl _ _ _ rfl (F47.get rfl) (F47.get rfl) (msgA mZero V45) _ rfl (Nat.le_of_ble_eq_true rfl) (z7 (w := w47) ⟨(M47.isb (k := 4) rfl), (M47.isb (k := 5) rfl), (M47.isb (k := 6) rfl), (M47.isb (k := 7) rfl), (M47.isb (k := 8) rfl)⟩) (zz rfl) (by kernel_rfl) ?_
 intro w48 M48
 clear M47
 refine rm rfl F47 fun _ F49 => ?_
 refine hK43 _ _ (zS fun _ hK50 => ?_)
 refine zR ?_
 refine rm rfl F49 fun _ F51 => ?_
 refine rm rfl F51 fun _ F52 => ?_
 refine rm rfl F52 fun _ F53 => ?_
 refine rn rfl rfl F53 rfl (.int .i64 3) (zca _ rfl (F53.get rfl) (M48.isb (k := 0) rfl) (by rw [hL3]; rfl)) fun _ F54 => ?_
 refine rn rfl rfl F54 rfl (.int .i64 1) (y_min _ _ rfl rfl (F54.get rfl) (by decide)) fun _ F55 => ?_
 refine wl_runE (za rfl) rfl F55 rfl (y_slFrom _ _ rfl (F55.get rfl) (M48.isb (k := 0) rfl) (F55.get rfl) (i := 1) rfl (by omega)) ?_
 intro v56 a56 h56 F56
 have M56 := M48.partB 10 (k := 0) rfl h56.1 h56.2
 clear M48
 obtain ⟨A56, c56, rfl⟩ := (M56.isb (k := 10) rfl).shape
 refine zd (za rfl) rfl F56 rfl rfl (zE Try.func28 rfl) #[.pointer (some ⟨g28, 0, none⟩), .slice A56 ((L.drop 1)).length c56] (z9 (F56.get rfl) (F56.get rfl)) (swrite_any M56 1 2 10 g28 (L.take 1) (L.drop 1) u45 (.slice A56 ((L.drop 1)).length c56) 1 false rfl rfl rfl (by decide) (by decide) (by simp only [List.length_take, List.length_drop]; omega) (by decide) true (by decide)) ?_
 rintro _ w57 a57 ⟨u57, N57, rfl⟩ F57
 rw [k2.1] at N57
 rw [k2.2.1] at N57
 clear M56
 replace N57 : Mx _ _ _ ((1, blkR g28 94 #[u57, .int .i64 3, .bool false]) :: _) := N57
 refine hK50 _ _ (zS fun _ hK58 => ?_)
 refine zR ?_
 refine rm rfl F57 fun _ F59 => ?_
 refine zd (za rfl) rfl F59 rfl rfl (zE Try.func30 rfl) #[.pointer (some ⟨g28, 0, none⟩)] (zk (F59.get rfl)) (next_is N57 1 2 g28 L u57 3 false rfl rfl (by decide) (by omega) 11 12 13 14 15 m7 true false ([] : List UInt8) k2.2.2.1 k2.2.2.2.1 k2.2.2.2.2.1 k2.2.2.2.2.2) ?_
 rintro _ w60 a60 ⟨u60, V60, N60, rfl⟩ F60
 clear N57
 refine zA 3 [(39, .tuple #[.agg (msgA m7 V60), .bool true]), (42, .agg (msgA m7 V60)), (43, .bool true)] [] dnil [] F60 fun _ F61 => ?_
 refine zh (za rfl) rfl F61 rfl N60 16 (t := 29) (c := msgA ⟨0, 0, 0, 0, "".toUTF8, 0, 0, [], [], [], [], []⟩ ⟨zN, zN, zN, zN, zN⟩) (by unfold execOp; kernel_rfl) ?_
 intro g62 a62 w62 F62 M62
 clear F61 N60
 refine zx (za rfl) rfl F62 M62 (k := 16) rfl _ _ _ rfl (F62.get rfl) (F62.get rfl) (msgA m7 V60) _ rfl (Nat.le_of_ble_eq_true rfl) (z7 (w := w62) ⟨(M62.isb (k := 11) rfl), (M62.isb (k := 12) rfl), (M62.isb (k := 13) rfl), (M62.isb (k := 14) rfl), (M62.isb (k := 15) rfl)⟩) (zz rfl) (by kernel_rfl) ?_
 intro w63 M63
 clear M62
 refine rm rfl F62 fun _ F64 => ?_
 refine hK58 _ _ (zS fun _ hK65 => ?_)
 refine zR ?_
 refine rn rfl rfl F64 rfl (.agg (recA ⟨1, ({ data := #[97] }), [], 0, 0, [], 0, 0, 0⟩ ⟨zN, zN⟩)) (by unfold execOp; simp only [List.map_toArray, List.map_cons, List.map_nil, ]; kernel_rfl) fun _ F66 => ?_
 refine zd (za rfl) rfl F66 rfl rfl (zE Try.func35 rfl) #[.agg (recA ⟨1, ({ data := #[97] }), [], 0, 0, [], 0, 0, 0⟩ ⟨zN, zN⟩)] (zk (F66.get rfl)) (rec_is rA rvZero rA_ok true RB rA_keep hRB w63 ⟨zc _, zc _⟩) ?_
 rintro _ w67 a67 ⟨v67, rfl, hv67, b67⟩ F67
 have M67 := M63.newO b67 17 hv67
 clear M63 b67 hv67
 obtain ⟨A67, c67, rfl⟩ := (M67.isO (k := 17) rfl).shape
 refine zA 5 [(44, .tuple #[.slice A67 (RB).length c67, .bool true]), (47, .slice A67 (RB).length c67), (48, .bool true), (8, .slice A67 (RB).length c67), (9, .bool true)] [] dnil [] F67 fun _ F68 => ?_
 refine hK65 _ _ (zS fun _ hK69 => ?_)
 refine zR ?_
 refine rm rfl F68 fun _ F70 => ?_
 refine zd (za rfl) rfl F70 rfl rfl (zE Try.func37 rfl) #[.slice A67 (RB).length c67] (zk (F70.get rfl)) (rd_is RB (.slice A67 (RB).length c67) hRl true rA y1 y2 w67 (M67.isO (k := 17) rfl)) ?_
 rintro _ w71 a71 ⟨V71, rfl, is71, lo71, b71⟩ F71
 have M71 := M67.newRec b71 is71 lo71 18 19
 clear M67 b71 lo71
 refine zA 3 [(49, .tuple #[.agg (recA rA V71), .bool true]), (52, .agg (recA rA V71)), (53, .bool true)] [] dnil [] F71 fun _ F72 => ?_
 refine zh (za rfl) rfl F72 rfl M71 20 (t := 54) (c := recA ⟨0, "".toUTF8, [], 0, 0, [], 0, 0, 0⟩ ⟨zN, zN⟩) (by unfold execOp; kernel_rfl) ?_
 intro g73 a73 w73 F73 M73
 clear F72 M71
 refine zx (za rfl) rfl F73 M73 (k := 20) rfl _ _ _ rfl (F73.get rfl) (F73.get rfl) (recA rA V71) _ rfl (Nat.le_of_ble_eq_true rfl) (recA_one (w := w73) ⟨(M73.isb (k := 18) rfl), (M73.isb (k := 19) rfl)⟩) (zz rfl) (by kernel_rfl) ?_
 intro w74 M74
 clear M73
 refine rm rfl F73 fun _ F75 => ?_
 refine hK69 _ _ (zS fun _ hK76 => ?_)
 refine zR ?_
 refine rm rfl F75 fun _ F77 => ?_
 refine rm rfl F77 fun _ F78 => ?_
 refine rm rfl F78 fun _ F79 => ?_
 refine ze (w' := w74) (zb rfl rfl rfl (F79.get rfl)) rfl F79 rfl (.int .i64 3) (zca _ rfl (F79.get rfl) (M74.isb (k := 0) rfl) (by rw [hL3]; rfl)) fun _ F80 => ?_
 refine zA 4 [(58, .bool true), (59, .bool true), (60, .bool true), (61, .slice A25 (L).length c25)] [] dnil [] F80 fun _ F81 => ?_
 refine ze (w' := w74) (zb rfl rfl rfl (F81.get rfl)) rfl F81 rfl ((ixV (.slice A25 (L).length c25) 1)) (y_ixB _ _ rfl (F81.get rfl) (M74.isb (k := 0) rfl) rfl rfl (by omega)) fun _ F82 => ?_
 refine ze (w' := w74) (zb rfl rfl rfl (F82.get rfl)) rfl F82 rfl (.int .u8 (((1 : UInt8).toNat : Nat) : Int)) (y_ldB _ rfl (F82.get rfl) (M74.isb (k := 0) rfl) (by rw [hL]; rfl) rfl) fun _ F83 => ?_
 refine ze (w' := w74) (zb rfl rfl rfl (F83.get rfl)) rfl F83 rfl (.bool true) (zl _ _ _ _ rfl (F83.get rfl) rfl Try.underlying5 (zia (by decide))) fun _ F84 => ?_
 refine zA 3 [(65, .bool true), (66, .bool true), (67, .slice A25 (L).length c25)] [] dnil [] F84 fun _ F85 => ?_
 refine ze (w' := w74) (zb rfl rfl rfl (F85.get rfl)) rfl F85 rfl ((ixV (.slice A25 (L).length c25) 2)) (y_ixB _ _ rfl (F85.get rfl) (M74.isb (k := 0) rfl) rfl rfl (by omega)) fun _ F86 => ?_
 refine ze (w' := w74) (zb rfl rfl rfl (F86.get rfl)) rfl F86 rfl (.int .u8 (((7 : UInt8).toNat : Nat) : Int)) (y_ldB _ rfl (F86.get rfl) (M74.isb (k := 0) rfl) (by rw [hL]; rfl) rfl) fun _ F87 => ?_
 refine ze (w' := w74) (zb rfl rfl rfl (F87.get rfl)) rfl F87 rfl (.bool true) (zl _ _ _ _ rfl (F87.get rfl) rfl Try.underlying5 (zia (by decide))) fun _ F88 => ?_
 refine zB 11 [(0, .bool false), (3, .pointer (some ⟨g28, 0, none⟩)), (9, .bool true), (10, .pointer (some ⟨g73, 0, none⟩)), (11, .bool true), (79, .bool true), (81, .int .i64 m7.k)] [0] (zi (M74.blk (k := 16) rfl) dnil) [g62] F88 fun _ F89 => ?_
 refine ze (w' := w74) (zb rfl rfl rfl (F89.get rfl)) rfl F89 rfl (.bool true) (zl _ _ _ _ rfl (F89.get rfl) rfl Try.underlying3 (zia (show m7.k = 7 from rfl))) fun _ F90 => ?_
 refine zA 3 [(83, .bool true), (84, .bool true), (85, .pointer (some ⟨g28, 0, none⟩))] [] dnil [] F90 fun _ F91 => ?_
 refine zd (zb rfl rfl rfl (F91.get rfl)) rfl F91 rfl rfl (zE Try.func32 rfl) #[.pointer (some ⟨g28, 0, none⟩)] (zk (F91.get rfl)) (zf ((bad_any g28 u60 3 false w74 (M74.blk (k := 1) rfl)))) ?_
 rintro _ w92 a92 ⟨rfl, b92⟩ F92
 have M92 := M74.step b92
 refine zB 11 [(0, .bool false), (95, .bool true), (97, .string rA.s)] [0] (zi (M92.blk (k := 20) rfl) dnil) [g73] F92 fun _ F93 => ?_
 refine ze (w' := w92) (zb rfl rfl rfl (F93.get rfl)) rfl F93 rfl (.bool true) (y_eqS _ _ _ rfl (F93.get rfl) rfl (decide_eq_true rfl)) fun _ F94 => ?_
 refine zB 2 [(0, .bool true)] [] dnil [] F94 fun _ F95 => ?_
 refine hK76 _ _ (wp_ret ?_)
 try simp only [Exit.then, Exit.inBlock, Exit.jump]
 exact bodyPost_ret (res1 rfl (F95.get rfl)) F95.defers ⟨rfl, M92.below⟩
end Go.Proofs.Ytlbkogdmojlpmaa
namespace Go.Proofs.Ytlbkogdmojlpmaa
open Go.ChangeShapes Go.WideShapes Go.ChangeAt Go.RowKit
theorem wrOk_t {n : Int} (h : n < 100000) : wrOk n false = true := by unfold wrOk; rw [decide_eq_true h]; rfl
theorem nx_nil {l : List UInt8} (h : l = []) : nxM l = mZero ∧ nxOk l = false ∧ nxBad l = false ∧ nxL l = [] := by
  obtain ⟨h1, h2⟩ := nx_short (l := l) (by rw [h]; decide)
  exact ⟨by rw [nxM, h1]; rfl, h1, h2, by rw [nxL, h1, h2]; exact h⟩
end Go.Proofs.Ytlbkogdmojlpmaa
namespace Go.Proofs.Ytlbkogdmojlpmaa
open Go.ChangeShapes Go.WideShapes Go.ChangeAt Go.RowKit
theorem encL_nn {m : MsgN} (h : zwa m = false) : encL m = [] := if_neg (by rw [h]; exact Bool.false_ne_true)
theorem hd_of {b : List UInt8} (h : decOk b = true) : ∃ (m : MsgN) (b1 b2 : UInt8), MsgOk m ∧ zwa m = true ∧ b = 0 :: b1 :: b2 :: remN m 11 ∧ b1.toNat + 2 = b.length ∧ ((b2.toNat : Nat) : Int) = m.k ∧ 1 ≤ m.k ∧ m.k ≤ 12 ∧ b.length ≤ 202 := by
  obtain ⟨h1, h2, -⟩ := decOk_is h
  obtain ⟨m, hm⟩ : ∃ m, decM b = m := ⟨_, rfl⟩
  have ho := (decM_msgok b).1
  rw [hm] at h1 h2 ho
  have hr := encOk_right h1
  have hk := right_kind hr
  have hl : (encL m).length = (encRk m 12).length + 2 := by rw [encL_ok h1, encF_len]
  have h3 : (encRk m 12).length ≤ 200 := by
    unfold zwa at h1
    simp only [Bool.and_eq_true, decide_eq_true_eq] at h1
    rw [encRk_len]; omega
  have he : encL m = 0 :: zu ((encRk m 12).length : Int) :: zu m.k :: remN m 11 := by
    rw [encL_ok h1, encF_is, encRk_rem m 11 (Nat.le_refl _)]; rfl
  refine ⟨m, _, _, ho, h1, h2.symm.trans he, ?_, ?_, hk.1, hk.2, ?_⟩
  · rw [← h2, hl, byteI_nat (by omega)]
  · have := z4b m.k; omega
  · rw [← h2, hl]; omega
theorem nx_front {m : MsgN} (ho : MsgOk m) (h : zwa m = true) (r : List UInt8) : nxOk (encL m ++ r) = true ∧ nxM (encL m ++ r) = m ∧ nxBad (encL m ++ r) = false ∧ nxL (encL m ++ r) = r := by
  obtain ⟨d1, d2⟩ := decOk_enc ho h
  obtain ⟨m', b1, b2, -, -, e, hb, -, -, -, hl⟩ := hd_of d1
  have h0 : (encL m ++ r).getD 0 0 = 0 := by rw [e]; rfl
  have h1 : (encL m ++ r).getD 1 0 = b1 := by rw [e]; rfl
  have hF : nxF (encL m ++ r) + 2 = (encL m).length := by
    unfold nxF
    rw [h0, h1]
    have : (0 : UInt8).toNat = 0 := rfl
    omega
  have h2 : 2 ≤ (encL m ++ r).length := by rw [List.length_append]; omega
  have hT : (encL m ++ r).take (2 + nxF (encL m ++ r)) = encL m := by rw [Nat.add_comm, hF]; exact List.take_left
  have hD : (encL m ++ r).drop (2 + nxF (encL m ++ r)) = r := by rw [Nat.add_comm, hF]; exact List.drop_left
  obtain ⟨e1, e2⟩ := nx_whole h2 (by omega) (by rw [List.length_append]; omega)
  rw [hT, d1] at e1 e2
  exact ⟨e1, by rw [nxM, e1, hT]; exact d2, e2, by rw [nxL, e1, hD]; rfl⟩
end Go.Proofs.Ytlbkogdmojlpmaa
namespace Go.Proofs.Ytlbkogdmojlpmaa
open Go.ChangeShapes Go.WideShapes Go.ChangeAt Go.RowKit
theorem Rd.isB' {w : World} {A : Option Addr} {l : List UInt8} {n c : Nat} (h : Rd w A l) (hn : l.length = n) (hc : n ≤ c) (hm : c ≤ maxLen) (hz : A = none → c = 0) : IsB w l (.slice A n c) := by
  subst hn
  exact ⟨A, c, rfl, hc, hm, hz, h⟩
theorem nmB_ne (s : ByteArray) : sBy (nmB s) ≠ [] := by
  by_cases h : (sBy s).length = 0
  · rw [nmB_nil h]; simp [sBy]
  · rw [nmB_some h]
    simp only [sBy, List.toList_toArray]
    intro e
    have := congrArg List.length e
    rw [List.length_take] at this
    have h2 := nmL_len (sBy s)
    unfold sBy at h h2
    simp only [List.length_nil] at this
    omega
theorem nmB_size (s : ByteArray) : 0 < (nmB s).size ∧ (nmB s).size ≤ 16 := by
  have h := nmB_ne s
  have e : (sBy (nmB s)).length = (nmB s).size := sBy_len _
  refine ⟨by have := List.length_pos_iff.2 h; omega, ?_⟩
  by_cases h0 : (sBy s).length = 0
  · rw [nmB_nil h0]; decide
  · rw [← e, nmB_some h0]
    simp only [sBy, List.toList_toArray, List.length_take]
    omega
theorem kn (n : Int) {k : Int} (hk : 0 < k) : 0 < (1 + n % k).toNat ∧ (1 + n % k).toNat ≤ k.toNat := by
  have h1 := Int.emod_nonneg n (show k ≠ 0 by omega)
  have h2 := Int.emod_lt_of_pos n hk
  omega
theorem mkM_ok (kind n : Int) (s : ByteArray) (b : List UInt8) : MsgOk (mkM kind n s b) ∧ (mkM kind n s b).s.size ≤ 1000 := by
  have h2 := Int.emod_two_eq n
  have hA := kn n (show (0 : Int) < 4294967295 by decide)
  have hC := kn (n.tdiv 3) (show (0 : Int) < 70000 by decide)
  have h11 := Int.emod_nonneg n (show (11 : Int) ≠ 0 by decide)
  have h11' := Int.emod_lt_of_pos n (show (0 : Int) < 11 by decide)
  have h40 := Int.emod_nonneg n (show (1099511627776 : Int) ≠ 0 by decide)
  have h40' := Int.emod_lt_of_pos n (show (0 : Int) < 1099511627776 by decide)
  have hs := nmB_size s
  have e1 : ("".toUTF8).size ≤ 1000000 := by decide
  have e2 : ("".toUTF8).size ≤ 1000 := by decide
  unfold mkM
  by_cases k0 : kind % 12 = 0
  · rw [if_pos k0]
    by_cases q : n % 2 = 0
    · rw [if_pos q]; exact ⟨⟨(by dsimp only; omega), (by dsimp only; omega), (by dsimp only; omega), (by dsimp only; omega), (by dsimp only; first | exact e1 | omega), Nat.lt_trans (m := 4294967296) (by dsimp only; omega) (by decide), Nat.lt_trans (m := 4294967296) (by dsimp only; omega) (by decide)⟩, (by dsimp only; first | exact e2 | omega)⟩
    · rw [if_neg q]; exact ⟨⟨(by dsimp only; omega), (by dsimp only; omega), (by dsimp only; omega), (by dsimp only; omega), (by dsimp only; first | exact e1 | omega), Nat.lt_trans (m := 4294967296) (by dsimp only; omega) (by decide), Nat.lt_trans (m := 4294967296) (by dsimp only; omega) (by decide)⟩, (by dsimp only; first | exact e2 | omega)⟩
  rw [if_neg k0]
  by_cases k1 : kind % 12 = 1
  · rw [if_pos k1]
    by_cases q : n % 2 = 0
    · rw [if_pos q]; exact ⟨⟨(by dsimp only; omega), (by dsimp only; omega), (by dsimp only; omega), (by dsimp only; omega), (by dsimp only; first | exact e1 | omega), Nat.lt_trans (m := 4294967296) (by dsimp only; omega) (by decide), Nat.lt_trans (m := 4294967296) (by dsimp only; omega) (by decide)⟩, (by dsimp only; first | exact e2 | omega)⟩
    · rw [if_neg q]; exact ⟨⟨(by dsimp only; omega), (by dsimp only; omega), (by dsimp only; omega), (by dsimp only; omega), (by dsimp only; first | exact e1 | omega), Nat.lt_trans (m := 4294967296) (by dsimp only; omega) (by decide), Nat.lt_trans (m := 4294967296) (by dsimp only; omega) (by decide)⟩, (by dsimp only; first | exact e2 | omega)⟩
  rw [if_neg k1]
  by_cases k2 : kind % 12 = 2
  · rw [if_pos k2]
    exact ⟨⟨(by dsimp only; omega), (by dsimp only; omega), (by dsimp only; omega), (by dsimp only; omega), (by dsimp only; first | exact e1 | omega), Nat.lt_trans (m := 4294967296) (by dsimp only; omega) (by decide), Nat.lt_trans (m := 4294967296) (by dsimp only; omega) (by decide)⟩, (by dsimp only; first | exact e2 | omega)⟩
  rw [if_neg k2]
  by_cases k3 : kind % 12 = 3
  · rw [if_pos k3]
    by_cases q : n.tdiv 2 % 2 = 0
    · rw [if_pos q]; exact ⟨⟨(by dsimp only; omega), (by dsimp only; omega), (by dsimp only; omega), (by dsimp only; omega), (by dsimp only; first | exact e1 | omega), Nat.lt_trans (m := 4294967296) (by dsimp only; omega) (by decide), Nat.lt_trans (m := 4294967296) (by dsimp only; omega) (by decide)⟩, (by dsimp only; first | exact e2 | omega)⟩
    · rw [if_neg q]; exact ⟨⟨(by dsimp only; omega), (by dsimp only; omega), (by dsimp only; omega), (by dsimp only; omega), (by dsimp only; first | exact e1 | omega), Nat.lt_trans (m := 4294967296) (by dsimp only; omega) (by decide), Nat.lt_trans (m := 4294967296) (by dsimp only; omega) (by decide)⟩, (by dsimp only; first | exact e2 | omega)⟩
  rw [if_neg k3]
  by_cases k4 : kind % 12 = 4
  · rw [if_pos k4]
    exact ⟨⟨(by dsimp only; omega), (by dsimp only; omega), (by dsimp only; omega), (by dsimp only; omega), (by dsimp only; first | exact e1 | omega), Nat.lt_trans (m := 4294967296) (by dsimp only; omega) (by decide), Nat.lt_trans (m := 4294967296) (by dsimp only; omega) (by decide)⟩, (by dsimp only; first | exact e2 | omega)⟩
  rw [if_neg k4]
  by_cases k5 : kind % 12 = 5
  · rw [if_pos k5]
    exact ⟨⟨(by dsimp only; omega), (by dsimp only; omega), (by dsimp only; omega), (by dsimp only; omega), (by dsimp only; first | exact e1 | omega), Nat.lt_trans (m := 4294967296) (by dsimp only; omega) (by decide), Nat.lt_trans (m := 4294967296) (by dsimp only; omega) (by decide)⟩, (by dsimp only; first | exact e2 | omega)⟩
  rw [if_neg k5]
  by_cases k6 : kind % 12 = 6
  · rw [if_pos k6]
    exact ⟨⟨(by dsimp only; omega), (by dsimp only; omega), (by dsimp only; omega), (by dsimp only; omega), (by dsimp only; first | exact e1 | omega), Nat.lt_trans (m := 4294967296) (by dsimp only; omega) (by decide), Nat.lt_trans (m := 4294967296) (by dsimp only; omega) (by decide)⟩, (by dsimp only; first | exact e2 | omega)⟩
  rw [if_neg k6]
  by_cases k7 : kind % 12 = 7
  · rw [if_pos k7]
    exact ⟨⟨(by dsimp only; omega), (by dsimp only; omega), (by dsimp only; omega), (by dsimp only; omega), (by dsimp only; first | exact e1 | omega), Nat.lt_trans (m := 4294967296) (by dsimp only; omega) (by decide), Nat.lt_trans (m := 4294967296) (by dsimp only; omega) (by decide)⟩, (by dsimp only; first | exact e2 | omega)⟩
  rw [if_neg k7]
  by_cases k8 : kind % 12 = 8
  · rw [if_pos k8]
    exact ⟨⟨(by dsimp only; omega), (by dsimp only; omega), (by dsimp only; omega), (by dsimp only; omega), (by dsimp only; first | exact e1 | omega), Nat.lt_trans (m := 4294967296) (by dsimp only; omega) (by decide), Nat.lt_trans (m := 4294967296) (by dsimp only; omega) (by decide)⟩, (by dsimp only; first | exact e2 | omega)⟩
  rw [if_neg k8]
  by_cases k9 : kind % 12 = 9
  · rw [if_pos k9]
    exact ⟨⟨(by dsimp only; omega), (by dsimp only; omega), (by dsimp only; omega), (by dsimp only; omega), (by dsimp only; first | exact e1 | omega), Nat.lt_trans (m := 4294967296) (by dsimp only; omega) (by decide), Nat.lt_trans (m := 4294967296) (by dsimp only; omega) (by decide)⟩, (by dsimp only; first | exact e2 | omega)⟩
  rw [if_neg k9]
  by_cases k10 : kind % 12 = 10
  · rw [if_pos k10]
    exact ⟨⟨(by dsimp only; omega), (by dsimp only; omega), (by dsimp only; omega), (by dsimp only; omega), (by dsimp only; first | exact e1 | omega), Nat.lt_trans (m := 4294967296) (by dsimp only; omega) (by decide), Nat.lt_trans (m := 4294967296) (by dsimp only; omega) (by decide)⟩, (by dsimp only; first | exact e2 | omega)⟩
  rw [if_neg k10]
  exact ⟨⟨(by dsimp only; omega), (by dsimp only; omega), (by dsimp only; omega), (by dsimp only; omega), (by dsimp only; first | exact e1 | omega), Nat.lt_trans (m := 4294967296) (by dsimp only; omega) (by decide), Nat.lt_trans (m := 4294967296) (by dsimp only; omega) (by decide)⟩, (by dsimp only; first | exact e2 | omega)⟩
end Go.Proofs.Ytlbkogdmojlpmaa
namespace Go.Proofs.Ytlbkogdmojlpmaa
open Go.ChangeShapes Go.WideShapes Go.ChangeAt Go.RowKit Go.Shelf
def JQ {α : Type} (G : Option Nat) (w0 : World) (PRE : (Nat → Bool) → Prop) (RL : α → (Nat → Bool) → (Nat → Value) → List (Nat × Res)) (S : Nat → Bool) (p : Nat → Value) (w : World) : Prop := PRE S ∧ ∃ x, Mx G w0 w (RL x S p)
theorem JQ.mk {α : Type} {G : Option Nat} {w0 : World} {PRE : (Nat → Bool) → Prop} {RL : α → (Nat → Bool) → (Nat → Value) → List (Nat × Res)} {S : Nat → Bool} {p : Nat → Value} {w : World} (h : PRE S) (x : α) (M : Mx G w0 w (RL x S p)) : JQ G w0 PRE RL S p w := ⟨h, x, M⟩
def ifp (A : Option Addr) (n : Nat) (g : Nat) : Prop := 0 < n ∧ ∃ o, A = some ⟨g, o, none⟩
def intR (A : Option Addr) (n : Nat) (x : Nat → Int) : Res := ⟨false, ifp A n, fun w => RdI w A n x⟩
theorem RdI.same {u u' : World} {A : Option Addr} {n : Nat} {x : Nat → Int} (hs : Same (ifp A n) u u') (h : RdI u A n x) : RdI u' A n x :=
  ⟨h.1, h.2.1, fun hn => by
    obtain ⟨b, o, e, h1, h2⟩ := h.2.2 hn
    refine ⟨b, o, e, Nat.lt_of_lt_of_le h1 hs.size, fun k hk => ?_⟩
    have hb := hs.at_ b _ ⟨hn, o, e⟩ (Array.getElem?_eq_getElem h1)
    rw [← h2 k hk]
    simp only [World.cell?, hb, Array.getElem?_eq_getElem h1]⟩
section
variable {G : Option Nat} {w0 w : World} {R : List (Nat × Res)}
theorem Mx.argI (M : Mx G w0 w R) (i : Nat) {A : Option Addr} {n : Nat} {x : Nat → Int} (h : RdI w0 A n x) (hG : ∀ g, G = some g → ¬ ifp A n g) : Mx G w0 w ((i, intR A n x) :: R) :=
  M.arg i _ (RdI.same (u := w0) ⟨fun g o hg ho => (M.grown.block g (Array.getElem?_eq_some_iff.1 ho).1 (fun e => hG g e.symm hg)).trans ho, M.grown.size⟩ h) (fun _ _ hs h => RdI.same hs h) rfl fun g hg => by
    refine ⟨?_, fun e => hG g e hg⟩
    obtain ⟨hn, o, e⟩ := hg
    obtain ⟨b, q, e2, h1, -⟩ := h.2.2 hn
    rw [e] at e2
    cases e2
    exact h1
theorem Mx.rdI (M : Mx G w0 w R) {k : Nat} {A : Option Addr} {n : Nat} {x : Nat → Int} (h : look R k = some (intR A n x)) : RdI w A n x := M.at_ k _ h
end
section
variable {a : Act} {w : World} {o : Oper} {A : Option Addr} {n c : Nat} {x : Nat → Int}
theorem y_ixJ (y k : Operand) (ho : o.op = .indexAddr 38 y k) (hx : a.eval y = .slice A n c) (hB : RdI w A n x) {z : Int} {i : Nat} (hk : a.eval k = .int .i64 z) (hz : z = (i : Int)) (hi : i < n) : (execOp a.eval o).run Try.prog w = .ok (.value (ixV (.slice A n c) i)) w := by
  subst hz
  obtain ⟨b, q, rfl, hb, hc⟩ := hB.2.2 (by omega)
  unfold execOp
  simp only [ho, hx, hk]
  have h0 : ¬ ((i : Int) < 0) := by omega
  have h5 : (i : Int) < (n : Int) := by omega
  simp [go_sem, h0, h5, hi, ixV, zya]
theorem y_ldJ (y : Operand) (ho : o.op = .load 3 y) {i : Nat} (hx : a.eval y = ixV (.slice A n c) i) (hB : RdI w A n x) (hi : i < n) : (execOp a.eval o).run Try.prog w = .ok (.value (.int .i64 (x i))) w := by
  obtain ⟨g, q, rfl, hb, hc⟩ := hB.2.2 (by omega)
  have hcell := hc i hi
  have hx' : a.eval y = .pointer (some ⟨g, q + i, none⟩) := by rw [hx]; simp [ixV, zya]
  have h6 : (isAgg 3).run Try.prog w = .ok false w := by
    unfold isAgg
    simp only [Sem.run_bind, run_underlying Try.underlying3, Result.andThen_ok]
    rfl
  unfold execOp
  simp only [ho, hx', Instr.loadAt, Instr.sureAddr, loadVar, Sem.run_bind, Sem.run_pure, Result.andThen_ok, h6, Bool.false_eq_true, if_false]
  simp [hcell, Result.andThen]
end
end Go.Proofs.Ytlbkogdmojlpmaa
namespace Go.Proofs.Ytlbkogdmojlpmaa
open Go.ChangeShapes Go.WideShapes Go.ChangeAt Go.RowKit Go.Shelf
def rowR (e : TypeId) (sz n : Nat) (xs : List Value) (v : Value) : Res := ⟨true, ofp v, fun w => w.ownsRow 0 e sz v n xs⟩
theorem row_dep {e : TypeId} {sz n : Nat} {xs : List Value} {v : Value} : ∀ u u', Same (rowR e sz n xs v).fp u u' → (rowR e sz n xs v).F u → (rowR e sz n xs v).F u' := fun u u' hs h => by
  refine ⟨h.1, ?_⟩
  rcases h.2 with hn | ⟨g, c, cur, e, hbg, hg, rest⟩
  · exact .inl hn
  · exact .inr ⟨g, c, cur, e, hbg, hs.at_ g _ (by show ofp v g; rw [ofp, e]; rfl) hg, rest⟩
section
variable {G : Option Nat} {w0 w w' : World} {R : List (Nat × Res)} {e : TypeId} {sz n : Nat} {xs : List Value} {v : Value} {i k : Nat} {a : Act} {o : Oper}
theorem Mx.nilRow (M : Mx G w0 w R) (i : Nat) (e : TypeId) (sz : Nat) : Mx G w0 w ((i, rowR e sz 0 [] (zN)) :: R) :=
  M.cons i _ (World.ownsRow_nil w 0 e sz) row_dep (fun g hg => by cases hg) (fun _ g hg => by cases hg) (fun _ _ _ _ _ g hg => by cases hg)
theorem Mx.rowF (M : Mx G w0 w R) (h : look R k = some (rowR e sz n xs v)) : w.ownsRow 0 e sz v n xs := M.at_ k _ h
theorem row_slice (h : w.ownsRow 0 e sz v n xs) : ∃ A c, v = .slice A n c ∧ n ≤ c ∧ c ≤ maxLen ∧ (0 < n → ∃ g cur, A = some ⟨g, 0, none⟩ ∧ w.heap[g]? = some (.cells cur e (0, 0)) ∧ cur.toList.take (n * sz) = xs) := by
  rcases h.2 with ⟨rfl, rfl⟩ | ⟨g, c, cur, rfl, hb, hg, h1, h2, h3, h4⟩
  · exact ⟨none, 0, rfl, Nat.le_refl _, Nat.zero_le _, fun h => absurd h (Nat.lt_irrefl 0)⟩
  · exact ⟨_, c, rfl, h1, h2, fun _ => ⟨g, cur, rfl, hg, h4⟩⟩
theorem run_appR (M : Mx G w0 w R) {kb g : Nat} {c : Array Value} {t T : TypeId} {by_ cc : Nat} (hk : look R k = some (rowR e sz n xs v)) (hb : look R kb = some (blkR g t c)) (hc : c.size = sz) (h1 : c.all (·.oneCell') = true) (hsz : 0 < sz) (hT : Try.prog.underlying T = some (.slice e))
    (hinf : (Try.prog.info? e).map (fun i => (i.size, i.bytes, i.zero.map (·.cells.size))) = some (sz, by_, some sz)) (hn : (n + 1) * by_ ≤ 140737488355328) (hm : n + 1 ≤ maxLen) (s x : Operand)
    (ho : o.op = .call { callee := .builtin .append, args := #[s, x], argTypes := #[T, T] }) (hs : a.eval s = v) (hx : a.eval x = .slice (some ⟨g, 0, none⟩) 1 cc) :
    ∃ v' w', (execOp a.eval o).run Try.prog w = .ok (.value v') w' ∧ Mx G w0 w' ((k, rowR e sz (n + 1) (xs ++ c.toList) v') :: R) := by
  have hown : w.ownsRow 0 e sz v n xs := M.at_ k _ hk
  obtain ⟨i, hi⟩ : ∃ i, Try.prog.info? e = some i := by
    cases hq : Try.prog.info? e with
    | none => rw [hq] at hinf; cases hinf
    | some i => exact ⟨i, rfl⟩
  rw [hi] at hinf
  have hinf : (i.size, i.bytes, i.zero.map (·.cells.size)) = (sz, by_, some sz) := Option.some.inj hinf
  obtain ⟨z, hz, hzs⟩ : ∃ z, i.zero = some z ∧ z.cells.size = sz := by
    cases hq : i.zero with
    | none => rw [hq] at hinf; cases hinf
    | some z => rw [hq] at hinf; exact ⟨z, rfl, by injection hinf with _ h; injection h with _ h; exact Option.some.inj h⟩
  have hsize : i.size = sz := by injection hinf
  have hbytes : i.bytes = by_ := by injection hinf with _ h; injection h
  obtain ⟨g', cap, w', q1, q2, q3, q4, q5⟩ := run_append_lies (P := Try.prog) w T o.type 0 e i z sz by_ hT hi hz hsize hbytes hzs hsz v n xs hown ⟨g, 0, none⟩ 1 cc c.toList (by rw [Array.length_toList, hc, Nat.one_mul]) (World.news_of_block (M.blk hb)) (fun u hu => by
    have := Array.all_eq_true_iff_forall_mem.1 h1 u (Array.mem_toList_iff.1 hu)
    exact this) (by decide) hm hn (Nat.zero_le _) _ rfl
  refine ⟨_, w', ?_, M.write hk rfl q3 (fun _ e => e) _ q2 row_dep fun b hb => ?_⟩
  · unfold execOp
    simp only [ho, resolve, invoke, builtin, Sem.run_bind, Sem.run_pure, Result.andThen_ok, List.map_toArray, List.map_cons, List.map_nil, hs, hx, q1]
  · obtain rfl : g' = b := by simpa [rowR, ofp, Value.ownBlock] using hb
    exact ⟨q5, q4.imp id fun e => by rw [e]; exact Nat.le_refl _⟩
theorem y_lnR (M : Mx G w0 w R) (hk : look R k = some (rowR e sz n xs v)) (T : TypeId) (hu : Try.prog.underlying T = some (.slice (Try.prog.elem T))) (x : Operand) (ho : o.op = .call { callee := .builtin .len, args := #[x], argTypes := #[T] }) (hx : a.eval x = v) {z : Int} (hz : (n : Int) = z) : (execOp a.eval o).run Try.prog w = .ok (.value (.int .i64 z)) w := by
  obtain ⟨A, c, rfl, -⟩ := row_slice (M.rowF hk)
  exact y_lnG T hu x ho hx hz
def ixG (v : Value) (j : Nat) : Value := match v with
  | .slice (some ad) _ _ => .pointer (some (ad.add j))
  | _ => undef
theorem y_ixR (M : Mx G w0 w R) (hk : look R k = some (rowR e sz n xs v)) (T : TypeId) (hu : Try.prog.underlying T = some (.slice (Try.prog.elem T))) (hs : (Try.prog.info? (Try.prog.elem T)).map (·.size) = some sz) (x y : Operand) (ho : o.op = .indexAddr T x y) (hx : a.eval x = v) {z : Int} {j : Nat} (hy : a.eval y = .int .i64 z) (hz : z = (j : Int)) (hj : j < n) :
    (execOp a.eval o).run Try.prog w = .ok (.value (ixG v (j * sz))) w := by
  obtain ⟨A, c, rfl, h1, h2, h3⟩ := row_slice (M.rowF hk)
  obtain ⟨g, cur, rfl, -, -⟩ := h3 (by omega)
  have := y_ixG (a := a) (w := w) T hu hs x y ho hx hy hz hj (q := 0) rfl
  rw [this]
  simp [ixG, zya]
theorem y_ldR (M : Mx G w0 w R) (hk : look R k = some (rowR e sz n xs v)) (ty : TypeId) (x : Operand) (ho : o.op = .load ty x) {j : Nat} (hj : j < n) (hx : a.eval x = ixG v (j * sz)) (s : Array Value) (hs : ∀ (i : Nat) (u : Value), s[i]? = some u → xs[j * sz + i]? = some u) {d : TypeDesc} (hu : Try.prog.underlying ty = some d) (hd : yPlain d = false) (hi : (Try.prog.info? ty).map (·.size) = some s.size) :
    (execOp a.eval o).run Try.prog w = .ok (.value (.agg s)) w := by
  obtain ⟨A, c, rfl, h1, h2, h3⟩ := row_slice (M.rowF hk)
  obtain ⟨g, cur, rfl, hg, ht⟩ := h3 (by omega)
  refine zpa ty x ho (g := g) (k := j * sz) (by rw [hx]; simp [ixG, zya]) hg s (fun i u h => ?_) hu hd hi
  have h5 := hs i u h
  rw [← ht, List.getElem?_take] at h5
  split at h5
  · rw [← Array.getElem?_toList]; exact h5
  · cases h5
end
end Go.Proofs.Ytlbkogdmojlpmaa
namespace Go.Proofs.Ytlbkogdmojlpmaa
open Go.ChangeShapes Go.WideShapes Go.ChangeAt Go.RowKit Go.Shelf
def cellsM (L : List (MsgN × MsgV)) : List Value := L.flatMap fun p => (msgA p.1 p.2).toList
theorem msgA_size (m : MsgN) (V : MsgV) : (msgA m V).size = 26 := rfl
theorem cellsM_app (L : List (MsgN × MsgV)) (m : MsgN) (V : MsgV) : cellsM (L ++ [(m, V)]) = cellsM L ++ (msgA m V).toList := by simp [cellsM]
theorem cellsM_at : ∀ (L : List (MsgN × MsgV)) (j : Nat) (p : MsgN × MsgV), L[j]? = some p → ∀ (i : Nat) (u : Value), (msgA p.1 p.2)[i]? = some u → (cellsM L)[j * 26 + i]? = some u
  | [], j, p, h, i, u, hu => by cases h
  | q :: L, 0, p, h, i, u, hu => by
    have e : q = p := by simpa using h
    subst e
    have hi := (Array.getElem?_eq_some_iff.1 hu).1
    rw [msgA_size] at hi
    show ((msgA q.1 q.2).toList ++ cellsM L)[0 * 26 + i]? = some u
    rw [List.getElem?_append_left (by rw [Array.length_toList, msgA_size]; omega), Nat.zero_mul, Nat.zero_add, Array.getElem?_toList]
    exact hu
  | q :: L, j + 1, p, h, i, u, hu => by
    show ((msgA q.1 q.2).toList ++ cellsM L)[(j + 1) * 26 + i]? = some u
    rw [List.getElem?_append_right (by rw [Array.length_toList, msgA_size]; omega), Array.length_toList, msgA_size, show (j + 1) * 26 + i - 26 = j * 26 + i by omega]
    exact cellsM_at L j p (by simpa using h) i u hu
def lfp (L : List (MsgN × MsgV)) (g : Nat) : Prop := ∃ p, p ∈ L ∧ z1a p.2 g
def msgsR (L : List (MsgN × MsgV)) : Res := ⟨false, lfp L, fun w => ∀ p, p ∈ L → MsgIs w p.1 p.2⟩
theorem msgs_dep {L : List (MsgN × MsgV)} : ∀ u u', Same (msgsR L).fp u u' → (msgsR L).F u → (msgsR L).F u' := fun u u' hs h p hp => by
  have k := h p hp
  have s : ∀ {q : Value}, (∀ g, bfp q g → z1a p.2 g) → Same (bfp q) u u' := fun hq => ⟨fun g o hg ho => hs.at_ g o ⟨p, hp, hq g hg⟩ ho, hs.size⟩
  exact ⟨k.h5.same (s fun g h => .inl h), k.h6.same (s fun g h => .inr (.inl h)), k.h7.same (s fun g h => .inr (.inr (.inl h))), k.h8.same (s fun g h => .inr (.inr (.inr (.inl h)))), k.h9.same (s fun g h => .inr (.inr (.inr (.inr h))))⟩
section
variable {G : Option Nat} {w0 w : World} {R : List (Nat × Res)}
theorem Mx.nilMsgs (M : Mx G w0 w R) (i : Nat) : Mx G w0 w ((i, msgsR []) :: R) :=
  M.cons i _ (fun p hp => by cases hp) msgs_dep (fun g ⟨p, hp, _⟩ => by cases hp) (fun e => by cases e) fun _ _ _ _ _ g ⟨p, hp, _⟩ => by cases hp
theorem Mx.msgsAdd (M : Mx G w0 w R) {i k5 k6 k7 k8 k9 : Nat} {L : List (MsgN × MsgV)} {m : MsgN} {V : MsgV} (h : look R i = some (msgsR L)) (h5 : look R k5 = some (bytR m.l5 V.v5)) (h6 : look R k6 = some (bytR m.l6 V.v6)) (h7 : look R k7 = some (bytR m.l7 V.v7)) (h8 : look R k8 = some (bytR m.l8 V.v8)) (h9 : look R k9 = some (bytR m.l9 V.v9)) :
    Mx G w0 w ((i, msgsR (L ++ [(m, V)])) :: R) := by
  have hm : ∀ p, p ∈ L ++ [(m, V)] → p ∈ L ∨ p = (m, V) := fun p hp => by simpa using hp
  have hold : ∀ p, p ∈ L → MsgIs w p.1 p.2 := M.at_ i _ h
  refine M.cons i _ (fun p hp => ?_) msgs_dep (fun g hg => ?_) (fun e => by cases e) fun k s e hik hw g hg hg2 => ?_
  · rcases hm p hp with hp | rfl
    · exact hold p hp
    · exact ⟨M.at_ k5 _ h5, M.at_ k6 _ h6, M.at_ k7 _ h7, M.at_ k8 _ h8, M.at_ k9 _ h9⟩
  · obtain ⟨p, hp, hg⟩ := hg
    rcases hm p hp with hp | rfl
    · exact M.lt i _ h g ⟨p, hp, hg⟩
    · rcases hg with hg | hg | hg | hg | hg
      · exact M.lt k5 _ h5 g hg
      · exact M.lt k6 _ h6 g hg
      · exact M.lt k7 _ h7 g hg
      · exact M.lt k8 _ h8 g hg
      · exact M.lt k9 _ h9 g hg
  · rcases hw with hw | hw
    · cases hw
    obtain ⟨p, hp, hg⟩ := hg
    have one : ∀ (j : Nat) (r : Res), look R j = some r → r.wr = false → r.fp g → False := fun j r hj hr hgr => by
      refine M.dis k j s r e hj (fun e2 => ?_) hw g hg2 hgr
      subst e2
      rw [e] at hj; cases hj; rw [hr] at hw; cases hw
    rcases hm p hp with hp | rfl
    · exact one i _ h rfl ⟨p, hp, hg⟩
    · rcases hg with hg | hg | hg | hg | hg
      · exact one k5 _ h5 rfl hg
      · exact one k6 _ h6 rfl hg
      · exact one k7 _ h7 rfl hg
      · exact one k8 _ h8 rfl hg
      · exact one k9 _ h9 rfl hg
theorem Mx.msgAt (M : Mx G w0 w R) {i : Nat} {L : List (MsgN × MsgV)} {p : MsgN × MsgV} (h : look R i = some (msgsR L)) (hp : p ∈ L) (k5 k6 k7 k8 k9 : Nat) (hi : ¬ (i = k5 ∨ i = k6 ∨ i = k7 ∨ i = k8 ∨ i = k9)) :
    Mx G w0 w ((k9, bytR p.1.l9 p.2.v9) :: (k8, bytR p.1.l8 p.2.v8) :: (k7, bytR p.1.l7 p.2.v7) :: (k6, bytR p.1.l6 p.2.v6) :: (k5, bytR p.1.l5 p.2.v5) :: R) := by
  have k := (show ∀ p, p ∈ L → MsgIs w p.1 p.2 from M.at_ i _ h) p hp
  have lk : ∀ {q : Nat} {r : Res} {S : List (Nat × Res)}, ¬ i = q → look S i = some (msgsR L) → look ((q, r) :: S) i = some (msgsR L) := fun hq hS => by
    rw [look_cons, if_neg (fun e => hq e.symm)]; exact hS
  have M5 := M.part k5 (bytR p.1.l5 p.2.v5) k.h5 zoa rfl h rfl fun g hg => ⟨p, hp, .inl hg⟩
  have h5 := lk (r := bytR p.1.l5 p.2.v5) (fun e => hi (.inl e)) h
  have M6 := M5.part k6 (bytR p.1.l6 p.2.v6) k.h6 zoa rfl h5 rfl fun g hg => ⟨p, hp, .inr (.inl hg)⟩
  have h6 := lk (r := bytR p.1.l6 p.2.v6) (fun e => hi (.inr (.inl e))) h5
  have M7 := M6.part k7 (bytR p.1.l7 p.2.v7) k.h7 zoa rfl h6 rfl fun g hg => ⟨p, hp, .inr (.inr (.inl hg))⟩
  have h7 := lk (r := bytR p.1.l7 p.2.v7) (fun e => hi (.inr (.inr (.inl e)))) h6
  have M8 := M7.part k8 (bytR p.1.l8 p.2.v8) k.h8 zoa rfl h7 rfl fun g hg => ⟨p, hp, .inr (.inr (.inr (.inl hg)))⟩
  have h8 := lk (r := bytR p.1.l8 p.2.v8) (fun e => hi (.inr (.inr (.inr (.inl e))))) h7
  exact M8.part k9 (bytR p.1.l9 p.2.v9) k.h9 zoa rfl h8 rfl fun g hg => ⟨p, hp, .inr (.inr (.inr (.inr hg)))⟩
end
theorem info_msg : (Try.prog.info? 29).map (fun i => (i.size, i.bytes, i.zero.map (·.cells.size))) = some (26, 232, some 26) := by kernel_rfl
end Go.Proofs.Ytlbkogdmojlpmaa
namespace Go.Proofs.Ytlbkogdmojlpmaa
open Go.ChangeShapes Go.WideShapes Go.ChangeAt Go.RowKit
noncomputable def encsL (L : List (MsgN × MsgV)) : List UInt8 := L.flatMap fun p => encL p.1
theorem encs_app (L : List (MsgN × MsgV)) (m : MsgN) (V : MsgV) : encsL (L ++ [(m, V)]) = encsL L ++ encL m := by simp [encsL]
theorem encs_drop {L : List (MsgN × MsgV)} {j : Nat} {p : MsgN × MsgV} (h : L[j]? = some p) : encsL (L.drop j) = encL p.1 ++ encsL (L.drop (j + 1)) := by
  have hl := (List.getElem?_eq_some_iff.1 h).1
  rw [List.drop_eq_getElem_cons hl, (List.getElem?_eq_some_iff.1 h).2]
  rfl
theorem encs_end {L : List (MsgN × MsgV)} {j : Nat} (h : L.length ≤ j) : encsL (L.drop j) = [] := by rw [List.drop_eq_nil_of_le h]; rfl
theorem encs_le : ∀ (L : List (MsgN × MsgV)) (j : Nat), (encsL (L.drop j)).length ≤ (encsL L).length
  | L, 0 => Nat.le_refl _
  | [], j + 1 => Nat.le_refl _
  | p :: L, j + 1 => by
    have := encs_le L j
    show (encsL (L.drop j)).length ≤ (encL p.1 ++ encsL L).length
    rw [List.length_append]; omega
theorem encL_le (m : MsgN) : (encL m).length ≤ 202 := by
  cases h : zwa m with
  | false => rw [encL_nn h]; simp
  | true =>
    rw [encL_ok h, encF_len, encRk_len]
    unfold zwa at h
    simp only [Bool.and_eq_true, decide_eq_true_eq] at h
    omega
theorem WireRows_walk (A0 : Option Addr) (n0 cap0 : Nat) (x0 : Nat → Int)
  (a1 : Int) (hk1 : -9223372036854775808 ≤ a1) (hl1 : a1 < 9223372036854775808)
  (a2 : ByteArray) (hS2 : a2.size ≤ maxLen)
  (A3 : Option Addr) (n3 cap3 : Nat) (l3 : List UInt8) (hn3 : l3.length = n3) (hc3 : n3 ≤ cap3) (hm3 : cap3 ≤ maxLen) (hz3 : A3 = none → cap3 = 0) (w : World) (hr0 : RdI w A0 n0 x0) (hr3 : Rd w A3 l3) :
  Calls Try.prog 10 #[.slice A0 n0 cap0, .int .i64 a1, .string a2, .slice A3 n3 cap3] w fun e w' => e = .returned (.bool true) ∧ Below w.heap.size w w' := by
 have ib3 : IsB w l3 (.slice A3 n3 cap3) := hr3.isB' hn3 hc3 hm3 hz3
 by_cases b0 : 40 < a2.size
 ·refine zg (args := [.slice A0 n0 cap0, .int .i64 a1, .string a2, .slice A3 n3 cap3]) 102 Try.func10 rfl rfl rfl ?_
  intro fa F
  have M := Mx.start w
  replace M := M.argB 0 ib3 (fun g e => by cases e)
  replace M := M.argI 1 hr0 (fun g e => by cases e)
  refine zT fun _ hK21 => ?_
  refine rm rfl F fun _ F22 => ?_
  refine hK21 _ _ (zS fun _ hK23 => ?_)
  refine zT fun _ hK24 => ?_
  refine zd (za rfl) rfl F22 rfl rfl (zE Try.func15 rfl) #[] (args0) (zf (lknown_any w)) ?_
  rintro _ w25 a25 ⟨rfl, b25⟩ F25
  have M25 := M.step b25
  refine rn rfl rfl F25 rfl (.bool false) (zwb _ _ rfl (F25.get (t := 20) rfl)) fun _ F26 => ?_
  refine hK24 _ _ (wp_cond_false (F26.get rfl) ?_)
  refine wp_skip ?_
  refine hK23 _ _ (zS fun _ hK27 => ?_)
  refine zT fun _ hK28 => ?_
  refine rm rfl F26 fun _ F29 => ?_
  refine rn rfl rfl F29 rfl (.int .i64 (a2.size : Int)) (y_lenS _ rfl (F29.get rfl) rfl) fun _ F30 => ?_
  refine rn rfl rfl F30 rfl (.bool true) (z0a _ _ _ _ rfl (F30.get rfl) rfl (decide_eq_true (show (40 : Int) < (a2.size : Int) by omega))) fun _ F31 => ?_
  refine zB 5 [(0, .slice A0 n0 cap0), (1, .int .i64 a1), (2, .string a2), (3, .slice A3 n3 cap3), (8, .bool false), (29, .bool true)] [] dnil [] F31 fun _ F32 => ?_
  refine hK28 _ _ (wp_cond_true (F32.get rfl) ?_)
  refine zT fun _ hK33 => ?_
  refine rm rfl F32 fun _ F34 => ?_
  refine hK33 _ _ (wp_ret ?_)
  try simp only [Exit.then, Exit.inBlock, Exit.jump]
  exact bodyPost_ret (res1 rfl (F34.get rfl)) F34.defers ⟨rfl, M25.below⟩
 by_cases b1 : 100 < l3.length
 ·refine zg (args := [.slice A0 n0 cap0, .int .i64 a1, .string a2, .slice A3 n3 cap3]) 102 Try.func10 rfl rfl rfl ?_
  intro fa F
  have M := Mx.start w
  replace M := M.argB 0 ib3 (fun g e => by cases e)
  replace M := M.argI 1 hr0 (fun g e => by cases e)
  refine zT fun _ hK21 => ?_
  refine rm rfl F fun _ F22 => ?_
  refine hK21 _ _ (zS fun _ hK23 => ?_)
  refine zT fun _ hK24 => ?_
  refine zd (za rfl) rfl F22 rfl rfl (zE Try.func15 rfl) #[] (args0) (zf (lknown_any w)) ?_
  rintro _ w25 a25 ⟨rfl, b25⟩ F25
  have M25 := M.step b25
  refine rn rfl rfl F25 rfl (.bool false) (zwb _ _ rfl (F25.get (t := 20) rfl)) fun _ F26 => ?_
  refine hK24 _ _ (wp_cond_false (F26.get rfl) ?_)
  refine wp_skip ?_
  refine hK23 _ _ (zS fun _ hK27 => ?_)
  refine zT fun _ hK28 => ?_
  refine rm rfl F26 fun _ F29 => ?_
  refine rn rfl rfl F29 rfl (.int .i64 (a2.size : Int)) (y_lenS _ rfl (F29.get rfl) rfl) fun _ F30 => ?_
  refine rn rfl rfl F30 rfl (.bool false) (z0a _ _ _ _ rfl (F30.get rfl) rfl (decide_eq_false (show ¬ (40 : Int) < (a2.size : Int) by omega))) fun _ F31 => ?_
  refine rm rfl F31 fun _ F32 => ?_
  refine rm rfl F32 fun _ F33 => ?_
  refine ze (w' := w25) (zb rfl rfl rfl (F33.get rfl)) rfl F33 rfl (.int .i64 (l3.length : Int)) (zca _ rfl (F33.get rfl) (M25.isb (k := 0) rfl) rfl) fun _ F34 => ?_
  refine ze (w' := w25) (zb rfl rfl rfl (F34.get rfl)) rfl F34 rfl (.bool true) (z0a _ _ _ _ rfl (F34.get rfl) rfl (decide_eq_true (show (100 : Int) < (l3.length : Int) by omega))) fun _ F35 => ?_
  refine rn rfl rfl F35 rfl (.bool true) (run_pick_f rfl (F35.get rfl) (F35.get rfl)) fun _ F36 => ?_
  refine hK28 _ _ (wp_cond_true (F36.get rfl) ?_)
  refine zT fun _ hK37 => ?_
  refine rm rfl F36 fun a38 F38 => ?_
  refine hK37 _ _ (wp_ret ?_)
  try simp only [Exit.then, Exit.inBlock, Exit.jump]
  exact bodyPost_ret (res1 rfl (F38.get rfl)) F38.defers ⟨rfl, M25.below⟩
 have hs : a2.size ≤ 40 := by omega
 refine zg (args := [.slice A0 n0 cap0, .int .i64 a1, .string a2, .slice A3 n3 cap3]) 102 Try.func10 rfl rfl rfl ?_
 intro fa F
 have M := Mx.start w
 replace M := M.argB 0 ib3 (fun g e => by cases e)
 replace M := M.argI 1 hr0 (fun g e => by cases e)
 refine zT fun _ hK21 => ?_
 refine rm rfl F fun _ F22 => ?_
 refine hK21 _ _ (zS fun _ hK23 => ?_)
 refine zT fun _ hK24 => ?_
 refine zd (za rfl) rfl F22 rfl rfl (zE Try.func15 rfl) #[] (args0) (zf (lknown_any w)) ?_
 rintro _ w25 a25 ⟨rfl, b25⟩ F25
 have M25 := M.step b25
 refine rn rfl rfl F25 rfl (.bool false) (zwb _ _ rfl (F25.get (t := 20) rfl)) fun _ F26 => ?_
 refine hK24 _ _ (wp_cond_false (F26.get rfl) ?_)
 refine wp_skip ?_
 refine hK23 _ _ (zS fun _ hK27 => ?_)
 refine zT fun _ hK28 => ?_
 refine rm rfl F26 fun _ F29 => ?_
 refine rn rfl rfl F29 rfl (.int .i64 (a2.size : Int)) (y_lenS _ rfl (F29.get rfl) rfl) fun _ F30 => ?_
 refine rn rfl rfl F30 rfl (.bool false) (z0a _ _ _ _ rfl (F30.get rfl) rfl (decide_eq_false (show ¬ (40 : Int) < (a2.size : Int) by omega))) fun _ F31 => ?_
 refine rm rfl F31 fun _ F32 => ?_
 refine rm rfl F32 fun _ F33 => ?_
 refine ze (w' := w25) (zb rfl rfl rfl (F33.get rfl)) rfl F33 rfl (.int .i64 (l3.length : Int)) (zca _ rfl (F33.get rfl) (M25.isb (k := 0) rfl) rfl) fun _ F34 => ?_
 refine ze (w' := w25) (zb rfl rfl rfl (F34.get rfl)) rfl F34 rfl (.bool false) (z0a _ _ _ _ rfl (F34.get rfl) rfl (decide_eq_false (show ¬ (100 : Int) < (l3.length : Int) by omega))) fun _ F35 => ?_
 refine rn rfl rfl F35 rfl (.bool false) (run_pick_f rfl (F35.get rfl) (F35.get rfl)) fun _ F36 => ?_
 refine hK28 _ _ (wp_cond_false (F36.get rfl) ?_)
 refine wp_skip ?_
 refine hK27 _ _ (zS fun _ hK37 => ?_)
 refine zR ?_
 refine zd (za rfl) rfl F36 rfl rfl (zE Try.func26 rfl) #[] (args0) (new_any w25) ?_
 rintro _ w38 a38 ⟨g38, rfl, hg38, hc38, b38⟩ F38
 have M38 := (M25.newb b38 2 hg38 hc38).nilT 3
 clear M25 b38 hg38 hc38
 refine rm rfl F38 fun _ F39 => ?_
 refine hK37 _ _ (zS fun _ hK40 => ?_)
 refine zT fun _ hK41 => ?_
 refine rm rfl F39 fun _ F42 => ?_
 refine rn rfl rfl F42 rfl (.bool false) (y_eqPN 46 _ Try.underlying46 (by kernel_rfl) _ rfl (F42.get rfl)) fun _ F43 => ?_
 refine hK41 _ _ (wp_cond_false (F43.get rfl) ?_)
 refine wp_skip ?_
 refine hK40 _ _ (zS fun _ hK44 => ?_)
 refine zR ?_
 refine rm rfl F43 fun _ F45 => ?_
 refine hK44 _ _ ?_
 have M46 := (M38.nilRow 4 29 26).nilMsgs 5
 clear M38
 refine zS fun K47 hK47 => ?_
 have J47 : ∀ (L : List (MsgN × MsgV)) (v10 : Value) (nt : Int) (u : Value) (aJ : Act) (wJ : World), (L.length ≤ 12 ∧ 0 ≤ nt ∧ nt ≤ 2424 ∧ (encsL L).length ≤ 2424 ∧ (∀ p, p ∈ L → zwa p.1 = true ∧ MsgOk p.1)) → Fx 102 aJ [(9, .pointer (some ⟨g38, 0, none⟩)), (10, v10)] → Mx none w wJ [(0, bytR l3 (.slice A3 n3 cap3)), (1, intR A0 n0 x0), (2, blkR g38 94 (#[u, .int .i64 nt, .bool false])), (3, tlR (encsL L) u), (4, rowR 29 26 L.length (cellsM L) v10), (5, msgsR L)] → K47 aJ wJ := by
  clear F45 M46
  intro L v10 nt u a47 w47 I47 F47 M47
  refine hK47 _ _ ?_
  obtain ⟨hLl, hn0, hn1, hSl, hall⟩ := I47
  refine zS fun _ hK48 => zS fun _ hK49 => ?_
  refine zR ?_
  refine rm rfl F47 fun _ F50 => ?_
  refine hK49 _ _ (wp_block ?_)
  refine zzb (α := Nat × Value) (n := 102) (G := none) (w0 := w) (fun x => [(9, .pointer (some ⟨g38, 0, none⟩)), (10, v10), (15, .int .i64 (x.1 : Int))]) (fun x => [(0, bytR l3 (.slice A3 n3 cap3)), (1, intR A0 n0 x0), (2, blkR g38 94 (#[x.2, .int .i64 nt, .bool false])), (3, tlR (encsL (L.drop x.1)) x.2), (4, rowR 29 26 L.length (cellsM L) v10), (5, msgsR L)]) (fun k x => k = (L.length - x.1) ∧ (x.1 ≤ L.length)) _ ⟨0, u⟩ ⟨rfl, (Nat.zero_le _)⟩ (F50.sub ⟨rfl, rfl, rfl, trivial⟩) (M47.sub ⟨rfl, rfl, rfl, rfl, rfl, rfl, trivial⟩) ?_
  clear F50 M47
  rintro k51 ⟨jn, uu⟩ a51 w51 K51 ⟨ek51, I51⟩ F51 M51 hK51
  replace F51 : Fx 102 a51 [(9, .pointer (some ⟨g38, 0, none⟩)), (10, v10), (15, .int .i64 (jn : Int))] := F51
  replace M51 : Mx _ _ w51 [(0, bytR l3 (.slice A3 n3 cap3)), (1, intR A0 n0 x0), (2, blkR g38 94 (#[uu, .int .i64 nt, .bool false])), (3, tlR (encsL (L.drop jn)) uu), (4, rowR 29 26 L.length (cellsM L) v10), (5, msgsR L)] := M51
  replace I51 : jn ≤ L.length := I51
  replace ek51 : k51 = (L.length - jn) := ek51
  have hjl := I51
  refine zS fun _ hK52 => zS fun _ hK53 => ?_
  refine zR ?_
  refine rm rfl F51 fun _ F54 => ?_
  refine rm rfl F54 fun _ F55 => ?_
  refine rn rfl rfl F55 rfl (.int .i64 (L.length : Int)) (y_lnR M51 (k := 4) rfl 63 Try.underlying63 _ rfl (F55.get rfl) rfl) fun _ F56 => ?_
  by_cases h57 : (jn : Int) < (L.length : Int)
  ·have hlt : jn < L.length := by omega
   obtain ⟨pr, hpr⟩ : ∃ p, L[jn]? = some p := ⟨_, List.getElem?_eq_getElem hlt⟩
   have hmem : pr ∈ L := List.mem_of_getElem? hpr
   have hop := hall pr hmem
   obtain ⟨x1, x2, x3, x4⟩ := nx_front hop.2 hop.1 (encsL (L.drop (jn + 1)))
   have hd := encs_drop hpr
   rw [← hd] at x1 x2 x3 x4
   have M58 := M51.msgAt (i := 5) (p := pr) rfl hmem 6 7 8 9 10 (by decide)
   clear M51
   refine rn rfl rfl F56 rfl (.bool true) (zva _ _ _ _ rfl (F56.get rfl) (F56.get rfl) (decide_eq_true h57)) fun _ F59 => ?_
   refine hK53 _ _ (wp_cond_true (F59.get rfl) ?_)
   refine wp_skip ?_
   refine hK52 _ _ (zS fun _ hK60 => ?_)
   refine wp_block ?_
   refine zT fun _ hK61 => ?_
   refine rm rfl F59 fun _ F62 => ?_
   refine zd (za rfl) rfl F62 rfl rfl (zE Try.func30 rfl) #[.pointer (some ⟨g38, 0, none⟩)] (zk (F62.get rfl)) (next_is M58 2 3 g38 (encsL (L.drop jn)) uu nt false rfl rfl (by decide) (Nat.le_trans (encs_le L jn) (by omega)) 11 12 13 14 15 pr.1 true false (encsL (L.drop (jn + 1))) x2 x1 x3 x4) ?_
   rintro _ w63 a63 ⟨u63, V63, N63, rfl⟩ F63
   clear M58
   refine zB 3 [(9, .pointer (some ⟨g38, 0, none⟩)), (10, v10), (15, .int .i64 (jn : Int)), (77, .agg (msgA pr.1 V63)), (78, .bool true)] [] dnil [] F63 fun _ F64 => ?_
   refine zh (za rfl) rfl F64 rfl N63 16 (t := 29) (c := msgA ⟨0, 0, 0, 0, "".toUTF8, 0, 0, [], [], [], [], []⟩ ⟨zN, zN, zN, zN, zN⟩) (by unfold execOp; kernel_rfl) ?_
   intro g65 a65 w65 F65 M65
   clear F64 N63
   refine zx (za rfl) rfl F65 M65 (k := 16) rfl _ _ _ rfl (F65.get rfl) (F65.get rfl) (msgA pr.1 V63) _ rfl (Nat.le_of_ble_eq_true rfl) (z7 (w := w65) ⟨(M65.isb (k := 11) rfl), (M65.isb (k := 12) rfl), (M65.isb (k := 13) rfl), (M65.isb (k := 14) rfl), (M65.isb (k := 15) rfl)⟩) (zz rfl) (by kernel_rfl) ?_
   intro w66 M66
   clear M65
   refine rm rfl F65 fun _ F67 => ?_
   refine hK61 _ _ (zS fun _ hK68 => ?_)
   have hD69 := (zi (M66.blk (k := 16) rfl) dnil)
   refine z8a F67 (SK [.inl (.bool true), .inl (.bool false), .inl (.bool false), .inl (.agg (msgA pr.1 V63)), .inl (v10), .inl (.int .i64 (jn : Int)), .inl ((ixG v10 (jn * 26))), .inl (.agg (msgA pr.1 pr.2)), .inl (.bool true), .inl (.bool false), .inl (.bool false)]) 11 rfl (by kernel_rfl) ⟨hop0 F67 (by kernel_rfl), hop0 F67 (by kernel_rfl), hop0 F67 (by kernel_rfl), hopP F67 hD69 0 (some g65) (by kernel_rfl), hop0 F67 (by kernel_rfl), hop0 F67 (by kernel_rfl), ?_, ?_, ?_, hop0 F67 (by kernel_rfl), hop0 F67 (by kernel_rfl), trivial⟩ ?_
   ·intro ua uw hb hd
    have eg : ua.eval (.tmp 81) = .bool false := hd 81 (by decide)
    have e83 : ua.eval (.tmp 83) = v10 := hd 83 (by decide)
    have e84 : ua.eval (.tmp 84) = .int .i64 (jn : Int) := hd 84 (by decide)
    exact zw (F := (StK.eq ((ixG v10 (jn * 26)))).F) (zb rfl rfl rfl eg) ((ixG v10 (jn * 26))) (y_ixR (M66.step hb) (k := 4) rfl 63 Try.underlying63 (by kernel_rfl) _ _ rfl e83 e84 rfl hlt) rfl
   ·intro ua uw hb hd
    have eg : ua.eval (.tmp 81) = .bool false := hd 81 (by decide)
    have e85 : ua.eval (.tmp 85) = (ixG v10 (jn * 26)) := hd 85 (by decide)
    exact zw (F := (StK.eq (.agg (msgA pr.1 pr.2))).F) (zb rfl rfl rfl eg) (.agg (msgA pr.1 pr.2)) (y_ldR (M66.step hb) (k := 4) rfl _ _ rfl hlt e85 (msgA pr.1 pr.2) (cellsM_at L jn pr hpr) Try.underlying29 rfl (by kernel_rfl)) rfl
   ·intro ua uw hb hd
    have eg : ua.eval (.tmp 81) = .bool false := hd 81 (by decide)
    have e82 : ua.eval (.tmp 82) = .agg (msgA pr.1 V63) := hd 82 (by decide)
    have e86 : ua.eval (.tmp 86) = .agg (msgA pr.1 pr.2) := hd 86 (by decide)
    exact zaa (F := (StK.eq (.bool true)).F) (zb rfl rfl rfl eg) hb.size rfl #[.agg (msgA pr.1 V63), .agg (msgA pr.1 pr.2)] (z9 e82 e86) (zE Try.func21 rfl) (zga ((msgs_is pr.1 pr.1 V63 pr.2 hop.2 hop.2 true (eqM_self pr.1) uw ⟨((M66.step hb).isb (k := 11) rfl), ((M66.step hb).isb (k := 12) rfl), ((M66.step hb).isb (k := 13) rfl), ((M66.step hb).isb (k := 14) rfl), ((M66.step hb).isb (k := 15) rfl)⟩ ⟨((M66.step hb).isb (k := 6) rfl), ((M66.step hb).isb (k := 7) rfl), ((M66.step hb).isb (k := 8) rfl), ((M66.step hb).isb (k := 9) rfl), ((M66.step hb).isb (k := 10) rfl)⟩)))
   intro p70 a70 w70 b70 G70 y70
   obtain ⟨-, -, -, -, -, -, -, -, -, -, q10, -⟩ := y70
   have r10 : p70 10 = .bool false := q10 (by decide)
   simp only [List.take_succ_cons, List.take_zero, layV, Nat.zero_add, Nat.reduceAdd, r10] at G70
   have M70 := M66.kc b70
   clear F67 M66 r10 q10
   refine hK68 _ _ (wp_cond_false (G70.get (t := 89) rfl) ?_)
   refine wp_skip ?_
   refine hK60 _ _ (zR ?_)
   refine rm rfl G70 fun _ F71 => ?_
   refine rn rfl rfl F71 rfl (.int .i64 ((jn + 1 : Nat) : Int)) (z4 _ _ _ _ rfl (F71.get rfl) rfl (by omega) (by omega)) fun _ F72 => ?_
   refine rm rfl F72 fun _ F73 => ?_
   subst ek51
   exact hK51 _ ⟨(jn + 1), u63⟩ _ _ (by dsimp only; omega) ⟨rfl, (by dsimp only; omega)⟩ (F73.sub ⟨rfl, rfl, rfl, trivial⟩) (M70.sub ⟨rfl, rfl, rfl, rfl, rfl, rfl, trivial⟩)
  ·obtain ⟨y1, y2, y3, y4⟩ := nx_nil (encs_end (L := L) (j := jn) (by omega))
   refine rn rfl rfl F56 rfl (.bool false) (zva _ _ _ _ rfl (F56.get rfl) (F56.get rfl) (decide_eq_false h57)) fun _ F74 => ?_
   refine hK53 _ _ (wp_cond_false (F74.get rfl) ?_)
   refine wp_exit ?_
   simp only [Exit.then, Exit.inBlock, ↓reduceIte, Nat.reduceEqDiff]
   refine hK48 _ _ (zS fun _ hK75 => ?_)
   refine zR ?_
   refine rm rfl F74 fun _ F76 => ?_
   refine zd (za rfl) rfl F76 rfl rfl (zE Try.func30 rfl) #[.pointer (some ⟨g38, 0, none⟩)] (zk (F76.get rfl)) (next_is M51 2 3 g38 (encsL (L.drop jn)) uu nt false rfl rfl (by decide) (Nat.le_trans (encs_le L jn) (by omega)) 6 7 8 9 10 mZero false false ([] : List UInt8) y1 y2 y3 y4) ?_
   rintro _ w77 a77 ⟨u77, V77, N77, rfl⟩ F77
   clear M51
   refine zB 3 [(9, .pointer (some ⟨g38, 0, none⟩)), (10, v10), (15, .int .i64 (jn : Int)), (93, .agg (msgA mZero V77)), (94, .bool false)] [] dnil [] F77 fun _ F78 => ?_
   refine zh (za rfl) rfl F78 rfl N77 11 (t := 29) (c := msgA ⟨0, 0, 0, 0, "".toUTF8, 0, 0, [], [], [], [], []⟩ ⟨zN, zN, zN, zN, zN⟩) (by unfold execOp; kernel_rfl) ?_
   intro g79 a79 w79 F79 M79
   clear F78 N77
   refine zx (za rfl) rfl F79 M79 (k := 11) rfl _ _ _ rfl (F79.get rfl) (F79.get rfl) (msgA mZero V77) _ rfl (Nat.le_of_ble_eq_true rfl) (z7 (w := w79) ⟨(M79.isb (k := 6) rfl), (M79.isb (k := 7) rfl), (M79.isb (k := 8) rfl), (M79.isb (k := 9) rfl), (M79.isb (k := 10) rfl)⟩) (zz rfl) (by kernel_rfl) ?_
   intro w80 M80
   clear M79
   refine rm rfl F79 fun _ F81 => ?_
   refine hK75 _ _ (zS fun _ hK82 => ?_)
   refine zR ?_
   refine zB 4 [(9, .pointer (some ⟨g38, 0, none⟩)), (10, v10), (15, .int .i64 (jn : Int)), (97, .bool true), (98, .pointer (some ⟨g38, 0, none⟩))] [] dnil [] F81 fun _ F83 => ?_
   refine zd (zb rfl rfl rfl (F83.get rfl)) rfl F83 rfl rfl (zE Try.func32 rfl) #[.pointer (some ⟨g38, 0, none⟩)] (zk (F83.get rfl)) (zf ((bad_any g38 u77 nt false w80 (M80.blk (k := 2) rfl)))) ?_
   rintro _ w84 a84 ⟨rfl, b84⟩ F84
   have M84 := M80.step b84
   refine zB 3 [(9, .pointer (some ⟨g38, 0, none⟩)), (10, v10), (15, .int .i64 (jn : Int)), (8, .bool true)] [] dnil [] F84 fun _ F85 => ?_
   refine hK82 _ _ (wp_ret ?_)
   try simp only [Exit.then, Exit.inBlock, Exit.jump]
   exact bodyPost_ret (res1 rfl (F85.get rfl)) F85.defers ⟨rfl, M84.below⟩
 refine zT fun _ hK86 => ?_
 refine rm rfl F45 fun _ F87 => ?_
 refine hK86 _ _ (wp_block ?_)
 refine zzb (α := Nat × List (MsgN × MsgV) × Value × Int × Value) (n := 102) (G := none) (w0 := w) (fun x => [(0, .slice A0 n0 cap0), (1, .int .i64 a1), (2, .string a2), (3, .slice A3 n3 cap3), (9, .pointer (some ⟨g38, 0, none⟩)), (11, .int .i64 (x.1 : Int)), (10, x.2.2.1)]) (fun x => [(0, bytR l3 (.slice A3 n3 cap3)), (1, intR A0 n0 x0), (2, blkR g38 94 (#[x.2.2.2.2, .int .i64 x.2.2.2.1, .bool false])), (3, tlR (encsL x.2.1) x.2.2.2.2), (4, rowR 29 26 x.2.1.length (cellsM x.2.1) x.2.2.1), (5, msgsR x.2.1)]) (fun k x => k = (12 - x.1) ∧ (x.1 ≤ 12 ∧ x.2.1.length ≤ x.1 ∧ 0 ≤ x.2.2.2.1 ∧ x.2.2.2.1 ≤ 202 * (x.1 : Int) ∧ (encsL x.2.1).length ≤ 202 * x.1 ∧ (∀ p, p ∈ x.2.1 → zwa p.1 = true ∧ MsgOk p.1))) _ ⟨0, [], (zN), 0, zN⟩ ⟨rfl, ⟨Nat.zero_le _, Nat.le_refl _, by decide, by decide, Nat.le_refl _, fun p hp => by cases hp⟩⟩ (F87.sub ⟨rfl, rfl, rfl, rfl, rfl, rfl, rfl, trivial⟩) (M46.sub ⟨rfl, rfl, rfl, rfl, rfl, rfl, trivial⟩) ?_
 clear F87 M46
 rintro k88 ⟨jn, L, v10, nt, u⟩ a88 w88 K88 ⟨ek88, I88⟩ F88 M88 hK88
 replace F88 : Fx 102 a88 [(0, .slice A0 n0 cap0), (1, .int .i64 a1), (2, .string a2), (3, .slice A3 n3 cap3), (9, .pointer (some ⟨g38, 0, none⟩)), (11, .int .i64 (jn : Int)), (10, v10)] := F88
 replace M88 : Mx _ _ w88 [(0, bytR l3 (.slice A3 n3 cap3)), (1, intR A0 n0 x0), (2, blkR g38 94 (#[u, .int .i64 nt, .bool false])), (3, tlR (encsL L) u), (4, rowR 29 26 L.length (cellsM L) v10), (5, msgsR L)] := M88
 replace I88 : jn ≤ 12 ∧ L.length ≤ jn ∧ 0 ≤ nt ∧ nt ≤ 202 * (jn : Int) ∧ (encsL L).length ≤ 202 * jn ∧ (∀ p, p ∈ L → zwa p.1 = true ∧ MsgOk p.1) := I88
 replace ek88 : k88 = (12 - jn) := ek88
 obtain ⟨hj, hLl, hn0, hn1, hSl, hall⟩ := I88
 refine zS fun _ hK89 => zS fun _ hK90 => ?_
 refine zR ?_
 refine rm rfl F88 fun _ F91 => ?_
 refine rm rfl F91 fun _ F92 => ?_
 refine rn rfl rfl F92 rfl (.int .i64 (n0 : Int)) (y_lnG 38 Try.underlying38 _ rfl (F92.get rfl) rfl) fun _ F93 => ?_
 by_cases h94 : (jn : Int) < (n0 : Int)
 rotate_left
 ·refine rn rfl rfl F93 rfl (.bool false) (zva _ _ _ _ rfl (F93.get rfl) (F93.get rfl) (decide_eq_false h94)) fun _ F144 => ?_
  refine zA 4 [(37, .bool false), (38, undef), (39, undef), (40, .bool false)] [] dnil [] F144 fun _ F145 => ?_
  refine hK90 _ _ (wp_cond_false (F145.get rfl) ?_)
  refine wp_exit ?_
  simp only [Exit.then, Exit.inBlock, ↓reduceIte, Nat.reduceEqDiff]
  exact J47 L v10 nt u _ _ ⟨by omega, by omega, by omega, by omega, hall⟩ (F145.sub ⟨rfl, rfl, trivial⟩) (M88.sub ⟨rfl, rfl, rfl, rfl, rfl, rfl, trivial⟩)
 refine rn rfl rfl F93 rfl (.bool true) (zva _ _ _ _ rfl (F93.get rfl) (F93.get rfl) (decide_eq_true h94)) fun _ F95 => ?_
 refine rm rfl F95 fun _ F96 => ?_
 refine rm rfl F96 fun _ F97 => ?_
 by_cases h98 : (jn : Int) < 12
 rotate_left
 ·refine ze (w' := w88) (zb rfl rfl rfl (F97.get rfl)) rfl F97 rfl (.bool false) (zva _ _ _ _ rfl (F97.get rfl) rfl (decide_eq_false h98)) fun _ F142 => ?_
  refine rn rfl rfl F142 rfl (.bool false) (run_pick_t rfl (F142.get rfl) (F142.get rfl)) fun _ F143 => ?_
  refine hK90 _ _ (wp_cond_false (F143.get rfl) ?_)
  refine wp_exit ?_
  simp only [Exit.then, Exit.inBlock, ↓reduceIte, Nat.reduceEqDiff]
  exact J47 L v10 nt u _ _ ⟨by omega, by omega, by omega, by omega, hall⟩ (F143.sub ⟨rfl, rfl, trivial⟩) (M88.sub ⟨rfl, rfl, rfl, rfl, rfl, rfl, trivial⟩)
 have hkb := hr0.2.1 jn
 obtain ⟨nW, hnW⟩ : ∃ z, IntKind.i64.wrap (a1 + (jn : Int)) = z := ⟨_, rfl⟩
 have hnb : -9223372036854775808 ≤ nW ∧ nW < 9223372036854775808 := by rw [← hnW, IntKind.wrap_i64]; omega
 obtain ⟨m, em⟩ : ∃ x, mkM (x0 jn) nW a2 l3 = x := ⟨_, rfl⟩
 obtain ⟨om, zm⟩ := mkM_ok (x0 jn) nW a2 l3
 rw [em] at om zm
 obtain ⟨qm, hm1⟩ : ∃ x, zwa m = x := ⟨_, rfl⟩
 obtain ⟨xm, hm2⟩ : ∃ x, encL m = x := ⟨_, rfl⟩
 have hxl : xm.length ≤ 202 := by rw [← hm2]; exact encL_le m
 refine ze (w' := w88) (zb rfl rfl rfl (F97.get rfl)) rfl F97 rfl (.bool true) (zva _ _ _ _ rfl (F97.get rfl) rfl (decide_eq_true h98)) fun _ F99 => ?_
 refine rn rfl rfl F99 rfl (.bool true) (run_pick_t rfl (F99.get rfl) (F99.get rfl)) fun _ F100 => ?_
 refine hK90 _ _ (wp_cond_true (F100.get rfl) ?_)
 refine wp_skip ?_
 refine hK89 _ _ (zS fun _ hK101 => ?_)
 refine wp_block ?_
 refine zT fun _ hK102 => ?_
 refine rm rfl F100 fun _ F103 => ?_
 refine rm rfl F103 fun _ F104 => ?_
 refine rn rfl rfl F104 rfl ((ixV (.slice A0 n0 cap0) jn)) (y_ixJ _ _ rfl (F104.get rfl) (M88.rdI (k := 1) rfl) (F104.get rfl) rfl (by omega)) fun _ F105 => ?_
 refine rn rfl rfl F105 rfl (.int .i64 (x0 jn)) (y_ldJ _ rfl (F105.get rfl) (M88.rdI (k := 1) rfl) (by omega)) fun _ F106 => ?_
 refine rm rfl F106 fun _ F107 => ?_
 refine rm rfl F107 fun _ F108 => ?_
 refine rn rfl rfl F108 rfl (.int .i64 nW) (y_addW _ _ _ _ rfl (F108.get rfl) (F108.get rfl) hnW) fun _ F109 => ?_
 refine rm rfl F109 fun _ F110 => ?_
 refine rm rfl F110 fun _ F111 => ?_
 refine zd (za rfl) rfl F111 rfl rfl (zE Try.func16 rfl) #[.int .i64 (x0 jn), .int .i64 nW, .string a2, .slice A3 n3 cap3] (args4 (F111.get rfl) (F111.get rfl) (F111.get rfl) (F111.get rfl)) (make_is (x0 jn) nW a2 l3 (.slice A3 n3 cap3) hkb hnb hs m em w88 (M88.isb (k := 0) rfl)) ?_
 rintro _ w112 a112 ⟨V112, rfl, is112, lo112, b112⟩ F112
 have M112 := M88.newMsg b112 is112 lo112 6 7 8 9 10
 clear M88 b112 lo112
 refine zh (za rfl) rfl F112 rfl M112 11 (t := 29) (c := msgA ⟨0, 0, 0, 0, "".toUTF8, 0, 0, [], [], [], [], []⟩ ⟨zN, zN, zN, zN, zN⟩) (by unfold execOp; kernel_rfl) ?_
 intro g113 a113 w113 F113 M113
 clear F112 M112
 refine zx (za rfl) rfl F113 M113 (k := 11) rfl _ _ _ rfl (F113.get rfl) (F113.get rfl) (msgA m V112) _ rfl (Nat.le_of_ble_eq_true rfl) (z7 (w := w113) ⟨(M113.isb (k := 6) rfl), (M113.isb (k := 7) rfl), (M113.isb (k := 8) rfl), (M113.isb (k := 9) rfl), (M113.isb (k := 10) rfl)⟩) (zz rfl) (by kernel_rfl) ?_
 intro w114 M114
 clear M113
 refine hK102 _ _ (zS fun _ hK115 => ?_)
 refine zR ?_
 refine rn rfl rfl F113 rfl _ (zpa _ _ rfl (F113.get rfl) (M114.blk (k := 11) rfl) (msgA m V112) (zsa rfl) Try.underlying29 rfl (by kernel_rfl)) fun _ F116 => ?_
 refine zd (za rfl) rfl F116 rfl rfl (zE Try.func18 rfl) #[.agg (msgA m V112)] (zk (F116.get rfl)) (renc_is m V112 om zm qm xm hm1 hm2 w114 ⟨(M114.isb (k := 6) rfl), (M114.isb (k := 7) rfl), (M114.isb (k := 8) rfl), (M114.isb (k := 9) rfl), (M114.isb (k := 10) rfl)⟩) ?_
 rintro _ w117 a117 ⟨v117, rfl, hv117, b117⟩ F117
 have M117 := M114.newO b117 12 hv117
 clear M114 b117 hv117
 obtain ⟨A117, c117, rfl⟩ := (M117.isO (k := 12) rfl).shape
 refine zA 5 [(53, .tuple #[.slice A117 (xm).length c117, .bool qm]), (56, .slice A117 (xm).length c117), (57, .bool qm), (13, .slice A117 (xm).length c117), (14, .bool qm)] [] dnil [] F117 fun _ F118 => ?_
 refine hK115 _ _ (zS fun _ hK119 => ?_)
 refine zT fun _ hK120 => ?_
 refine rm rfl F118 fun _ F121 => ?_
 cases qm
 ·refine rn rfl rfl F121 rfl (.bool true) (zwb _ _ rfl (F121.get (t := 58) rfl)) fun _ F122 => ?_
  refine hK120 _ _ (wp_cond_true (F122.get rfl) ?_)
  refine wp_exit ?_
  simp only [Exit.then, Exit.inBlock, ↓reduceIte, Nat.reduceEqDiff]
  refine hK101 _ _ (zR ?_)
  refine rm rfl F122 fun _ F123 => ?_
  refine rn rfl rfl F123 rfl (.int .i64 ((jn + 1 : Nat) : Int)) (z4 _ _ _ _ rfl (F123.get rfl) rfl (by omega) (by omega)) fun _ F124 => ?_
  refine rm rfl F124 fun _ F125 => ?_
  subst ek88
  exact hK88 _ ⟨(jn + 1), L, v10, nt, u⟩ _ _ (by dsimp only; omega) ⟨rfl, ⟨by (dsimp only; omega), by (dsimp only; omega), hn0, by (dsimp only; omega), by (dsimp only; omega), hall⟩⟩ (F125.sub ⟨rfl, rfl, rfl, rfl, rfl, rfl, rfl, trivial⟩) (M117.sub ⟨rfl, rfl, rfl, rfl, rfl, rfl, trivial⟩)
 refine rn rfl rfl F121 rfl (.bool false) (zwb _ _ rfl (F121.get (t := 58) rfl)) fun _ F126 => ?_
 refine hK120 _ _ (wp_cond_false (F126.get rfl) ?_)
 refine wp_skip ?_
 refine hK119 _ _ (zS fun _ hK127 => ?_)
 refine zR ?_
 refine rm rfl F126 fun _ F128 => ?_
 refine rn rfl rfl F128 rfl _ (zpa _ _ rfl (F128.get rfl) (M117.blk (k := 11) rfl) (msgA m V112) (zsa rfl) Try.underlying29 rfl (by kernel_rfl)) fun _ F129 => ?_
 refine zja (za rfl) rfl F129 rfl M117 13 (t := 29) (c := msgA m V112) (k := 1) (m := 1) (y_litG 63 29 (s := 26) (zv := .agg #[.int .i64 0, .int .i64 0, .int .i64 0, .int .i64 0, .string "".toUTF8, .int .u32 0, .int .u32 0, .int .u32 0, .int .u32 0, .int .u32 0, .int .u32 0, .int .u32 0, .int .u32 0, .int .u32 0, .int .u32 0, .int .u32 0, .int .u32 0, .int .u32 0, .int .u32 0, .int .u32 0, .int .u32 0, zN, zN, zN, zN, zN]) Try.underlying63 (by kernel_rfl) (by kernel_rfl) rfl (msgA m V112) (by decide) (by decide) (by simp only [List.map_toArray, List.map_cons, List.map_nil, (F129.get (t := 61) rfl)]; kernel_rfl)) ?_
 intro g130 a130 w130 F130 M130
 clear F129 M117
 refine zla (za rfl) rfl F130 rfl (run_appR M130 (k := 4) (kb := 13) (T := 63) rfl rfl rfl (z7 (w := w130) ⟨(M130.isb (k := 6) rfl), (M130.isb (k := 7) rfl), (M130.isb (k := 8) rfl), (M130.isb (k := 9) rfl), (M130.isb (k := 10) rfl)⟩) (by decide) Try.underlying63 info_msg (by omega) (by unfold maxLen; omega) _ _ rfl (F130.get rfl) (F130.get rfl)) ?_
 intro v131 a131 w131 F131 M131
 clear F130 M130
 have eL : (L ++ [(m, V112)]).length = L.length + 1 := by simp
 rw [← cellsM_app, ← eL] at M131
 replace M131 := M131.msgsAdd (i := 5) (k5 := 6) (k6 := 7) (k7 := 8) (k8 := 9) (k9 := 10) rfl rfl rfl rfl rfl rfl
 refine rm rfl F131 fun _ F132 => ?_
 refine hK127 _ _ (zS fun _ hK133 => ?_)
 refine zR ?_
 refine rm rfl F132 fun _ F134 => ?_
 refine rm rfl F134 fun _ F135 => ?_
 have M136 := M131.tame (k := 12) rfl
 clear M131
 refine zd (za rfl) rfl F135 rfl rfl (zE Try.func28 rfl) #[.pointer (some ⟨g38, 0, none⟩), .slice A117 (xm).length c117] (z9 (F135.get rfl) (F135.get rfl)) (swrite_any M136 2 3 12 g38 (encsL L) xm u (.slice A117 (xm).length c117) nt false rfl rfl rfl (by decide) (by decide) (by omega) ⟨hn0, by omega⟩ true (wrOk_t (by omega))) ?_
 rintro _ w137 a137 ⟨u137, N137, rfl⟩ F137
 rw [(show wrL true (encsL L) xm = encsL L ++ xm from rfl)] at N137
 rw [(show wrN true nt xm = nt + (xm.length : Int) from rfl)] at N137
 clear M136
 replace N137 : Mx _ _ _ ((2, blkR g38 94 #[u137, .int .i64 (nt + (xm.length : Int)), .bool false]) :: _) := N137
 refine rn rfl rfl F137 rfl (.bool false) (zwb _ _ rfl (F137.get (t := 66) rfl)) fun _ F138 => ?_
 refine hK133 _ _ (wp_cond_false (F138.get rfl) ?_)
 refine wp_skip ?_
 refine hK101 _ _ (zR ?_)
 refine rm rfl F138 fun _ F139 => ?_
 refine rn rfl rfl F139 rfl (.int .i64 ((jn + 1 : Nat) : Int)) (z4 _ _ _ _ rfl (F139.get rfl) rfl (by omega) (by omega)) fun _ F140 => ?_
 refine rm rfl F140 fun _ F141 => ?_
 have eS : encsL (L ++ [(m, V112)]) = encsL L ++ xm := by rw [← hm2]; exact encs_app _ _ _
 subst ek88
 exact hK88 _ ⟨(jn + 1), (L ++ [(m, V112)]), v131, (nt + (xm.length : Int)), u137⟩ _ _ (by dsimp only; omega) ⟨rfl, ⟨by (dsimp only; omega), by (dsimp only; rw [eL]; omega), by (dsimp only; omega), by (dsimp only; omega), by (dsimp only; rw [eS, List.length_append]; omega), fun p hp => by (rcases List.mem_append.1 hp with hp | hp; exact hall p hp; obtain rfl := List.mem_singleton.1 hp; exact ⟨hm1, om⟩)⟩⟩ (F141.sub ⟨rfl, rfl, rfl, rfl, rfl, rfl, rfl, trivial⟩) (N137.sub ⟨rfl, rfl, rfl, (by rw [eS]; rfl), rfl, rfl, trivial⟩)
end Go.Proofs.Ytlbkogdmojlpmaa
