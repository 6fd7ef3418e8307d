/- What WireReads stands on, part 13. -/
import Derived.Test.YtlbkogdmojlpmaaWireReadsP1
import Derived.Test.YtlbkogdmojlpmaaWireReadsP2
import Derived.Test.YtlbkogdmojlpmaaWireReadsP3
import Derived.Test.YtlbkogdmojlpmaaWireReadsP4
import Derived.Test.YtlbkogdmojlpmaaWireReadsP5
import Derived.Test.YtlbkogdmojlpmaaWireReadsP6
import Derived.Test.YtlbkogdmojlpmaaWireReadsP7
import Derived.Test.YtlbkogdmojlpmaaWireReadsP8
import Derived.Test.YtlbkogdmojlpmaaWireReadsP9
import Derived.Test.YtlbkogdmojlpmaaWireReadsP10
import Derived.Test.YtlbkogdmojlpmaaWireReadsP11
import Derived.Test.YtlbkogdmojlpmaaWireReadsP12
set_option maxRecDepth 100000
set_option maxHeartbeats 8000000
set_option linter.unusedVariables false
set_option linter.unusedSimpArgs false
namespace Go.Proofs.Ytlbkogdmojlpmaa
open Go.ChangeShapes Go.WideShapes Go.ChangeAt Go.RowKit
theorem str_eqsT {s t : ByteArray} (h : s = t) : decide (s.toList = t.toList) = true := by subst h; exact decide_eq_true rfl
theorem str_eqsF {s t : ByteArray} (h : ¬ s = t) : decide (s.toList = t.toList) = false := decide_eq_false fun e => h (by
  rw [ByteArray.toList_eq, ByteArray.toList_eq] at e
  cases s; cases t
  congr 1
  exact Array.toList_inj.1 e)
noncomputable def eqM (m m2 : MsgN) : Bool := decide (m.k = m2.k) && decide (m.p = m2.p) && decide (m.c = m2.c) && decide (m.e = m2.e) && @decide (m.s = m2.s) (Classical.propDecidable _) && decide (m.a = m2.a) && decide (m.b = m2.b) && decide (m.l5 = m2.l5) && decide (m.l6 = m2.l6) && decide (m.l7 = m2.l7) && decide (m.l8 = m2.l8) && decide (m.l9 = m2.l9)
theorem eqM_iff (m m2 : MsgN) : eqM m m2 = true ↔ m = m2 := by
  unfold eqM
  simp only [Bool.and_eq_true, decide_eq_true_eq]
  constructor
  · rintro ⟨⟨⟨⟨⟨⟨⟨⟨⟨⟨⟨h1, h2⟩, h3⟩, h4⟩, h5⟩, h6⟩, h7⟩, h8⟩, h9⟩, h10⟩, h11⟩, h12⟩
    cases m; cases m2
    simp_all
  · rintro rfl; simp
theorem eqM_self (m : MsgN) : eqM m m = true := (eqM_iff m m).2 rfl
theorem msgs_any (m m2 : MsgN) (V V2 : MsgV) (ho : MsgOk m) (ho2 : MsgOk m2) (w : World) (hm : MsgIs w m V) (hm2 : MsgIs w m2 V2) :
  Calls Try.prog 21 #[.agg (msgA m V), .agg (msgA m2 V2)] w fun e w' => e = .returned (.bool (eqM m m2)) ∧ Below w.heap.size w w' := by
 refine zh (args := [.agg (msgA m V), .agg (msgA m2 V2)]) 97 Try.func21 rfl rfl rfl ?_
 intro fa F
 have M := Mx.start w
 replace M := M.argB 0 hm.h5 (fun g e => by cases e)
 replace M := M.argB 1 hm.h6 (fun g e => by cases e)
 replace M := M.argB 2 hm.h7 (fun g e => by cases e)
 replace M := M.argB 3 hm.h8 (fun g e => by cases e)
 replace M := M.argB 4 hm.h9 (fun g e => by cases e)
 replace M := M.argB 5 hm2.h5 (fun g e => by cases e)
 replace M := M.argB 6 hm2.h6 (fun g e => by cases e)
 replace M := M.argB 7 hm2.h7 (fun g e => by cases e)
 replace M := M.argB 8 hm2.h8 (fun g e => by cases e)
 replace M := M.argB 9 hm2.h9 (fun g e => by cases e)
 refine zT fun _ hK1 => ?_
 refine zf (za rfl) rfl F rfl M 10 (t := 29) (c := msgA m V) (by unfold execOp; simp only [(F.get (t := 0) rfl)]; kernel_rfl) ?_
 intro g2 a2 w2 F2 M2
 clear F M
 refine zf (za rfl) rfl F2 rfl M2 11 (t := 29) (c := msgA m2 V2) (by unfold execOp; simp only [(F2.get (t := 1) rfl)]; kernel_rfl) ?_
 intro g3 a3 w3 F3 M3
 clear F2 M2
 refine rm rfl F3 fun _ F4 => ?_
 refine hK1 _ _ (zS fun _ hK5 => ?_)
 simp only [List.append_eq, List.cons_append, List.nil_append]
 refine zR ?_
 refine exS 4 [(2, .pointer (some ⟨g2, 0, none⟩)), (3, .pointer (some ⟨g3, 0, none⟩)), (4, .bool false), (6, .int .i64 m.k), (8, .int .i64 m2.k)] [0, 1] (zk (M3.blk (k := 10) rfl) (zk (M3.blk (k := 11) rfl) dnil)) [g2, g3] F4 (by kernel_rfl) fun _ F6 => ?_
 by_cases h7 : m.k = m2.k
 rotate_left
 ·refine rn rfl rfl F6 rfl (.bool false) (zo _ _ _ _ rfl (F6.get rfl) (F6.get rfl) Try.underlying3 (zp h7)) fun _ F80 => ?_
  refine exS 88 [(4, .bool false)] [] dnil [] F80 (by kernel_rfl) fun _ F81 => ?_
  refine hK5 _ _ (wp_ret ?_)
  try simp only [Exit.then, Exit.inBlock, Exit.jump]
  exact bodyPost_ret (res1 rfl (F81.get rfl)) F81.defers ⟨by rw [show eqM m m2 = false from by unfold eqM; simp [h7]], M3.below⟩
 refine rn rfl rfl F6 rfl (.bool true) (zo _ _ _ _ rfl (F6.get rfl) (F6.get rfl) Try.underlying3 (zla h7)) fun _ F8 => ?_
 refine exS 5 [(2, .pointer (some ⟨g2, 0, none⟩)), (3, .pointer (some ⟨g3, 0, none⟩)), (4, .bool false), (10, .bool true), (12, .int .i64 m.p), (14, .int .i64 m2.p)] [0, 1] (zk (M3.blk (k := 10) rfl) (zk (M3.blk (k := 11) rfl) dnil)) [g2, g3] F8 (by kernel_rfl) fun _ F9 => ?_
 by_cases h10 : m.p = m2.p
 rotate_left
 ·refine ze (w' := w3) (zb rfl rfl rfl (F9.get rfl)) rfl F9 rfl (.bool false) (zo _ _ _ _ rfl (F9.get rfl) (F9.get rfl) Try.underlying3 (zp h10)) fun _ F78 => ?_
  refine exS 82 [(4, .bool false)] [] dnil [] F78 (by kernel_rfl) fun _ F79 => ?_
  refine hK5 _ _ (wp_ret ?_)
  try simp only [Exit.then, Exit.inBlock, Exit.jump]
  exact bodyPost_ret (res1 rfl (F79.get rfl)) F79.defers ⟨by rw [show eqM m m2 = false from by unfold eqM; simp [h7, h10]], M3.below⟩
 refine ze (w' := w3) (zb rfl rfl rfl (F9.get rfl)) rfl F9 rfl (.bool true) (zo _ _ _ _ rfl (F9.get rfl) (F9.get rfl) Try.underlying3 (zla h10)) fun _ F11 => ?_
 refine exS 6 [(2, .pointer (some ⟨g2, 0, none⟩)), (3, .pointer (some ⟨g3, 0, none⟩)), (4, .bool false), (17, .bool true), (19, .int .i64 m.c), (21, .int .i64 m2.c)] [0, 1] (zk (M3.blk (k := 10) rfl) (zk (M3.blk (k := 11) rfl) dnil)) [g2, g3] F11 (by kernel_rfl) fun _ F12 => ?_
 by_cases h13 : m.c = m2.c
 rotate_left
 ·refine ze (w' := w3) (zb rfl rfl rfl (F12.get rfl)) rfl F12 rfl (.bool false) (zo _ _ _ _ rfl (F12.get rfl) (F12.get rfl) Try.underlying3 (zp h13)) fun _ F76 => ?_
  refine exS 75 [(4, .bool false)] [] dnil [] F76 (by kernel_rfl) fun _ F77 => ?_
  refine hK5 _ _ (wp_ret ?_)
  try simp only [Exit.then, Exit.inBlock, Exit.jump]
  exact bodyPost_ret (res1 rfl (F77.get rfl)) F77.defers ⟨by rw [show eqM m m2 = false from by unfold eqM; simp [h7, h10, h13]], M3.below⟩
 refine ze (w' := w3) (zb rfl rfl rfl (F12.get rfl)) rfl F12 rfl (.bool true) (zo _ _ _ _ rfl (F12.get rfl) (F12.get rfl) Try.underlying3 (zla h13)) fun _ F14 => ?_
 refine exS 6 [(2, .pointer (some ⟨g2, 0, none⟩)), (3, .pointer (some ⟨g3, 0, none⟩)), (4, .bool false), (24, .bool true), (26, .int .i64 m.e), (28, .int .i64 m2.e)] [0, 1] (zk (M3.blk (k := 10) rfl) (zk (M3.blk (k := 11) rfl) dnil)) [g2, g3] F14 (by kernel_rfl) fun _ F15 => ?_
 by_cases h16 : m.e = m2.e
 rotate_left
 ·refine ze (w' := w3) (zb rfl rfl rfl (F15.get rfl)) rfl F15 rfl (.bool false) (zo _ _ _ _ rfl (F15.get rfl) (F15.get rfl) Try.underlying24 (zp h16)) fun _ F74 => ?_
  refine exS 68 [(4, .bool false)] [] dnil [] F74 (by kernel_rfl) fun _ F75 => ?_
  refine hK5 _ _ (wp_ret ?_)
  try simp only [Exit.then, Exit.inBlock, Exit.jump]
  exact bodyPost_ret (res1 rfl (F75.get rfl)) F75.defers ⟨by rw [show eqM m m2 = false from by unfold eqM; simp [h7, h10, h13, h16]], M3.below⟩
 refine ze (w' := w3) (zb rfl rfl rfl (F15.get rfl)) rfl F15 rfl (.bool true) (zo _ _ _ _ rfl (F15.get rfl) (F15.get rfl) Try.underlying24 (zla h16)) fun _ F17 => ?_
 refine exS 6 [(2, .pointer (some ⟨g2, 0, none⟩)), (3, .pointer (some ⟨g3, 0, none⟩)), (4, .bool false), (31, .bool true), (33, .string m.s), (35, .string m2.s)] [0, 1] (zk (M3.blk (k := 10) rfl) (zk (M3.blk (k := 11) rfl) dnil)) [g2, g3] F17 (by kernel_rfl) fun _ F18 => ?_
 by_cases h19 : m.s = m2.s
 rotate_left
 ·refine ze (w' := w3) (zb rfl rfl rfl (F18.get rfl)) rfl F18 rfl (.bool false) (y_eqS _ _ _ rfl (F18.get rfl) (F18.get rfl) (str_eqsF h19)) fun _ F72 => ?_
  refine exS 61 [(4, .bool false)] [] dnil [] F72 (by kernel_rfl) fun _ F73 => ?_
  refine hK5 _ _ (wp_ret ?_)
  try simp only [Exit.then, Exit.inBlock, Exit.jump]
  exact bodyPost_ret (res1 rfl (F73.get rfl)) F73.defers ⟨by rw [show eqM m m2 = false from by unfold eqM; simp [h7, h10, h13, h16, h19]], M3.below⟩
 refine ze (w' := w3) (zb rfl rfl rfl (F18.get rfl)) rfl F18 rfl (.bool true) (y_eqS _ _ _ rfl (F18.get rfl) (F18.get rfl) (str_eqsT h19)) fun _ F20 => ?_
 refine exS 6 [(2, .pointer (some ⟨g2, 0, none⟩)), (3, .pointer (some ⟨g3, 0, none⟩)), (4, .bool false), (38, .bool true), (40, numV m.a), (42, numV m2.a)] [0, 1] (zk (M3.blk (k := 10) rfl) (zk (M3.blk (k := 11) rfl) dnil)) [g2, g3] F20 (by kernel_rfl) fun _ F21 => ?_
 by_cases h22 : m.a = m2.a
 rotate_left
 ·refine ze (w' := w3) (zb rfl rfl rfl (F21.get rfl)) rfl F21 rfl (.bool false) (y_eqA _ _ _ _ rfl (F21.get rfl) (F21.get rfl) (by kernel_rfl) (eqn_diff ho.a ho2.a h22 _)) fun _ F70 => ?_
  refine exS 54 [(4, .bool false)] [] dnil [] F70 (by kernel_rfl) fun _ F71 => ?_
  refine hK5 _ _ (wp_ret ?_)
  try simp only [Exit.then, Exit.inBlock, Exit.jump]
  exact bodyPost_ret (res1 rfl (F71.get rfl)) F71.defers ⟨by rw [show eqM m m2 = false from by unfold eqM; simp [h7, h10, h13, h16, h19, h22]], M3.below⟩
 refine ze (w' := w3) (zb rfl rfl rfl (F21.get rfl)) rfl F21 rfl (.bool true) (y_eqA _ _ _ _ rfl (F21.get rfl) (F21.get rfl) (by kernel_rfl) (by rw [h22]; exact eqn_same _ _)) fun _ F23 => ?_
 refine exS 6 [(2, .pointer (some ⟨g2, 0, none⟩)), (3, .pointer (some ⟨g3, 0, none⟩)), (4, .bool false), (45, .bool true), (47, numV m.b), (49, numV m2.b)] [0, 1] (zk (M3.blk (k := 10) rfl) (zk (M3.blk (k := 11) rfl) dnil)) [g2, g3] F23 (by kernel_rfl) fun _ F24 => ?_
 by_cases h25 : m.b = m2.b
 rotate_left
 ·refine ze (w' := w3) (zb rfl rfl rfl (F24.get rfl)) rfl F24 rfl (.bool false) (y_eqA _ _ _ _ rfl (F24.get rfl) (F24.get rfl) (by kernel_rfl) (eqn_diff ho.b ho2.b h25 _)) fun _ F68 => ?_
  refine exS 47 [(4, .bool false)] [] dnil [] F68 (by kernel_rfl) fun _ F69 => ?_
  refine hK5 _ _ (wp_ret ?_)
  try simp only [Exit.then, Exit.inBlock, Exit.jump]
  exact bodyPost_ret (res1 rfl (F69.get rfl)) F69.defers ⟨by rw [show eqM m m2 = false from by unfold eqM; simp [h7, h10, h13, h16, h19, h22, h25]], M3.below⟩
 refine ze (w' := w3) (zb rfl rfl rfl (F24.get rfl)) rfl F24 rfl (.bool true) (y_eqA _ _ _ _ rfl (F24.get rfl) (F24.get rfl) (by kernel_rfl) (by rw [h25]; exact eqn_same _ _)) fun _ F26 => ?_
 refine exS 4 [(2, .pointer (some ⟨g2, 0, none⟩)), (3, .pointer (some ⟨g3, 0, none⟩)), (4, .bool false), (52, .bool true), (54, V.v5)] [0] (zk (M3.blk (k := 10) rfl) dnil) [g2] F26 (by kernel_rfl) fun _ F27 => ?_
 refine ze (w' := w3) (zb rfl rfl rfl (F27.get rfl)) rfl F27 rfl (.string (⟨(m.l5).toArray⟩)) (y_str _ rfl (F27.get rfl) (M3.isb (k := 0) rfl)) fun _ F28 => ?_
 refine exA 2 [(56, .pointer (some ⟨g3, 21, none⟩)), (57, V2.v5)] [0] (zk (M3.blk (k := 11) rfl) dnil) [g3] F28 (by kernel_rfl) (by kernel_rfl) fun _ F29 => ?_
 refine ze (w' := w3) (zb rfl rfl rfl (F29.get rfl)) rfl F29 rfl (.string (⟨(m2.l5).toArray⟩)) (y_str _ rfl (F29.get rfl) (M3.isb (k := 5) rfl)) fun _ F30 => ?_
 by_cases h31 : m.l5 = m2.l5
 rotate_left
 ·refine ze (w' := w3) (zb rfl rfl rfl (F30.get rfl)) rfl F30 rfl (.bool false) (y_eqS _ _ _ rfl (F30.get rfl) (F30.get rfl) (str_ne h31)) fun _ F66 => ?_
  refine exS 38 [(4, .bool false)] [] dnil [] F66 (by kernel_rfl) fun _ F67 => ?_
  refine hK5 _ _ (wp_ret ?_)
  try simp only [Exit.then, Exit.inBlock, Exit.jump]
  exact bodyPost_ret (res1 rfl (F67.get rfl)) F67.defers ⟨by rw [show eqM m m2 = false from by unfold eqM; simp [h7, h10, h13, h16, h19, h22, h25, h31]], M3.below⟩
 refine ze (w' := w3) (zb rfl rfl rfl (F30.get rfl)) rfl F30 rfl (.bool true) (y_eqS _ _ _ rfl (F30.get rfl) (F30.get rfl) (str_eq h31)) fun _ F32 => ?_
 refine exS 4 [(2, .pointer (some ⟨g2, 0, none⟩)), (3, .pointer (some ⟨g3, 0, none⟩)), (4, .bool false), (61, .bool true), (63, V.v6)] [0] (zk (M3.blk (k := 10) rfl) dnil) [g2] F32 (by kernel_rfl) fun _ F33 => ?_
 refine ze (w' := w3) (zb rfl rfl rfl (F33.get rfl)) rfl F33 rfl (.string (⟨(m.l6).toArray⟩)) (y_str _ rfl (F33.get rfl) (M3.isb (k := 1) rfl)) fun _ F34 => ?_
 refine exA 2 [(65, .pointer (some ⟨g3, 22, none⟩)), (66, V2.v6)] [0] (zk (M3.blk (k := 11) rfl) dnil) [g3] F34 (by kernel_rfl) (by kernel_rfl) fun _ F35 => ?_
 refine ze (w' := w3) (zb rfl rfl rfl (F35.get rfl)) rfl F35 rfl (.string (⟨(m2.l6).toArray⟩)) (y_str _ rfl (F35.get rfl) (M3.isb (k := 6) rfl)) fun _ F36 => ?_
 by_cases h37 : m.l6 = m2.l6
 rotate_left
 ·refine ze (w' := w3) (zb rfl rfl rfl (F36.get rfl)) rfl F36 rfl (.bool false) (y_eqS _ _ _ rfl (F36.get rfl) (F36.get rfl) (str_ne h37)) fun _ F64 => ?_
  refine exS 29 [(4, .bool false)] [] dnil [] F64 (by kernel_rfl) fun _ F65 => ?_
  refine hK5 _ _ (wp_ret ?_)
  try simp only [Exit.then, Exit.inBlock, Exit.jump]
  exact bodyPost_ret (res1 rfl (F65.get rfl)) F65.defers ⟨by rw [show eqM m m2 = false from by unfold eqM; simp [h7, h10, h13, h16, h19, h22, h25, h31, h37]], M3.below⟩
 refine ze (w' := w3) (zb rfl rfl rfl (F36.get rfl)) rfl F36 rfl (.bool true) (y_eqS _ _ _ rfl (F36.get rfl) (F36.get rfl) (str_eq h37)) fun _ F38 => ?_
 refine exS 4 [(2, .pointer (some ⟨g2, 0, none⟩)), (3, .pointer (some ⟨g3, 0, none⟩)), (4, .bool false), (70, .bool true), (72, V.v7)] [0] (zk (M3.blk (k := 10) rfl) dnil) [g2] F38 (by kernel_rfl) fun _ F39 => ?_
 refine ze (w' := w3) (zb rfl rfl rfl (F39.get rfl)) rfl F39 rfl (.string (⟨(m.l7).toArray⟩)) (y_str _ rfl (F39.get rfl) (M3.isb (k := 2) rfl)) fun _ F40 => ?_
 refine exA 2 [(74, .pointer (some ⟨g3, 23, none⟩)), (75, V2.v7)] [0] (zk (M3.blk (k := 11) rfl) dnil) [g3] F40 (by kernel_rfl) (by kernel_rfl) fun _ F41 => ?_
 refine ze (w' := w3) (zb rfl rfl rfl (F41.get rfl)) rfl F41 rfl (.string (⟨(m2.l7).toArray⟩)) (y_str _ rfl (F41.get rfl) (M3.isb (k := 7) rfl)) fun _ F42 => ?_
 by_cases h43 : m.l7 = m2.l7
 rotate_left
 ·refine ze (w' := w3) (zb rfl rfl rfl (F42.get rfl)) rfl F42 rfl (.bool false) (y_eqS _ _ _ rfl (F42.get rfl) (F42.get rfl) (str_ne h43)) fun _ F62 => ?_
  refine exS 20 [(4, .bool false)] [] dnil [] F62 (by kernel_rfl) fun _ F63 => ?_
  refine hK5 _ _ (wp_ret ?_)
  try simp only [Exit.then, Exit.inBlock, Exit.jump]
  exact bodyPost_ret (res1 rfl (F63.get rfl)) F63.defers ⟨by rw [show eqM m m2 = false from by unfold eqM; simp [h7, h10, h13, h16, h19, h22, h25, h31, h37, h43]], M3.below⟩
 refine ze (w' := w3) (zb rfl rfl rfl (F42.get rfl)) rfl F42 rfl (.bool true) (y_eqS _ _ _ rfl (F42.get rfl) (F42.get rfl) (str_eq h43)) fun _ F44 => ?_
 refine exS 4 [(2, .pointer (some ⟨g2, 0, none⟩)), (3, .pointer (some ⟨g3, 0, none⟩)), (4, .bool false), (79, .bool true), (81, V.v8)] [0] (zk (M3.blk (k := 10) rfl) dnil) [g2] F44 (by kernel_rfl) fun _ F45 => ?_
 refine ze (w' := w3) (zb rfl rfl rfl (F45.get rfl)) rfl F45 rfl (.string (⟨(m.l8).toArray⟩)) (y_str _ rfl (F45.get rfl) (M3.isb (k := 3) rfl)) fun _ F46 => ?_
 refine exA 2 [(83, .pointer (some ⟨g3, 24, none⟩)), (84, V2.v8)] [0] (zk (M3.blk (k := 11) rfl) dnil) [g3] F46 (by kernel_rfl) (by kernel_rfl) fun _ F47 => ?_
 refine ze (w' := w3) (zb rfl rfl rfl (F47.get rfl)) rfl F47 rfl (.string (⟨(m2.l8).toArray⟩)) (y_str _ rfl (F47.get rfl) (M3.isb (k := 8) rfl)) fun _ F48 => ?_
 by_cases h49 : m.l8 = m2.l8
 rotate_left
 ·refine ze (w' := w3) (zb rfl rfl rfl (F48.get rfl)) rfl F48 rfl (.bool false) (y_eqS _ _ _ rfl (F48.get rfl) (F48.get rfl) (str_ne h49)) fun _ F60 => ?_
  refine exS 11 [(4, .bool false)] [] dnil [] F60 (by kernel_rfl) fun _ F61 => ?_
  refine hK5 _ _ (wp_ret ?_)
  try simp only [Exit.then, Exit.inBlock, Exit.jump]
  exact bodyPost_ret (res1 rfl (F61.get rfl)) F61.defers ⟨by rw [show eqM m m2 = false from by unfold eqM; simp [h7, h10, h13, h16, h19, h22, h25, h31, h37, h43, h49]], M3.below⟩
 refine ze (w' := w3) (zb rfl rfl rfl (F48.get rfl)) rfl F48 rfl (.bool true) (y_eqS _ _ _ rfl (F48.get rfl) (F48.get rfl) (str_eq h49)) fun _ F50 => ?_
 refine exS 4 [(3, .pointer (some ⟨g3, 0, none⟩)), (4, .bool false), (88, .bool true), (90, V.v9)] [0] (zk (M3.blk (k := 10) rfl) dnil) [g2] F50 (by kernel_rfl) fun _ F51 => ?_
 refine ze (w' := w3) (zb rfl rfl rfl (F51.get rfl)) rfl F51 rfl (.string (⟨(m.l9).toArray⟩)) (y_str _ rfl (F51.get rfl) (M3.isb (k := 4) rfl)) fun _ F52 => ?_
 refine exS 2 [(4, .bool false), (88, .bool true), (91, .string (⟨(m.l9).toArray⟩)), (93, V2.v9)] [0] (zk (M3.blk (k := 11) rfl) dnil) [g3] F52 (by kernel_rfl) fun _ F53 => ?_
 refine ze (w' := w3) (zb rfl rfl rfl (F53.get rfl)) rfl F53 rfl (.string (⟨(m2.l9).toArray⟩)) (y_str _ rfl (F53.get rfl) (M3.isb (k := 9) rfl)) fun _ F54 => ?_
 by_cases h55 : m.l9 = m2.l9
 ·refine ze (w' := w3) (zb rfl rfl rfl (F54.get rfl)) rfl F54 rfl (.bool true) (y_eqS _ _ _ rfl (F54.get rfl) (F54.get rfl) (str_eq h55)) fun _ F56 => ?_
  refine exS 2 [(4, .bool true)] [] dnil [] F56 (by kernel_rfl) fun _ F57 => ?_
  refine hK5 _ _ (wp_ret ?_)
  try simp only [Exit.then, Exit.inBlock, Exit.jump]
  exact bodyPost_ret (res1 rfl (F57.get rfl)) F57.defers ⟨by rw [show eqM m m2 = true from by unfold eqM; simp [h7, h10, h13, h16, h19, h22, h25, h31, h37, h43, h49, h55]], M3.below⟩
 refine ze (w' := w3) (zb rfl rfl rfl (F54.get rfl)) rfl F54 rfl (.bool false) (y_eqS _ _ _ rfl (F54.get rfl) (F54.get rfl) (str_ne h55)) fun _ F58 => ?_
 refine exS 2 [(4, .bool false)] [] dnil [] F58 (by kernel_rfl) fun _ F59 => ?_
 refine hK5 _ _ (wp_ret ?_)
 try simp only [Exit.then, Exit.inBlock, Exit.jump]
 exact bodyPost_ret (res1 rfl (F59.get rfl)) F59.defers ⟨by rw [show eqM m m2 = false from by unfold eqM; simp [h7, h10, h13, h16, h19, h22, h25, h31, h37, h43, h49, h55]], M3.below⟩
end Go.Proofs.Ytlbkogdmojlpmaa
namespace Go.Proofs.Ytlbkogdmojlpmaa
open Go.ChangeShapes Go.WideShapes Go.ChangeAt Go.RowKit
theorem enc_is (m : MsgN) (V : MsgV) (ho : MsgOk m) (hs : m.s.size ≤ 1000) (ok : Bool) (l : List UInt8) (h1 : z2a m = ok) (h2 : encL m = l) (w : World) (hm : MsgIs w m V) : Calls Try.prog 17 #[.agg (msgA m V)] w fun e w' => ∃ t, e = .returned t ∧ ∃ v, t = .tuple #[v, .bool ok] ∧ Byt w' w.heap.size v l ∧ Below w.heap.size w w' := by
  subst h1 h2; exact encode_ex m V ho hs w hm
theorem renc_is (m : MsgN) (V : MsgV) (ho : MsgOk m) (hs : m.s.size ≤ 1000) (ok : Bool) (l : List UInt8) (h1 : z2a m = ok) (h2 : encL m = l) (w : World) (hm : MsgIs w m V) : Calls Try.prog 18 #[.agg (msgA m V)] w fun e w' => ∃ t, e = .returned t ∧ ∃ v, t = .tuple #[v, .bool ok] ∧ Byt w' w.heap.size v l ∧ Below w.heap.size w w' := by
  subst h1 h2; exact rencode_ex m V ho hs w hm
theorem dec_is (b : List UInt8) (bv : Value) (hl : b.length ≤ 100000) (ok : Bool) (m : MsgN) (h1 : decOk b = ok) (h2 : decR b = m) (w : World) (hb : IsB w b bv) : Calls Try.prog 20 #[bv] w fun e w' => ∃ t, e = .returned t ∧ ∃ V, t = .tuple #[.agg (msgA m V), .bool ok] ∧ MsgIs w' m V ∧ (∀ q, z5a V q → w.heap.size ≤ q) ∧ Below w.heap.size w w' := by
  subst h1 h2; exact decode_ex b bv hl w hb
theorem rdec_is (b : List UInt8) (bv : Value) (hl : b.length ≤ 100000) (ok : Bool) (m : MsgN) (h1 : decOk b = ok) (h2 : decR b = m) (w : World) (hb : IsB w b bv) : Calls Try.prog 23 #[bv] w fun e w' => ∃ t, e = .returned t ∧ ∃ V, t = .tuple #[.agg (msgA m V), .bool ok] ∧ MsgIs w' m V ∧ (∀ q, z5a V q → w.heap.size ≤ q) ∧ Below w.heap.size w w' := by
  subst h1 h2; exact rdecode_ex b bv hl w hb
theorem msgs_is (m m2 : MsgN) (V V2 : MsgV) (ho : MsgOk m) (ho2 : MsgOk m2) (ok : Bool) (h1 : eqM m m2 = ok) (w : World) (hm : MsgIs w m V) (hm2 : MsgIs w m2 V2) : Calls Try.prog 21 #[.agg (msgA m V), .agg (msgA m2 V2)] w fun e w' => e = .returned (.bool ok) ∧ Below w.heap.size w w' := by
  subst h1; exact msgs_any m m2 V V2 ho ho2 w hm hm2
theorem rec_is (r : RecN) (V : RecV) (ho : RecOk r) (ok : Bool) (l : List UInt8) (h1 : zgb r = ok) (h2 : recE r = l) (w : World) (hm : RecIs w r V) : Calls Try.prog 35 #[.agg (recA r V)] w fun e w' => ∃ t, e = .returned t ∧ ∃ v, t = .tuple #[v, .bool ok] ∧ Byt w' w.heap.size v l ∧ Below w.heap.size w w' := by
  subst h1 h2; exact record_ex r V ho w hm
theorem rd_is (b : List UInt8) (bv : Value) (hl : b.length ≤ 100000) (ok : Bool) (r : RecN) (h1 : rdOk b = ok) (h2 : rdR b = r) (w : World) (hb : IsB w b bv) : Calls Try.prog 37 #[bv] w fun e w' => ∃ t, e = .returned t ∧ ∃ V, t = .tuple #[.agg (recA r V), .bool ok] ∧ RecIs w' r V ∧ (∀ q, bfp V.v2 q ∨ bfp V.v5 q → w.heap.size ≤ q) ∧ Below w.heap.size w w' := by
  subst h1 h2; exact (readrec_any b bv hl w hb).mono fun e w' ⟨V, k1, k2, k3, k4⟩ => ⟨_, k1, V, rfl, k2, k3, k4⟩
theorem make_is (kind n : Int) (s : ByteArray) (b : List UInt8) (v : Value) (hkd : -9223372036854775808 ≤ kind ∧ kind < 9223372036854775808) (hN : -9223372036854775808 ≤ n ∧ n < 9223372036854775808) (hs : s.size ≤ 40) (m : MsgN) (hm : mkM kind n s b = m) (w : World) (hv : IsB w b v) : Calls Try.prog 16 #[.int .i64 kind, .int .i64 n, .string s, v] w fun e w' => ∃ t, e = .returned t ∧ ∃ V, t = .agg (msgA m V) ∧ MsgIs w' m V ∧ (∀ g, z5a V g → w.heap.size ≤ g) ∧ Below w.heap.size w w' := by
  subst hm; exact make_msg kind n s b v hkd hN hs w hv
section
variable {G : Option Nat} {w0 w : World} {R : List (Nat × Res)}
theorem Mx.nilT (M : Mx G w0 w R) (i : Nat) : Mx G w0 w ((i, tlR [] (zN)) :: R) :=
  M.cons i _ (show Tl w (zN) [] from .inl ⟨rfl, rfl⟩) tlR_dep (fun g hg => by cases hg) (fun _ g hg => by cases hg) fun _ _ _ _ _ g hg => by cases hg
theorem Mx.newRec {w' : World} (M : Mx G w0 w R) (h : Below w.heap.size w w') {r : RecN} {V : RecV} (hm : RecIs w' r V) (hlo : ∀ q, bfp V.v2 q ∨ bfp V.v5 q → w.heap.size ≤ q) (a b : Nat) : Mx G w0 w' ((b, bytR r.l5 V.v5) :: (a, bytR r.l2 V.v2) :: R) := by
  obtain ⟨M1, n1⟩ := (M.step h).roB2 (N := w.heap.size) (fun k s e _ g hg => M.lt k s e g hg) a hm.h2 (fun g hg => hlo g (.inl hg))
  exact (M1.roB2 n1 b hm.h5 (fun g hg => hlo g (.inr hg))).1
theorem next_is (M0 : Mx G w0 w R) (k q g : Nat) (l : List UInt8) (u : Value) (n : Int) (b : Bool) (hk : look R k = some (blkR g 94 #[u, .int .i64 n, .bool b])) (hq : look R q = some (tlR l u)) (hne : k ≠ q) (hl : l.length ≤ 1000000) (k5 k6 k7 k8 k9 : Nat) (m : MsgN) (ok bad : Bool) (l2 : List UInt8) (h1 : nxM l = m) (h2 : nxOk l = ok) (h3 : (b || nxBad l) = bad) (h4 : nxL l = l2) :
    Calls Try.prog 30 #[.pointer (some ⟨g, 0, none⟩)] w fun e w' => ∃ t, e = .returned t ∧ ∃ u' V, Mx G w0 w' ((k9, bytR m.l9 V.v9) :: (k8, bytR m.l8 V.v8) :: (k7, bytR m.l7 V.v7) :: (k6, bytR m.l6 V.v6) :: (k5, bytR m.l5 V.v5) :: (k, blkR g 94 #[u', .int .i64 n, .bool bad]) :: (q, tlR l2 u') :: R) ∧ t = .tuple #[.agg (msgA m V), .bool ok] := by
  subst h1 h2 h3 h4; exact next_any M0 k q g l u n b hk hq hne hl k5 k6 k7 k8 k9
end
theorem mZero_ok : MsgOk mZero := ⟨by decide, by decide, by decide, by decide, by decide, by decide, by decide⟩
theorem decR_ok (b : List UInt8) : MsgOk (decR b) ∧ (decR b).s.size ≤ 1000 := by
  cases h : decOk b with
  | true => rw [(decOk_is h).2.2]; exact decM_msgok b
  | false => rw [decR_no h]; exact ⟨mZero_ok, by decide⟩
end Go.Proofs.Ytlbkogdmojlpmaa
namespace Go.Proofs.Ytlbkogdmojlpmaa
open Go.ChangeShapes Go.WideShapes Go.ChangeAt Go.RowKit
def m7 : MsgN := ⟨7, 0, 0, 0, "".toUTF8, 0, 0, [], [], [], [], []⟩
def rA : RecN := ⟨1, ⟨#[97]⟩, [], 0, 0, [], 0, 0, 0⟩
theorem m7_ok : MsgOk m7 := ⟨by decide, by decide, by decide, by decide, by decide, by decide, by decide⟩
theorem rA_ok : RecOk rA := ⟨by decide, by decide, by decide, by decide, by decide, by decide, by decide⟩
theorem m7_right : z9a m7 = true := by
  unfold z9a
  rw [show wantOk m7.k m7.p = true from rfl, show decide (hasB m7 = wantN m7.k m7.p) = true from by decide]
  unfold zea
  rw [show nilB m7.s = true from decide_eq_true rfl, show topI m7.a 8 = 0 from topI_none 8, show topI m7.b 8 = 0 from topI_none 8]
  simp [m7]
theorem enc7 : z2a m7 = true ∧ encL m7 = [0, 1, 7] := by
  have h : z2a m7 = true := by
    unfold z2a
    rw [m7_right]
    decide
  exact ⟨h, by rw [encL_ok h]; decide⟩
theorem rA_name : NameOk rA.s := by
  refine ⟨by decide, by decide, fun i h => ?_⟩
  have : i = 0 := by have h1 : rA.s.size = 1 := rfl; omega
  subst this
  exact (show (33 : Int) ≤ ((97 : UInt8).toNat : Int) ∧ ((97 : UInt8).toNat : Int) ≤ 126 by decide)
theorem rA_keep : zgb rA = true := by
  unfold zgb
  rw [show nameB rA.s = true from @decide_eq_true _ (Classical.propDecidable _) rA_name, show topI rA.a 8 = 0 from topI_none 8, show topI rA.b 8 = 0 from topI_none 8]
  decide
theorem known_1 : wrN true 0 (([0, 1, 7] : List UInt8).take 1) = 1 ∧ nxM (([0, 1, 7] : List UInt8).take 1) = mZero ∧ nxOk (([0, 1, 7] : List UInt8).take 1) = false ∧ (false || nxBad (([0, 1, 7] : List UInt8).take 1)) = false ∧ nxL (([0, 1, 7] : List UInt8).take 1) = ([0, 1, 7] : List UInt8).take 1 := by
  obtain ⟨h1, h2⟩ := nx_short (l := ([0, 1, 7] : List UInt8).take 1) (by decide)
  refine ⟨rfl, by rw [nxM, h1]; rfl, h1, by rw [h2]; rfl, by rw [nxL, h1, h2]; rfl⟩
theorem known_2 : wrL true (([0, 1, 7] : List UInt8).take 1) (([0, 1, 7] : List UInt8).drop 1) = [0, 1, 7] ∧ wrN true 1 (([0, 1, 7] : List UInt8).drop 1) = 3 ∧ nxM ([0, 1, 7] : List UInt8) = m7 ∧ nxOk ([0, 1, 7] : List UInt8) = true ∧ (false || nxBad ([0, 1, 7] : List UInt8)) = false ∧ nxL ([0, 1, 7] : List UInt8) = [] := by
  obtain ⟨e1, e2⟩ := enc7
  obtain ⟨d1, d2⟩ := decOk_enc m7_ok e1
  rw [e2] at d1 d2
  have hF : nxF ([0, 1, 7] : List UInt8) = 1 := rfl
  have hT : ([0, 1, 7] : List UInt8).take (2 + nxF ([0, 1, 7] : List UInt8)) = [0, 1, 7] := rfl
  obtain ⟨h1, h2⟩ := nx_whole (l := ([0, 1, 7] : List UInt8)) (by decide) (by rw [hF]; decide) (by rw [hF]; decide)
  rw [hT, d1] at h1 h2
  exact ⟨rfl, rfl, by rw [nxM, h1, hT, d2]; rfl, h1, by rw [h2]; rfl, by rw [nxL, h1]; rfl⟩
theorem y_eqPN {a : Act} {w : World} {o : Oper} (ty tz : TypeId) (hu : Try.prog.underlying ty = some (.pointer (Try.prog.pointee ty))) (hgt : Try.prog.eqGuardType Try.prog.depth ty = false) (x : Operand) {p : Addr} (ho : o.op = .binOp .eql ty x (.const (.pointer none)) tz) (hx : a.eval x = .pointer (some p)) : (execOp a.eval o).run Try.prog w = .ok (.value (.bool false)) w :=
  y_eqV ty tz x _ ho hx (v := .pointer none) rfl (by simp [eqGuard, go_sem, hgt]) (by rw [run_eql_pointer_nil (h := hu)]; rfl)
theorem lknown_any  (w : World) :
  Calls Try.prog 15 #[] w fun e w' => e = .returned (.bool true) ∧ Below w.heap.size w w' := by
 obtain ⟨L, hL⟩ : ∃ L, L = ([0, 1, 7] : List UInt8) := ⟨_, rfl⟩
 obtain ⟨RB, hRB⟩ : ∃ l, recE rA = l := ⟨_, rfl⟩
 have hRl : RB.length ≤ 100000 := by rw [← hRB, show recE rA = recL rA from if_pos rA_keep]; decide
 have k1 := known_1
 have k2 := known_2
 have hL3 : L.length = 3 := by rw [hL]; rfl
 rw [← hL] at k1 k2
 obtain ⟨e1, e2⟩ := enc7
 rw [← hL] at e2
 obtain ⟨y1, y2⟩ := rd_rec rA_ok rA_keep
 rw [hRB] at y1 y2
 refine zh (args := []) 100 Try.func15 rfl rfl rfl ?_
 intro fa F
 have M := Mx.start w
 refine zT fun _ hK21 => ?_
 refine rm rfl F fun _ F22 => ?_
 refine hK21 _ _ (zS fun _ hK23 => ?_)
 refine zR ?_
 refine rn rfl rfl F22 rfl (.agg (msgA ⟨7, 0, 0, 0, "".toUTF8, 0, 0, [], [], [], [], []⟩ ⟨zN, zN, zN, zN, zN⟩)) (by unfold execOp; simp only [List.map_toArray, List.map_cons, List.map_nil, ]; kernel_rfl) fun _ F24 => ?_
 refine zd (za rfl) rfl F24 rfl rfl (enters_of Try.func17 (by kernel_rfl) rfl) #[.agg (msgA ⟨7, 0, 0, 0, "".toUTF8, 0, 0, [], [], [], [], []⟩ ⟨zN, zN, zN, zN, zN⟩)] (zn (F24.get rfl)) (enc_is m7 vZero m7_ok (by decide) true L e1 e2 w ⟨zc _, zc _, zc _, zc _, zc _⟩) ?_
 rintro _ w25 a25 ⟨v25, rfl, hv25, b25⟩ F25
 have M25 := M.newO b25 0 hv25
 clear M b25 hv25
 obtain ⟨A25, c25, rfl⟩ := (M25.isO (k := 0) rfl).shape
 refine exS 5 [(0, .bool false), (1, .slice A25 (L).length c25), (2, .bool true)] [] dnil [] F25 (by kernel_rfl) fun _ F26 => ?_
 refine hK23 _ _ (zS fun _ hK27 => ?_)
 refine zR ?_
 refine zd (za rfl) rfl F26 rfl rfl (enters_of Try.func26 (by kernel_rfl) rfl) #[] (args0) (new_any w25) ?_
 rintro _ w28 a28 ⟨g28, rfl, hg28, hc28, b28⟩ F28
 have M28 := (M25.newb b28 1 hg28 hc28).nilT 2
 clear M25 b28 hg28 hc28
 refine rm rfl F28 fun _ F29 => ?_
 refine hK27 _ _ (zS fun _ hK30 => ?_)
 refine zT fun _ hK31 => ?_
 refine rm rfl F29 fun _ F32 => ?_
 refine rn rfl rfl F32 rfl (.bool false) (y_eqPN 46 _ Try.underlying46 (by kernel_rfl) _ rfl (F32.get rfl)) fun _ F33 => ?_
 refine hK31 _ _ (wp_cond_false (F33.get rfl) ?_)
 refine wp_skip ?_
 refine hK30 _ _ (zS fun _ hK34 => ?_)
 refine zR ?_
 refine rm rfl F33 fun _ F35 => ?_
 refine rm rfl F35 fun _ F36 => ?_
 refine rm rfl F36 fun _ F37 => ?_
 refine rn rfl rfl F37 rfl (.int .i64 3) (zca _ rfl (F37.get rfl) (M28.isO (k := 0) rfl) (by rw [hL3]; rfl)) fun _ F38 => ?_
 refine rn rfl rfl F38 rfl (.int .i64 1) (y_min _ _ rfl rfl (F38.get rfl) (by decide)) fun _ F39 => ?_
 refine zjb (za rfl) rfl F39 rfl (z5b _ _ rfl (F39.get rfl) (M28.isO (k := 0) rfl) (F39.get rfl) (j := 1) rfl (by omega)) ?_
 intro v40 a40 h40 F40
 have og41 := M28.owns (k := 0) rfl
 have M41 := M28.tame (k := 0) rfl
 clear M28
 have M40 := M41.partB 3 (k := 0) rfl h40.1 h40.2
 clear M41
 obtain ⟨A40, c40, rfl⟩ := (M40.isb (k := 3) rfl).shape
 refine zd (za rfl) rfl F40 rfl rfl (enters_of Try.func28 (by kernel_rfl) rfl) #[.pointer (some ⟨g28, 0, none⟩), .slice A40 ((L.take 1)).length c40] (zga (F40.get rfl) (F40.get rfl)) (swrite_any M40 1 2 3 g28 [] (L.take 1) (zN) (.slice A40 ((L.take 1)).length c40) 0 false rfl rfl rfl (by decide) (by decide) (by simp only [List.length_nil, List.length_take]; omega) (by decide) true rfl) ?_
 rintro _ w42 a42 ⟨u42, N42, rfl⟩ F42
 rw [(show wrL true [] (L.take 1) = L.take 1 from rfl)] at N42
 rw [k1.1] at N42
 clear M40
 replace N42 : Mx _ _ _ ((1, blkR g28 94 #[u42, .int .i64 1, .bool false]) :: _) := N42
 refine hK34 _ _ (zS fun _ hK43 => ?_)
 refine zR ?_
 refine rm rfl F42 fun _ F44 => ?_
 refine zd (za rfl) rfl F44 rfl rfl (enters_of Try.func30 (by kernel_rfl) rfl) #[.pointer (some ⟨g28, 0, none⟩)] (zn (F44.get rfl)) (next_is N42 1 2 g28 (L.take 1) u42 1 false rfl rfl (by decide) (by rw [List.length_take]; omega) 4 5 6 7 8 mZero false false (L.take 1) k1.2.1 k1.2.2.1 k1.2.2.2.1 k1.2.2.2.2) ?_
 rintro _ w45 a45 ⟨u45, V45, N45, rfl⟩ F45
 clear N42
 refine exS 3 [(0, .bool false), (1, .slice A25 (L).length c25), (2, .bool true), (3, .pointer (some ⟨g28, 0, none⟩)), (30, .agg (msgA mZero V45)), (31, .bool false)] [] dnil [] F45 (by kernel_rfl) fun _ F46 => ?_
 refine zf (za rfl) rfl F46 rfl N45 9 (t := 29) (c := msgA ⟨0, 0, 0, 0, "".toUTF8, 0, 0, [], [], [], [], []⟩ ⟨zN, zN, zN, zN, zN⟩) (by unfold execOp; kernel_rfl) ?_
 intro g47 a47 w47 F47 M47
 clear F46 N45
 refine zq (za rfl) rfl F47 M47 (k := 9) rfl _ _ _ rfl (F47.get rfl) (F47.get rfl) (msgA mZero V45) _ rfl (Nat.le_of_ble_eq_true rfl) (z6 (w := w47) ⟨(M47.isb (k := 4) rfl), (M47.isb (k := 5) rfl), (M47.isb (k := 6) rfl), (M47.isb (k := 7) rfl), (M47.isb (k := 8) rfl)⟩) (zr rfl) (by kernel_rfl) ?_
 intro w48 M48
 clear M47
 refine rm rfl F47 fun _ F49 => ?_
 refine hK43 _ _ (zS fun _ hK50 => ?_)
 refine zR ?_
 refine rm rfl F49 fun _ F51 => ?_
 refine rm rfl F51 fun _ F52 => ?_
 refine rm rfl F52 fun _ F53 => ?_
 refine rn rfl rfl F53 rfl (.int .i64 3) (zca _ rfl (F53.get rfl) (M48.isb (k := 0) rfl) (by rw [hL3]; rfl)) fun _ F54 => ?_
 refine rn rfl rfl F54 rfl (.int .i64 1) (y_min _ _ rfl rfl (F54.get rfl) (by decide)) fun _ F55 => ?_
 refine zjb (za rfl) rfl F55 rfl (y_slFrom _ _ rfl (F55.get rfl) (M48.isb (k := 0) rfl) (F55.get rfl) (i := 1) rfl (by omega)) ?_
 intro v56 a56 h56 F56
 have M56 := M48.partB 10 (k := 0) rfl h56.1 h56.2
 clear M48
 obtain ⟨A56, c56, rfl⟩ := (M56.isb (k := 10) rfl).shape
 refine zd (za rfl) rfl F56 rfl rfl (enters_of Try.func28 (by kernel_rfl) rfl) #[.pointer (some ⟨g28, 0, none⟩), .slice A56 ((L.drop 1)).length c56] (zga (F56.get rfl) (F56.get rfl)) (swrite_any M56 1 2 10 g28 (L.take 1) (L.drop 1) u45 (.slice A56 ((L.drop 1)).length c56) 1 false rfl rfl rfl (by decide) (by decide) (by simp only [List.length_take, List.length_drop]; omega) (by decide) true (by decide)) ?_
 rintro _ w57 a57 ⟨u57, N57, rfl⟩ F57
 rw [k2.1] at N57
 rw [k2.2.1] at N57
 clear M56
 replace N57 : Mx _ _ _ ((1, blkR g28 94 #[u57, .int .i64 3, .bool false]) :: _) := N57
 refine hK50 _ _ (zS fun _ hK58 => ?_)
 refine zR ?_
 refine rm rfl F57 fun _ F59 => ?_
 refine zd (za rfl) rfl F59 rfl rfl (enters_of Try.func30 (by kernel_rfl) rfl) #[.pointer (some ⟨g28, 0, none⟩)] (zn (F59.get rfl)) (next_is N57 1 2 g28 L u57 3 false rfl rfl (by decide) (by omega) 11 12 13 14 15 m7 true false ([] : List UInt8) k2.2.2.1 k2.2.2.2.1 k2.2.2.2.2.1 k2.2.2.2.2.2) ?_
 rintro _ w60 a60 ⟨u60, V60, N60, rfl⟩ F60
 clear N57
 refine exA 3 [(39, .tuple #[.agg (msgA m7 V60), .bool true]), (42, .agg (msgA m7 V60)), (43, .bool true)] [] dnil [] F60 (by kernel_rfl) (by kernel_rfl) fun _ F61 => ?_
 refine zf (za rfl) rfl F61 rfl N60 16 (t := 29) (c := msgA ⟨0, 0, 0, 0, "".toUTF8, 0, 0, [], [], [], [], []⟩ ⟨zN, zN, zN, zN, zN⟩) (by unfold execOp; kernel_rfl) ?_
 intro g62 a62 w62 F62 M62
 clear F61 N60
 refine zq (za rfl) rfl F62 M62 (k := 16) rfl _ _ _ rfl (F62.get rfl) (F62.get rfl) (msgA m7 V60) _ rfl (Nat.le_of_ble_eq_true rfl) (z6 (w := w62) ⟨(M62.isb (k := 11) rfl), (M62.isb (k := 12) rfl), (M62.isb (k := 13) rfl), (M62.isb (k := 14) rfl), (M62.isb (k := 15) rfl)⟩) (zr rfl) (by kernel_rfl) ?_
 intro w63 M63
 clear M62
 refine rm rfl F62 fun _ F64 => ?_
 refine hK58 _ _ (zS fun _ hK65 => ?_)
 refine zR ?_
 refine rn rfl rfl F64 rfl (.agg (recA ⟨1, ({ data := #[97] }), [], 0, 0, [], 0, 0, 0⟩ ⟨zN, zN⟩)) (by unfold execOp; simp only [List.map_toArray, List.map_cons, List.map_nil, ]; kernel_rfl) fun _ F66 => ?_
 refine zd (za rfl) rfl F66 rfl rfl (enters_of Try.func35 (by kernel_rfl) rfl) #[.agg (recA ⟨1, ({ data := #[97] }), [], 0, 0, [], 0, 0, 0⟩ ⟨zN, zN⟩)] (zn (F66.get rfl)) (rec_is rA rvZero rA_ok true RB rA_keep hRB w63 ⟨zc _, zc _⟩) ?_
 rintro _ w67 a67 ⟨v67, rfl, hv67, b67⟩ F67
 have M67 := M63.newO b67 17 hv67
 clear M63 b67 hv67
 obtain ⟨A67, c67, rfl⟩ := (M67.isO (k := 17) rfl).shape
 refine exA 5 [(44, .tuple #[.slice A67 (RB).length c67, .bool true]), (47, .slice A67 (RB).length c67), (48, .bool true), (8, .slice A67 (RB).length c67), (9, .bool true)] [] dnil [] F67 (by kernel_rfl) (by kernel_rfl) fun _ F68 => ?_
 refine hK65 _ _ (zS fun _ hK69 => ?_)
 refine zR ?_
 refine rm rfl F68 fun _ F70 => ?_
 refine zd (za rfl) rfl F70 rfl rfl (enters_of Try.func37 (by kernel_rfl) rfl) #[.slice A67 (RB).length c67] (zn (F70.get rfl)) (rd_is RB (.slice A67 (RB).length c67) hRl true rA y1 y2 w67 (M67.isO (k := 17) rfl)) ?_
 rintro _ w71 a71 ⟨V71, rfl, is71, lo71, b71⟩ F71
 have M71 := M67.newRec b71 is71 lo71 18 19
 clear M67 b71 lo71
 refine exA 3 [(49, .tuple #[.agg (recA rA V71), .bool true]), (52, .agg (recA rA V71)), (53, .bool true)] [] dnil [] F71 (by kernel_rfl) (by kernel_rfl) fun _ F72 => ?_
 refine zf (za rfl) rfl F72 rfl M71 20 (t := 54) (c := recA ⟨0, "".toUTF8, [], 0, 0, [], 0, 0, 0⟩ ⟨zN, zN⟩) (by unfold execOp; kernel_rfl) ?_
 intro g73 a73 w73 F73 M73
 clear F72 M71
 refine zq (za rfl) rfl F73 M73 (k := 20) rfl _ _ _ rfl (F73.get rfl) (F73.get rfl) (recA rA V71) _ rfl (Nat.le_of_ble_eq_true rfl) (recA_one (w := w73) ⟨(M73.isb (k := 18) rfl), (M73.isb (k := 19) rfl)⟩) (zr rfl) (by kernel_rfl) ?_
 intro w74 M74
 clear M73
 refine rm rfl F73 fun _ F75 => ?_
 refine hK69 _ _ (zS fun _ hK76 => ?_)
 refine zR ?_
 refine rm rfl F75 fun _ F77 => ?_
 refine rm rfl F77 fun _ F78 => ?_
 refine rm rfl F78 fun _ F79 => ?_
 refine ze (w' := w74) (zb rfl rfl rfl (F79.get rfl)) rfl F79 rfl (.int .i64 3) (zca _ rfl (F79.get rfl) (M74.isb (k := 0) rfl) (by rw [hL3]; rfl)) fun _ F80 => ?_
 refine exA 4 [(58, .bool true), (59, .bool true), (60, .bool true), (61, .slice A25 (L).length c25)] [] dnil [] F80 (by kernel_rfl) (by kernel_rfl) fun _ F81 => ?_
 refine ze (w' := w74) (zb rfl rfl rfl (F81.get rfl)) rfl F81 rfl ((ixV (.slice A25 (L).length c25) 1)) (zmb _ _ rfl (F81.get rfl) (M74.isb (k := 0) rfl) rfl rfl (by omega)) fun _ F82 => ?_
 refine ze (w' := w74) (zb rfl rfl rfl (F82.get rfl)) rfl F82 rfl (.int .u8 (((1 : UInt8).toNat : Nat) : Int)) (y_ldB _ rfl (F82.get rfl) (M74.isb (k := 0) rfl) (by rw [hL]; rfl) rfl) fun _ F83 => ?_
 refine ze (w' := w74) (zb rfl rfl rfl (F83.get rfl)) rfl F83 rfl (.bool true) (zo _ _ _ _ rfl (F83.get rfl) rfl Try.underlying5 (zla (by decide))) fun _ F84 => ?_
 refine exA 3 [(65, .bool true), (66, .bool true), (67, .slice A25 (L).length c25)] [] dnil [] F84 (by kernel_rfl) (by kernel_rfl) fun _ F85 => ?_
 refine ze (w' := w74) (zb rfl rfl rfl (F85.get rfl)) rfl F85 rfl ((ixV (.slice A25 (L).length c25) 2)) (zmb _ _ rfl (F85.get rfl) (M74.isb (k := 0) rfl) rfl rfl (by omega)) fun _ F86 => ?_
 refine ze (w' := w74) (zb rfl rfl rfl (F86.get rfl)) rfl F86 rfl (.int .u8 (((7 : UInt8).toNat : Nat) : Int)) (y_ldB _ rfl (F86.get rfl) (M74.isb (k := 0) rfl) (by rw [hL]; rfl) rfl) fun _ F87 => ?_
 refine ze (w' := w74) (zb rfl rfl rfl (F87.get rfl)) rfl F87 rfl (.bool true) (zo _ _ _ _ rfl (F87.get rfl) rfl Try.underlying5 (zla (by decide))) fun _ F88 => ?_
 refine exS 11 [(0, .bool false), (3, .pointer (some ⟨g28, 0, none⟩)), (9, .bool true), (10, .pointer (some ⟨g73, 0, none⟩)), (11, .bool true), (79, .bool true), (81, .int .i64 m7.k)] [0] (zk (M74.blk (k := 16) rfl) dnil) [g62] F88 (by kernel_rfl) fun _ F89 => ?_
 refine ze (w' := w74) (zb rfl rfl rfl (F89.get rfl)) rfl F89 rfl (.bool true) (zo _ _ _ _ rfl (F89.get rfl) rfl Try.underlying3 (zla (show m7.k = 7 from rfl))) fun _ F90 => ?_
 refine exA 3 [(83, .bool true), (84, .bool true), (85, .pointer (some ⟨g28, 0, none⟩))] [] dnil [] F90 (by kernel_rfl) (by kernel_rfl) fun _ F91 => ?_
 refine zd (zb rfl rfl rfl (F91.get rfl)) rfl F91 rfl rfl (enters_of Try.func32 (by kernel_rfl) rfl) #[.pointer (some ⟨g28, 0, none⟩)] (zn (F91.get rfl)) (zg ((bad_any g28 u60 3 false w74 (M74.blk (k := 1) rfl)))) ?_
 rintro _ w92 a92 ⟨rfl, b92⟩ F92
 have M92 := M74.step b92
 refine exS 11 [(0, .bool false), (95, .bool true), (97, .string rA.s)] [0] (zk (M92.blk (k := 20) rfl) dnil) [g73] F92 (by kernel_rfl) fun _ F93 => ?_
 refine ze (w' := w92) (zb rfl rfl rfl (F93.get rfl)) rfl F93 rfl (.bool true) (y_eqS _ _ _ rfl (F93.get rfl) rfl (decide_eq_true rfl)) fun _ F94 => ?_
 refine exS 2 [(0, .bool true)] [] dnil [] F94 (by kernel_rfl) fun _ F95 => ?_
 refine hK76 _ _ (wp_ret ?_)
 try simp only [Exit.then, Exit.inBlock, Exit.jump]
 exact bodyPost_ret (res1 rfl (F95.get rfl)) F95.defers ⟨rfl, M92.below⟩
end Go.Proofs.Ytlbkogdmojlpmaa
namespace Go.Proofs.Ytlbkogdmojlpmaa
open Go.ChangeShapes Go.WideShapes Go.ChangeAt Go.RowKit
theorem Rd.isB' {w : World} {A : Option Addr} {l : List UInt8} {n c : Nat} (h : Rd w A l) (hn : l.length = n) (hc : n ≤ c) (hm : c ≤ maxLen) (hz : A = none → c = 0) : IsB w l (.slice A n c) := by
  subst hn
  exact ⟨A, c, rfl, hc, hm, hz, h⟩
theorem nmB_ne (s : ByteArray) : sBy (nmB s) ≠ [] := by
  by_cases h : (sBy s).length = 0
  · rw [nmB_nil h]; simp [sBy]
  · rw [nmB_some h]
    simp only [sBy, List.toList_toArray]
    intro e
    have := congrArg List.length e
    rw [List.length_take] at this
    have h2 := nmL_len (sBy s)
    unfold sBy at h h2
    simp only [List.length_nil] at this
    omega
theorem nmB_size (s : ByteArray) : 0 < (nmB s).size ∧ (nmB s).size ≤ 16 := by
  have h := nmB_ne s
  have e : (sBy (nmB s)).length = (nmB s).size := sBy_len _
  refine ⟨by have := List.length_pos_iff.2 h; omega, ?_⟩
  by_cases h0 : (sBy s).length = 0
  · rw [nmB_nil h0]; decide
  · rw [← e, nmB_some h0]
    simp only [sBy, List.toList_toArray, List.length_take]
    omega
theorem kn (n : Int) {k : Int} (hk : 0 < k) : 0 < (1 + n % k).toNat ∧ (1 + n % k).toNat ≤ k.toNat := by
  have h1 := Int.emod_nonneg n (show k ≠ 0 by omega)
  have h2 := Int.emod_lt_of_pos n hk
  omega
theorem mkM_ok (kind n : Int) (s : ByteArray) (b : List UInt8) : MsgOk (mkM kind n s b) ∧ (mkM kind n s b).s.size ≤ 1000 := by
  have h2 := Int.emod_two_eq n
  have hA := kn n (show (0 : Int) < 4294967295 by decide)
  have hC := kn (n.tdiv 3) (show (0 : Int) < 70000 by decide)
  have h11 := Int.emod_nonneg n (show (11 : Int) ≠ 0 by decide)
  have h11' := Int.emod_lt_of_pos n (show (0 : Int) < 11 by decide)
  have h40 := Int.emod_nonneg n (show (1099511627776 : Int) ≠ 0 by decide)
  have h40' := Int.emod_lt_of_pos n (show (0 : Int) < 1099511627776 by decide)
  have hs := nmB_size s
  have e1 : ("".toUTF8).size ≤ 1000000 := by decide
  have e2 : ("".toUTF8).size ≤ 1000 := by decide
  unfold mkM
  by_cases k0 : kind % 12 = 0
  · rw [if_pos k0]
    by_cases q : n % 2 = 0
    · rw [if_pos q]; exact ⟨⟨(by dsimp only; omega), (by dsimp only; omega), (by dsimp only; omega), (by dsimp only; omega), (by dsimp only; first | exact e1 | omega), Nat.lt_trans (m := 4294967296) (by dsimp only; omega) (by decide), Nat.lt_trans (m := 4294967296) (by dsimp only; omega) (by decide)⟩, (by dsimp only; first | exact e2 | omega)⟩
    · rw [if_neg q]; exact ⟨⟨(by dsimp only; omega), (by dsimp only; omega), (by dsimp only; omega), (by dsimp only; omega), (by dsimp only; first | exact e1 | omega), Nat.lt_trans (m := 4294967296) (by dsimp only; omega) (by decide), Nat.lt_trans (m := 4294967296) (by dsimp only; omega) (by decide)⟩, (by dsimp only; first | exact e2 | omega)⟩
  rw [if_neg k0]
  by_cases k1 : kind % 12 = 1
  · rw [if_pos k1]
    by_cases q : n % 2 = 0
    · rw [if_pos q]; exact ⟨⟨(by dsimp only; omega), (by dsimp only; omega), (by dsimp only; omega), (by dsimp only; omega), (by dsimp only; first | exact e1 | omega), Nat.lt_trans (m := 4294967296) (by dsimp only; omega) (by decide), Nat.lt_trans (m := 4294967296) (by dsimp only; omega) (by decide)⟩, (by dsimp only; first | exact e2 | omega)⟩
    · rw [if_neg q]; exact ⟨⟨(by dsimp only; omega), (by dsimp only; omega), (by dsimp only; omega), (by dsimp only; omega), (by dsimp only; first | exact e1 | omega), Nat.lt_trans (m := 4294967296) (by dsimp only; omega) (by decide), Nat.lt_trans (m := 4294967296) (by dsimp only; omega) (by decide)⟩, (by dsimp only; first | exact e2 | omega)⟩
  rw [if_neg k1]
  by_cases k2 : kind % 12 = 2
  · rw [if_pos k2]
    exact ⟨⟨(by dsimp only; omega), (by dsimp only; omega), (by dsimp only; omega), (by dsimp only; omega), (by dsimp only; first | exact e1 | omega), Nat.lt_trans (m := 4294967296) (by dsimp only; omega) (by decide), Nat.lt_trans (m := 4294967296) (by dsimp only; omega) (by decide)⟩, (by dsimp only; first | exact e2 | omega)⟩
  rw [if_neg k2]
  by_cases k3 : kind % 12 = 3
  · rw [if_pos k3]
    by_cases q : n.tdiv 2 % 2 = 0
    · rw [if_pos q]; exact ⟨⟨(by dsimp only; omega), (by dsimp only; omega), (by dsimp only; omega), (by dsimp only; omega), (by dsimp only; first | exact e1 | omega), Nat.lt_trans (m := 4294967296) (by dsimp only; omega) (by decide), Nat.lt_trans (m := 4294967296) (by dsimp only; omega) (by decide)⟩, (by dsimp only; first | exact e2 | omega)⟩
    · rw [if_neg q]; exact ⟨⟨(by dsimp only; omega), (by dsimp only; omega), (by dsimp only; omega), (by dsimp only; omega), (by dsimp only; first | exact e1 | omega), Nat.lt_trans (m := 4294967296) (by dsimp only; omega) (by decide), Nat.lt_trans (m := 4294967296) (by dsimp only; omega) (by decide)⟩, (by dsimp only; first | exact e2 | omega)⟩
  rw [if_neg k3]
  by_cases k4 : kind % 12 = 4
  · rw [if_pos k4]
    exact ⟨⟨(by dsimp only; omega), (by dsimp only; omega), (by dsimp only; omega), (by dsimp only; omega), (by dsimp only; first | exact e1 | omega), Nat.lt_trans (m := 4294967296) (by dsimp only; omega) (by decide), Nat.lt_trans (m := 4294967296) (by dsimp only; omega) (by decide)⟩, (by dsimp only; first | exact e2 | omega)⟩
  rw [if_neg k4]
  by_cases k5 : kind % 12 = 5
  · rw [if_pos k5]
    exact ⟨⟨(by dsimp only; omega), (by dsimp only; omega), (by dsimp only; omega), (by dsimp only; omega), (by dsimp only; first | exact e1 | omega), Nat.lt_trans (m := 4294967296) (by dsimp only; omega) (by decide), Nat.lt_trans (m := 4294967296) (by dsimp only; omega) (by decide)⟩, (by dsimp only; first | exact e2 | omega)⟩
  rw [if_neg k5]
  by_cases k6 : kind % 12 = 6
  · rw [if_pos k6]
    exact ⟨⟨(by dsimp only; omega), (by dsimp only; omega), (by dsimp only; omega), (by dsimp only; omega), (by dsimp only; first | exact e1 | omega), Nat.lt_trans (m := 4294967296) (by dsimp only; omega) (by decide), Nat.lt_trans (m := 4294967296) (by dsimp only; omega) (by decide)⟩, (by dsimp only; first | exact e2 | omega)⟩
  rw [if_neg k6]
  by_cases k7 : kind % 12 = 7
  · rw [if_pos k7]
    exact ⟨⟨(by dsimp only; omega), (by dsimp only; omega), (by dsimp only; omega), (by dsimp only; omega), (by dsimp only; first | exact e1 | omega), Nat.lt_trans (m := 4294967296) (by dsimp only; omega) (by decide), Nat.lt_trans (m := 4294967296) (by dsimp only; omega) (by decide)⟩, (by dsimp only; first | exact e2 | omega)⟩
  rw [if_neg k7]
  by_cases k8 : kind % 12 = 8
  · rw [if_pos k8]
    exact ⟨⟨(by dsimp only; omega), (by dsimp only; omega), (by dsimp only; omega), (by dsimp only; omega), (by dsimp only; first | exact e1 | omega), Nat.lt_trans (m := 4294967296) (by dsimp only; omega) (by decide), Nat.lt_trans (m := 4294967296) (by dsimp only; omega) (by decide)⟩, (by dsimp only; first | exact e2 | omega)⟩
  rw [if_neg k8]
  by_cases k9 : kind % 12 = 9
  · rw [if_pos k9]
    exact ⟨⟨(by dsimp only; omega), (by dsimp only; omega), (by dsimp only; omega), (by dsimp only; omega), (by dsimp only; first | exact e1 | omega), Nat.lt_trans (m := 4294967296) (by dsimp only; omega) (by decide), Nat.lt_trans (m := 4294967296) (by dsimp only; omega) (by decide)⟩, (by dsimp only; first | exact e2 | omega)⟩
  rw [if_neg k9]
  by_cases k10 : kind % 12 = 10
  · rw [if_pos k10]
    exact ⟨⟨(by dsimp only; omega), (by dsimp only; omega), (by dsimp only; omega), (by dsimp only; omega), (by dsimp only; first | exact e1 | omega), Nat.lt_trans (m := 4294967296) (by dsimp only; omega) (by decide), Nat.lt_trans (m := 4294967296) (by dsimp only; omega) (by decide)⟩, (by dsimp only; first | exact e2 | omega)⟩
  rw [if_neg k10]
  exact ⟨⟨(by dsimp only; omega), (by dsimp only; omega), (by dsimp only; omega), (by dsimp only; omega), (by dsimp only; first | exact e1 | omega), Nat.lt_trans (m := 4294967296) (by dsimp only; omega) (by decide), Nat.lt_trans (m := 4294967296) (by dsimp only; omega) (by decide)⟩, (by dsimp only; first | exact e2 | omega)⟩
end Go.Proofs.Ytlbkogdmojlpmaa
namespace Go.Proofs.Ytlbkogdmojlpmaa
open Go.ChangeShapes Go.WideShapes Go.ChangeAt Go.RowKit Go.Shelf
def JQ {α : Type} (G : Option Nat) (w0 : World) (PRE : (Nat → Bool) → Prop) (RL : α → (Nat → Bool) → (Nat → Value) → List (Nat × Res)) (S : Nat → Bool) (p : Nat → Value) (w : World) : Prop := PRE S ∧ ∃ x, Mx G w0 w (RL x S p)
theorem JQ.mk {α : Type} {G : Option Nat} {w0 : World} {PRE : (Nat → Bool) → Prop} {RL : α → (Nat → Bool) → (Nat → Value) → List (Nat × Res)} {S : Nat → Bool} {p : Nat → Value} {w : World} (h : PRE S) (x : α) (M : Mx G w0 w (RL x S p)) : JQ G w0 PRE RL S p w := ⟨h, x, M⟩
def ifp (A : Option Addr) (n : Nat) (g : Nat) : Prop := 0 < n ∧ ∃ o, A = some ⟨g, o, none⟩
def intR (A : Option Addr) (n : Nat) (x : Nat → Int) : Res := ⟨false, ifp A n, fun w => RdI w A n x⟩
theorem RdI.same {u u' : World} {A : Option Addr} {n : Nat} {x : Nat → Int} (hs : Same (ifp A n) u u') (h : RdI u A n x) : RdI u' A n x :=
  ⟨h.1, h.2.1, fun hn => by
    obtain ⟨b, o, e, h1, h2⟩ := h.2.2 hn
    refine ⟨b, o, e, Nat.lt_of_lt_of_le h1 hs.size, fun k hk => ?_⟩
    have hb := hs.at_ b _ ⟨hn, o, e⟩ (Array.getElem?_eq_getElem h1)
    rw [← h2 k hk]
    simp only [World.cell?, hb, Array.getElem?_eq_getElem h1]⟩
section
variable {G : Option Nat} {w0 w : World} {R : List (Nat × Res)}
theorem Mx.argI (M : Mx G w0 w R) (i : Nat) {A : Option Addr} {n : Nat} {x : Nat → Int} (h : RdI w0 A n x) (hG : ∀ g, G = some g → ¬ ifp A n g) : Mx G w0 w ((i, intR A n x) :: R) :=
  M.arg i _ (RdI.same (u := w0) ⟨fun g o hg ho => (M.grown.block g (Array.getElem?_eq_some_iff.1 ho).1 (fun e => hG g e.symm hg)).trans ho, M.grown.size⟩ h) (fun _ _ hs h => RdI.same hs h) rfl fun g hg => by
    refine ⟨?_, fun e => hG g e hg⟩
    obtain ⟨hn, o, e⟩ := hg
    obtain ⟨b, q, e2, h1, -⟩ := h.2.2 hn
    rw [e] at e2
    cases e2
    exact h1
theorem Mx.rdI (M : Mx G w0 w R) {k : Nat} {A : Option Addr} {n : Nat} {x : Nat → Int} (h : look R k = some (intR A n x)) : RdI w A n x := M.at_ k _ h
end
section
variable {a : Act} {w : World} {o : Oper} {A : Option Addr} {n c : Nat} {x : Nat → Int}
theorem y_ixJ (y k : Operand) (ho : o.op = .indexAddr 38 y k) (hx : a.eval y = .slice A n c) (hB : RdI w A n x) {z : Int} {i : Nat} (hk : a.eval k = .int .i64 z) (hz : z = (i : Int)) (hi : i < n) : (execOp a.eval o).run Try.prog w = .ok (.value (ixV (.slice A n c) i)) w := by
  subst hz
  obtain ⟨b, q, rfl, hb, hc⟩ := hB.2.2 (by omega)
  unfold execOp
  simp only [ho, hx, hk]
  have h0 : ¬ ((i : Int) < 0) := by omega
  have h5 : (i : Int) < (n : Int) := by omega
  simp [go_sem, h0, h5, hi, ixV, zbb]
theorem y_ldJ (y : Operand) (ho : o.op = .load 3 y) {i : Nat} (hx : a.eval y = ixV (.slice A n c) i) (hB : RdI w A n x) (hi : i < n) : (execOp a.eval o).run Try.prog w = .ok (.value (.int .i64 (x i))) w := by
  obtain ⟨g, q, rfl, hb, hc⟩ := hB.2.2 (by omega)
  have hcell := hc i hi
  have hx' : a.eval y = .pointer (some ⟨g, q + i, none⟩) := by rw [hx]; simp [ixV, zbb]
  have h6 : (isAgg 3).run Try.prog w = .ok false w := by
    unfold isAgg
    simp only [Sem.run_bind, run_underlying Try.underlying3, Result.andThen_ok]
    rfl
  unfold execOp
  simp only [ho, hx', Instr.loadAt, Instr.sureAddr, loadVar, Sem.run_bind, Sem.run_pure, Result.andThen_ok, h6, Bool.false_eq_true, if_false]
  simp [hcell, Result.andThen]
end
end Go.Proofs.Ytlbkogdmojlpmaa
namespace Go.Proofs.Ytlbkogdmojlpmaa
open Go.ChangeShapes Go.WideShapes Go.ChangeAt Go.RowKit
theorem in_ex (a : Int) {n : Nat} (h : 0 < n) : ∃ j : Nat, a % (n : Int) = (j : Int) ∧ j < n := by
  have h1 := Int.emod_nonneg a (show (n : Int) ≠ 0 by omega)
  have h2 := Int.emod_lt_of_pos a (show (0 : Int) < n by omega)
  exact ⟨(a % (n : Int)).toNat, by omega, by omega⟩
theorem encL_nn {m : MsgN} (h : z2a m = false) : encL m = [] := if_neg (by rw [h]; exact Bool.false_ne_true)
theorem encL_le (m : MsgN) : (encL m).length ≤ 202 := by
  cases h : z2a m with
  | false => rw [encL_nn h]; simp
  | true =>
    rw [encL_ok h, encF_len, encRk_len]
    unfold z2a at h
    simp only [Bool.and_eq_true, decide_eq_true_eq] at h
    omega
theorem encL_3 {m : MsgN} (h : z2a m = true) : 3 ≤ (encL m).length := by rw [encL_ok h]; exact encF_len3 m
theorem eitherR_in {R : List (Nat × Res)} {i : Nat} {c : Bool} {r s : Res} (hc : c = true) (h : look R i = some r) : look R i = some (eitherR c r s) := by subst hc; exact h
theorem y_addU8 {a : Act} {w : World} {o : Oper} (ty tz : TypeId) (x y : Operand) {p q : Int} (ho : o.op = .binOp .add ty x y tz) (hx : a.eval x = .int .u8 p) (hy : a.eval y = .int .u8 q) : (execOp a.eval o).run Try.prog w = .ok (.value (.int .u8 (((zu (p + q)).toNat : Nat) : Int))) w := by
  unfold execOp; simp only [ho, hx, hy]; simp [go_sem, zwa]
theorem WireReads_walk (a0 : Int) (hk0 : -9223372036854775808 ≤ a0) (hl0 : a0 < 9223372036854775808)
  (a1 : Int) (hk1 : -9223372036854775808 ≤ a1) (hl1 : a1 < 9223372036854775808)
  (a2 : ByteArray) (hS2 : a2.size ≤ maxLen)
  (A3 : Option Addr) (n3 cap3 : Nat) (l3 : List UInt8) (hn3 : l3.length = n3) (hc3 : n3 ≤ cap3) (hm3 : cap3 ≤ maxLen) (hz3 : A3 = none → cap3 = 0)
  (A4 : Option Addr) (n4 cap4 : Nat) (x4 : Nat → Int)
  (A5 : Option Addr) (n5 cap5 : Nat) (l5 : List UInt8) (hn5 : l5.length = n5) (hc5 : n5 ≤ cap5) (hm5 : cap5 ≤ maxLen) (hz5 : A5 = none → cap5 = 0)
  (a6 : Int) (hk6 : -9223372036854775808 ≤ a6) (hl6 : a6 < 9223372036854775808)
  (A7 : Option Addr) (n7 cap7 : Nat) (l7 : List UInt8) (hn7 : l7.length = n7) (hc7 : n7 ≤ cap7) (hm7 : cap7 ≤ maxLen) (hz7 : A7 = none → cap7 = 0)
  (A8 : Option Addr) (n8 cap8 : Nat) (l8 : List UInt8) (hn8 : l8.length = n8) (hc8 : n8 ≤ cap8) (hm8 : cap8 ≤ maxLen) (hz8 : A8 = none → cap8 = 0) (w : World) (hr3 : Rd w A3 l3) (hr4 : RdI w A4 n4 x4) (hr5 : Rd w A5 l5) (hr7 : Rd w A7 l7) (hr8 : Rd w A8 l8) :
  Calls Try.prog 4 #[.int .i64 a0, .int .i64 a1, .string a2, .slice A3 n3 cap3, .slice A4 n4 cap4, .slice A5 n5 cap5, .int .i64 a6, .slice A7 n7 cap7, .slice A8 n8 cap8] w fun e w' => e = .returned (.bool true) ∧ Below w.heap.size w w' := by
 have ib3 : IsB w l3 (.slice A3 n3 cap3) := hr3.isB' hn3 hc3 hm3 hz3
 have ib5 : IsB w l5 (.slice A5 n5 cap5) := hr5.isB' hn5 hc5 hm5 hz5
 have ib7 : IsB w l7 (.slice A7 n7 cap7) := hr7.isB' hn7 hc7 hm7 hz7
 have ib8 : IsB w l8 (.slice A8 n8 cap8) := hr8.isB' hn8 hc8 hm8 hz8
 by_cases b0 : 40 < a2.size
 ·refine zh (args := [.int .i64 a0, .int .i64 a1, .string a2, .slice A3 n3 cap3, .slice A4 n4 cap4, .slice A5 n5 cap5, .int .i64 a6, .slice A7 n7 cap7, .slice A8 n8 cap8]) 170 Try.func4 rfl rfl rfl ?_
  intro fa F
  have M := Mx.start w
  replace M := M.argB 0 ib3 (fun g e => by cases e)
  replace M := M.argB 1 ib5 (fun g e => by cases e)
  replace M := M.argB 2 ib7 (fun g e => by cases e)
  replace M := M.argB 3 ib8 (fun g e => by cases e)
  replace M := M.argI 4 hr4 (fun g e => by cases e)
  refine zT fun _ hK21 => ?_
  refine rm rfl F fun _ F22 => ?_
  refine hK21 _ _ (zS fun _ hK23 => ?_)
  refine zT fun _ hK24 => ?_
  refine zd (za rfl) rfl F22 rfl rfl (enters_of Try.func15 (by kernel_rfl) rfl) #[] (args0) (zg (lknown_any w)) ?_
  rintro _ w25 a25 ⟨rfl, b25⟩ F25
  have M25 := M.step b25
  refine rn rfl rfl F25 rfl (.bool false) (run_not _ _ rfl (F25.get (t := 31) rfl)) fun _ F26 => ?_
  refine hK24 _ _ (wp_cond_false (F26.get rfl) ?_)
  refine wp_skip ?_
  refine hK23 _ _ (zS fun _ hK27 => ?_)
  refine zT fun _ hK28 => ?_
  refine rm rfl F26 fun _ F29 => ?_
  refine rn rfl rfl F29 rfl (.int .i64 (a2.size : Int)) (y_lenS _ rfl (F29.get rfl) rfl) fun _ F30 => ?_
  refine rn rfl rfl F30 rfl (.bool true) (zza _ _ _ _ rfl (F30.get rfl) rfl (decide_eq_true (show (40 : Int) < (a2.size : Int) by omega))) fun _ F31 => ?_
  refine exS 15 [(0, .int .i64 a0), (1, .int .i64 a1), (2, .string a2), (3, .slice A3 n3 cap3), (4, .slice A4 n4 cap4), (5, .slice A5 n5 cap5), (6, .int .i64 a6), (7, .slice A7 n7 cap7), (8, .slice A8 n8 cap8), (18, .bool false), (50, .bool true)] [] dnil [] F31 (by kernel_rfl) fun _ F32 => ?_
  refine hK28 _ _ (wp_cond_true (F32.get rfl) ?_)
  refine zT fun _ hK33 => ?_
  refine rm rfl F32 fun _ F34 => ?_
  refine hK33 _ _ (wp_ret ?_)
  try simp only [Exit.then, Exit.inBlock, Exit.jump]
  exact bodyPost_ret (res1 rfl (F34.get rfl)) F34.defers ⟨rfl, M25.below⟩
 by_cases b1 : 130 < l3.length
 ·refine zh (args := [.int .i64 a0, .int .i64 a1, .string a2, .slice A3 n3 cap3, .slice A4 n4 cap4, .slice A5 n5 cap5, .int .i64 a6, .slice A7 n7 cap7, .slice A8 n8 cap8]) 170 Try.func4 rfl rfl rfl ?_
  intro fa F
  have M := Mx.start w
  replace M := M.argB 0 ib3 (fun g e => by cases e)
  replace M := M.argB 1 ib5 (fun g e => by cases e)
  replace M := M.argB 2 ib7 (fun g e => by cases e)
  replace M := M.argB 3 ib8 (fun g e => by cases e)
  replace M := M.argI 4 hr4 (fun g e => by cases e)
  refine zT fun _ hK21 => ?_
  refine rm rfl F fun _ F22 => ?_
  refine hK21 _ _ (zS fun _ hK23 => ?_)
  refine zT fun _ hK24 => ?_
  refine zd (za rfl) rfl F22 rfl rfl (enters_of Try.func15 (by kernel_rfl) rfl) #[] (args0) (zg (lknown_any w)) ?_
  rintro _ w25 a25 ⟨rfl, b25⟩ F25
  have M25 := M.step b25
  refine rn rfl rfl F25 rfl (.bool false) (run_not _ _ rfl (F25.get (t := 31) rfl)) fun _ F26 => ?_
  refine hK24 _ _ (wp_cond_false (F26.get rfl) ?_)
  refine wp_skip ?_
  refine hK23 _ _ (zS fun _ hK27 => ?_)
  refine zT fun _ hK28 => ?_
  refine rm rfl F26 fun _ F29 => ?_
  refine rn rfl rfl F29 rfl (.int .i64 (a2.size : Int)) (y_lenS _ rfl (F29.get rfl) rfl) fun _ F30 => ?_
  refine rn rfl rfl F30 rfl (.bool false) (zza _ _ _ _ rfl (F30.get rfl) rfl (decide_eq_false (show ¬ (40 : Int) < (a2.size : Int) by omega))) fun _ F31 => ?_
  refine rm rfl F31 fun _ F32 => ?_
  refine rm rfl F32 fun _ F33 => ?_
  refine ze (w' := w25) (zb rfl rfl rfl (F33.get rfl)) rfl F33 rfl (.int .i64 (l3.length : Int)) (zca _ rfl (F33.get rfl) (M25.isb (k := 0) rfl) rfl) fun _ F34 => ?_
  refine ze (w' := w25) (zb rfl rfl rfl (F34.get rfl)) rfl F34 rfl (.bool true) (zza _ _ _ _ rfl (F34.get rfl) rfl (decide_eq_true (show (130 : Int) < (l3.length : Int) by omega))) fun _ F35 => ?_
  refine exA 11 [(40, .bool true), (41, .bool true), (42, undef), (43, undef), (44, undef), (45, .bool true), (46, .bool true), (47, undef), (48, undef), (49, undef), (50, .bool true)] [] dnil [] F35 (by kernel_rfl) (by kernel_rfl) fun _ F36 => ?_
  refine hK28 _ _ (wp_cond_true (F36.get rfl) ?_)
  refine zT fun _ hK37 => ?_
  refine rm rfl F36 fun _ F38 => ?_
  refine hK37 _ _ (wp_ret ?_)
  try simp only [Exit.then, Exit.inBlock, Exit.jump]
  exact bodyPost_ret (res1 rfl (F38.get rfl)) F38.defers ⟨rfl, M25.below⟩
 by_cases b2 : 40 < l7.length
 ·refine zh (args := [.int .i64 a0, .int .i64 a1, .string a2, .slice A3 n3 cap3, .slice A4 n4 cap4, .slice A5 n5 cap5, .int .i64 a6, .slice A7 n7 cap7, .slice A8 n8 cap8]) 170 Try.func4 rfl rfl rfl ?_
  intro fa F
  have M := Mx.start w
  replace M := M.argB 0 ib3 (fun g e => by cases e)
  replace M := M.argB 1 ib5 (fun g e => by cases e)
  replace M := M.argB 2 ib7 (fun g e => by cases e)
  replace M := M.argB 3 ib8 (fun g e => by cases e)
  replace M := M.argI 4 hr4 (fun g e => by cases e)
  refine zT fun _ hK21 => ?_
  refine rm rfl F fun _ F22 => ?_
  refine hK21 _ _ (zS fun _ hK23 => ?_)
  refine zT fun _ hK24 => ?_
  refine zd (za rfl) rfl F22 rfl rfl (enters_of Try.func15 (by kernel_rfl) rfl) #[] (args0) (zg (lknown_any w)) ?_
  rintro _ w25 a25 ⟨rfl, b25⟩ F25
  have M25 := M.step b25
  refine rn rfl rfl F25 rfl (.bool false) (run_not _ _ rfl (F25.get (t := 31) rfl)) fun _ F26 => ?_
  refine hK24 _ _ (wp_cond_false (F26.get rfl) ?_)
  refine wp_skip ?_
  refine hK23 _ _ (zS fun _ hK27 => ?_)
  refine zT fun _ hK28 => ?_
  refine rm rfl F26 fun _ F29 => ?_
  refine rn rfl rfl F29 rfl (.int .i64 (a2.size : Int)) (y_lenS _ rfl (F29.get rfl) rfl) fun _ F30 => ?_
  refine rn rfl rfl F30 rfl (.bool false) (zza _ _ _ _ rfl (F30.get rfl) rfl (decide_eq_false (show ¬ (40 : Int) < (a2.size : Int) by omega))) fun _ F31 => ?_
  refine rm rfl F31 fun _ F32 => ?_
  refine rm rfl F32 fun _ F33 => ?_
  refine ze (w' := w25) (zb rfl rfl rfl (F33.get rfl)) rfl F33 rfl (.int .i64 (l3.length : Int)) (zca _ rfl (F33.get rfl) (M25.isb (k := 0) rfl) rfl) fun _ F34 => ?_
  refine ze (w' := w25) (zb rfl rfl rfl (F34.get rfl)) rfl F34 rfl (.bool false) (zza _ _ _ _ rfl (F34.get rfl) rfl (decide_eq_false (show ¬ (130 : Int) < (l3.length : Int) by omega))) fun _ F35 => ?_
  refine exA 3 [(40, .bool false), (41, .bool false), (42, .slice A7 n7 cap7)] [] dnil [] F35 (by kernel_rfl) (by kernel_rfl) fun _ F36 => ?_
  refine ze (w' := w25) (zb rfl rfl rfl (F36.get rfl)) rfl F36 rfl (.int .i64 (l7.length : Int)) (zca _ rfl (F36.get rfl) (M25.isb (k := 2) rfl) rfl) fun _ F37 => ?_
  refine ze (w' := w25) (zb rfl rfl rfl (F37.get rfl)) rfl F37 rfl (.bool true) (zza _ _ _ _ rfl (F37.get rfl) rfl (decide_eq_true (show (40 : Int) < (l7.length : Int) by omega))) fun _ F38 => ?_
  refine exA 6 [(45, .bool true), (46, .bool true), (47, undef), (48, undef), (49, undef), (50, .bool true)] [] dnil [] F38 (by kernel_rfl) (by kernel_rfl) fun _ F39 => ?_
  refine hK28 _ _ (wp_cond_true (F39.get rfl) ?_)
  refine zT fun _ hK40 => ?_
  refine rm rfl F39 fun _ F41 => ?_
  refine hK40 _ _ (wp_ret ?_)
  try simp only [Exit.then, Exit.inBlock, Exit.jump]
  exact bodyPost_ret (res1 rfl (F41.get rfl)) F41.defers ⟨rfl, M25.below⟩
 by_cases b3 : 250 < l8.length
 ·refine zh (args := [.int .i64 a0, .int .i64 a1, .string a2, .slice A3 n3 cap3, .slice A4 n4 cap4, .slice A5 n5 cap5, .int .i64 a6, .slice A7 n7 cap7, .slice A8 n8 cap8]) 170 Try.func4 rfl rfl rfl ?_
  intro fa F
  have M := Mx.start w
  replace M := M.argB 0 ib3 (fun g e => by cases e)
  replace M := M.argB 1 ib5 (fun g e => by cases e)
  replace M := M.argB 2 ib7 (fun g e => by cases e)
  replace M := M.argB 3 ib8 (fun g e => by cases e)
  replace M := M.argI 4 hr4 (fun g e => by cases e)
  refine zT fun _ hK21 => ?_
  refine rm rfl F fun _ F22 => ?_
  refine hK21 _ _ (zS fun _ hK23 => ?_)
  refine zT fun _ hK24 => ?_
  refine zd (za rfl) rfl F22 rfl rfl (enters_of Try.func15 (by kernel_rfl) rfl) #[] (args0) (zg (lknown_any w)) ?_
  rintro _ w25 a25 ⟨rfl, b25⟩ F25
  have M25 := M.step b25
  refine rn rfl rfl F25 rfl (.bool false) (run_not _ _ rfl (F25.get (t := 31) rfl)) fun _ F26 => ?_
  refine hK24 _ _ (wp_cond_false (F26.get rfl) ?_)
  refine wp_skip ?_
  refine hK23 _ _ (zS fun _ hK27 => ?_)
  refine zT fun _ hK28 => ?_
  refine rm rfl F26 fun _ F29 => ?_
  refine rn rfl rfl F29 rfl (.int .i64 (a2.size : Int)) (y_lenS _ rfl (F29.get rfl) rfl) fun _ F30 => ?_
  refine rn rfl rfl F30 rfl (.bool false) (zza _ _ _ _ rfl (F30.get rfl) rfl (decide_eq_false (show ¬ (40 : Int) < (a2.size : Int) by omega))) fun _ F31 => ?_
  refine rm rfl F31 fun _ F32 => ?_
  refine rm rfl F32 fun _ F33 => ?_
  refine ze (w' := w25) (zb rfl rfl rfl (F33.get rfl)) rfl F33 rfl (.int .i64 (l3.length : Int)) (zca _ rfl (F33.get rfl) (M25.isb (k := 0) rfl) rfl) fun _ F34 => ?_
  refine ze (w' := w25) (zb rfl rfl rfl (F34.get rfl)) rfl F34 rfl (.bool false) (zza _ _ _ _ rfl (F34.get rfl) rfl (decide_eq_false (show ¬ (130 : Int) < (l3.length : Int) by omega))) fun _ F35 => ?_
  refine exA 3 [(40, .bool false), (41, .bool false), (42, .slice A7 n7 cap7)] [] dnil [] F35 (by kernel_rfl) (by kernel_rfl) fun _ F36 => ?_
  refine ze (w' := w25) (zb rfl rfl rfl (F36.get rfl)) rfl F36 rfl (.int .i64 (l7.length : Int)) (zca _ rfl (F36.get rfl) (M25.isb (k := 2) rfl) rfl) fun _ F37 => ?_
  refine ze (w' := w25) (zb rfl rfl rfl (F37.get rfl)) rfl F37 rfl (.bool false) (zza _ _ _ _ rfl (F37.get rfl) rfl (decide_eq_false (show ¬ (40 : Int) < (l7.length : Int) by omega))) fun _ F38 => ?_
  refine exA 3 [(45, .bool false), (46, .bool false), (47, .slice A8 n8 cap8)] [] dnil [] F38 (by kernel_rfl) (by kernel_rfl) fun _ F39 => ?_
  refine ze (w' := w25) (zb rfl rfl rfl (F39.get rfl)) rfl F39 rfl (.int .i64 (l8.length : Int)) (zca _ rfl (F39.get rfl) (M25.isb (k := 3) rfl) rfl) fun _ F40 => ?_
  refine ze (w' := w25) (zb rfl rfl rfl (F40.get rfl)) rfl F40 rfl (.bool true) (zza _ _ _ _ rfl (F40.get rfl) rfl (decide_eq_true (show (250 : Int) < (l8.length : Int) by omega))) fun _ F41 => ?_
  refine rn rfl rfl F41 rfl (.bool true) (zyb rfl (F41.get rfl) (F41.get rfl)) fun _ F42 => ?_
  refine hK28 _ _ (wp_cond_true (F42.get rfl) ?_)
  refine zT fun _ hK43 => ?_
  refine rm rfl F42 fun _ F44 => ?_
  refine hK43 _ _ (wp_ret ?_)
  try simp only [Exit.then, Exit.inBlock, Exit.jump]
  exact bodyPost_ret (res1 rfl (F44.get rfl)) F44.defers ⟨rfl, M25.below⟩
 have hs : a2.size ≤ 40 := by omega
 obtain ⟨m, em⟩ : ∃ x, mkM a0 a1 a2 l3 = x := ⟨_, rfl⟩
 obtain ⟨om, zm⟩ := mkM_ok a0 a1 a2 l3
 rw [em] at om zm
 obtain ⟨qm, hm1⟩ : ∃ x, z2a m = x := ⟨_, rfl⟩
 obtain ⟨xm, hm2⟩ : ∃ x, encL m = x := ⟨_, rfl⟩
 have hxl : xm.length ≤ 202 := by rw [← hm2]; exact encL_le m
 obtain ⟨k, hkk, hkl⟩ : ∃ k : Nat, a6 % ((xm.length : Int) + 1) = (k : Int) ∧ k < xm.length + 1 := by exact in_ex a6 (Nat.succ_pos _)
 obtain ⟨ln, hln⟩ : ∃ n, (([] ++ xm) ++ l7).length = n := ⟨_, rfl⟩
 have hln2 : ln = xm.length + l7.length := by rw [← hln]; simp
 refine zh (args := [.int .i64 a0, .int .i64 a1, .string a2, .slice A3 n3 cap3, .slice A4 n4 cap4, .slice A5 n5 cap5, .int .i64 a6, .slice A7 n7 cap7, .slice A8 n8 cap8]) 170 Try.func4 rfl rfl rfl ?_
 intro fa F
 have M := Mx.start w
 replace M := M.argB 0 ib3 (fun g e => by cases e)
 replace M := M.argB 1 ib5 (fun g e => by cases e)
 replace M := M.argB 2 ib7 (fun g e => by cases e)
 replace M := M.argB 3 ib8 (fun g e => by cases e)
 replace M := M.argI 4 hr4 (fun g e => by cases e)
 refine zT fun _ hK21 => ?_
 refine rm rfl F fun _ F22 => ?_
 refine hK21 _ _ (zS fun _ hK23 => ?_)
 refine zT fun _ hK24 => ?_
 refine zd (za rfl) rfl F22 rfl rfl (enters_of Try.func15 (by kernel_rfl) rfl) #[] (args0) (zg (lknown_any w)) ?_
 rintro _ w25 a25 ⟨rfl, b25⟩ F25
 have M25 := M.step b25
 refine rn rfl rfl F25 rfl (.bool false) (run_not _ _ rfl (F25.get (t := 31) rfl)) fun _ F26 => ?_
 refine hK24 _ _ (wp_cond_false (F26.get rfl) ?_)
 refine wp_skip ?_
 refine hK23 _ _ (zS fun _ hK27 => ?_)
 refine zT fun _ hK28 => ?_
 refine rm rfl F26 fun _ F29 => ?_
 refine rn rfl rfl F29 rfl (.int .i64 (a2.size : Int)) (y_lenS _ rfl (F29.get rfl) rfl) fun _ F30 => ?_
 refine rn rfl rfl F30 rfl (.bool false) (zza _ _ _ _ rfl (F30.get rfl) rfl (decide_eq_false (show ¬ (40 : Int) < (a2.size : Int) by omega))) fun _ F31 => ?_
 refine rm rfl F31 fun _ F32 => ?_
 refine rm rfl F32 fun _ F33 => ?_
 refine ze (w' := w25) (zb rfl rfl rfl (F33.get rfl)) rfl F33 rfl (.int .i64 (l3.length : Int)) (zca _ rfl (F33.get rfl) (M25.isb (k := 0) rfl) rfl) fun _ F34 => ?_
 refine ze (w' := w25) (zb rfl rfl rfl (F34.get rfl)) rfl F34 rfl (.bool false) (zza _ _ _ _ rfl (F34.get rfl) rfl (decide_eq_false (show ¬ (130 : Int) < (l3.length : Int) by omega))) fun _ F35 => ?_
 refine exA 3 [(40, .bool false), (41, .bool false), (42, .slice A7 n7 cap7)] [] dnil [] F35 (by kernel_rfl) (by kernel_rfl) fun _ F36 => ?_
 refine ze (w' := w25) (zb rfl rfl rfl (F36.get rfl)) rfl F36 rfl (.int .i64 (l7.length : Int)) (zca _ rfl (F36.get rfl) (M25.isb (k := 2) rfl) rfl) fun _ F37 => ?_
 refine ze (w' := w25) (zb rfl rfl rfl (F37.get rfl)) rfl F37 rfl (.bool false) (zza _ _ _ _ rfl (F37.get rfl) rfl (decide_eq_false (show ¬ (40 : Int) < (l7.length : Int) by omega))) fun _ F38 => ?_
 refine exA 3 [(45, .bool false), (46, .bool false), (47, .slice A8 n8 cap8)] [] dnil [] F38 (by kernel_rfl) (by kernel_rfl) fun _ F39 => ?_
 refine ze (w' := w25) (zb rfl rfl rfl (F39.get rfl)) rfl F39 rfl (.int .i64 (l8.length : Int)) (zca _ rfl (F39.get rfl) (M25.isb (k := 3) rfl) rfl) fun _ F40 => ?_
 refine ze (w' := w25) (zb rfl rfl rfl (F40.get rfl)) rfl F40 rfl (.bool false) (zza _ _ _ _ rfl (F40.get rfl) rfl (decide_eq_false (show ¬ (250 : Int) < (l8.length : Int) by omega))) fun _ F41 => ?_
 refine rn rfl rfl F41 rfl (.bool false) (zyb rfl (F41.get rfl) (F41.get rfl)) fun _ F42 => ?_
 refine hK28 _ _ (wp_cond_false (F42.get rfl) ?_)
 refine wp_skip ?_
 refine hK27 _ _ (zS fun _ hK43 => ?_)
 refine zR ?_
 refine rm rfl F42 fun _ F44 => ?_
 refine rm rfl F44 fun _ F45 => ?_
 refine rm rfl F45 fun _ F46 => ?_
 refine rm rfl F46 fun _ F47 => ?_
 refine zd (za rfl) rfl F47 rfl rfl (enters_of Try.func16 (by kernel_rfl) rfl) #[.int .i64 a0, .int .i64 a1, .string a2, .slice A3 n3 cap3] (args4 (F47.get rfl) (F47.get rfl) (F47.get rfl) (F47.get rfl)) (make_is a0 a1 a2 l3 (.slice A3 n3 cap3) ⟨hk0, hl0⟩ ⟨hk1, hl1⟩ hs m em w25 (M25.isb (k := 0) rfl)) ?_
 rintro _ w48 a48 ⟨V48, rfl, is48, lo48, b48⟩ F48
 have M48 := M25.newMsg b48 is48 lo48 5 6 7 8 9
 clear M25 b48 lo48
 refine zd (za rfl) rfl F48 rfl rfl (enters_of Try.func18 (by kernel_rfl) rfl) #[.agg (msgA m V48)] (zn (F48.get rfl)) (renc_is m V48 om zm qm xm hm1 hm2 w48 ⟨(M48.isb (k := 5) rfl), (M48.isb (k := 6) rfl), (M48.isb (k := 7) rfl), (M48.isb (k := 8) rfl), (M48.isb (k := 9) rfl)⟩) ?_
 rintro _ w49 a49 ⟨v49, rfl, hv49, b49⟩ F49
 have M49 := M48.newO b49 10 hv49
 clear M48 b49 hv49
 obtain ⟨A49, c49, rfl⟩ := (M49.isO (k := 10) rfl).shape
 refine exS 5 [(4, .slice A4 n4 cap4), (5, .slice A5 n5 cap5), (6, .int .i64 a6), (7, .slice A7 n7 cap7), (8, .slice A8 n8 cap8), (18, .bool false), (19, .slice A49 (xm).length c49)] [] dnil [] F49 (by kernel_rfl) fun _ F50 => ?_
 refine hK43 _ _ (zS fun _ hK51 => ?_)
 refine zT fun _ hK52 => ?_
 refine rm rfl F50 fun _ F53 => ?_
 refine rn rfl rfl F53 rfl (.int .i64 (xm.length : Int)) (zca _ rfl (F53.get rfl) (M49.isO (k := 10) rfl) rfl) fun _ F54 => ?_
 cases qm
 ·have hx0 : xm.length = 0 := by rw [← hm2, encL_nn hm1]; rfl
  refine rn rfl rfl F54 rfl (.bool true) (zo _ _ _ _ rfl (F54.get rfl) rfl Try.underlying3 (zla (show (xm.length : Int) = 0 by omega))) fun _ F55 => ?_
  refine hK52 _ _ (wp_cond_true (F55.get rfl) ?_)
  refine zT fun _ hK56 => ?_
  refine rm rfl F55 fun _ F57 => ?_
  refine hK56 _ _ (wp_ret ?_)
  try simp only [Exit.then, Exit.inBlock, Exit.jump]
  exact bodyPost_ret (res1 rfl (F57.get rfl)) F57.defers ⟨rfl, M49.below⟩
 have hx3 : 3 ≤ xm.length := by rw [← hm2]; exact encL_3 hm1
 refine rn rfl rfl F54 rfl (.bool false) (zo _ _ _ _ rfl (F54.get rfl) rfl Try.underlying3 (zp (show ¬ (xm.length : Int) = 0 by omega))) fun _ F58 => ?_
 refine hK52 _ _ (wp_cond_false (F58.get rfl) ?_)
 refine wp_skip ?_
 refine hK51 _ _ (zS fun _ hK59 => ?_)
 refine zR ?_
 refine zda (za rfl) rfl F58 rfl (zqb M49 11 rfl) ?_
 intro v60 a60 w60 F60 M60
 clear F58 M49
 obtain ⟨A60, c60, rfl⟩ := (M60.isO (k := 11) rfl).shape
 refine rm rfl F60 fun _ F61 => ?_
 refine zda (za rfl) rfl F61 rfl (zva M60 (k := 11) rfl _ _ rfl (F61.get rfl) (F61.get rfl) (M60.isO (k := 10) rfl) (by simp; omega)) ?_
 intro v62 a62 w62 F62 M62
 clear F61 M60
 obtain ⟨A62, c62, rfl⟩ := (M62.isO (k := 11) rfl).shape
 refine rm rfl F62 fun a63 F63 => ?_
 refine hK59 _ _ ?_
 obtain ⟨X0, hX0⟩ : ∃ z, ([] ++ xm) = z := ⟨_, rfl⟩
 have hX0l : X0.length = xm.length := by rw [← hX0]; rfl
 have M64 : Mx none w w62 [(0, bytR l3 (.slice A3 n3 cap3)), (1, bytR l5 (.slice A5 n5 cap5)), (2, bytR l7 (.slice A7 n7 cap7)), (3, bytR l8 (.slice A8 n8 cap8)), (4, intR A4 n4 x4), (5, bytR m.l5 V48.v5), (6, bytR m.l6 V48.v6), (7, bytR m.l7 V48.v7), (8, bytR m.l8 V48.v8), (9, bytR m.l9 V48.v9), (10, ownR xm (.slice A49 (xm).length c49)), (11, ownR X0 (.slice A62 (X0).length c62))] := by rw [← hX0]; exact M62.sub ⟨rfl, rfl, rfl, rfl, rfl, rfl, rfl, rfl, rfl, rfl, rfl, rfl, trivial⟩
 have F64 : Fx 170 a63 [(4, .slice A4 n4 cap4), (5, .slice A5 n5 cap5), (6, .int .i64 a6), (7, .slice A7 n7 cap7), (8, .slice A8 n8 cap8), (18, .bool false), (19, .slice A49 (xm).length c49), (60, .slice A49 (xm).length c49), (61, .int .i64 (xm.length : Int)), (62, .bool false), (63, .slice A60 (([] : List UInt8)).length c60), (64, .slice A49 (xm).length c49), (65, .slice A62 (X0).length c62), (21, .slice A62 (X0).length c62)] [] := by rw [← hX0]; exact F63.sub ⟨rfl, rfl, rfl, rfl, rfl, rfl, rfl, rfl, rfl, rfl, rfl, rfl, rfl, rfl, trivial⟩
 clear M62 F63
 refine zS fun K65 hK65 => ?_
 have J65 : ∀ (z : List UInt8) (aJ : Act) (wJ : World), (z.length = xm.length) → Fx 170 aJ [(6, .int .i64 a6), (7, .slice A7 n7 cap7), (8, .slice A8 n8 cap8), (18, .bool false), (19, .slice A49 (xm).length c49), (21, .slice A62 (X0).length c62)] → Mx none w wJ [(0, bytR l3 (.slice A3 n3 cap3)), (1, bytR l5 (.slice A5 n5 cap5)), (2, bytR l7 (.slice A7 n7 cap7)), (3, bytR l8 (.slice A8 n8 cap8)), (4, intR A4 n4 x4), (5, bytR m.l5 V48.v5), (6, bytR m.l6 V48.v6), (7, bytR m.l7 V48.v7), (8, bytR m.l8 V48.v8), (9, bytR m.l9 V48.v9), (10, ownR xm (.slice A49 (xm).length c49)), (11, ownR z (.slice A62 (X0).length c62))] → K65 aJ wJ := by
  clear F64 M64
  intro z a65 w65 I65 F65 M65
  refine hK65 _ _ ?_
  have hzl := I65
  refine zT fun _ hK66 => ?_
  refine rm rfl F65 fun _ F67 => ?_
  refine rm rfl F67 fun _ F68 => ?_
  refine rn rfl rfl F68 rfl (.int .i64 (xm.length : Int)) (zca _ rfl (F68.get rfl) (M65.isO (k := 10) rfl) rfl) fun _ F69 => ?_
  refine rn rfl rfl F69 rfl (.int .i64 ((xm.length : Int) + 1)) (z0 _ _ _ _ rfl (F69.get rfl) rfl rfl (by omega)) fun _ F70 => ?_
  refine zd (za rfl) rfl F70 rfl rfl (enters_of Try.func22 (by kernel_rfl) rfl) #[.int .i64 a6, .int .i64 ((xm.length : Int) + 1)] (zga (F70.get rfl) (F70.get rfl)) (zg ((hkk ▸ zl a6 ((xm.length : Int) + 1) (by omega) (by omega) (by omega) (by omega) w65))) ?_
  rintro _ w71 a71 ⟨rfl, rfl⟩ F71
  refine rm rfl F71 fun _ F72 => ?_
  refine hK66 _ _ (zS fun _ hK73 => ?_)
  refine zR ?_
  refine zda (za rfl) rfl F72 rfl (zqb M65 12 rfl) ?_
  intro v74 a74 w74 F74 M74
  clear F72 M65
  obtain ⟨A74, c74, rfl⟩ := (M74.isO (k := 12) rfl).shape
  refine rm rfl F74 fun _ F75 => ?_
  refine zda (za rfl) rfl F75 rfl (zva M74 (k := 12) rfl _ _ rfl (F75.get rfl) (F75.get rfl) (M74.isO (k := 10) rfl) (by simp; omega)) ?_
  intro v76 a76 w76 F76 M76
  clear F75 M74
  obtain ⟨A76, c76, rfl⟩ := (M76.isO (k := 12) rfl).shape
  refine rm rfl F76 fun _ F77 => ?_
  refine zda (za rfl) rfl F77 rfl (zva M76 (k := 12) rfl _ _ rfl (F77.get rfl) (F77.get rfl) (M76.isb (k := 2) rfl) (by simp; omega)) ?_
  intro v78 a78 w78 F78 M78
  clear F77 M76
  obtain ⟨A78, c78, rfl⟩ := (M78.isO (k := 12) rfl).shape
  refine rm rfl F78 fun _ F79 => ?_
  refine hK73 _ _ (zS fun _ hK80 => ?_)
  refine zR ?_
  refine rm rfl F79 fun _ F81 => ?_
  refine rm rfl F81 fun _ F82 => ?_
  refine rm rfl F82 fun _ F83 => ?_
  refine rn rfl rfl F83 rfl (.int .i64 (ln : Int)) (zca _ rfl (F83.get rfl) (M78.isO (k := 12) rfl) (by rw [hln])) fun _ F84 => ?_
  refine rn rfl rfl F84 rfl (.int .i64 ((ln : Int) - 2)) (y_subI _ _ _ _ rfl (F84.get rfl) rfl rfl (by omega)) fun _ F85 => ?_
  refine rn rfl rfl F85 rfl (.int .i64 (((ln - 2) / 256 : Nat) : Int)) (y_shrI _ _ _ _ rfl (F85.get rfl) rfl (by decide) (show ((ln : Int) - 2) / 256 = (((ln - 2) / 256 : Nat) : Int) by omega)) fun _ F86 => ?_
  refine rn rfl rfl F86 rfl (.int .u8 (((zu (((ln - 2) / 256 : Nat) : Int)).toNat : Nat) : Int)) (z4a _ _ _ rfl (F86.get rfl) Try.underlying3 Try.underlying5 (zwa _)) fun _ F87 => ?_
  refine rm rfl F87 fun _ F88 => ?_
  refine rn rfl rfl F88 rfl (.int .i64 (ln : Int)) (zca _ rfl (F88.get rfl) (M78.isO (k := 12) rfl) (by rw [hln])) fun _ F89 => ?_
  refine rn rfl rfl F89 rfl (.int .i64 ((ln : Int) - 2)) (y_subI _ _ _ _ rfl (F89.get rfl) rfl rfl (by omega)) fun _ F90 => ?_
  refine rn rfl rfl F90 rfl (.int .u8 (((zu ((ln : Int) - 2)).toNat : Nat) : Int)) (z4a _ _ _ rfl (F90.get rfl) Try.underlying3 Try.underlying5 (zwa _)) fun _ F91 => ?_
  refine rn rfl rfl F91 rfl ((ixV (.slice A78 ((([] ++ xm) ++ l7)).length c78) 0)) (zmb _ _ rfl (F91.get rfl) (M78.isO (k := 12) rfl) rfl rfl (by first | omega | (simp only [List.length_set]; omega))) fun _ F92 => ?_
  refine wl_doM (za rfl) rfl F92 (run_setO M78 (k := 12) rfl _ _ rfl (F92.get rfl) (zu (((ln - 2) / 256 : Nat) : Int)) (F92.get rfl) rfl (by first | omega | (simp only [List.length_set]; omega))) ?_
  intro w93 M93
  clear M78
  refine rn rfl rfl F92 rfl ((ixV (.slice A78 ((([] ++ xm) ++ l7)).length c78) 1)) (zmb _ _ rfl (F92.get rfl) (M93.isO (k := 12) rfl) rfl rfl (by first | omega | (simp only [List.length_set]; omega))) fun a94 F94 => ?_
  refine wl_doM (za rfl) rfl F94 (run_setO M93 (k := 12) rfl _ _ rfl (F94.get rfl) (zu ((ln : Int) - 2)) (F94.get rfl) rfl (by first | omega | (simp only [List.length_set]; omega))) ?_
  intro w95 M95
  clear M93
  refine hK80 _ _ (zS fun _ hK96 => ?_)
  have M97 := M95.tame (k := 10) rfl
  clear M95
  have M98 := M97.tame (k := 11) rfl
  clear M97
  have M99 := M98.tame (k := 12) rfl
  clear M98
  obtain ⟨Lf, hLf⟩ : ∃ z, (([] ++ xm) ++ l7) = z := ⟨_, rfl⟩
  rw [hLf] at hln
  have M100 : Mx none w w95 [(0, bytR l3 (.slice A3 n3 cap3)), (1, bytR l5 (.slice A5 n5 cap5)), (2, bytR l7 (.slice A7 n7 cap7)), (3, bytR l8 (.slice A8 n8 cap8)), (4, intR A4 n4 x4), (5, bytR m.l5 V48.v5), (6, bytR m.l6 V48.v6), (7, bytR m.l7 V48.v7), (8, bytR m.l8 V48.v8), (9, bytR m.l9 V48.v9), (10, bytR xm (.slice A49 (xm).length c49)), (11, bytR z (.slice A62 (X0).length c62)), (12, bytR ((Lf.set 0 (zu (((ln - 2) / 256 : Nat) : Int))).set 1 (zu ((ln : Int) - 2))) (.slice A78 (Lf).length c78))] := by rw [← hLf]; exact M99.sub ⟨rfl, rfl, rfl, rfl, rfl, rfl, rfl, rfl, rfl, rfl, rfl, rfl, rfl, trivial⟩
  have F100 : Fx 170 a94 [(7, .slice A7 n7 cap7), (8, .slice A8 n8 cap8), (18, .bool false), (19, .slice A49 (xm).length c49), (21, .slice A62 (X0).length c62), (23, .int .i64 (k : Int)), (24, .slice A78 (Lf).length c78)] [] := by rw [← hLf]; exact F94.sub ⟨rfl, rfl, rfl, rfl, rfl, rfl, rfl, trivial⟩
  clear M99 F94
  obtain ⟨Lg, hLg⟩ : ∃ z, ((Lf.set 0 (zu (((ln - 2) / 256 : Nat) : Int))).set 1 (zu ((ln : Int) - 2))) = z := ⟨_, rfl⟩
  have hLl : Lg.length = ln := by rw [← hLg]; simp only [List.length_set]; exact hln
  have M101 : Mx none w w95 [(0, bytR l3 (.slice A3 n3 cap3)), (1, bytR l5 (.slice A5 n5 cap5)), (2, bytR l7 (.slice A7 n7 cap7)), (3, bytR l8 (.slice A8 n8 cap8)), (4, intR A4 n4 x4), (5, bytR m.l5 V48.v5), (6, bytR m.l6 V48.v6), (7, bytR m.l7 V48.v7), (8, bytR m.l8 V48.v8), (9, bytR m.l9 V48.v9), (10, bytR xm (.slice A49 (xm).length c49)), (11, bytR z (.slice A62 (X0).length c62)), (12, bytR Lg (.slice A78 (Lf).length c78))] := by rw [← hLg]; exact M100.sub ⟨rfl, rfl, rfl, rfl, rfl, rfl, rfl, rfl, rfl, rfl, rfl, rfl, rfl, trivial⟩
  clear M100
  refine zwb F100 [fun vE => vE = .slice A62 (X0).length c62, fun vE => vE = .slice A49 (xm).length c49, fun vE => vE = .int .i64 (k : Int), fun _ => True, fun _ => True, fun vE => vE = .slice A49 (xm).length c49, fun vE => vE = .int .i64 (k : Int), fun _ => True, fun _ => True, fun vE => vE = .slice A7 n7 cap7, fun _ => True, fun vE => vE = .slice A49 (xm).length c49, fun vE => vE = .int .i64 (k : Int), fun _ => True, fun _ => True, fun vE => vE = .slice A8 n8 cap8, fun vE => vE = .slice A78 (Lf).length c78] (JQ none w (fun SV => SV 10 = true → SV 8 = true) (fun (xJ : Unit) SV pV => [(0, bytR l3 (.slice A3 n3 cap3)), (1, bytR l5 (.slice A5 n5 cap5)), (2, bytR l7 (.slice A7 n7 cap7)), (3, bytR l8 (.slice A8 n8 cap8)), (4, intR A4 n4 x4), (5, bytR m.l5 V48.v5), (6, bytR m.l6 V48.v6), (7, bytR m.l7 V48.v7), (8, bytR m.l8 V48.v8), (9, bytR m.l9 V48.v9), (10, bytR xm (.slice A49 (xm).length c49)), (11, bytR z (.slice A62 (X0).length c62)), (12, bytR Lg (.slice A78 (Lf).length c78)), (13, condR (SV 3) (bytR (xm.take k) (pV 3))), (14, eitherR (SV 8) (eitherR (SV 10) (eitherR (SV 14) (ownR ((([] ++ (xm.take k)) ++ l7) ++ (xm.drop k)) (pV 14)) (ownR (([] ++ (xm.take k)) ++ l7) (pV 10))) (ownR ([] ++ (xm.take k)) (pV 8))) (condR (SV 4) (ownR [] (pV 4)))), (15, condR (SV 7) (bytR (xm.take k) (pV 7))), (16, condR (SV 13) (bytR (xm.drop k) (pV 13)))])) 17 rfl (by kernel_rfl) rfl ⟨trivial, trivial, trivial, trivial, trivial, trivial, trivial, trivial, trivial, trivial, trivial, trivial, trivial, trivial, trivial, trivial, trivial, trivial⟩ (fun p => JQ.mk (fun h => absurd h (by decide)) () ((((((M101.step (z6a _)).triv 13).triv 14).triv 15).triv 16).sub ⟨rfl, rfl, rfl, rfl, rfl, rfl, rfl, rfl, rfl, rfl, rfl, rfl, rfl, rfl, rfl, rfl, rfl, trivial⟩)) ⟨?_, ?_, ?_, ?_, ?_, ?_, ?_, ?_, ?_, ?_, ?_, ?_, ?_, ?_, ?_, ?_, ?_, trivial⟩ ?_
  ·intro ua uw SV pV M0 hk hn hd
   obtain ⟨HP, xJ, M⟩ := M0
   replace M : Mx none w uw _ := M
   have e21 : ua.eval (.tmp 21) = .slice A62 (X0).length c62 := (show ua.eval (.tmp 21) = _ from hd 21 (by decide)).trans (F100.get (t := 21) rfl)
   exact zi (za rfl) (.slice A62 (X0).length c62) (zra _ (.inl rfl) e21) rfl ((JQ.mk HP () (M.sub ⟨rfl, rfl, rfl, rfl, rfl, rfl, rfl, rfl, rfl, rfl, rfl, rfl, rfl, rfl, rfl, rfl, rfl, trivial⟩)))
  ·intro ua uw SV pV M0 hk hn hd
   obtain ⟨HP, xJ, M⟩ := M0
   replace M : Mx none w uw _ := M
   have e19 : ua.eval (.tmp 19) = .slice A49 (xm).length c49 := (show ua.eval (.tmp 19) = _ from hd 19 (by decide)).trans (F100.get (t := 19) rfl)
   exact zi (za rfl) (.slice A49 (xm).length c49) (zra _ (.inl rfl) e19) rfl ((JQ.mk HP () (M.sub ⟨rfl, rfl, rfl, rfl, rfl, rfl, rfl, rfl, rfl, rfl, rfl, rfl, rfl, rfl, rfl, rfl, rfl, trivial⟩)))
  ·intro ua uw SV pV M0 hk hn hd
   obtain ⟨HP, xJ, M⟩ := M0
   replace M : Mx none w uw _ := M
   have e23 : ua.eval (.tmp 23) = .int .i64 (k : Int) := (show ua.eval (.tmp 23) = _ from hd 23 (by decide)).trans (F100.get (t := 23) rfl)
   exact zi (za rfl) (.int .i64 (k : Int)) (zra _ (.inl rfl) e23) rfl ((JQ.mk HP () (M.sub ⟨rfl, rfl, rfl, rfl, rfl, rfl, rfl, rfl, rfl, rfl, rfl, rfl, rfl, rfl, rfl, rfl, rfl, trivial⟩)))
  ·intro ua uw SV pV M0 hk hn hd
   obtain ⟨HP, xJ, M⟩ := M0
   replace M : Mx none w uw _ := M
   obtain ⟨s1, f122, q122⟩ := (show SV 1 = true ∧ ua.eval (.tmp 122) = pV 1 ∧ stE _ 1 (pV 1) from hd 122 (by decide))
   have e122 : ua.eval (.tmp 122) = .slice A49 (xm).length c49 := f122.trans q122
   obtain ⟨s2, f123, q123⟩ := (show SV 2 = true ∧ ua.eval (.tmp 123) = pV 2 ∧ stE _ 2 (pV 2) from hd 123 (by decide))
   have e123 : ua.eval (.tmp 123) = .int .i64 (k : Int) := f123.trans q123
   exact hopM_exE (za rfl) (z5b _ _ rfl e122 (M.isb (k := 10) rfl) e123 (j := k) rfl (by omega)) fun v h => ⟨trivial, (JQ.mk HP () ((M.partB 13 (k := 10) rfl h.1 h.2).sub ⟨rfl, rfl, rfl, rfl, rfl, rfl, rfl, rfl, rfl, rfl, rfl, rfl, rfl, rfl, rfl, rfl, rfl, trivial⟩))⟩
  ·intro ua uw SV pV M0 hk hn hd
   obtain ⟨HP, xJ, M⟩ := M0
   replace M : Mx none w uw _ := M
   exact hopM_exM (za rfl) (zqb M 14 rfl) fun v w2 h2 => ⟨trivial, (JQ.mk HP () (h2.sub ⟨rfl, rfl, rfl, rfl, rfl, rfl, rfl, rfl, rfl, rfl, rfl, rfl, rfl, rfl, (eitherR_at (hn 8 (by kernel_rfl)) rfl), rfl, rfl, trivial⟩))⟩
  ·intro ua uw SV pV M0 hk hn hd
   obtain ⟨HP, xJ, M⟩ := M0
   replace M : Mx none w uw _ := M
   have e19 : ua.eval (.tmp 19) = .slice A49 (xm).length c49 := (show ua.eval (.tmp 19) = _ from hd 19 (by decide)).trans (F100.get (t := 19) rfl)
   exact zi (za rfl) (.slice A49 (xm).length c49) (zra _ (.inl rfl) e19) rfl ((JQ.mk HP () (M.sub ⟨rfl, rfl, rfl, rfl, rfl, rfl, rfl, rfl, rfl, rfl, rfl, rfl, rfl, rfl, rfl, rfl, rfl, trivial⟩)))
  ·intro ua uw SV pV M0 hk hn hd
   obtain ⟨HP, xJ, M⟩ := M0
   replace M : Mx none w uw _ := M
   have e23 : ua.eval (.tmp 23) = .int .i64 (k : Int) := (show ua.eval (.tmp 23) = _ from hd 23 (by decide)).trans (F100.get (t := 23) rfl)
   exact zi (za rfl) (.int .i64 (k : Int)) (zra _ (.inl rfl) e23) rfl ((JQ.mk HP () (M.sub ⟨rfl, rfl, rfl, rfl, rfl, rfl, rfl, rfl, rfl, rfl, rfl, rfl, rfl, rfl, rfl, rfl, rfl, trivial⟩)))
  ·intro ua uw SV pV M0 hk hn hd
   obtain ⟨HP, xJ, M⟩ := M0
   replace M : Mx none w uw _ := M
   obtain ⟨s5, f126, q126⟩ := (show SV 5 = true ∧ ua.eval (.tmp 126) = pV 5 ∧ stE _ 5 (pV 5) from hd 126 (by decide))
   have e126 : ua.eval (.tmp 126) = .slice A49 (xm).length c49 := f126.trans q126
   obtain ⟨s6, f127, q127⟩ := (show SV 6 = true ∧ ua.eval (.tmp 127) = pV 6 ∧ stE _ 6 (pV 6) from hd 127 (by decide))
   have e127 : ua.eval (.tmp 127) = .int .i64 (k : Int) := f127.trans q127
   exact hopM_exE (za rfl) (z5b _ _ rfl e126 (M.isb (k := 10) rfl) e127 (j := k) rfl (by omega)) fun v h => ⟨trivial, (JQ.mk HP () ((M.partB 15 (k := 10) rfl h.1 h.2).sub ⟨rfl, rfl, rfl, rfl, rfl, rfl, rfl, rfl, rfl, rfl, rfl, rfl, rfl, rfl, rfl, rfl, rfl, trivial⟩))⟩
  ·intro ua uw SV pV M0 hk hn hd
   obtain ⟨HP, xJ, M⟩ := M0
   replace M : Mx none w uw _ := M
   obtain ⟨s4, f125, q125⟩ := (show SV 4 = true ∧ ua.eval (.tmp 125) = pV 4 ∧ stE _ 4 (pV 4) from hd 125 (by decide))
   have e125 : ua.eval (.tmp 125) = (pV 4) := f125
   obtain ⟨s7, f128, q128⟩ := (show SV 7 = true ∧ ua.eval (.tmp 128) = pV 7 ∧ stE _ 7 (pV 7) from hd 128 (by decide))
   have e128 : ua.eval (.tmp 128) = (pV 7) := f128
   exact hopM_exM (za rfl) (zva M (k := 14) (condR_look s4 (eitherR_r hk rfl)) _ _ rfl e125 e128 (M.isb (k := 15) (condR_look s7 rfl)) (by simp; omega)) fun v w2 h2 => ⟨trivial, (JQ.mk (fun _ => rfl) () (h2.sub ⟨rfl, rfl, rfl, rfl, rfl, rfl, rfl, rfl, rfl, rfl, rfl, rfl, rfl, rfl, (eitherR_at (hn 10 (by kernel_rfl)) rfl), rfl, rfl, trivial⟩))⟩
  ·intro ua uw SV pV M0 hk hn hd
   obtain ⟨HP, xJ, M⟩ := M0
   replace M : Mx none w uw _ := M
   have e7 : ua.eval (.tmp 7) = .slice A7 n7 cap7 := (show ua.eval (.tmp 7) = _ from hd 7 (by decide)).trans (F100.get (t := 7) rfl)
   exact zi (za rfl) (.slice A7 n7 cap7) (zra _ (.inl rfl) e7) rfl ((JQ.mk HP () (M.sub ⟨rfl, rfl, rfl, rfl, rfl, rfl, rfl, rfl, rfl, rfl, rfl, rfl, rfl, rfl, rfl, rfl, rfl, trivial⟩)))
  ·intro ua uw SV pV M0 hk hn hd
   obtain ⟨HP, xJ, M⟩ := M0
   replace M : Mx none w uw _ := M
   obtain ⟨s8, f129, q129⟩ := (show SV 8 = true ∧ ua.eval (.tmp 129) = pV 8 ∧ stE _ 8 (pV 8) from hd 129 (by decide))
   have e129 : ua.eval (.tmp 129) = (pV 8) := f129
   obtain ⟨s9, f130, q130⟩ := (show SV 9 = true ∧ ua.eval (.tmp 130) = pV 9 ∧ stE _ 9 (pV 9) from hd 130 (by decide))
   have e130 : ua.eval (.tmp 130) = .slice A7 n7 cap7 := f130.trans q130
   exact hopM_exM (za rfl) (zva M (k := 14) (eitherR_r hk (eitherR_l s8 rfl)) _ _ rfl e129 e130 (M.isb (k := 2) rfl) (by simp; omega)) fun v w2 h2 => ⟨trivial, (JQ.mk (fun _ => s8) () (h2.sub ⟨rfl, rfl, rfl, rfl, rfl, rfl, rfl, rfl, rfl, rfl, rfl, rfl, rfl, rfl, (eitherR_in s8 (eitherR_in rfl (eitherR_at (hn 14 (by kernel_rfl)) rfl))), rfl, rfl, trivial⟩))⟩
  ·intro ua uw SV pV M0 hk hn hd
   obtain ⟨HP, xJ, M⟩ := M0
   replace M : Mx none w uw _ := M
   have e19 : ua.eval (.tmp 19) = .slice A49 (xm).length c49 := (show ua.eval (.tmp 19) = _ from hd 19 (by decide)).trans (F100.get (t := 19) rfl)
   exact zi (za rfl) (.slice A49 (xm).length c49) (zra _ (.inl rfl) e19) rfl ((JQ.mk HP () (M.sub ⟨rfl, rfl, rfl, rfl, rfl, rfl, rfl, rfl, rfl, rfl, rfl, rfl, rfl, rfl, rfl, rfl, rfl, trivial⟩)))
  ·intro ua uw SV pV M0 hk hn hd
   obtain ⟨HP, xJ, M⟩ := M0
   replace M : Mx none w uw _ := M
   have e23 : ua.eval (.tmp 23) = .int .i64 (k : Int) := (show ua.eval (.tmp 23) = _ from hd 23 (by decide)).trans (F100.get (t := 23) rfl)
   exact zi (za rfl) (.int .i64 (k : Int)) (zra _ (.inl rfl) e23) rfl ((JQ.mk HP () (M.sub ⟨rfl, rfl, rfl, rfl, rfl, rfl, rfl, rfl, rfl, rfl, rfl, rfl, rfl, rfl, rfl, rfl, rfl, trivial⟩)))
  ·intro ua uw SV pV M0 hk hn hd
   obtain ⟨HP, xJ, M⟩ := M0
   replace M : Mx none w uw _ := M
   obtain ⟨s11, f132, q132⟩ := (show SV 11 = true ∧ ua.eval (.tmp 132) = pV 11 ∧ stE _ 11 (pV 11) from hd 132 (by decide))
   have e132 : ua.eval (.tmp 132) = .slice A49 (xm).length c49 := f132.trans q132
   obtain ⟨s12, f133, q133⟩ := (show SV 12 = true ∧ ua.eval (.tmp 133) = pV 12 ∧ stE _ 12 (pV 12) from hd 133 (by decide))
   have e133 : ua.eval (.tmp 133) = .int .i64 (k : Int) := f133.trans q133
   exact hopM_exE (za rfl) (y_slFrom _ _ rfl e132 (M.isb (k := 10) rfl) e133 (i := k) rfl (by omega)) fun v h => ⟨trivial, (JQ.mk HP () ((M.partB 16 (k := 10) rfl h.1 h.2).sub ⟨rfl, rfl, rfl, rfl, rfl, rfl, rfl, rfl, rfl, rfl, rfl, rfl, rfl, rfl, rfl, rfl, rfl, trivial⟩))⟩
  ·intro ua uw SV pV M0 hk hn hd
   obtain ⟨HP, xJ, M⟩ := M0
   replace M : Mx none w uw _ := M
   obtain ⟨s10, f131, q131⟩ := (show SV 10 = true ∧ ua.eval (.tmp 131) = pV 10 ∧ stE _ 10 (pV 10) from hd 131 (by decide))
   have e131 : ua.eval (.tmp 131) = (pV 10) := f131
   obtain ⟨s13, f134, q134⟩ := (show SV 13 = true ∧ ua.eval (.tmp 134) = pV 13 ∧ stE _ 13 (pV 13) from hd 134 (by decide))
   have e134 : ua.eval (.tmp 134) = (pV 13) := f134
   have s8 : SV 8 = true := HP s10
   exact hopM_exM (za rfl) (zva M (k := 14) (eitherR_r hk (eitherR_l s10 (eitherR_l s8 rfl))) _ _ rfl e131 e134 (M.isb (k := 16) (condR_look s13 rfl)) (by simp; omega)) fun v w2 h2 => ⟨trivial, (JQ.mk HP () (h2.sub ⟨rfl, rfl, rfl, rfl, rfl, rfl, rfl, rfl, rfl, rfl, rfl, rfl, rfl, rfl, (eitherR_in s8 (eitherR_in s10 rfl)), rfl, rfl, trivial⟩))⟩
  ·intro ua uw SV pV M0 hk hn hd
   obtain ⟨HP, xJ, M⟩ := M0
   replace M : Mx none w uw _ := M
   have e8 : ua.eval (.tmp 8) = .slice A8 n8 cap8 := (show ua.eval (.tmp 8) = _ from hd 8 (by decide)).trans (F100.get (t := 8) rfl)
   exact zi (za rfl) (.slice A8 n8 cap8) (zra _ (.inl rfl) e8) rfl ((JQ.mk HP () (M.sub ⟨rfl, rfl, rfl, rfl, rfl, rfl, rfl, rfl, rfl, rfl, rfl, rfl, rfl, rfl, rfl, rfl, rfl, trivial⟩)))
  ·intro ua uw SV pV M0 hk hn hd
   obtain ⟨HP, xJ, M⟩ := M0
   replace M : Mx none w uw _ := M
   have e24 : ua.eval (.tmp 24) = .slice A78 (Lf).length c78 := (show ua.eval (.tmp 24) = _ from hd 24 (by decide)).trans (F100.get (t := 24) rfl)
   exact zi (za rfl) (.slice A78 (Lf).length c78) (zra _ (.inl rfl) e24) rfl ((JQ.mk HP () (M.sub ⟨rfl, rfl, rfl, rfl, rfl, rfl, rfl, rfl, rfl, rfl, rfl, rfl, rfl, rfl, rfl, rfl, rfl, trivial⟩)))
  intro p102 a102 w102 M102 G102 y102
  obtain ⟨q0, -, -, q3, -, -, -, -, -, -, -, -, -, -, q14, q15, q16, -⟩ := y102
  have r0 : p102 0 = .slice A62 (X0).length c62 := q0
  have r15 : p102 15 = .slice A8 n8 cap8 := q15
  have r16 : p102 16 = .slice A78 (Lf).length c78 := q16
  obtain ⟨-, xJ102, M102⟩ := M102
  replace M102 : Mx _ _ w102 [(0, bytR l3 (.slice A3 n3 cap3)), (1, bytR l5 (.slice A5 n5 cap5)), (2, bytR l7 (.slice A7 n7 cap7)), (3, bytR l8 (.slice A8 n8 cap8)), (4, intR A4 n4 x4), (5, bytR m.l5 V48.v5), (6, bytR m.l6 V48.v6), (7, bytR m.l7 V48.v7), (8, bytR m.l8 V48.v8), (9, bytR m.l9 V48.v9), (10, bytR xm (.slice A49 (xm).length c49)), (11, bytR z (.slice A62 (X0).length c62)), (12, bytR Lg (.slice A78 (Lf).length c78)), (13, condR true (bytR (xm.take k) (p102 3))), (14, eitherR true (eitherR true (eitherR true (ownR ((([] ++ (xm.take k)) ++ l7) ++ (xm.drop k)) (p102 14)) (ownR (([] ++ (xm.take k)) ++ l7) (p102 10))) (ownR ([] ++ (xm.take k)) (p102 8))) (condR true (ownR [] (p102 4)))), (15, condR true (bytR (xm.take k) (p102 7))), (16, condR true (bytR (xm.drop k) (p102 13)))] := M102
  simp only [List.take_succ_cons, List.take_zero, layV, Nat.zero_add, Nat.reduceAdd, r0, r15, r16] at G102
  obtain ⟨Ap102_13, cp102_13, hp102_13⟩ := (M102.isb (k := 13) rfl).shape
  rw [hp102_13] at M102
  try rw [hp102_13] at G102
  obtain ⟨Ap102_14, cp102_14, hp102_14⟩ := (M102.isO (k := 14) rfl).shape
  rw [hp102_14] at M102
  try rw [hp102_14] at G102
  obtain ⟨Ap102_15, cp102_15, hp102_15⟩ := (M102.isb (k := 15) rfl).shape
  rw [hp102_15] at M102
  try rw [hp102_15] at G102
  obtain ⟨Ap102_16, cp102_16, hp102_16⟩ := (M102.isb (k := 16) rfl).shape
  rw [hp102_16] at M102
  try rw [hp102_16] at G102
  obtain ⟨T3, hT3⟩ : ∃ z, ((([] ++ (xm.take k)) ++ l7) ++ (xm.drop k)) = z := ⟨_, rfl⟩
  have hTl : T3.length ≤ 400 := by rw [← hT3]; simp; omega
  have M103 : Mx none w w102 [(0, bytR l3 (.slice A3 n3 cap3)), (1, bytR l5 (.slice A5 n5 cap5)), (2, bytR l7 (.slice A7 n7 cap7)), (3, bytR l8 (.slice A8 n8 cap8)), (4, intR A4 n4 x4), (5, bytR m.l5 V48.v5), (6, bytR m.l6 V48.v6), (7, bytR m.l7 V48.v7), (8, bytR m.l8 V48.v8), (9, bytR m.l9 V48.v9), (10, bytR xm (.slice A49 (xm).length c49)), (11, bytR z (.slice A62 (X0).length c62)), (12, bytR Lg (.slice A78 (Lf).length c78)), (13, bytR (xm.take k) (.slice Ap102_13 ((xm.take k)).length cp102_13)), (14, ownR T3 (.slice Ap102_14 (T3).length cp102_14)), (15, bytR (xm.take k) (.slice Ap102_15 ((xm.take k)).length cp102_15)), (16, bytR (xm.drop k) (.slice Ap102_16 ((xm.drop k)).length cp102_16))] := by rw [← hT3]; exact M102.sub ⟨rfl, rfl, rfl, rfl, rfl, rfl, rfl, rfl, rfl, rfl, rfl, rfl, rfl, rfl, rfl, rfl, rfl, trivial⟩
  have F103 : Fx 170 a102 [(7, .slice A7 n7 cap7), (8, .slice A8 n8 cap8), (18, .bool false), (19, .slice A49 (xm).length c49), (21, .slice A62 (X0).length c62), (23, .int .i64 (k : Int)), (24, .slice A78 (Lf).length c78), (121, .slice A62 (X0).length c62), (124, (.slice Ap102_13 ((xm.take k)).length cp102_13)), (125, (p102 4)), (128, (.slice Ap102_15 ((xm.take k)).length cp102_15)), (129, (p102 8)), (131, (p102 10)), (134, (.slice Ap102_16 ((xm.drop k)).length cp102_16)), (135, (.slice Ap102_14 (T3).length cp102_14)), (136, .slice A8 n8 cap8), (137, .slice A78 (Lf).length c78)] [] := by rw [← hT3]; exact G102.sub ⟨rfl, rfl, rfl, rfl, rfl, rfl, rfl, rfl, rfl, rfl, rfl, rfl, rfl, rfl, rfl, rfl, rfl, trivial⟩
  clear M102 G102
  refine zoa (za rfl) rfl F103 rfl M103 17 (t := 22) (c := #[.slice A62 (X0).length c62, (.slice Ap102_13 ((xm.take k)).length cp102_13), (.slice Ap102_14 (T3).length cp102_14), .slice A8 n8 cap8, .slice A78 (Lf).length c78]) (k := 5) (m := 5) (y_litG 41 22 (s := 1) (zv := zN) Try.underlying41 (by kernel_rfl) (by kernel_rfl) rfl (#[.slice A62 (X0).length c62, (.slice Ap102_13 ((xm.take k)).length cp102_13), (.slice Ap102_14 (T3).length cp102_14), .slice A8 n8 cap8, .slice A78 (Lf).length c78]) (by decide) (by decide) (by simp only [List.map_toArray, List.map_cons, List.map_nil, (F103.get (t := 121) rfl), (F103.get (t := 124) rfl), (F103.get (t := 135) rfl), (F103.get (t := 136) rfl), (F103.get (t := 137) rfl)]; kernel_rfl)) ?_
  intro g104 a104 w104 F104 M104
  clear F103 M103
  refine rm rfl F104 fun _ F105 => ?_
  refine hK96 _ _ (zS fun _ hK106 => ?_)
  refine zT fun _ hK107 => ?_
  refine rm rfl F105 fun _ F108 => ?_
  refine hK107 _ _ (wp_block ?_)
  have M109 := M104.tame (k := 14) rfl
  clear M104
  refine z4b (α := Nat) (n := 170) (G := none) (w0 := w) (fun x => [(25, .slice (some ⟨g104, 0, none⟩) 5 5), (26, .int .i64 (x : Int))]) (fun x => [(0, bytR l3 (.slice A3 n3 cap3)), (1, bytR l5 (.slice A5 n5 cap5)), (2, bytR l7 (.slice A7 n7 cap7)), (3, bytR l8 (.slice A8 n8 cap8)), (4, intR A4 n4 x4), (5, bytR m.l5 V48.v5), (6, bytR m.l6 V48.v6), (7, bytR m.l7 V48.v7), (8, bytR m.l8 V48.v8), (9, bytR m.l9 V48.v9), (10, bytR xm (.slice A49 (xm).length c49)), (11, bytR z (.slice A62 (X0).length c62)), (12, bytR Lg (.slice A78 (Lf).length c78)), (13, bytR (xm.take k) (.slice Ap102_13 ((xm.take k)).length cp102_13)), (14, bytR T3 (.slice Ap102_14 (T3).length cp102_14)), (15, bytR (xm.take k) (.slice Ap102_15 ((xm.take k)).length cp102_15)), (16, bytR (xm.drop k) (.slice Ap102_16 ((xm.drop k)).length cp102_16)), (17, blkR g104 22 (#[.slice A62 (X0).length c62, (.slice Ap102_13 ((xm.take k)).length cp102_13), (.slice Ap102_14 (T3).length cp102_14), .slice A8 n8 cap8, .slice A78 (Lf).length c78]))]) (fun k x => k = (5 - x) ∧ (x ≤ 5)) _ 0 ⟨rfl, (by decide)⟩ (F108.sub ⟨rfl, rfl, trivial⟩) (M109.sub ⟨rfl, rfl, rfl, rfl, rfl, rfl, rfl, rfl, rfl, rfl, rfl, rfl, rfl, rfl, rfl, rfl, rfl, rfl, trivial⟩) ?_
  clear F108 M109
  rintro k110 jn a110 w110 K110 ⟨ek110, I110⟩ F110 M110 hK110
  replace F110 : Fx 170 a110 [(25, .slice (some ⟨g104, 0, none⟩) 5 5), (26, .int .i64 (jn : Int))] := F110
  replace M110 : Mx _ _ w110 [(0, bytR l3 (.slice A3 n3 cap3)), (1, bytR l5 (.slice A5 n5 cap5)), (2, bytR l7 (.slice A7 n7 cap7)), (3, bytR l8 (.slice A8 n8 cap8)), (4, intR A4 n4 x4), (5, bytR m.l5 V48.v5), (6, bytR m.l6 V48.v6), (7, bytR m.l7 V48.v7), (8, bytR m.l8 V48.v8), (9, bytR m.l9 V48.v9), (10, bytR xm (.slice A49 (xm).length c49)), (11, bytR z (.slice A62 (X0).length c62)), (12, bytR Lg (.slice A78 (Lf).length c78)), (13, bytR (xm.take k) (.slice Ap102_13 ((xm.take k)).length cp102_13)), (14, bytR T3 (.slice Ap102_14 (T3).length cp102_14)), (15, bytR (xm.take k) (.slice Ap102_15 ((xm.take k)).length cp102_15)), (16, bytR (xm.drop k) (.slice Ap102_16 ((xm.drop k)).length cp102_16)), (17, blkR g104 22 (#[.slice A62 (X0).length c62, (.slice Ap102_13 ((xm.take k)).length cp102_13), (.slice Ap102_14 (T3).length cp102_14), .slice A8 n8 cap8, .slice A78 (Lf).length c78]))] := M110
  replace I110 : jn ≤ 5 := I110
  replace ek110 : k110 = (5 - jn) := ek110
  refine zS fun _ hK111 => zS fun _ hK112 => ?_
  refine zR ?_
  refine rm rfl F110 fun _ F113 => ?_
  refine rm rfl F113 fun _ F114 => ?_
  refine rn rfl rfl F114 rfl (.int .i64 5) (y_lnG 41 Try.underlying41 _ rfl (F114.get rfl) rfl) fun _ F115 => ?_
  by_cases h116 : (jn : Int) < 5
  ·refine rn rfl rfl F115 rfl (.bool true) (zua _ _ _ _ rfl (F115.get rfl) (F115.get rfl) (decide_eq_true h116)) fun _ F117 => ?_
   refine hK112 _ _ (wp_cond_true (F117.get rfl) ?_)
   refine wp_skip ?_
   refine hK111 _ _ (zS fun _ hK118 => ?_)
   refine wp_block ?_
   refine zT fun _ hK119 => ?_
   refine rm rfl F117 fun _ F120 => ?_
   refine rm rfl F120 fun _ F121 => ?_
   refine rn rfl rfl F121 rfl (.pointer (some ⟨g104, (0 + jn * 1), none⟩)) (y_ixG 41 (s := 1) Try.underlying41 (by kernel_rfl) _ _ rfl (F121.get rfl) (F121.get rfl) rfl (by omega) rfl) fun _ F122 => ?_
   obtain ⟨bv123, Lr, hbv123, ⟨qb123, hqb123⟩, hLr⟩ : ∃ (v : Value) (L : List UInt8), (#[.slice A62 (X0).length c62, (.slice Ap102_13 ((xm.take k)).length cp102_13), (.slice Ap102_14 (T3).length cp102_14), .slice A8 n8 cap8, .slice A78 (Lf).length c78] : Array Value)[jn]? = some v ∧ (∃ q, look [(0, bytR l3 (.slice A3 n3 cap3)), (1, bytR l5 (.slice A5 n5 cap5)), (2, bytR l7 (.slice A7 n7 cap7)), (3, bytR l8 (.slice A8 n8 cap8)), (4, intR A4 n4 x4), (5, bytR m.l5 V48.v5), (6, bytR m.l6 V48.v6), (7, bytR m.l7 V48.v7), (8, bytR m.l8 V48.v8), (9, bytR m.l9 V48.v9), (10, bytR xm (.slice A49 (xm).length c49)), (11, bytR z (.slice A62 (X0).length c62)), (12, bytR Lg (.slice A78 (Lf).length c78)), (13, bytR (xm.take k) (.slice Ap102_13 ((xm.take k)).length cp102_13)), (14, bytR T3 (.slice Ap102_14 (T3).length cp102_14)), (15, bytR (xm.take k) (.slice Ap102_15 ((xm.take k)).length cp102_15)), (16, bytR (xm.drop k) (.slice Ap102_16 ((xm.drop k)).length cp102_16)), (17, blkR g104 22 (#[.slice A62 (X0).length c62, (.slice Ap102_13 ((xm.take k)).length cp102_13), (.slice Ap102_14 (T3).length cp102_14), .slice A8 n8 cap8, .slice A78 (Lf).length c78]))] q = some (bytR L v)) ∧ L.length ≤ 400 := by
    have hj : jn < 5 := by omega
    match jn, hj with
    | 0, _ => exact ⟨_, _, rfl, ⟨11, rfl⟩, by first | omega | (simp; omega)⟩
    | 1, _ => exact ⟨_, _, rfl, ⟨13, rfl⟩, by first | omega | (simp; omega)⟩
    | 2, _ => exact ⟨_, _, rfl, ⟨14, rfl⟩, by first | omega | (simp; omega)⟩
    | 3, _ => exact ⟨_, _, rfl, ⟨3, rfl⟩, by first | omega | (simp; omega)⟩
    | 4, _ => exact ⟨_, _, rfl, ⟨12, rfl⟩, by first | omega | (simp; omega)⟩
    | n + 5, h => exact absurd h (by omega)
   have N123 : Mx none w w110 [(0, bytR l3 (.slice A3 n3 cap3)), (1, bytR l5 (.slice A5 n5 cap5)), (2, bytR l7 (.slice A7 n7 cap7)), (3, bytR l8 (.slice A8 n8 cap8)), (4, intR A4 n4 x4), (5, bytR m.l5 V48.v5), (6, bytR m.l6 V48.v6), (7, bytR m.l7 V48.v7), (8, bytR m.l8 V48.v8), (9, bytR m.l9 V48.v9), (10, bytR xm (.slice A49 (xm).length c49)), (11, bytR z (.slice A62 (X0).length c62)), (12, bytR Lg (.slice A78 (Lf).length c78)), (13, bytR (xm.take k) (.slice Ap102_13 ((xm.take k)).length cp102_13)), (14, bytR T3 (.slice Ap102_14 (T3).length cp102_14)), (15, bytR (xm.take k) (.slice Ap102_15 ((xm.take k)).length cp102_15)), (16, bytR (xm.drop k) (.slice Ap102_16 ((xm.drop k)).length cp102_16)), (17, blkR g104 22 (#[.slice A62 (X0).length c62, (.slice Ap102_13 ((xm.take k)).length cp102_13), (.slice Ap102_14 (T3).length cp102_14), .slice A8 n8 cap8, .slice A78 (Lf).length c78]))] := M110.sub ⟨rfl, rfl, rfl, rfl, rfl, rfl, rfl, rfl, rfl, rfl, rfl, rfl, rfl, rfl, rfl, rfl, rfl, rfl, trivial⟩
   have M123 := N123.part 18 _ (N123.at_ qb123 _ hqb123) z3a rfl hqb123 rfl (fun _ h => h)
   clear M110 N123 hqb123
   obtain ⟨Ab123, cb123, rfl⟩ := (M123.isb (k := 18) rfl).shape
   obtain ⟨qr, hqr⟩ : ∃ x, decOk Lr = x := ⟨_, rfl⟩
   obtain ⟨tr, htr⟩ : ∃ x, decR Lr = x := ⟨_, rfl⟩
   have otr : MsgOk tr := by rw [← htr]; exact (decR_ok _).1
   refine rn rfl rfl F122 rfl (.slice Ab123 Lr.length cb123) (y_ld1 _ _ rfl (F122.get rfl) (M123.blk (k := 17) rfl) (show _ from by rw [Nat.zero_add, Nat.mul_one]; exact hbv123) Try.underlying22 rfl) fun _ F124 => ?_
   refine zd (za rfl) rfl F124 rfl rfl (enters_of Try.func20 (by kernel_rfl) rfl) #[.slice Ab123 Lr.length cb123] (zn (F124.get rfl)) (dec_is Lr (.slice Ab123 Lr.length cb123) (by omega) qr tr hqr htr w110 (M123.isb (k := 18) rfl)) ?_
   rintro _ w125 a125 ⟨V125, rfl, is125, lo125, b125⟩ F125
   have M125 := M123.newMsg b125 is125 lo125 19 20 21 22 23
   clear M123 b125 lo125
   refine exS 3 [(25, .slice (some ⟨g104, 0, none⟩) 5 5), (26, .int .i64 (jn : Int)), (151, .agg (msgA tr V125)), (152, .bool qr)] [] dnil [] F125 (by kernel_rfl) fun _ F126 => ?_
   refine zf (za rfl) rfl F126 rfl M125 24 (t := 29) (c := msgA ⟨0, 0, 0, 0, "".toUTF8, 0, 0, [], [], [], [], []⟩ ⟨zN, zN, zN, zN, zN⟩) (by unfold execOp; kernel_rfl) ?_
   intro g127 a127 w127 F127 M127
   clear F126 M125
   refine zq (za rfl) rfl F127 M127 (k := 24) rfl _ _ _ rfl (F127.get rfl) (F127.get rfl) (msgA tr V125) _ rfl (Nat.le_of_ble_eq_true rfl) (z6 (w := w127) ⟨(M127.isb (k := 19) rfl), (M127.isb (k := 20) rfl), (M127.isb (k := 21) rfl), (M127.isb (k := 22) rfl), (M127.isb (k := 23) rfl)⟩) (zr rfl) (by kernel_rfl) ?_
   intro w128 M128
   clear M127
   refine rm rfl F127 fun _ F129 => ?_
   refine hK119 _ _ (zS fun _ hK130 => ?_)
   refine zR ?_
   refine rm rfl F129 fun _ F131 => ?_
   refine rm rfl F131 fun _ F132 => ?_
   refine rn rfl rfl F132 rfl (.pointer (some ⟨g104, (0 + jn * 1), none⟩)) (y_ixG 41 (s := 1) Try.underlying41 (by kernel_rfl) _ _ rfl (F132.get rfl) (F132.get rfl) rfl (by omega) rfl) fun _ F133 => ?_
   refine rn rfl rfl F133 rfl (.slice Ab123 Lr.length cb123) (y_ld1 _ _ rfl (F133.get rfl) (M128.blk (k := 17) rfl) (show _ from by rw [Nat.zero_add, Nat.mul_one]; exact hbv123) Try.underlying22 rfl) fun _ F134 => ?_
   refine zd (za rfl) rfl F134 rfl rfl (enters_of Try.func23 (by kernel_rfl) rfl) #[.slice Ab123 Lr.length cb123] (zn (F134.get rfl)) (rdec_is Lr (.slice Ab123 Lr.length cb123) (by omega) qr tr hqr htr w128 (M128.isb (k := 18) rfl)) ?_
   rintro _ w135 a135 ⟨V135, rfl, is135, lo135, b135⟩ F135
   have M135 := M128.newMsg b135 is135 lo135 25 26 27 28 29
   clear M128 b135 lo135
   refine exA 3 [(153, .tuple #[.agg (msgA tr V135), .bool qr]), (159, .agg (msgA tr V135)), (160, .bool qr)] [] dnil [] F135 (by kernel_rfl) (by kernel_rfl) fun _ F136 => ?_
   refine zf (za rfl) rfl F136 rfl M135 30 (t := 29) (c := msgA ⟨0, 0, 0, 0, "".toUTF8, 0, 0, [], [], [], [], []⟩ ⟨zN, zN, zN, zN, zN⟩) (by unfold execOp; kernel_rfl) ?_
   intro g137 a137 w137 F137 M137
   clear F136 M135
   refine zq (za rfl) rfl F137 M137 (k := 30) rfl _ _ _ rfl (F137.get rfl) (F137.get rfl) (msgA tr V135) _ rfl (Nat.le_of_ble_eq_true rfl) (z6 (w := w137) ⟨(M137.isb (k := 25) rfl), (M137.isb (k := 26) rfl), (M137.isb (k := 27) rfl), (M137.isb (k := 28) rfl), (M137.isb (k := 29) rfl)⟩) (zr rfl) (by kernel_rfl) ?_
   intro w138 M138
   clear M137
   refine rm rfl F137 fun _ F139 => ?_
   refine hK130 _ _ (zS fun _ hK140 => ?_)
   refine zR ?_
   refine rm rfl F139 fun _ F141 => ?_
   refine rm rfl F141 fun _ F142 => ?_
   cases qr
   ·refine rn rfl rfl F142 rfl (.bool false) (y_neB _ _ rfl (F142.get rfl) (F142.get rfl) rfl) fun _ F143 => ?_
    refine exA 3 [(164, .bool false), (165, .agg (msgA tr V125)), (166, .agg (msgA tr V135))] [0, 1] (zk (M138.blk (k := 24) rfl) (zk (M138.blk (k := 30) rfl) dnil)) [g127, g137] F143 (by kernel_rfl) (by kernel_rfl) fun _ F144 => ?_
    refine zd (zb rfl rfl rfl (F144.get rfl)) rfl F144 rfl rfl (enters_of Try.func21 (by kernel_rfl) rfl) #[.agg (msgA tr V125), .agg (msgA tr V135)] (zga (F144.get rfl) (F144.get rfl)) (zg ((msgs_is tr tr V125 V135 otr otr true (eqM_self tr) w138 ⟨(M138.isb (k := 19) rfl), (M138.isb (k := 20) rfl), (M138.isb (k := 21) rfl), (M138.isb (k := 22) rfl), (M138.isb (k := 23) rfl)⟩ ⟨(M138.isb (k := 25) rfl), (M138.isb (k := 26) rfl), (M138.isb (k := 27) rfl), (M138.isb (k := 28) rfl), (M138.isb (k := 29) rfl)⟩))) ?_
    rintro _ w145 a145 ⟨rfl, b145⟩ F145
    have M145 := M138.step b145
    refine exS 2 [(25, .slice (some ⟨g104, 0, none⟩) 5 5), (26, .int .i64 (jn : Int)), (169, .bool false)] [] dnil [] F145 (by kernel_rfl) fun _ F146 => ?_
    refine hK140 _ _ (wp_cond_false (F146.get rfl) ?_)
    refine wp_skip ?_
    refine hK118 _ _ (zR ?_)
    refine rm rfl F146 fun _ F147 => ?_
    refine rn rfl rfl F147 rfl (.int .i64 ((jn + 1 : Nat) : Int)) (z0 _ _ _ _ rfl (F147.get rfl) rfl (by omega) (by omega)) fun _ F148 => ?_
    refine rm rfl F148 fun _ F149 => ?_
    subst ek110
    exact hK110 _ (jn + 1) _ _ (by omega) ⟨rfl, (by omega)⟩ (F149.sub ⟨rfl, rfl, trivial⟩) (M145.sub ⟨rfl, rfl, rfl, rfl, rfl, rfl, rfl, rfl, rfl, rfl, rfl, rfl, rfl, rfl, rfl, rfl, rfl, rfl, trivial⟩)
   ·refine rn rfl rfl F142 rfl (.bool false) (y_neB _ _ rfl (F142.get rfl) (F142.get rfl) rfl) fun _ F150 => ?_
    refine exA 3 [(164, .bool false), (165, .agg (msgA tr V125)), (166, .agg (msgA tr V135))] [0, 1] (zk (M138.blk (k := 24) rfl) (zk (M138.blk (k := 30) rfl) dnil)) [g127, g137] F150 (by kernel_rfl) (by kernel_rfl) fun _ F151 => ?_
    refine zd (zb rfl rfl rfl (F151.get rfl)) rfl F151 rfl rfl (enters_of Try.func21 (by kernel_rfl) rfl) #[.agg (msgA tr V125), .agg (msgA tr V135)] (zga (F151.get rfl) (F151.get rfl)) (zg ((msgs_is tr tr V125 V135 otr otr true (eqM_self tr) w138 ⟨(M138.isb (k := 19) rfl), (M138.isb (k := 20) rfl), (M138.isb (k := 21) rfl), (M138.isb (k := 22) rfl), (M138.isb (k := 23) rfl)⟩ ⟨(M138.isb (k := 25) rfl), (M138.isb (k := 26) rfl), (M138.isb (k := 27) rfl), (M138.isb (k := 28) rfl), (M138.isb (k := 29) rfl)⟩))) ?_
    rintro _ w152 a152 ⟨rfl, b152⟩ F152
    have M152 := M138.step b152
    refine exS 2 [(25, .slice (some ⟨g104, 0, none⟩) 5 5), (26, .int .i64 (jn : Int)), (169, .bool false)] [] dnil [] F152 (by kernel_rfl) fun _ F153 => ?_
    refine hK140 _ _ (wp_cond_false (F153.get rfl) ?_)
    refine wp_skip ?_
    refine hK118 _ _ (zR ?_)
    refine rm rfl F153 fun _ F154 => ?_
    refine rn rfl rfl F154 rfl (.int .i64 ((jn + 1 : Nat) : Int)) (z0 _ _ _ _ rfl (F154.get rfl) rfl (by omega) (by omega)) fun _ F155 => ?_
    refine rm rfl F155 fun _ F156 => ?_
    subst ek110
    exact hK110 _ (jn + 1) _ _ (by omega) ⟨rfl, (by omega)⟩ (F156.sub ⟨rfl, rfl, trivial⟩) (M152.sub ⟨rfl, rfl, rfl, rfl, rfl, rfl, rfl, rfl, rfl, rfl, rfl, rfl, rfl, rfl, rfl, rfl, rfl, rfl, trivial⟩)
  ·refine rn rfl rfl F115 rfl (.bool false) (zua _ _ _ _ rfl (F115.get rfl) (F115.get rfl) (decide_eq_false h116)) fun _ F157 => ?_
   refine hK112 _ _ (wp_cond_false (F157.get rfl) ?_)
   refine wp_exit ?_
   simp only [Exit.then, Exit.inBlock, ↓reduceIte, Nat.reduceEqDiff]
   refine hK106 _ _ (zS fun _ hK158 => ?_)
   refine zR ?_
   refine rm rfl F157 fun _ F159 => ?_
   refine hK158 _ _ (wp_ret ?_)
   try simp only [Exit.then, Exit.inBlock, Exit.jump]
   exact bodyPost_ret (res1 rfl (F159.get rfl)) F159.defers ⟨rfl, M110.below⟩
 refine zT fun _ hK160 => ?_
 refine rm rfl F64 fun _ F161 => ?_
 refine hK160 _ _ (wp_block ?_)
 refine z4b (α := Nat × List UInt8) (n := 170) (G := none) (w0 := w) (fun x => [(4, .slice A4 n4 cap4), (5, .slice A5 n5 cap5), (6, .int .i64 a6), (7, .slice A7 n7 cap7), (8, .slice A8 n8 cap8), (18, .bool false), (19, .slice A49 (xm).length c49), (22, .int .i64 (x.1 : Int)), (21, .slice A62 (X0).length c62)]) (fun x => [(0, bytR l3 (.slice A3 n3 cap3)), (1, bytR l5 (.slice A5 n5 cap5)), (2, bytR l7 (.slice A7 n7 cap7)), (3, bytR l8 (.slice A8 n8 cap8)), (4, intR A4 n4 x4), (5, bytR m.l5 V48.v5), (6, bytR m.l6 V48.v6), (7, bytR m.l7 V48.v7), (8, bytR m.l8 V48.v8), (9, bytR m.l9 V48.v9), (10, ownR xm (.slice A49 (xm).length c49)), (11, ownR x.2 (.slice A62 (X0).length c62))]) (fun k x => k = (3 - x.1) ∧ (x.1 ≤ 3 ∧ x.2.length = xm.length)) _ ⟨0, X0⟩ ⟨rfl, ⟨Nat.zero_le _, hX0l⟩⟩ (F161.sub ⟨rfl, rfl, rfl, rfl, rfl, rfl, rfl, rfl, rfl, trivial⟩) (M64.sub ⟨rfl, rfl, rfl, rfl, rfl, rfl, rfl, rfl, rfl, rfl, rfl, rfl, trivial⟩) ?_
 clear F161 M64
 rintro k162 ⟨jn, z⟩ a162 w162 K162 ⟨ek162, I162⟩ F162 M162 hK162
 replace F162 : Fx 170 a162 [(4, .slice A4 n4 cap4), (5, .slice A5 n5 cap5), (6, .int .i64 a6), (7, .slice A7 n7 cap7), (8, .slice A8 n8 cap8), (18, .bool false), (19, .slice A49 (xm).length c49), (22, .int .i64 (jn : Int)), (21, .slice A62 (X0).length c62)] := F162
 replace M162 : Mx _ _ w162 [(0, bytR l3 (.slice A3 n3 cap3)), (1, bytR l5 (.slice A5 n5 cap5)), (2, bytR l7 (.slice A7 n7 cap7)), (3, bytR l8 (.slice A8 n8 cap8)), (4, intR A4 n4 x4), (5, bytR m.l5 V48.v5), (6, bytR m.l6 V48.v6), (7, bytR m.l7 V48.v7), (8, bytR m.l8 V48.v8), (9, bytR m.l9 V48.v9), (10, ownR xm (.slice A49 (xm).length c49)), (11, ownR z (.slice A62 (X0).length c62))] := M162
 replace I162 : jn ≤ 3 ∧ z.length = xm.length := I162
 replace ek162 : k162 = (3 - jn) := ek162
 obtain ⟨hj, hzl⟩ := I162
 refine zS fun _ hK163 => zS fun _ hK164 => ?_
 refine zR ?_
 refine rm rfl F162 fun _ F165 => ?_
 refine rm rfl F165 fun _ F166 => ?_
 refine rn rfl rfl F166 rfl (.int .i64 (n4 : Int)) (y_lnG 38 Try.underlying38 _ rfl (F166.get rfl) rfl) fun _ F167 => ?_
 by_cases h168 : (jn : Int) < (n4 : Int)
 rotate_left
 ·refine rn rfl rfl F167 rfl (.bool false) (zua _ _ _ _ rfl (F167.get rfl) (F167.get rfl) (decide_eq_false h168)) fun _ F192 => ?_
  refine exA 10 [(70, .bool false), (71, undef), (72, undef), (73, undef), (74, undef), (75, .bool false), (76, .bool false), (77, undef), (78, undef), (79, .bool false)] [] dnil [] F192 (by kernel_rfl) (by kernel_rfl) fun _ F193 => ?_
  refine hK164 _ _ (wp_cond_false (F193.get rfl) ?_)
  refine wp_exit ?_
  simp only [Exit.then, Exit.inBlock, ↓reduceIte, Nat.reduceEqDiff]
  exact J65 z _ _ hzl (F193.sub ⟨rfl, rfl, rfl, rfl, rfl, rfl, trivial⟩) (M162.sub ⟨rfl, rfl, rfl, rfl, rfl, rfl, rfl, rfl, rfl, rfl, rfl, rfl, trivial⟩)
 refine rn rfl rfl F167 rfl (.bool true) (zua _ _ _ _ rfl (F167.get rfl) (F167.get rfl) (decide_eq_true h168)) fun _ F169 => ?_
 refine rm rfl F169 fun _ F170 => ?_
 refine rm rfl F170 fun _ F171 => ?_
 refine rm rfl F171 fun _ F172 => ?_
 refine ze (w' := w162) (zb rfl rfl rfl (F172.get rfl)) rfl F172 rfl (.int .i64 (l5.length : Int)) (zca _ rfl (F172.get rfl) (M162.isb (k := 1) rfl) rfl) fun _ F173 => ?_
 by_cases h174 : (jn : Int) < (l5.length : Int)
 rotate_left
 ·refine ze (w' := w162) (zb rfl rfl rfl (F173.get rfl)) rfl F173 rfl (.bool false) (zua _ _ _ _ rfl (F173.get rfl) (F173.get rfl) (decide_eq_false h174)) fun _ F190 => ?_
  refine exA 5 [(75, .bool false), (76, .bool false), (77, undef), (78, undef), (79, .bool false)] [] dnil [] F190 (by kernel_rfl) (by kernel_rfl) fun _ F191 => ?_
  refine hK164 _ _ (wp_cond_false (F191.get rfl) ?_)
  refine wp_exit ?_
  simp only [Exit.then, Exit.inBlock, ↓reduceIte, Nat.reduceEqDiff]
  exact J65 z _ _ hzl (F191.sub ⟨rfl, rfl, rfl, rfl, rfl, rfl, trivial⟩) (M162.sub ⟨rfl, rfl, rfl, rfl, rfl, rfl, rfl, rfl, rfl, rfl, rfl, rfl, trivial⟩)
 refine ze (w' := w162) (zb rfl rfl rfl (F173.get rfl)) rfl F173 rfl (.bool true) (zua _ _ _ _ rfl (F173.get rfl) (F173.get rfl) (decide_eq_true h174)) fun _ F175 => ?_
 refine exA 3 [(75, .bool true), (76, .bool true), (77, .int .i64 (jn : Int))] [] dnil [] F175 (by kernel_rfl) (by kernel_rfl) fun _ F176 => ?_
 by_cases h177 : (jn : Int) < 3
 rotate_left
 ·refine ze (w' := w162) (zb rfl rfl rfl (F176.get rfl)) rfl F176 rfl (.bool false) (zua _ _ _ _ rfl (F176.get rfl) rfl (decide_eq_false h177)) fun _ F188 => ?_
  refine rn rfl rfl F188 rfl (.bool false) (z7b rfl (F188.get rfl) (F188.get rfl)) fun _ F189 => ?_
  refine hK164 _ _ (wp_cond_false (F189.get rfl) ?_)
  refine wp_exit ?_
  simp only [Exit.then, Exit.inBlock, ↓reduceIte, Nat.reduceEqDiff]
  exact J65 z _ _ hzl (F189.sub ⟨rfl, rfl, rfl, rfl, rfl, rfl, trivial⟩) (M162.sub ⟨rfl, rfl, rfl, rfl, rfl, rfl, rfl, rfl, rfl, rfl, rfl, rfl, trivial⟩)
 have hxb := hr4.2.1 jn
 obtain ⟨p, hp, hpl⟩ : ∃ p : Nat, (x4 jn) % (z.length : Int) = (p : Int) ∧ p < z.length := in_ex _ (by omega)
 obtain ⟨bz, hbz⟩ : ∃ b, z[p]? = some b := ⟨_, List.getElem?_eq_getElem hpl⟩
 obtain ⟨bj, hbj⟩ : ∃ b, l5[jn]? = some b := ⟨_, List.getElem?_eq_getElem (by omega)⟩
 refine ze (w' := w162) (zb rfl rfl rfl (F176.get rfl)) rfl F176 rfl (.bool true) (zua _ _ _ _ rfl (F176.get rfl) rfl (decide_eq_true h177)) fun _ F178 => ?_
 refine rn rfl rfl F178 rfl (.bool true) (z7b rfl (F178.get rfl) (F178.get rfl)) fun _ F179 => ?_
 refine hK164 _ _ (wp_cond_true (F179.get rfl) ?_)
 refine wp_skip ?_
 refine hK163 _ _ (zS fun _ hK180 => ?_)
 refine wp_block ?_
 refine zwb F179 [fun vE => vE = .slice A62 (X0).length c62, fun vE => vE = .slice A4 n4 cap4, fun vE => vE = .int .i64 (jn : Int), fun vE => vE = (ixV (.slice A4 n4 cap4) jn), fun vE => vE = .int .i64 (x4 jn), fun vE => vE = .slice A62 (X0).length c62, fun vE => vE = .int .i64 (z.length : Int), fun vE => vE = .int .i64 (p : Int), fun vE => vE = (ixV (.slice A62 (X0).length c62) p), fun vE => vE = .int .u8 ((bz.toNat : Nat) : Int), fun vE => vE = .slice A5 n5 cap5, fun vE => vE = .int .i64 (jn : Int), fun vE => vE = (ixV (.slice A5 n5 cap5) jn), fun vE => vE = .int .u8 ((bj.toNat : Nat) : Int)] (JM none w fun SV pV => [(0, bytR l3 (.slice A3 n3 cap3)), (1, bytR l5 (.slice A5 n5 cap5)), (2, bytR l7 (.slice A7 n7 cap7)), (3, bytR l8 (.slice A8 n8 cap8)), (4, intR A4 n4 x4), (5, bytR m.l5 V48.v5), (6, bytR m.l6 V48.v6), (7, bytR m.l7 V48.v7), (8, bytR m.l8 V48.v8), (9, bytR m.l9 V48.v9), (10, ownR xm (.slice A49 (xm).length c49)), (11, ownR z (.slice A62 (X0).length c62))]) 14 rfl (by kernel_rfl) rfl ⟨trivial, trivial, trivial, trivial, trivial, trivial, trivial, trivial, trivial, trivial, trivial, trivial, trivial, trivial, trivial⟩ (fun p => (M162.step (z6a _)).sub ⟨rfl, rfl, rfl, rfl, rfl, rfl, rfl, rfl, rfl, rfl, rfl, rfl, trivial⟩) ⟨?_, ?_, ?_, ?_, ?_, ?_, ?_, ?_, ?_, ?_, ?_, ?_, ?_, ?_, trivial⟩ ?_
 ·intro ua uw SV pV M0 hk hn hd
  have M : Mx none w uw _ := M0
  clear M0
  have e21 : ua.eval (.tmp 21) = .slice A62 (X0).length c62 := (show ua.eval (.tmp 21) = _ from hd 21 (by decide)).trans (F179.get (t := 21) rfl)
  exact zi (za rfl) (.slice A62 (X0).length c62) (zra _ (.inl rfl) e21) rfl (M.sub ⟨rfl, rfl, rfl, rfl, rfl, rfl, rfl, rfl, rfl, rfl, rfl, rfl, trivial⟩)
 ·intro ua uw SV pV M0 hk hn hd
  have M : Mx none w uw _ := M0
  clear M0
  have e4 : ua.eval (.tmp 4) = .slice A4 n4 cap4 := (show ua.eval (.tmp 4) = _ from hd 4 (by decide)).trans (F179.get (t := 4) rfl)
  exact zi (za rfl) (.slice A4 n4 cap4) (zra _ (.inl rfl) e4) rfl (M.sub ⟨rfl, rfl, rfl, rfl, rfl, rfl, rfl, rfl, rfl, rfl, rfl, rfl, trivial⟩)
 ·intro ua uw SV pV M0 hk hn hd
  have M : Mx none w uw _ := M0
  clear M0
  have e22 : ua.eval (.tmp 22) = .int .i64 (jn : Int) := (show ua.eval (.tmp 22) = _ from hd 22 (by decide)).trans (F179.get (t := 22) rfl)
  exact zi (za rfl) (.int .i64 (jn : Int)) (zra _ (.inl rfl) e22) rfl (M.sub ⟨rfl, rfl, rfl, rfl, rfl, rfl, rfl, rfl, rfl, rfl, rfl, rfl, trivial⟩)
 ·intro ua uw SV pV M0 hk hn hd
  have M : Mx none w uw _ := M0
  clear M0
  obtain ⟨s1, f83, q83⟩ := (show SV 1 = true ∧ ua.eval (.tmp 83) = pV 1 ∧ stE _ 1 (pV 1) from hd 83 (by decide))
  have e83 : ua.eval (.tmp 83) = .slice A4 n4 cap4 := f83.trans q83
  obtain ⟨s2, f84, q84⟩ := (show SV 2 = true ∧ ua.eval (.tmp 84) = pV 2 ∧ stE _ 2 (pV 2) from hd 84 (by decide))
  have e84 : ua.eval (.tmp 84) = .int .i64 (jn : Int) := f84.trans q84
  exact zi (za rfl) ((ixV (.slice A4 n4 cap4) jn)) (y_ixJ _ _ rfl e83 (M.rdI (k := 4) rfl) e84 rfl (by omega)) rfl (M.sub ⟨rfl, rfl, rfl, rfl, rfl, rfl, rfl, rfl, rfl, rfl, rfl, rfl, trivial⟩)
 ·intro ua uw SV pV M0 hk hn hd
  have M : Mx none w uw _ := M0
  clear M0
  obtain ⟨s3, f85, q85⟩ := (show SV 3 = true ∧ ua.eval (.tmp 85) = pV 3 ∧ stE _ 3 (pV 3) from hd 85 (by decide))
  have e85 : ua.eval (.tmp 85) = (ixV (.slice A4 n4 cap4) jn) := f85.trans q85
  exact zi (za rfl) (.int .i64 (x4 jn)) (y_ldJ _ rfl e85 (M.rdI (k := 4) rfl) (by omega)) rfl (M.sub ⟨rfl, rfl, rfl, rfl, rfl, rfl, rfl, rfl, rfl, rfl, rfl, rfl, trivial⟩)
 ·intro ua uw SV pV M0 hk hn hd
  have M : Mx none w uw _ := M0
  clear M0
  have e21 : ua.eval (.tmp 21) = .slice A62 (X0).length c62 := (show ua.eval (.tmp 21) = _ from hd 21 (by decide)).trans (F179.get (t := 21) rfl)
  exact zi (za rfl) (.slice A62 (X0).length c62) (zra _ (.inl rfl) e21) rfl (M.sub ⟨rfl, rfl, rfl, rfl, rfl, rfl, rfl, rfl, rfl, rfl, rfl, rfl, trivial⟩)
 ·intro ua uw SV pV M0 hk hn hd
  have M : Mx none w uw _ := M0
  clear M0
  obtain ⟨s5, f87, q87⟩ := (show SV 5 = true ∧ ua.eval (.tmp 87) = pV 5 ∧ stE _ 5 (pV 5) from hd 87 (by decide))
  have e87 : ua.eval (.tmp 87) = .slice A62 (X0).length c62 := f87.trans q87
  exact zi (za rfl) (.int .i64 (z.length : Int)) (zca _ rfl e87 (M.isO (k := 11) rfl) rfl) rfl (M.sub ⟨rfl, rfl, rfl, rfl, rfl, rfl, rfl, rfl, rfl, rfl, rfl, rfl, trivial⟩)
 ·intro ua uw SV pV M0 hk hn hd
  have M : Mx none w uw _ := M0
  clear M0
  obtain ⟨s4, f86, q86⟩ := (show SV 4 = true ∧ ua.eval (.tmp 86) = pV 4 ∧ stE _ 4 (pV 4) from hd 86 (by decide))
  have e86 : ua.eval (.tmp 86) = .int .i64 (x4 jn) := f86.trans q86
  obtain ⟨s6, f88, q88⟩ := (show SV 6 = true ∧ ua.eval (.tmp 88) = pV 6 ∧ stE _ 6 (pV 6) from hd 88 (by decide))
  have e88 : ua.eval (.tmp 88) = .int .i64 (z.length : Int) := f88.trans q88
  exact hopM_call (za rfl) rfl #[.int .i64 (x4 jn), .int .i64 (z.length : Int)] (zga e86 e88) (enters_of Try.func22 (by kernel_rfl) rfl) (((same_eq ((hp ▸ zl (x4 jn) (z.length : Int) (by omega) (by omega) (by omega) (by omega) uw)))).mono fun e w2 h => ⟨_, h.1, rfl, (M.step h.2).sub ⟨rfl, rfl, rfl, rfl, rfl, rfl, rfl, rfl, rfl, rfl, rfl, rfl, trivial⟩⟩)
 ·intro ua uw SV pV M0 hk hn hd
  have M : Mx none w uw _ := M0
  clear M0
  obtain ⟨s0, f82, q82⟩ := (show SV 0 = true ∧ ua.eval (.tmp 82) = pV 0 ∧ stE _ 0 (pV 0) from hd 82 (by decide))
  have e82 : ua.eval (.tmp 82) = .slice A62 (X0).length c62 := f82.trans q82
  obtain ⟨s7, f89, q89⟩ := (show SV 7 = true ∧ ua.eval (.tmp 89) = pV 7 ∧ stE _ 7 (pV 7) from hd 89 (by decide))
  have e89 : ua.eval (.tmp 89) = .int .i64 (p : Int) := f89.trans q89
  exact zi (za rfl) ((ixV (.slice A62 (X0).length c62) p)) (zmb _ _ rfl e82 (M.isO (k := 11) rfl) e89 rfl hpl) rfl (M.sub ⟨rfl, rfl, rfl, rfl, rfl, rfl, rfl, rfl, rfl, rfl, rfl, rfl, trivial⟩)
 ·intro ua uw SV pV M0 hk hn hd
  have M : Mx none w uw _ := M0
  clear M0
  obtain ⟨s8, f90, q90⟩ := (show SV 8 = true ∧ ua.eval (.tmp 90) = pV 8 ∧ stE _ 8 (pV 8) from hd 90 (by decide))
  have e90 : ua.eval (.tmp 90) = (ixV (.slice A62 (X0).length c62) p) := f90.trans q90
  exact zi (za rfl) (.int .u8 ((bz.toNat : Nat) : Int)) (y_ldB _ rfl e90 (M.isO (k := 11) rfl) hbz rfl) rfl (M.sub ⟨rfl, rfl, rfl, rfl, rfl, rfl, rfl, rfl, rfl, rfl, rfl, rfl, trivial⟩)
 ·intro ua uw SV pV M0 hk hn hd
  have M : Mx none w uw _ := M0
  clear M0
  have e5 : ua.eval (.tmp 5) = .slice A5 n5 cap5 := (show ua.eval (.tmp 5) = _ from hd 5 (by decide)).trans (F179.get (t := 5) rfl)
  exact zi (za rfl) (.slice A5 n5 cap5) (zra _ (.inl rfl) e5) rfl (M.sub ⟨rfl, rfl, rfl, rfl, rfl, rfl, rfl, rfl, rfl, rfl, rfl, rfl, trivial⟩)
 ·intro ua uw SV pV M0 hk hn hd
  have M : Mx none w uw _ := M0
  clear M0
  have e22 : ua.eval (.tmp 22) = .int .i64 (jn : Int) := (show ua.eval (.tmp 22) = _ from hd 22 (by decide)).trans (F179.get (t := 22) rfl)
  exact zi (za rfl) (.int .i64 (jn : Int)) (zra _ (.inl rfl) e22) rfl (M.sub ⟨rfl, rfl, rfl, rfl, rfl, rfl, rfl, rfl, rfl, rfl, rfl, rfl, trivial⟩)
 ·intro ua uw SV pV M0 hk hn hd
  have M : Mx none w uw _ := M0
  clear M0
  obtain ⟨s10, f92, q92⟩ := (show SV 10 = true ∧ ua.eval (.tmp 92) = pV 10 ∧ stE _ 10 (pV 10) from hd 92 (by decide))
  have e92 : ua.eval (.tmp 92) = .slice A5 n5 cap5 := f92.trans q92
  obtain ⟨s11, f93, q93⟩ := (show SV 11 = true ∧ ua.eval (.tmp 93) = pV 11 ∧ stE _ 11 (pV 11) from hd 93 (by decide))
  have e93 : ua.eval (.tmp 93) = .int .i64 (jn : Int) := f93.trans q93
  exact zi (za rfl) ((ixV (.slice A5 n5 cap5) jn)) (zmb _ _ rfl e92 (M.isb (k := 1) rfl) e93 rfl (by omega)) rfl (M.sub ⟨rfl, rfl, rfl, rfl, rfl, rfl, rfl, rfl, rfl, rfl, rfl, rfl, trivial⟩)
 ·intro ua uw SV pV M0 hk hn hd
  have M : Mx none w uw _ := M0
  clear M0
  obtain ⟨s12, f94, q94⟩ := (show SV 12 = true ∧ ua.eval (.tmp 94) = pV 12 ∧ stE _ 12 (pV 12) from hd 94 (by decide))
  have e94 : ua.eval (.tmp 94) = (ixV (.slice A5 n5 cap5) jn) := f94.trans q94
  exact zi (za rfl) (.int .u8 ((bj.toNat : Nat) : Int)) (y_ldB _ rfl e94 (M.isb (k := 1) rfl) hbj rfl) rfl (M.sub ⟨rfl, rfl, rfl, rfl, rfl, rfl, rfl, rfl, rfl, rfl, rfl, rfl, trivial⟩)
 intro p181 a181 w181 M181 G181 y181
 obtain ⟨q0, -, -, -, -, -, -, q7, -, q9, -, -, -, q13, -⟩ := y181
 have r0 : p181 0 = .slice A62 (X0).length c62 := q0
 have r7 : p181 7 = .int .i64 (p : Int) := q7
 have r9 : p181 9 = .int .u8 ((bz.toNat : Nat) : Int) := q9
 have r13 : p181 13 = .int .u8 ((bj.toNat : Nat) : Int) := q13
 replace M181 : Mx _ _ w181 [(0, bytR l3 (.slice A3 n3 cap3)), (1, bytR l5 (.slice A5 n5 cap5)), (2, bytR l7 (.slice A7 n7 cap7)), (3, bytR l8 (.slice A8 n8 cap8)), (4, intR A4 n4 x4), (5, bytR m.l5 V48.v5), (6, bytR m.l6 V48.v6), (7, bytR m.l7 V48.v7), (8, bytR m.l8 V48.v8), (9, bytR m.l9 V48.v9), (10, ownR xm (.slice A49 (xm).length c49)), (11, ownR z (.slice A62 (X0).length c62))] := M181
 simp only [List.take_succ_cons, List.take_zero, layV, Nat.zero_add, Nat.reduceAdd, r0, r7, r9, r13] at G181
 refine rn rfl rfl G181 rfl (.int .u8 (((zu (((bz.toNat : Nat) : Int) + ((bj.toNat : Nat) : Int))).toNat : Nat) : Int)) (y_addU8 _ _ _ _ rfl (G181.get rfl) (G181.get rfl)) fun _ F182 => ?_
 refine rn rfl rfl F182 rfl ((ixV (.slice A62 (X0).length c62) p)) (zmb _ _ rfl (F182.get rfl) (M181.isO (k := 11) rfl) (F182.get rfl) rfl hpl) fun _ F183 => ?_
 refine wl_doM (za rfl) rfl F183 (run_setO M181 (k := 11) rfl _ _ rfl (F183.get rfl) (zu (((bz.toNat : Nat) : Int) + ((bj.toNat : Nat) : Int))) (F183.get rfl) rfl (by first | omega | (simp only [List.length_set]; omega))) ?_
 intro w184 M184
 clear M181
 refine hK180 _ _ (zR ?_)
 refine rm rfl F183 fun _ F185 => ?_
 refine rn rfl rfl F185 rfl (.int .i64 ((jn + 1 : Nat) : Int)) (z0 _ _ _ _ rfl (F185.get rfl) rfl (by omega) (by omega)) fun _ F186 => ?_
 refine rm rfl F186 fun _ F187 => ?_
 subst ek162
 exact hK162 _ ⟨(jn + 1), (z.set p (zu (((bz.toNat : Nat) : Int) + ((bj.toNat : Nat) : Int))))⟩ _ _ (by dsimp only; omega) ⟨rfl, ⟨by dsimp only; omega, by dsimp only; (try simp only [List.length_set]); exact hzl⟩⟩ (F187.sub ⟨rfl, rfl, rfl, rfl, rfl, rfl, rfl, rfl, rfl, trivial⟩) (M184.sub ⟨rfl, rfl, rfl, rfl, rfl, rfl, rfl, rfl, rfl, rfl, rfl, rfl, trivial⟩)
end Go.Proofs.Ytlbkogdmojlpmaa
