/- What WireLong stands on, part 12. -/
import Derived.Test.YtlbkogdmojlpmaaWireLongP1
import Derived.Test.YtlbkogdmojlpmaaWireLongP2
import Derived.Test.YtlbkogdmojlpmaaWireLongP3
import Derived.Test.YtlbkogdmojlpmaaWireLongP4
import Derived.Test.YtlbkogdmojlpmaaWireLongP5
import Derived.Test.YtlbkogdmojlpmaaWireLongP6
import Derived.Test.YtlbkogdmojlpmaaWireLongP7
import Derived.Test.YtlbkogdmojlpmaaWireLongP8
import Derived.Test.YtlbkogdmojlpmaaWireLongP9
import Derived.Test.YtlbkogdmojlpmaaWireLongP10
import Derived.Test.YtlbkogdmojlpmaaWireLongP11
namespace Go.Proofs.Ytlbkogdmojlpmaa
set_option linter.unusedVariables false
set_option maxRecDepth 20000
set_option linter.unusedSimpArgs false
open Go.ChangeShapes Go.WideShapes Go.ChangeAt Go.RowKit
theorem str_eqsT {s t : ByteArray} (h : s = t) : decide (s.toList = t.toList) = true := by subst h; exact decide_eq_true rfl
theorem str_eqsF {s t : ByteArray} (h : ¬ s = t) : decide (s.toList = t.toList) = false := decide_eq_false fun e => h (by
  rw [ByteArray.toList_eq, ByteArray.toList_eq] at e
  cases s; cases t
  congr 1
  exact Array.toList_inj.1 e)
noncomputable def eqM (m m2 : MsgN) : Bool := decide (m.k = m2.k) && decide (m.p = m2.p) && decide (m.c = m2.c) && decide (m.e = m2.e) && @decide (m.s = m2.s) (Classical.propDecidable _) && decide (m.a = m2.a) && decide (m.b = m2.b) && decide (m.l5 = m2.l5) && decide (m.l6 = m2.l6) && decide (m.l7 = m2.l7) && decide (m.l8 = m2.l8) && decide (m.l9 = m2.l9)
theorem eqM_iff (m m2 : MsgN) : eqM m m2 = true ↔ m = m2 := by
  unfold eqM
  simp only [Bool.and_eq_true, decide_eq_true_eq]
  constructor
  · rintro ⟨⟨⟨⟨⟨⟨⟨⟨⟨⟨⟨h1, h2⟩, h3⟩, h4⟩, h5⟩, h6⟩, h7⟩, h8⟩, h9⟩, h10⟩, h11⟩, h12⟩
    cases m; cases m2
    simp_all
  · rintro rfl; simp
theorem eqM_self (m : MsgN) : eqM m m = true := (eqM_iff m m).2 rfl
set_option maxRecDepth 100000 in
set_option maxHeartbeats 8000000 in
theorem msgs_any (m m2 : MsgN) (V V2 : MsgV) (ho : MsgOk m) (ho2 : MsgOk m2) (w : World) (hm : MsgIs w m V) (hm2 : MsgIs w m2 V2) :
    Calls Try.prog 21 #[.agg (msgA m V), .agg (msgA m2 V2)] w fun e w' => e = .returned (.bool (eqM m m2)) ∧ Below w.heap.size w w' := by
  refine calls_fx (args := [.agg (msgA m V), .agg (msgA m2 V2)]) 97 Try.func21 rfl rfl rfl ?_
  intro fa F
  have M := Mx.start w
  replace M := M.argB 0 hm.h5 (fun g e => by cases e)
  replace M := M.argB 1 hm.h6 (fun g e => by cases e)
  replace M := M.argB 2 hm.h7 (fun g e => by cases e)
  replace M := M.argB 3 hm.h8 (fun g e => by cases e)
  replace M := M.argB 4 hm.h9 (fun g e => by cases e)
  replace M := M.argB 5 hm2.h5 (fun g e => by cases e)
  replace M := M.argB 6 hm2.h6 (fun g e => by cases e)
  replace M := M.argB 7 hm2.h7 (fun g e => by cases e)
  replace M := M.argB 8 hm2.h8 (fun g e => by cases e)
  replace M := M.argB 9 hm2.h9 (fun g e => by cases e)
  refine wp_seq_k fun K1 hK1 => wp_region_lit ?_
  refine wl_alloc (wanted_none rfl) rfl F rfl M 10 (t := 29) (c := msgA m V) (by unfold execOp; simp only [(F.get (t := 0) rfl)]; kernel_rfl) ?_
  intro g2 a2 w2 F2 M2
  clear F M
  refine wl_alloc (wanted_none rfl) rfl F2 rfl M2 11 (t := 29) (c := msgA m2 V2) (by unfold execOp; simp only [(F2.get (t := 1) rfl)]; kernel_rfl) ?_
  intro g3 a3 w3 F3 M3
  clear F2 M2
  refine rm rfl F3 fun a4 F4 => ?_
  refine hK1 _ _ (wp_seq_k fun K5 hK5 => ?_)
  simp only [List.append_eq, List.cons_append, List.nil_append]
  refine wp_region_lit ?_
  refine exS 4 [(2, .pointer (some ⟨g2, 0, none⟩)), (3, .pointer (some ⟨g3, 0, none⟩)), (4, .bool false), (6, .int .i64 m.k), (8, .int .i64 m2.k)] [0, 1] (dcons (M3.blk (k := 10) rfl) (dcons (M3.blk (k := 11) rfl) dnil)) [g2, g3] F4 (by kernel_rfl) fun a6 F6 => ?_
  simp only [List.drop_succ_cons, List.drop_zero]
  by_cases h7 : m.k = m2.k
  rotate_left
  · refine rn rfl rfl F6 rfl (.bool false) (y_eqI _ _ _ _ rfl (F6.get rfl) (F6.get rfl) Try.underlying3 (y_beqF h7)) fun a80 F80 => ?_
    refine exS 88 [(4, .bool false)] [] dnil [] F80 (by kernel_rfl) fun a81 F81 => ?_
    simp only [List.drop_succ_cons, List.drop_zero]
    refine hK5 _ _ (wp_ret ?_)
    try simp only [Exit.then, Exit.inBlock, Exit.jump]
    exact bodyPost_ret (res1 rfl (F81.get (t := 4) rfl)) F81.defers ⟨by rw [show eqM m m2 = false from by unfold eqM; simp [h7]], M3.below⟩
  refine rn rfl rfl F6 rfl (.bool true) (y_eqI _ _ _ _ rfl (F6.get rfl) (F6.get rfl) Try.underlying3 (y_beqT h7)) fun a8 F8 => ?_
  refine exS 5 [(2, .pointer (some ⟨g2, 0, none⟩)), (3, .pointer (some ⟨g3, 0, none⟩)), (4, .bool false), (10, .bool true), (12, .int .i64 m.p), (14, .int .i64 m2.p)] [0, 1] (dcons (M3.blk (k := 10) rfl) (dcons (M3.blk (k := 11) rfl) dnil)) [g2, g3] F8 (by kernel_rfl) fun a9 F9 => ?_
  simp only [List.drop_succ_cons, List.drop_zero]
  by_cases h10 : m.p = m2.p
  rotate_left
  · refine wl_run (w' := w3) (wanted_yes rfl rfl rfl (F9.get rfl)) rfl F9 rfl (.bool false) (y_eqI _ _ _ _ rfl (F9.get rfl) (F9.get rfl) Try.underlying3 (y_beqF h10)) fun a78 F78 => ?_
    refine exS 82 [(4, .bool false)] [] dnil [] F78 (by kernel_rfl) fun a79 F79 => ?_
    simp only [List.drop_succ_cons, List.drop_zero]
    refine hK5 _ _ (wp_ret ?_)
    try simp only [Exit.then, Exit.inBlock, Exit.jump]
    exact bodyPost_ret (res1 rfl (F79.get (t := 4) rfl)) F79.defers ⟨by rw [show eqM m m2 = false from by unfold eqM; simp [h7, h10]], M3.below⟩
  refine wl_run (w' := w3) (wanted_yes rfl rfl rfl (F9.get rfl)) rfl F9 rfl (.bool true) (y_eqI _ _ _ _ rfl (F9.get rfl) (F9.get rfl) Try.underlying3 (y_beqT h10)) fun a11 F11 => ?_
  refine exS 6 [(2, .pointer (some ⟨g2, 0, none⟩)), (3, .pointer (some ⟨g3, 0, none⟩)), (4, .bool false), (17, .bool true), (19, .int .i64 m.c), (21, .int .i64 m2.c)] [0, 1] (dcons (M3.blk (k := 10) rfl) (dcons (M3.blk (k := 11) rfl) dnil)) [g2, g3] F11 (by kernel_rfl) fun a12 F12 => ?_
  simp only [List.drop_succ_cons, List.drop_zero]
  by_cases h13 : m.c = m2.c
  rotate_left
  · refine wl_run (w' := w3) (wanted_yes rfl rfl rfl (F12.get rfl)) rfl F12 rfl (.bool false) (y_eqI _ _ _ _ rfl (F12.get rfl) (F12.get rfl) Try.underlying3 (y_beqF h13)) fun a76 F76 => ?_
    refine exS 75 [(4, .bool false)] [] dnil [] F76 (by kernel_rfl) fun a77 F77 => ?_
    simp only [List.drop_succ_cons, List.drop_zero]
    refine hK5 _ _ (wp_ret ?_)
    try simp only [Exit.then, Exit.inBlock, Exit.jump]
    exact bodyPost_ret (res1 rfl (F77.get (t := 4) rfl)) F77.defers ⟨by rw [show eqM m m2 = false from by unfold eqM; simp [h7, h10, h13]], M3.below⟩
  refine wl_run (w' := w3) (wanted_yes rfl rfl rfl (F12.get rfl)) rfl F12 rfl (.bool true) (y_eqI _ _ _ _ rfl (F12.get rfl) (F12.get rfl) Try.underlying3 (y_beqT h13)) fun a14 F14 => ?_
  refine exS 6 [(2, .pointer (some ⟨g2, 0, none⟩)), (3, .pointer (some ⟨g3, 0, none⟩)), (4, .bool false), (24, .bool true), (26, .int .i64 m.e), (28, .int .i64 m2.e)] [0, 1] (dcons (M3.blk (k := 10) rfl) (dcons (M3.blk (k := 11) rfl) dnil)) [g2, g3] F14 (by kernel_rfl) fun a15 F15 => ?_
  simp only [List.drop_succ_cons, List.drop_zero]
  by_cases h16 : m.e = m2.e
  rotate_left
  · refine wl_run (w' := w3) (wanted_yes rfl rfl rfl (F15.get rfl)) rfl F15 rfl (.bool false) (y_eqI _ _ _ _ rfl (F15.get rfl) (F15.get rfl) Try.underlying24 (y_beqF h16)) fun a74 F74 => ?_
    refine exS 68 [(4, .bool false)] [] dnil [] F74 (by kernel_rfl) fun a75 F75 => ?_
    simp only [List.drop_succ_cons, List.drop_zero]
    refine hK5 _ _ (wp_ret ?_)
    try simp only [Exit.then, Exit.inBlock, Exit.jump]
    exact bodyPost_ret (res1 rfl (F75.get (t := 4) rfl)) F75.defers ⟨by rw [show eqM m m2 = false from by unfold eqM; simp [h7, h10, h13, h16]], M3.below⟩
  refine wl_run (w' := w3) (wanted_yes rfl rfl rfl (F15.get rfl)) rfl F15 rfl (.bool true) (y_eqI _ _ _ _ rfl (F15.get rfl) (F15.get rfl) Try.underlying24 (y_beqT h16)) fun a17 F17 => ?_
  refine exS 6 [(2, .pointer (some ⟨g2, 0, none⟩)), (3, .pointer (some ⟨g3, 0, none⟩)), (4, .bool false), (31, .bool true), (33, .string m.s), (35, .string m2.s)] [0, 1] (dcons (M3.blk (k := 10) rfl) (dcons (M3.blk (k := 11) rfl) dnil)) [g2, g3] F17 (by kernel_rfl) fun a18 F18 => ?_
  simp only [List.drop_succ_cons, List.drop_zero]
  by_cases h19 : m.s = m2.s
  rotate_left
  · refine wl_run (w' := w3) (wanted_yes rfl rfl rfl (F18.get rfl)) rfl F18 rfl (.bool false) (y_eqS _ _ _ rfl (F18.get rfl) (F18.get rfl) (str_eqsF h19)) fun a72 F72 => ?_
    refine exS 61 [(4, .bool false)] [] dnil [] F72 (by kernel_rfl) fun a73 F73 => ?_
    simp only [List.drop_succ_cons, List.drop_zero]
    refine hK5 _ _ (wp_ret ?_)
    try simp only [Exit.then, Exit.inBlock, Exit.jump]
    exact bodyPost_ret (res1 rfl (F73.get (t := 4) rfl)) F73.defers ⟨by rw [show eqM m m2 = false from by unfold eqM; simp [h7, h10, h13, h16, h19]], M3.below⟩
  refine wl_run (w' := w3) (wanted_yes rfl rfl rfl (F18.get rfl)) rfl F18 rfl (.bool true) (y_eqS _ _ _ rfl (F18.get rfl) (F18.get rfl) (str_eqsT h19)) fun a20 F20 => ?_
  refine exS 6 [(2, .pointer (some ⟨g2, 0, none⟩)), (3, .pointer (some ⟨g3, 0, none⟩)), (4, .bool false), (38, .bool true), (40, numV m.a), (42, numV m2.a)] [0, 1] (dcons (M3.blk (k := 10) rfl) (dcons (M3.blk (k := 11) rfl) dnil)) [g2, g3] F20 (by kernel_rfl) fun a21 F21 => ?_
  simp only [List.drop_succ_cons, List.drop_zero]
  by_cases h22 : m.a = m2.a
  rotate_left
  · refine wl_run (w' := w3) (wanted_yes rfl rfl rfl (F21.get rfl)) rfl F21 rfl (.bool false) (y_eqA _ _ _ _ rfl (F21.get rfl) (F21.get rfl) (by kernel_rfl) (eqn_diff ho.a ho2.a h22 _)) fun a70 F70 => ?_
    refine exS 54 [(4, .bool false)] [] dnil [] F70 (by kernel_rfl) fun a71 F71 => ?_
    simp only [List.drop_succ_cons, List.drop_zero]
    refine hK5 _ _ (wp_ret ?_)
    try simp only [Exit.then, Exit.inBlock, Exit.jump]
    exact bodyPost_ret (res1 rfl (F71.get (t := 4) rfl)) F71.defers ⟨by rw [show eqM m m2 = false from by unfold eqM; simp [h7, h10, h13, h16, h19, h22]], M3.below⟩
  refine wl_run (w' := w3) (wanted_yes rfl rfl rfl (F21.get rfl)) rfl F21 rfl (.bool true) (y_eqA _ _ _ _ rfl (F21.get rfl) (F21.get rfl) (by kernel_rfl) (by rw [h22]; exact eqn_same _ _)) fun a23 F23 => ?_
  refine exS 6 [(2, .pointer (some ⟨g2, 0, none⟩)), (3, .pointer (some ⟨g3, 0, none⟩)), (4, .bool false), (45, .bool true), (47, numV m.b), (49, numV m2.b)] [0, 1] (dcons (M3.blk (k := 10) rfl) (dcons (M3.blk (k := 11) rfl) dnil)) [g2, g3] F23 (by kernel_rfl) fun a24 F24 => ?_
  simp only [List.drop_succ_cons, List.drop_zero]
  by_cases h25 : m.b = m2.b
  rotate_left
  · refine wl_run (w' := w3) (wanted_yes rfl rfl rfl (F24.get rfl)) rfl F24 rfl (.bool false) (y_eqA _ _ _ _ rfl (F24.get rfl) (F24.get rfl) (by kernel_rfl) (eqn_diff ho.b ho2.b h25 _)) fun a68 F68 => ?_
    refine exS 47 [(4, .bool false)] [] dnil [] F68 (by kernel_rfl) fun a69 F69 => ?_
    simp only [List.drop_succ_cons, List.drop_zero]
    refine hK5 _ _ (wp_ret ?_)
    try simp only [Exit.then, Exit.inBlock, Exit.jump]
    exact bodyPost_ret (res1 rfl (F69.get (t := 4) rfl)) F69.defers ⟨by rw [show eqM m m2 = false from by unfold eqM; simp [h7, h10, h13, h16, h19, h22, h25]], M3.below⟩
  refine wl_run (w' := w3) (wanted_yes rfl rfl rfl (F24.get rfl)) rfl F24 rfl (.bool true) (y_eqA _ _ _ _ rfl (F24.get rfl) (F24.get rfl) (by kernel_rfl) (by rw [h25]; exact eqn_same _ _)) fun a26 F26 => ?_
  refine exS 4 [(2, .pointer (some ⟨g2, 0, none⟩)), (3, .pointer (some ⟨g3, 0, none⟩)), (4, .bool false), (52, .bool true), (54, V.v5)] [0] (dcons (M3.blk (k := 10) rfl) dnil) [g2] F26 (by kernel_rfl) fun a27 F27 => ?_
  simp only [List.drop_succ_cons, List.drop_zero]
  refine wl_run (w' := w3) (wanted_yes rfl rfl rfl (F27.get rfl)) rfl F27 rfl (.string (⟨(m.l5).toArray⟩)) (y_str _ rfl (F27.get rfl) (M3.isb (k := 0) rfl)) fun a28 F28 => ?_
  refine exA 2 [(56, .pointer (some ⟨g3, 21, none⟩)), (57, V2.v5)] [0] (dcons (M3.blk (k := 11) rfl) dnil) [g3] F28 (by kernel_rfl) (by kernel_rfl) fun a29 F29 => ?_
  simp only [List.drop_succ_cons, List.drop_zero]
  refine wl_run (w' := w3) (wanted_yes rfl rfl rfl (F29.get rfl)) rfl F29 rfl (.string (⟨(m2.l5).toArray⟩)) (y_str _ rfl (F29.get rfl) (M3.isb (k := 5) rfl)) fun a30 F30 => ?_
  by_cases h31 : m.l5 = m2.l5
  rotate_left
  · refine wl_run (w' := w3) (wanted_yes rfl rfl rfl (F30.get rfl)) rfl F30 rfl (.bool false) (y_eqS _ _ _ rfl (F30.get rfl) (F30.get rfl) (str_ne h31)) fun a66 F66 => ?_
    refine exS 38 [(4, .bool false)] [] dnil [] F66 (by kernel_rfl) fun a67 F67 => ?_
    simp only [List.drop_succ_cons, List.drop_zero]
    refine hK5 _ _ (wp_ret ?_)
    try simp only [Exit.then, Exit.inBlock, Exit.jump]
    exact bodyPost_ret (res1 rfl (F67.get (t := 4) rfl)) F67.defers ⟨by rw [show eqM m m2 = false from by unfold eqM; simp [h7, h10, h13, h16, h19, h22, h25, h31]], M3.below⟩
  refine wl_run (w' := w3) (wanted_yes rfl rfl rfl (F30.get rfl)) rfl F30 rfl (.bool true) (y_eqS _ _ _ rfl (F30.get rfl) (F30.get rfl) (str_eq h31)) fun a32 F32 => ?_
  refine exS 4 [(2, .pointer (some ⟨g2, 0, none⟩)), (3, .pointer (some ⟨g3, 0, none⟩)), (4, .bool false), (61, .bool true), (63, V.v6)] [0] (dcons (M3.blk (k := 10) rfl) dnil) [g2] F32 (by kernel_rfl) fun a33 F33 => ?_
  simp only [List.drop_succ_cons, List.drop_zero]
  refine wl_run (w' := w3) (wanted_yes rfl rfl rfl (F33.get rfl)) rfl F33 rfl (.string (⟨(m.l6).toArray⟩)) (y_str _ rfl (F33.get rfl) (M3.isb (k := 1) rfl)) fun a34 F34 => ?_
  refine exA 2 [(65, .pointer (some ⟨g3, 22, none⟩)), (66, V2.v6)] [0] (dcons (M3.blk (k := 11) rfl) dnil) [g3] F34 (by kernel_rfl) (by kernel_rfl) fun a35 F35 => ?_
  simp only [List.drop_succ_cons, List.drop_zero]
  refine wl_run (w' := w3) (wanted_yes rfl rfl rfl (F35.get rfl)) rfl F35 rfl (.string (⟨(m2.l6).toArray⟩)) (y_str _ rfl (F35.get rfl) (M3.isb (k := 6) rfl)) fun a36 F36 => ?_
  by_cases h37 : m.l6 = m2.l6
  rotate_left
  · refine wl_run (w' := w3) (wanted_yes rfl rfl rfl (F36.get rfl)) rfl F36 rfl (.bool false) (y_eqS _ _ _ rfl (F36.get rfl) (F36.get rfl) (str_ne h37)) fun a64 F64 => ?_
    refine exS 29 [(4, .bool false)] [] dnil [] F64 (by kernel_rfl) fun a65 F65 => ?_
    simp only [List.drop_succ_cons, List.drop_zero]
    refine hK5 _ _ (wp_ret ?_)
    try simp only [Exit.then, Exit.inBlock, Exit.jump]
    exact bodyPost_ret (res1 rfl (F65.get (t := 4) rfl)) F65.defers ⟨by rw [show eqM m m2 = false from by unfold eqM; simp [h7, h10, h13, h16, h19, h22, h25, h31, h37]], M3.below⟩
  refine wl_run (w' := w3) (wanted_yes rfl rfl rfl (F36.get rfl)) rfl F36 rfl (.bool true) (y_eqS _ _ _ rfl (F36.get rfl) (F36.get rfl) (str_eq h37)) fun a38 F38 => ?_
  refine exS 4 [(2, .pointer (some ⟨g2, 0, none⟩)), (3, .pointer (some ⟨g3, 0, none⟩)), (4, .bool false), (70, .bool true), (72, V.v7)] [0] (dcons (M3.blk (k := 10) rfl) dnil) [g2] F38 (by kernel_rfl) fun a39 F39 => ?_
  simp only [List.drop_succ_cons, List.drop_zero]
  refine wl_run (w' := w3) (wanted_yes rfl rfl rfl (F39.get rfl)) rfl F39 rfl (.string (⟨(m.l7).toArray⟩)) (y_str _ rfl (F39.get rfl) (M3.isb (k := 2) rfl)) fun a40 F40 => ?_
  refine exA 2 [(74, .pointer (some ⟨g3, 23, none⟩)), (75, V2.v7)] [0] (dcons (M3.blk (k := 11) rfl) dnil) [g3] F40 (by kernel_rfl) (by kernel_rfl) fun a41 F41 => ?_
  simp only [List.drop_succ_cons, List.drop_zero]
  refine wl_run (w' := w3) (wanted_yes rfl rfl rfl (F41.get rfl)) rfl F41 rfl (.string (⟨(m2.l7).toArray⟩)) (y_str _ rfl (F41.get rfl) (M3.isb (k := 7) rfl)) fun a42 F42 => ?_
  by_cases h43 : m.l7 = m2.l7
  rotate_left
  · refine wl_run (w' := w3) (wanted_yes rfl rfl rfl (F42.get rfl)) rfl F42 rfl (.bool false) (y_eqS _ _ _ rfl (F42.get rfl) (F42.get rfl) (str_ne h43)) fun a62 F62 => ?_
    refine exS 20 [(4, .bool false)] [] dnil [] F62 (by kernel_rfl) fun a63 F63 => ?_
    simp only [List.drop_succ_cons, List.drop_zero]
    refine hK5 _ _ (wp_ret ?_)
    try simp only [Exit.then, Exit.inBlock, Exit.jump]
    exact bodyPost_ret (res1 rfl (F63.get (t := 4) rfl)) F63.defers ⟨by rw [show eqM m m2 = false from by unfold eqM; simp [h7, h10, h13, h16, h19, h22, h25, h31, h37, h43]], M3.below⟩
  refine wl_run (w' := w3) (wanted_yes rfl rfl rfl (F42.get rfl)) rfl F42 rfl (.bool true) (y_eqS _ _ _ rfl (F42.get rfl) (F42.get rfl) (str_eq h43)) fun a44 F44 => ?_
  refine exS 4 [(2, .pointer (some ⟨g2, 0, none⟩)), (3, .pointer (some ⟨g3, 0, none⟩)), (4, .bool false), (79, .bool true), (81, V.v8)] [0] (dcons (M3.blk (k := 10) rfl) dnil) [g2] F44 (by kernel_rfl) fun a45 F45 => ?_
  simp only [List.drop_succ_cons, List.drop_zero]
  refine wl_run (w' := w3) (wanted_yes rfl rfl rfl (F45.get rfl)) rfl F45 rfl (.string (⟨(m.l8).toArray⟩)) (y_str _ rfl (F45.get rfl) (M3.isb (k := 3) rfl)) fun a46 F46 => ?_
  refine exA 2 [(83, .pointer (some ⟨g3, 24, none⟩)), (84, V2.v8)] [0] (dcons (M3.blk (k := 11) rfl) dnil) [g3] F46 (by kernel_rfl) (by kernel_rfl) fun a47 F47 => ?_
  simp only [List.drop_succ_cons, List.drop_zero]
  refine wl_run (w' := w3) (wanted_yes rfl rfl rfl (F47.get rfl)) rfl F47 rfl (.string (⟨(m2.l8).toArray⟩)) (y_str _ rfl (F47.get rfl) (M3.isb (k := 8) rfl)) fun a48 F48 => ?_
  by_cases h49 : m.l8 = m2.l8
  rotate_left
  · refine wl_run (w' := w3) (wanted_yes rfl rfl rfl (F48.get rfl)) rfl F48 rfl (.bool false) (y_eqS _ _ _ rfl (F48.get rfl) (F48.get rfl) (str_ne h49)) fun a60 F60 => ?_
    refine exS 11 [(4, .bool false)] [] dnil [] F60 (by kernel_rfl) fun a61 F61 => ?_
    simp only [List.drop_succ_cons, List.drop_zero]
    refine hK5 _ _ (wp_ret ?_)
    try simp only [Exit.then, Exit.inBlock, Exit.jump]
    exact bodyPost_ret (res1 rfl (F61.get (t := 4) rfl)) F61.defers ⟨by rw [show eqM m m2 = false from by unfold eqM; simp [h7, h10, h13, h16, h19, h22, h25, h31, h37, h43, h49]], M3.below⟩
  refine wl_run (w' := w3) (wanted_yes rfl rfl rfl (F48.get rfl)) rfl F48 rfl (.bool true) (y_eqS _ _ _ rfl (F48.get rfl) (F48.get rfl) (str_eq h49)) fun a50 F50 => ?_
  refine exS 4 [(3, .pointer (some ⟨g3, 0, none⟩)), (4, .bool false), (88, .bool true), (90, V.v9)] [0] (dcons (M3.blk (k := 10) rfl) dnil) [g2] F50 (by kernel_rfl) fun a51 F51 => ?_
  simp only [List.drop_succ_cons, List.drop_zero]
  refine wl_run (w' := w3) (wanted_yes rfl rfl rfl (F51.get rfl)) rfl F51 rfl (.string (⟨(m.l9).toArray⟩)) (y_str _ rfl (F51.get rfl) (M3.isb (k := 4) rfl)) fun a52 F52 => ?_
  refine exS 2 [(4, .bool false), (88, .bool true), (91, .string (⟨(m.l9).toArray⟩)), (93, V2.v9)] [0] (dcons (M3.blk (k := 11) rfl) dnil) [g3] F52 (by kernel_rfl) fun a53 F53 => ?_
  simp only [List.drop_succ_cons, List.drop_zero]
  refine wl_run (w' := w3) (wanted_yes rfl rfl rfl (F53.get rfl)) rfl F53 rfl (.string (⟨(m2.l9).toArray⟩)) (y_str _ rfl (F53.get rfl) (M3.isb (k := 9) rfl)) fun a54 F54 => ?_
  by_cases h55 : m.l9 = m2.l9
  · refine wl_run (w' := w3) (wanted_yes rfl rfl rfl (F54.get rfl)) rfl F54 rfl (.bool true) (y_eqS _ _ _ rfl (F54.get rfl) (F54.get rfl) (str_eq h55)) fun a56 F56 => ?_
    refine exS 2 [(4, .bool true)] [] dnil [] F56 (by kernel_rfl) fun a57 F57 => ?_
    simp only [List.drop_succ_cons, List.drop_zero]
    refine hK5 _ _ (wp_ret ?_)
    try simp only [Exit.then, Exit.inBlock, Exit.jump]
    exact bodyPost_ret (res1 rfl (F57.get (t := 4) rfl)) F57.defers ⟨by rw [show eqM m m2 = true from by unfold eqM; simp [h7, h10, h13, h16, h19, h22, h25, h31, h37, h43, h49, h55]], M3.below⟩
  refine wl_run (w' := w3) (wanted_yes rfl rfl rfl (F54.get rfl)) rfl F54 rfl (.bool false) (y_eqS _ _ _ rfl (F54.get rfl) (F54.get rfl) (str_ne h55)) fun a58 F58 => ?_
  refine exS 2 [(4, .bool false)] [] dnil [] F58 (by kernel_rfl) fun a59 F59 => ?_
  simp only [List.drop_succ_cons, List.drop_zero]
  refine hK5 _ _ (wp_ret ?_)
  try simp only [Exit.then, Exit.inBlock, Exit.jump]
  exact bodyPost_ret (res1 rfl (F59.get (t := 4) rfl)) F59.defers ⟨by rw [show eqM m m2 = false from by unfold eqM; simp [h7, h10, h13, h16, h19, h22, h25, h31, h37, h43, h49, h55]], M3.below⟩
end Go.Proofs.Ytlbkogdmojlpmaa
namespace Go.Proofs.Ytlbkogdmojlpmaa
set_option linter.unusedVariables false
set_option maxRecDepth 20000
set_option linter.unusedSimpArgs false
open Go.ChangeShapes Go.WideShapes Go.ChangeAt Go.RowKit
theorem enc_is (m : MsgN) (V : MsgV) (ho : MsgOk m) (hs : m.s.size ≤ 1000) (ok : Bool) (l : List UInt8) (h1 : encOk m = ok) (h2 : encL m = l) (w : World) (hm : MsgIs w m V) : Calls Try.prog 17 #[.agg (msgA m V)] w fun e w' => ∃ t, e = .returned t ∧ ∃ v, t = .tuple #[v, .bool ok] ∧ Byt w' w.heap.size v l ∧ Below w.heap.size w w' := by
  subst h1 h2; exact encode_ex m V ho hs w hm
theorem msgs_is (m m2 : MsgN) (V V2 : MsgV) (ho : MsgOk m) (ho2 : MsgOk m2) (ok : Bool) (h1 : eqM m m2 = ok) (w : World) (hm : MsgIs w m V) (hm2 : MsgIs w m2 V2) : Calls Try.prog 21 #[.agg (msgA m V), .agg (msgA m2 V2)] w fun e w' => e = .returned (.bool ok) ∧ Below w.heap.size w w' := by
  subst h1; exact msgs_any m m2 V V2 ho ho2 w hm hm2
theorem rec_is (r : RecN) (V : RecV) (ho : RecOk r) (ok : Bool) (l : List UInt8) (h1 : keepB r = ok) (h2 : recE r = l) (w : World) (hm : RecIs w r V) : Calls Try.prog 35 #[.agg (recA r V)] w fun e w' => ∃ t, e = .returned t ∧ ∃ v, t = .tuple #[v, .bool ok] ∧ Byt w' w.heap.size v l ∧ Below w.heap.size w w' := by
  subst h1 h2; exact record_ex r V ho w hm
theorem rd_is (b : List UInt8) (bv : Value) (hl : b.length ≤ 100000) (ok : Bool) (r : RecN) (h1 : rdOk b = ok) (h2 : rdR b = r) (w : World) (hb : IsB w b bv) : Calls Try.prog 37 #[bv] w fun e w' => ∃ t, e = .returned t ∧ ∃ V, t = .tuple #[.agg (recA r V), .bool ok] ∧ RecIs w' r V ∧ (∀ q, bfp V.v2 q ∨ bfp V.v5 q → w.heap.size ≤ q) ∧ Below w.heap.size w w' := by
  subst h1 h2; exact (readrec_any b bv hl w hb).mono fun e w' ⟨V, k1, k2, k3, k4⟩ => ⟨_, k1, V, rfl, k2, k3, k4⟩
section
variable {G : Option Nat} {w0 w : World} {R : List (Nat × Res)}
theorem Mx.nilT (M : Mx G w0 w R) (i : Nat) : Mx G w0 w ((i, tlR [] (.slice none 0 0)) :: R) :=
  M.cons i _ (show Tl w (.slice none 0 0) [] from .inl ⟨rfl, rfl⟩) tlR_dep (fun g hg => by cases hg) (fun _ g hg => by cases hg) fun _ _ _ _ _ g hg => by cases hg
theorem Mx.newRec {w' : World} (M : Mx G w0 w R) (h : Below w.heap.size w w') {r : RecN} {V : RecV} (hm : RecIs w' r V) (hlo : ∀ q, bfp V.v2 q ∨ bfp V.v5 q → w.heap.size ≤ q) (a b : Nat) : Mx G w0 w' ((b, bytR r.l5 V.v5) :: (a, bytR r.l2 V.v2) :: R) := by
  obtain ⟨M1, n1⟩ := (M.step h).roB2 (N := w.heap.size) (fun k s e _ g hg => M.lt k s e g hg) a hm.h2 (fun g hg => hlo g (.inl hg))
  exact (M1.roB2 n1 b hm.h5 (fun g hg => hlo g (.inr hg))).1
theorem next_is (M0 : Mx G w0 w R) (k q g : Nat) (l : List UInt8) (u : Value) (n : Int) (b : Bool) (hk : look R k = some (blkR g 94 #[u, .int .i64 n, .bool b])) (hq : look R q = some (tlR l u)) (hne : k ≠ q) (hl : l.length ≤ 1000000) (k5 k6 k7 k8 k9 : Nat) (m : MsgN) (ok bad : Bool) (l2 : List UInt8) (h1 : nxM l = m) (h2 : nxOk l = ok) (h3 : (b || nxBad l) = bad) (h4 : nxL l = l2) :
    Calls Try.prog 30 #[.pointer (some ⟨g, 0, none⟩)] w fun e w' => ∃ t, e = .returned t ∧ ∃ u' V, Mx G w0 w' ((k9, bytR m.l9 V.v9) :: (k8, bytR m.l8 V.v8) :: (k7, bytR m.l7 V.v7) :: (k6, bytR m.l6 V.v6) :: (k5, bytR m.l5 V.v5) :: (k, blkR g 94 #[u', .int .i64 n, .bool bad]) :: (q, tlR l2 u') :: R) ∧ t = .tuple #[.agg (msgA m V), .bool ok] := by
  subst h1 h2 h3 h4; exact next_any M0 k q g l u n b hk hq hne hl k5 k6 k7 k8 k9
theorem rnext_is (M0 : Mx G w0 w R) (k q g : Nat) (l : List UInt8) (u : Value) (n : Int) (hk : look R k = some (blkR g 96 #[u, .int .i64 n, .bool false])) (hq : look R q = some (bytR l u)) (hne : k ≠ q) (hl : l.length ≤ 1000000) (k5 k6 k7 k8 k9 : Nat) (m : MsgN) (ok bad : Bool) (l2 : List UInt8) (h1 : nxM l = m) (h2 : nxOk l = ok) (h3 : nxBad l = bad) (h4 : nxR l = l2) :
    Calls Try.prog 31 #[.pointer (some ⟨g, 0, none⟩)] w fun e w' => ∃ t, e = .returned t ∧ ∃ u' V, Mx G w0 w' ((k9, bytR m.l9 V.v9) :: (k8, bytR m.l8 V.v8) :: (k7, bytR m.l7 V.v7) :: (k6, bytR m.l6 V.v6) :: (k5, bytR m.l5 V.v5) :: (k, blkR g 96 #[u', .int .i64 n, .bool bad]) :: (q, bytR l2 u') :: R) ∧ t = .tuple #[.agg (msgA m V), .bool ok] := by
  subst h1 h2 h3 h4; exact rnext_any M0 k q g l u n hk hq hne hl k5 k6 k7 k8 k9
theorem rnextb_is (M0 : Mx G w0 w R) (k q g : Nat) (l : List UInt8) (u : Value) (n : Int) (hk : look R k = some (blkR g 96 #[u, .int .i64 n, .bool true])) (hq : look R q = some (bytR l u)) (hne : k ≠ q) (hl : l.length ≤ 1000000) (k5 k6 k7 k8 k9 : Nat) :
    Calls Try.prog 31 #[.pointer (some ⟨g, 0, none⟩)] w fun e w' => ∃ t, e = .returned t ∧ ∃ u' V, Mx G w0 w' ((k9, bytR mZero.l9 V.v9) :: (k8, bytR mZero.l8 V.v8) :: (k7, bytR mZero.l7 V.v7) :: (k6, bytR mZero.l6 V.v6) :: (k5, bytR mZero.l5 V.v5) :: (k, blkR g 96 #[u', .int .i64 n, .bool true]) :: (q, bytR l u') :: R) ∧ t = .tuple #[.agg (msgA mZero V), .bool false] :=
  (rnext_bad M0 k q g l u n hk hq hne hl).mono fun e w' ⟨t, h1, u', M, ht⟩ => ⟨t, h1, u', vZero, M.five k5 k6 k7 k8 k9, ht⟩
end
theorem mZero_ok : MsgOk mZero := ⟨by decide, by decide, by decide, by decide, by decide, by decide, by decide⟩
theorem decR_ok (b : List UInt8) : MsgOk (decR b) ∧ (decR b).s.size ≤ 1000 := by
  cases h : decOk b with
  | true => rw [(decOk_is h).2.2]; exact decM_msgok b
  | false => rw [decR_no h]; exact ⟨mZero_ok, by decide⟩
theorem nxM_ok (l : List UInt8) : MsgOk (nxM l) ∧ (nxM l).s.size ≤ 1000 := by
  unfold nxM
  cases nxOk l with
  | true => exact decR_ok _
  | false => exact ⟨mZero_ok, show mZero.s.size ≤ 1000 by decide⟩
end Go.Proofs.Ytlbkogdmojlpmaa
namespace Go.Proofs.Ytlbkogdmojlpmaa
set_option linter.unusedVariables false
set_option maxRecDepth 20000
set_option linter.unusedSimpArgs false
open Go.ChangeShapes Go.WideShapes Go.ChangeAt Go.RowKit
def m7 : MsgN := ⟨7, 0, 0, 0, "".toUTF8, 0, 0, [], [], [], [], []⟩
def rA : RecN := ⟨1, ⟨#[97]⟩, [], 0, 0, [], 0, 0, 0⟩
theorem m7_ok : MsgOk m7 := ⟨by decide, by decide, by decide, by decide, by decide, by decide, by decide⟩
theorem rA_ok : RecOk rA := ⟨by decide, by decide, by decide, by decide, by decide, by decide, by decide⟩
theorem m7_right : rightB m7 = true := by
  unfold rightB
  rw [show wantOk m7.k m7.p = true from rfl, show decide (hasB m7 = wantN m7.k m7.p) = true from by decide]
  unfold fitsB
  rw [show nilB m7.s = true from decide_eq_true rfl, show topI m7.a 8 = 0 from topI_none 8, show topI m7.b 8 = 0 from topI_none 8]
  simp [m7]
theorem enc7 : encOk m7 = true ∧ encL m7 = [0, 1, 7] := by
  have h : encOk m7 = true := by
    unfold encOk
    rw [m7_right]
    decide
  exact ⟨h, by rw [encL_ok h]; decide⟩
theorem rA_name : NameOk rA.s := by
  refine ⟨by decide, by decide, fun i h => ?_⟩
  have : i = 0 := by have h1 : rA.s.size = 1 := rfl; omega
  subst this
  exact (show (33 : Int) ≤ ((97 : UInt8).toNat : Int) ∧ ((97 : UInt8).toNat : Int) ≤ 126 by decide)
theorem rA_keep : keepB rA = true := by
  unfold keepB
  rw [show nameB rA.s = true from @decide_eq_true _ (Classical.propDecidable _) rA_name, show topI rA.a 8 = 0 from topI_none 8, show topI rA.b 8 = 0 from topI_none 8]
  decide
theorem known_1 : wrN true 0 (([0, 1, 7] : List UInt8).take 1) = 1 ∧ nxM (([0, 1, 7] : List UInt8).take 1) = mZero ∧ nxOk (([0, 1, 7] : List UInt8).take 1) = false ∧ (false || nxBad (([0, 1, 7] : List UInt8).take 1)) = false ∧ nxL (([0, 1, 7] : List UInt8).take 1) = ([0, 1, 7] : List UInt8).take 1 := by
  obtain ⟨h1, h2⟩ := nx_short (l := ([0, 1, 7] : List UInt8).take 1) (by decide)
  refine ⟨rfl, by rw [nxM, h1]; rfl, h1, by rw [h2]; rfl, by rw [nxL, h1, h2]; rfl⟩
theorem known_2 : wrL true (([0, 1, 7] : List UInt8).take 1) (([0, 1, 7] : List UInt8).drop 1) = [0, 1, 7] ∧ wrN true 1 (([0, 1, 7] : List UInt8).drop 1) = 3 ∧ nxM ([0, 1, 7] : List UInt8) = m7 ∧ nxOk ([0, 1, 7] : List UInt8) = true ∧ (false || nxBad ([0, 1, 7] : List UInt8)) = false ∧ nxL ([0, 1, 7] : List UInt8) = [] := by
  obtain ⟨e1, e2⟩ := enc7
  obtain ⟨d1, d2⟩ := decOk_enc m7_ok e1
  rw [e2] at d1 d2
  have hF : nxF ([0, 1, 7] : List UInt8) = 1 := rfl
  have hT : ([0, 1, 7] : List UInt8).take (2 + nxF ([0, 1, 7] : List UInt8)) = [0, 1, 7] := rfl
  obtain ⟨h1, h2⟩ := nx_whole (l := ([0, 1, 7] : List UInt8)) (by decide) (by rw [hF]; decide) (by rw [hF]; decide)
  rw [hT, d1] at h1 h2
  exact ⟨rfl, rfl, by rw [nxM, h1, hT, d2]; rfl, h1, by rw [h2]; rfl, by rw [nxL, h1]; rfl⟩
theorem y_eqPN {a : Act} {w : World} {o : Oper} (ty tz : TypeId) (hu : Try.prog.underlying ty = some (.pointer (Try.prog.pointee ty))) (hgt : Try.prog.eqGuardType Try.prog.depth ty = false) (x : Operand) {p : Addr} (ho : o.op = .binOp .eql ty x (.const (.pointer none)) tz) (hx : a.eval x = .pointer (some p)) : (execOp a.eval o).run Try.prog w = .ok (.value (.bool false)) w :=
  y_eqV ty tz x _ ho hx (v := .pointer none) rfl (by simp [eqGuard, go_sem, hgt]) (by rw [run_eql_pointer_nil (h := hu)]; rfl)
set_option maxRecDepth 100000 in
set_option maxHeartbeats 8000000 in
theorem lknown_any  (w : World) :
    Calls Try.prog 15 #[] w fun e w' => e = .returned (.bool true) ∧ Below w.heap.size w w' := by
  obtain ⟨L, hL⟩ : ∃ L, L = ([0, 1, 7] : List UInt8) := ⟨_, rfl⟩
  obtain ⟨RB, hRB⟩ : ∃ l, recE rA = l := ⟨_, rfl⟩
  have hRl : RB.length ≤ 100000 := by rw [← hRB, show recE rA = recL rA from if_pos rA_keep]; decide
  have k1 := known_1
  have k2 := known_2
  have hL3 : L.length = 3 := by rw [hL]; rfl
  rw [← hL] at k1 k2
  obtain ⟨e1, e2⟩ := enc7
  rw [← hL] at e2
  obtain ⟨y1, y2⟩ := rd_rec rA_ok rA_keep
  rw [hRB] at y1 y2
  refine calls_fx (args := []) 100 Try.func15 rfl rfl rfl ?_
  intro fa F
  have M := Mx.start w
  refine wp_seq_k fun K21 hK21 => wp_region_lit ?_
  refine rm rfl F fun a22 F22 => ?_
  refine hK21 _ _ (wp_seq_k fun K23 hK23 => ?_)
  refine wp_region_lit ?_
  refine rn rfl rfl F22 rfl (.agg (msgA ⟨7, 0, 0, 0, "".toUTF8, 0, 0, [], [], [], [], []⟩ ⟨.slice none 0 0, .slice none 0 0, .slice none 0 0, .slice none 0 0, .slice none 0 0⟩)) (by unfold execOp; simp only [List.map_toArray, List.map_cons, List.map_nil, ]; kernel_rfl) fun a24 F24 => ?_
  refine wl_call (wanted_none rfl) rfl F24 rfl rfl (enters_of Try.func17 (by kernel_rfl) rfl) #[.agg (msgA ⟨7, 0, 0, 0, "".toUTF8, 0, 0, [], [], [], [], []⟩ ⟨.slice none 0 0, .slice none 0 0, .slice none 0 0, .slice none 0 0, .slice none 0 0⟩)] (args1 (F24.get rfl)) (enc_is m7 vZero m7_ok (by decide) true L e1 e2 w ⟨isb_nil _, isb_nil _, isb_nil _, isb_nil _, isb_nil _⟩) ?_
  rintro _ w25 a25 ⟨v25, rfl, hv25, b25⟩ F25
  have M25 := M.newO b25 0 hv25
  clear M b25 hv25
  obtain ⟨A25, c25, rfl⟩ := (M25.isO (k := 0) rfl).shape
  refine exS 5 [(0, .bool false), (1, .slice A25 (L).length c25), (2, .bool true)] [] dnil [] F25 (by kernel_rfl) fun a26 F26 => ?_
  simp only [List.drop_succ_cons, List.drop_zero]
  refine hK23 _ _ (wp_seq_k fun K27 hK27 => ?_)
  refine wp_region_lit ?_
  refine wl_call (wanted_none rfl) rfl F26 rfl rfl (enters_of Try.func26 (by kernel_rfl) rfl) #[] (args0) (new_any w25) ?_
  rintro _ w28 a28 ⟨g28, rfl, hg28, hc28, b28⟩ F28
  have M28 := (M25.newb b28 1 hg28 hc28).nilT 2
  clear M25 b28 hg28 hc28
  refine rm rfl F28 fun a29 F29 => ?_
  refine hK27 _ _ (wp_seq_k fun K30 hK30 => ?_)
  refine wp_seq_k fun K31 hK31 => wp_region_lit ?_
  refine rm rfl F29 fun a32 F32 => ?_
  refine rn rfl rfl F32 rfl (.bool false) (y_eqPN 46 _ Try.underlying46 (by kernel_rfl) _ rfl (F32.get rfl)) fun a33 F33 => ?_
  refine hK31 _ _ (wp_cond_false (F33.get (t := 19) rfl) ?_)
  refine wp_skip ?_
  refine hK30 _ _ (wp_seq_k fun K34 hK34 => ?_)
  refine wp_region_lit ?_
  refine rm rfl F33 fun a35 F35 => ?_
  refine rm rfl F35 fun a36 F36 => ?_
  refine rm rfl F36 fun a37 F37 => ?_
  refine rn rfl rfl F37 rfl (.int .i64 3) (y_len _ rfl (F37.get rfl) (M28.isO (k := 0) rfl) (by rw [hL3]; rfl)) fun a38 F38 => ?_
  refine rn rfl rfl F38 rfl (.int .i64 1) (y_min _ _ rfl rfl (F38.get rfl) (by decide)) fun a39 F39 => ?_
  refine wl_runE (wanted_none rfl) rfl F39 rfl (y_slTo _ _ rfl (F39.get rfl) (M28.isO (k := 0) rfl) (F39.get rfl) (j := 1) rfl (by omega)) ?_
  intro v40 a40 h40 F40
  have og41 := M28.owns (k := 0) rfl
  have M41 := M28.tame (k := 0) rfl
  clear M28
  have M40 := M41.partB 3 (k := 0) rfl h40.1 h40.2
  clear M41
  obtain ⟨A40, c40, rfl⟩ := (M40.isb (k := 3) rfl).shape
  refine wl_call (wanted_none rfl) rfl F40 rfl rfl (enters_of Try.func28 (by kernel_rfl) rfl) #[.pointer (some ⟨g28, 0, none⟩), .slice A40 ((L.take 1)).length c40] (args2 (F40.get rfl) (F40.get rfl)) (swrite_any M40 1 2 3 g28 [] (L.take 1) (.slice none 0 0) (.slice A40 ((L.take 1)).length c40) 0 false rfl rfl rfl (by decide) (by decide) (by simp only [List.length_nil, List.length_take]; omega) (by decide) true rfl) ?_
  rintro _ w42 a42 ⟨u42, N42, rfl⟩ F42
  rw [(show wrL true [] (L.take 1) = L.take 1 from rfl)] at N42
  rw [k1.1] at N42
  clear M40
  replace N42 : Mx _ _ _ ((1, blkR g28 94 #[u42, .int .i64 1, .bool false]) :: _) := N42
  refine hK34 _ _ (wp_seq_k fun K43 hK43 => ?_)
  refine wp_region_lit ?_
  refine rm rfl F42 fun a44 F44 => ?_
  refine wl_call (wanted_none rfl) rfl F44 rfl rfl (enters_of Try.func30 (by kernel_rfl) rfl) #[.pointer (some ⟨g28, 0, none⟩)] (args1 (F44.get rfl)) (next_is N42 1 2 g28 (L.take 1) u42 1 false rfl rfl (by decide) (by rw [List.length_take]; omega) 4 5 6 7 8 mZero false false (L.take 1) k1.2.1 k1.2.2.1 k1.2.2.2.1 k1.2.2.2.2) ?_
  rintro _ w45 a45 ⟨u45, V45, N45, rfl⟩ F45
  clear N42
  refine exS 3 [(0, .bool false), (1, .slice A25 (L).length c25), (2, .bool true), (3, .pointer (some ⟨g28, 0, none⟩)), (30, .agg (msgA mZero V45)), (31, .bool false)] [] dnil [] F45 (by kernel_rfl) fun a46 F46 => ?_
  simp only [List.drop_succ_cons, List.drop_zero]
  refine wl_alloc (wanted_none rfl) rfl F46 rfl N45 9 (t := 29) (c := msgA ⟨0, 0, 0, 0, "".toUTF8, 0, 0, [], [], [], [], []⟩ ⟨.slice none 0 0, .slice none 0 0, .slice none 0 0, .slice none 0 0, .slice none 0 0⟩) (by unfold execOp; kernel_rfl) ?_
  intro g47 a47 w47 F47 M47
  clear F46 N45
  refine wl_st (wanted_none rfl) rfl F47 M47 (k := 9) rfl _ _ _ rfl (F47.get rfl) (F47.get rfl) (msgA mZero V45) (msgA mZero V45) rfl (Nat.le_of_ble_eq_true rfl) (msgA_one (w := w47) ⟨(M47.isb (k := 4) rfl), (M47.isb (k := 5) rfl), (M47.isb (k := 6) rfl), (M47.isb (k := 7) rfl), (M47.isb (k := 8) rfl)⟩) (y_put0 rfl) (by kernel_rfl) ?_
  intro w48 M48
  clear M47
  refine rm rfl F47 fun a49 F49 => ?_
  refine hK43 _ _ (wp_seq_k fun K50 hK50 => ?_)
  refine wp_region_lit ?_
  refine rm rfl F49 fun a51 F51 => ?_
  refine rm rfl F51 fun a52 F52 => ?_
  refine rm rfl F52 fun a53 F53 => ?_
  refine rn rfl rfl F53 rfl (.int .i64 3) (y_len _ rfl (F53.get rfl) (M48.isb (k := 0) rfl) (by rw [hL3]; rfl)) fun a54 F54 => ?_
  refine rn rfl rfl F54 rfl (.int .i64 1) (y_min _ _ rfl rfl (F54.get rfl) (by decide)) fun a55 F55 => ?_
  refine wl_runE (wanted_none rfl) rfl F55 rfl (y_slFrom _ _ rfl (F55.get rfl) (M48.isb (k := 0) rfl) (F55.get rfl) (i := 1) rfl (by omega)) ?_
  intro v56 a56 h56 F56
  have M56 := M48.partB 10 (k := 0) rfl h56.1 h56.2
  clear M48
  obtain ⟨A56, c56, rfl⟩ := (M56.isb (k := 10) rfl).shape
  refine wl_call (wanted_none rfl) rfl F56 rfl rfl (enters_of Try.func28 (by kernel_rfl) rfl) #[.pointer (some ⟨g28, 0, none⟩), .slice A56 ((L.drop 1)).length c56] (args2 (F56.get rfl) (F56.get rfl)) (swrite_any M56 1 2 10 g28 (L.take 1) (L.drop 1) u45 (.slice A56 ((L.drop 1)).length c56) 1 false rfl rfl rfl (by decide) (by decide) (by simp only [List.length_take, List.length_drop]; omega) (by decide) true (by decide)) ?_
  rintro _ w57 a57 ⟨u57, N57, rfl⟩ F57
  rw [k2.1] at N57
  rw [k2.2.1] at N57
  clear M56
  replace N57 : Mx _ _ _ ((1, blkR g28 94 #[u57, .int .i64 3, .bool false]) :: _) := N57
  refine hK50 _ _ (wp_seq_k fun K58 hK58 => ?_)
  refine wp_region_lit ?_
  refine rm rfl F57 fun a59 F59 => ?_
  refine wl_call (wanted_none rfl) rfl F59 rfl rfl (enters_of Try.func30 (by kernel_rfl) rfl) #[.pointer (some ⟨g28, 0, none⟩)] (args1 (F59.get rfl)) (next_is N57 1 2 g28 L u57 3 false rfl rfl (by decide) (by omega) 11 12 13 14 15 m7 true false ([] : List UInt8) k2.2.2.1 k2.2.2.2.1 k2.2.2.2.2.1 k2.2.2.2.2.2) ?_
  rintro _ w60 a60 ⟨u60, V60, N60, rfl⟩ F60
  clear N57
  refine exA 3 [(39, .tuple #[.agg (msgA m7 V60), .bool true]), (42, .agg (msgA m7 V60)), (43, .bool true)] [] dnil [] F60 (by kernel_rfl) (by kernel_rfl) fun a61 F61 => ?_
  simp only [List.drop_succ_cons, List.drop_zero]
  refine wl_alloc (wanted_none rfl) rfl F61 rfl N60 16 (t := 29) (c := msgA ⟨0, 0, 0, 0, "".toUTF8, 0, 0, [], [], [], [], []⟩ ⟨.slice none 0 0, .slice none 0 0, .slice none 0 0, .slice none 0 0, .slice none 0 0⟩) (by unfold execOp; kernel_rfl) ?_
  intro g62 a62 w62 F62 M62
  clear F61 N60
  refine wl_st (wanted_none rfl) rfl F62 M62 (k := 16) rfl _ _ _ rfl (F62.get rfl) (F62.get rfl) (msgA m7 V60) (msgA m7 V60) rfl (Nat.le_of_ble_eq_true rfl) (msgA_one (w := w62) ⟨(M62.isb (k := 11) rfl), (M62.isb (k := 12) rfl), (M62.isb (k := 13) rfl), (M62.isb (k := 14) rfl), (M62.isb (k := 15) rfl)⟩) (y_put0 rfl) (by kernel_rfl) ?_
  intro w63 M63
  clear M62
  refine rm rfl F62 fun a64 F64 => ?_
  refine hK58 _ _ (wp_seq_k fun K65 hK65 => ?_)
  refine wp_region_lit ?_
  refine rn rfl rfl F64 rfl (.agg (recA ⟨1, ({ data := #[97] }), [], 0, 0, [], 0, 0, 0⟩ ⟨.slice none 0 0, .slice none 0 0⟩)) (by unfold execOp; simp only [List.map_toArray, List.map_cons, List.map_nil, ]; kernel_rfl) fun a66 F66 => ?_
  refine wl_call (wanted_none rfl) rfl F66 rfl rfl (enters_of Try.func35 (by kernel_rfl) rfl) #[.agg (recA ⟨1, ({ data := #[97] }), [], 0, 0, [], 0, 0, 0⟩ ⟨.slice none 0 0, .slice none 0 0⟩)] (args1 (F66.get rfl)) (rec_is rA rvZero rA_ok true RB rA_keep hRB w63 ⟨isb_nil _, isb_nil _⟩) ?_
  rintro _ w67 a67 ⟨v67, rfl, hv67, b67⟩ F67
  have M67 := M63.newO b67 17 hv67
  clear M63 b67 hv67
  obtain ⟨A67, c67, rfl⟩ := (M67.isO (k := 17) rfl).shape
  refine exA 5 [(44, .tuple #[.slice A67 (RB).length c67, .bool true]), (47, .slice A67 (RB).length c67), (48, .bool true), (8, .slice A67 (RB).length c67), (9, .bool true)] [] dnil [] F67 (by kernel_rfl) (by kernel_rfl) fun a68 F68 => ?_
  simp only [List.drop_succ_cons, List.drop_zero]
  refine hK65 _ _ (wp_seq_k fun K69 hK69 => ?_)
  refine wp_region_lit ?_
  refine rm rfl F68 fun a70 F70 => ?_
  refine wl_call (wanted_none rfl) rfl F70 rfl rfl (enters_of Try.func37 (by kernel_rfl) rfl) #[.slice A67 (RB).length c67] (args1 (F70.get rfl)) (rd_is RB (.slice A67 (RB).length c67) hRl true rA y1 y2 w67 (M67.isO (k := 17) rfl)) ?_
  rintro _ w71 a71 ⟨V71, rfl, is71, lo71, b71⟩ F71
  have M71 := M67.newRec b71 is71 lo71 18 19
  clear M67 b71 lo71
  refine exA 3 [(49, .tuple #[.agg (recA rA V71), .bool true]), (52, .agg (recA rA V71)), (53, .bool true)] [] dnil [] F71 (by kernel_rfl) (by kernel_rfl) fun a72 F72 => ?_
  simp only [List.drop_succ_cons, List.drop_zero]
  refine wl_alloc (wanted_none rfl) rfl F72 rfl M71 20 (t := 54) (c := recA ⟨0, "".toUTF8, [], 0, 0, [], 0, 0, 0⟩ ⟨.slice none 0 0, .slice none 0 0⟩) (by unfold execOp; kernel_rfl) ?_
  intro g73 a73 w73 F73 M73
  clear F72 M71
  refine wl_st (wanted_none rfl) rfl F73 M73 (k := 20) rfl _ _ _ rfl (F73.get rfl) (F73.get rfl) (recA rA V71) (recA rA V71) rfl (Nat.le_of_ble_eq_true rfl) (recA_one (w := w73) ⟨(M73.isb (k := 18) rfl), (M73.isb (k := 19) rfl)⟩) (y_put0 rfl) (by kernel_rfl) ?_
  intro w74 M74
  clear M73
  refine rm rfl F73 fun a75 F75 => ?_
  refine hK69 _ _ (wp_seq_k fun K76 hK76 => ?_)
  refine wp_region_lit ?_
  refine rm rfl F75 fun a77 F77 => ?_
  refine rm rfl F77 fun a78 F78 => ?_
  refine rm rfl F78 fun a79 F79 => ?_
  refine wl_run (w' := w74) (wanted_yes rfl rfl rfl (F79.get rfl)) rfl F79 rfl (.int .i64 3) (y_len _ rfl (F79.get rfl) (M74.isb (k := 0) rfl) (by rw [hL3]; rfl)) fun a80 F80 => ?_
  refine exA 4 [(58, .bool true), (59, .bool true), (60, .bool true), (61, .slice A25 (L).length c25)] [] dnil [] F80 (by kernel_rfl) (by kernel_rfl) fun a81 F81 => ?_
  simp only [List.drop_succ_cons, List.drop_zero]
  refine wl_run (w' := w74) (wanted_yes rfl rfl rfl (F81.get rfl)) rfl F81 rfl ((ixV (.slice A25 (L).length c25) 1)) (y_ixB _ _ rfl (F81.get rfl) (M74.isb (k := 0) rfl) rfl rfl (by omega)) fun a82 F82 => ?_
  refine wl_run (w' := w74) (wanted_yes rfl rfl rfl (F82.get rfl)) rfl F82 rfl (.int .u8 (((1 : UInt8).toNat : Nat) : Int)) (y_ldB _ rfl (F82.get rfl) (M74.isb (k := 0) rfl) (by rw [hL]; rfl) rfl) fun a83 F83 => ?_
  refine wl_run (w' := w74) (wanted_yes rfl rfl rfl (F83.get rfl)) rfl F83 rfl (.bool true) (y_eqI _ _ _ _ rfl (F83.get rfl) rfl Try.underlying5 (y_beqT (by decide))) fun a84 F84 => ?_
  refine exA 3 [(65, .bool true), (66, .bool true), (67, .slice A25 (L).length c25)] [] dnil [] F84 (by kernel_rfl) (by kernel_rfl) fun a85 F85 => ?_
  simp only [List.drop_succ_cons, List.drop_zero]
  refine wl_run (w' := w74) (wanted_yes rfl rfl rfl (F85.get rfl)) rfl F85 rfl ((ixV (.slice A25 (L).length c25) 2)) (y_ixB _ _ rfl (F85.get rfl) (M74.isb (k := 0) rfl) rfl rfl (by omega)) fun a86 F86 => ?_
  refine wl_run (w' := w74) (wanted_yes rfl rfl rfl (F86.get rfl)) rfl F86 rfl (.int .u8 (((7 : UInt8).toNat : Nat) : Int)) (y_ldB _ rfl (F86.get rfl) (M74.isb (k := 0) rfl) (by rw [hL]; rfl) rfl) fun a87 F87 => ?_
  refine wl_run (w' := w74) (wanted_yes rfl rfl rfl (F87.get rfl)) rfl F87 rfl (.bool true) (y_eqI _ _ _ _ rfl (F87.get rfl) rfl Try.underlying5 (y_beqT (by decide))) fun a88 F88 => ?_
  refine exS 11 [(0, .bool false), (3, .pointer (some ⟨g28, 0, none⟩)), (9, .bool true), (10, .pointer (some ⟨g73, 0, none⟩)), (11, .bool true), (79, .bool true), (81, .int .i64 m7.k)] [0] (dcons (M74.blk (k := 16) rfl) dnil) [g62] F88 (by kernel_rfl) fun a89 F89 => ?_
  simp only [List.drop_succ_cons, List.drop_zero]
  refine wl_run (w' := w74) (wanted_yes rfl rfl rfl (F89.get rfl)) rfl F89 rfl (.bool true) (y_eqI _ _ _ _ rfl (F89.get rfl) rfl Try.underlying3 (y_beqT (show m7.k = 7 from rfl))) fun a90 F90 => ?_
  refine exA 3 [(83, .bool true), (84, .bool true), (85, .pointer (some ⟨g28, 0, none⟩))] [] dnil [] F90 (by kernel_rfl) (by kernel_rfl) fun a91 F91 => ?_
  simp only [List.drop_succ_cons, List.drop_zero]
  refine wl_call (wanted_yes rfl rfl rfl (F91.get rfl)) rfl F91 rfl rfl (enters_of Try.func32 (by kernel_rfl) rfl) #[.pointer (some ⟨g28, 0, none⟩)] (args1 (F91.get rfl)) (call_ex ((bad_any g28 u60 3 false w74 (M74.blk (k := 1) rfl)))) ?_
  rintro _ w92 a92 ⟨rfl, b92⟩ F92
  have M92 := M74.step b92
  refine exS 11 [(0, .bool false), (95, .bool true), (97, .string rA.s)] [0] (dcons (M92.blk (k := 20) rfl) dnil) [g73] F92 (by kernel_rfl) fun a93 F93 => ?_
  simp only [List.drop_succ_cons, List.drop_zero]
  refine wl_run (w' := w92) (wanted_yes rfl rfl rfl (F93.get rfl)) rfl F93 rfl (.bool true) (y_eqS _ _ _ rfl (F93.get rfl) rfl (decide_eq_true rfl)) fun a94 F94 => ?_
  refine exS 2 [(0, .bool true)] [] dnil [] F94 (by kernel_rfl) fun a95 F95 => ?_
  simp only [List.drop_succ_cons, List.drop_zero]
  refine hK76 _ _ (wp_ret ?_)
  try simp only [Exit.then, Exit.inBlock, Exit.jump]
  exact bodyPost_ret (res1 rfl (F95.get (t := 0) rfl)) F95.defers ⟨rfl, M92.below⟩
end Go.Proofs.Ytlbkogdmojlpmaa
namespace Go.Proofs.Ytlbkogdmojlpmaa
set_option linter.unusedVariables false
set_option maxRecDepth 20000
set_option linter.unusedSimpArgs false
open Go.ChangeShapes Go.WideShapes Go.ChangeAt Go.RowKit
theorem run_makeB {G : Option Nat} {w0 w : World} {R : List (Nat × Res)} {a : Act} {o : Oper} (M : Mx G w0 w R) (i : Nat) (x y : Operand) (ho : o.op = .makeSlice 22 x y) {z : Int} (n : Nat) (hx : a.eval x = .int .i64 z) (hy : a.eval y = .int .i64 z) (hz : z = (n : Int)) (hn : n ≤ 100000) :
    ∃ v w', (execOp a.eval o).run Try.prog w = .ok (.value v) w' ∧ Mx G w0 w' ((i, ownR (List.replicate n 0) v) :: R) := by
  subst hz
  obtain ⟨f, f1, f2, f3, f4⟩ := info_u8
  refine ⟨.slice (some ⟨w.heap.size, 0, none⟩) n n, w.alloc (.cells (madeCells #[.int .u8 0] n) 5), ?_, M.newO (step_alloc w _) i ?_⟩
  · have h := run_make_row (w := w) 22 5 f (.int .u8 0) Try.underlying22 f1 f2 f3 rfl .i64 .i64 n (by rw [f4]; omega) (by omega)
    unfold execOp
    simp only [ho, hx, hy, Sem.run_bind, h, Result.andThen_ok, Sem.run_pure]
  · obtain ⟨c, hb, hs, hc⟩ := World.rowIs_made w (.int .u8 0) n 5
    refine ⟨by simp, .inr ⟨w.heap.size, n, c, by rw [List.length_replicate], Nat.le_refl _, hb, by rw [List.length_replicate]; exact Nat.le_refl _, by unfold maxLen; omega, by omega, ?_⟩⟩
    apply List.ext_getElem?
    intro i
    rw [List.length_replicate, Nat.mul_one, List.getElem?_take, List.map_replicate]
    by_cases hi : i < n
    · rw [if_pos hi, List.getElem?_replicate, if_pos hi]
      have := hc i hi
      rw [← Array.getElem?_toList] at this
      exact this
    · rw [if_neg hi, List.getElem?_replicate, if_neg hi]
theorem wrOk_t {n : Int} (h : n < 100000) : wrOk n false = true := by unfold wrOk; rw [decide_eq_true h]; rfl
theorem wrOk_f {n : Int} (h : ¬ n < 100000) : wrOk n false = false := by unfold wrOk; rw [decide_eq_false h]; rfl
theorem nx_nil {l : List UInt8} (h : l = []) : nxM l = mZero ∧ nxOk l = false ∧ nxBad l = false ∧ nxL l = [] := by
  obtain ⟨h1, h2⟩ := nx_short (l := l) (by rw [h]; decide)
  exact ⟨by rw [nxM, h1]; rfl, h1, h2, by rw [nxL, h1, h2]; exact h⟩
end Go.Proofs.Ytlbkogdmojlpmaa
namespace Go.Proofs.Ytlbkogdmojlpmaa
set_option linter.unusedVariables false
set_option maxRecDepth 20000
set_option linter.unusedSimpArgs false
open Go.ChangeShapes Go.WideShapes Go.ChangeAt Go.RowKit
set_option maxRecDepth 100000 in
set_option maxHeartbeats 8000000 in
theorem WireLong_walk (a0 : Int) (hk0 : -9223372036854775808 ≤ a0) (hl0 : a0 < 9223372036854775808)
    (a1 : Int) (hk1 : -9223372036854775808 ≤ a1) (hl1 : a1 < 9223372036854775808) (w : World)  :
    Calls Try.prog 12 #[.int .i64 a0, .int .i64 a1] w fun e w' => e = .returned (.bool true) ∧ Below w.heap.size w w' := by
  obtain ⟨K, hK, hK1, hK2⟩ : ∃ K : Nat, 9000 + a1 % 4000 = (K : Int) ∧ 9000 ≤ K ∧ K < 13000 := ⟨(9000 + a1 % 4000).toNat, by omega, by omega, by omega⟩
  obtain ⟨J, hJ, hJ2⟩ : ∃ J : Nat, 9 + a0 % 8 = (J : Int) ∧ J ≤ 16 := ⟨(9 + a0 % 8).toNat, by omega, by omega⟩
  refine calls_fx (args := [.int .i64 a0, .int .i64 a1]) 78 Try.func12 rfl rfl rfl ?_
  intro fa F
  have M := Mx.start w
  refine wp_seq_k fun K21 hK21 => wp_region_lit ?_
  refine rm rfl F fun a22 F22 => ?_
  refine hK21 _ _ (wp_seq_k fun K23 hK23 => ?_)
  refine wp_seq_k fun K24 hK24 => wp_region_lit ?_
  refine wl_call (wanted_none rfl) rfl F22 rfl rfl (enters_of Try.func15 (by kernel_rfl) rfl) #[] (args0) (call_ex (lknown_any w)) ?_
  rintro _ w25 a25 ⟨rfl, b25⟩ F25
  have M25 := M.step b25
  refine rn rfl rfl F25 rfl (.bool false) (run_not _ _ rfl (F25.get (t := 15) rfl)) fun a26 F26 => ?_
  refine hK24 _ _ (wp_cond_false (F26.get (t := 16) rfl) ?_)
  refine wp_skip ?_
  refine hK23 _ _ (wp_seq_k fun K27 hK27 => ?_)
  refine wp_region_lit ?_
  refine wl_call (wanted_none rfl) rfl F26 rfl rfl (enters_of Try.func26 (by kernel_rfl) rfl) #[] (args0) (new_any w25) ?_
  rintro _ w28 a28 ⟨g28, rfl, hg28, hc28, b28⟩ F28
  have M28 := (M25.newb b28 0 hg28 hc28).nilT 1
  clear M25 b28 hg28 hc28
  refine wl_call (wanted_none rfl) rfl F28 rfl rfl (enters_of Try.func27 (by kernel_rfl) rfl) #[] (args0) (rnew_any w28) ?_
  rintro _ w29 a29 ⟨g29, rfl, hg29, hc29, b29⟩ F29
  have M29 := (M28.newb b29 2 hg29 hc29).nilB 3
  clear M28 b29 hg29 hc29
  refine rm rfl F29 fun a30 F30 => ?_
  refine rm rfl F30 fun a31 F31 => ?_
  refine hK27 _ _ (wp_seq_k fun K32 hK32 => ?_)
  refine wp_seq_k fun K33 hK33 => wp_region_lit ?_
  refine rm rfl F31 fun a34 F34 => ?_
  refine rn rfl rfl F34 rfl (.bool false) (y_eqPN 46 _ Try.underlying46 (by kernel_rfl) _ rfl (F34.get rfl)) fun a35 F35 => ?_
  refine hK33 _ _ (wp_cond_false (F35.get (t := 20) rfl) ?_)
  refine wp_skip ?_
  refine hK32 _ _ (wp_seq_k fun K36 hK36 => ?_)
  refine wp_region_lit ?_
  refine rm rfl F35 fun a37 F37 => ?_
  refine wl_call (wanted_none rfl) rfl F37 rfl rfl (enters_of Try.func22 (by kernel_rfl) rfl) #[.int .i64 a1, .int .i64 4000] (args2 (F37.get rfl) rfl) (call_ex ((within5_any a1 4000 (by omega) (by omega) (by omega) (by omega) w29))) ?_
  rintro _ w38 a38 ⟨rfl, rfl⟩ F38
  refine rn rfl rfl F38 rfl (.int .i64 (K : Int)) (y_addI _ _ _ _ rfl rfl (F38.get rfl) hK (by omega)) fun a39 F39 => ?_
  refine rm rfl F39 fun a40 F40 => ?_
  refine hK36 _ _ (wp_seq_k fun K41 hK41 => ?_)
  refine wp_region_lit ?_
  refine rm rfl F40 fun a42 F42 => ?_
  refine wl_runM (wanted_none rfl) rfl F42 rfl (run_makeB M29 4 _ _ rfl K (F42.get rfl) (F42.get rfl) rfl (by omega)) ?_
  intro v43 a43 w43 F43 M43
  clear F42 M29
  obtain ⟨A43, c43, rfl⟩ := (M43.isO (k := 4) rfl).shape
  refine rm rfl F43 fun a44 F44 => ?_
  refine hK41 _ _ (wp_seq_k fun K45 hK45 => ?_)
  refine wp_seq_k fun K46 hK46 => wp_region_lit ?_
  refine rm rfl F44 fun a47 F47 => ?_
  refine hK46 _ _ (wp_block ?_)
  refine loop_fx (α := Nat × List UInt8) (n := 78) (G := none) (w0 := w) (fun x => [(0, .int .i64 a0), (5, .pointer (some ⟨g28, 0, none⟩)), (6, .pointer (some ⟨g29, 0, none⟩)), (7, .int .i64 (K : Int)), (9, .int .i64 (x.1 : Int)), (8, .slice A43 ((List.replicate K (0 : UInt8))).length c43)]) (fun x => [(0, blkR g28 94 (#[.slice none 0 0, .int .i64 0, .bool false])), (1, tlR [] (.slice none 0 0)), (2, blkR g29 96 (#[.slice none 0 0, .int .i64 0, .bool false])), (3, bytR [] (.slice none 0 0)), (4, ownR x.2 (.slice A43 ((List.replicate K (0 : UInt8))).length c43))]) (fun k x => k = (K - x.1) ∧ (x.1 ≤ K ∧ x.2.length = K)) _ ⟨0, (List.replicate K (0 : UInt8))⟩ ⟨rfl, ⟨Nat.zero_le _, List.length_replicate⟩⟩ (F47.sub ⟨rfl, rfl, rfl, rfl, rfl, rfl, trivial⟩) (M43.sub ⟨rfl, rfl, rfl, rfl, rfl, trivial⟩) ?_
  clear F47 M43
  rintro k48 ⟨jn, z⟩ a48 w48 K48 ⟨ek48, I48⟩ F48 M48 hK48
  replace F48 : Fx 78 a48 [(0, .int .i64 a0), (5, .pointer (some ⟨g28, 0, none⟩)), (6, .pointer (some ⟨g29, 0, none⟩)), (7, .int .i64 (K : Int)), (9, .int .i64 (jn : Int)), (8, .slice A43 ((List.replicate K (0 : UInt8))).length c43)] := F48
  replace M48 : Mx _ _ w48 [(0, blkR g28 94 (#[.slice none 0 0, .int .i64 0, .bool false])), (1, tlR [] (.slice none 0 0)), (2, blkR g29 96 (#[.slice none 0 0, .int .i64 0, .bool false])), (3, bytR [] (.slice none 0 0)), (4, ownR z (.slice A43 ((List.replicate K (0 : UInt8))).length c43))] := M48
  replace I48 : jn ≤ K ∧ z.length = K := I48
  replace ek48 : k48 = (K - jn) := ek48
  obtain ⟨hj, hzl⟩ := I48
  obtain ⟨bz, hbz⟩ : ∃ b, ([0, 1, 7] : List UInt8)[jn % 3]? = some b := ⟨_, List.getElem?_eq_getElem (show jn % 3 < 3 by omega)⟩
  refine wp_seq_k fun K49 hK49 => wp_seq_k fun K50 hK50 => ?_
  refine wp_region_lit ?_
  refine rm rfl F48 fun a51 F51 => ?_
  refine rm rfl F51 fun a52 F52 => ?_
  by_cases h53 : (jn : Int) < (K : Int)
  · refine rn rfl rfl F52 rfl (.bool true) (y_lss _ _ _ _ rfl (F52.get rfl) (F52.get rfl) (decide_eq_true h53)) fun a54 F54 => ?_
    refine hK50 _ _ (wp_cond_true (F54.get (t := 28) rfl) ?_)
    refine wp_skip ?_
    refine hK49 _ _ (wp_seq_k fun K55 hK55 => ?_)
    refine wp_block ?_
    refine wp_region_lit ?_
    refine rm rfl F54 fun a56 F56 => ?_
    refine rm rfl F56 fun a57 F57 => ?_
    refine wl_runM (wanted_none rfl) rfl F57 rfl (run_litO M48 5 [0, 1, 7] 3 rfl (by decide) (by decide) rfl (by simp only [List.map_toArray, List.map_cons, List.map_nil]; kernel_rfl)) ?_
    intro v58 a58 w58 F58 M58
    clear F57 M48
    obtain ⟨A58, c58, rfl⟩ := (M58.isO (k := 5) rfl).shape
    refine rm rfl F58 fun a59 F59 => ?_
    refine rn rfl rfl F59 rfl (.int .i64 ((jn % 3 : Nat) : Int)) (y_remI _ _ _ _ rfl (F59.get rfl) rfl (by omega) (by omega) (by omega)) fun a60 F60 => ?_
    refine rn rfl rfl F60 rfl ((ixV (.slice A58 ([0, 1, 7]).length c58) (jn % 3))) (y_ixB _ _ rfl (F60.get rfl) (M58.isO (k := 5) rfl) (F60.get rfl) rfl (show jn % 3 < 3 by omega)) fun a61 F61 => ?_
    refine rn rfl rfl F61 rfl (.int .u8 ((bz.toNat : Nat) : Int)) (y_ldB _ rfl (F61.get rfl) (M58.isO (k := 5) rfl) hbz rfl) fun a62 F62 => ?_
    refine rn rfl rfl F62 rfl ((ixV (.slice A43 ((List.replicate K (0 : UInt8))).length c43) jn)) (y_ixB _ _ rfl (F62.get rfl) (M58.isO (k := 4) rfl) (F62.get rfl) rfl (by omega)) fun a63 F63 => ?_
    refine wl_doM (wanted_none rfl) rfl F63 (run_setO M58 (k := 4) rfl _ _ rfl (F63.get rfl) bz (F63.get rfl) rfl (by omega)) ?_
    intro w64 M64
    clear M58
    refine hK55 _ _ (wp_region_lit ?_)
    refine rm rfl F63 fun a65 F65 => ?_
    refine rn rfl rfl F65 rfl (.int .i64 ((jn + 1 : Nat) : Int)) (y_addI _ _ _ _ rfl (F65.get rfl) rfl (by omega) (by omega)) fun a66 F66 => ?_
    refine rm rfl F66 fun a67 F67 => ?_
    subst ek48
    exact hK48 _ ⟨(jn + 1), (z.set jn bz)⟩ _ _ (by omega) ⟨rfl, ⟨by omega, by rw [List.length_set]; exact hzl⟩⟩ (F67.sub ⟨rfl, rfl, rfl, rfl, rfl, rfl, trivial⟩) (M64.sub ⟨rfl, rfl, rfl, rfl, rfl, trivial⟩)
  refine rn rfl rfl F52 rfl (.bool false) (y_lss _ _ _ _ rfl (F52.get rfl) (F52.get rfl) (decide_eq_false h53)) fun a68 F68 => ?_
  refine hK50 _ _ (wp_cond_false (F68.get (t := 28) rfl) ?_)
  refine wp_exit ?_
  simp only [Exit.then, Exit.inBlock, ↓reduceIte, Nat.reduceEqDiff]
  refine hK45 _ _ (wp_seq_k fun K69 hK69 => ?_)
  refine wp_seq_k fun K70 hK70 => wp_region_lit ?_
  refine rm rfl F68 fun a71 F71 => ?_
  refine hK70 _ _ (wp_block ?_)
  have M72 := M48.tame (k := 4) rfl
  clear M48
  refine loop_fx (α := Nat × Int × Bool × List UInt8 × List UInt8 × Value × Value) (n := 78) (G := none) (w0 := w) (fun x => [(0, .int .i64 a0), (5, .pointer (some ⟨g28, 0, none⟩)), (6, .pointer (some ⟨g29, 0, none⟩)), (8, .slice A43 ((List.replicate K (0 : UInt8))).length c43), (10, .int .i64 (x.1 : Int))]) (fun x => [(0, blkR g28 94 (#[x.2.2.2.2.2.1, .int .i64 x.2.1, .bool x.2.2.1])), (1, tlR x.2.2.2.1 x.2.2.2.2.2.1), (2, blkR g29 96 (#[x.2.2.2.2.2.2, .int .i64 x.2.1, .bool x.2.2.1])), (3, bytR x.2.2.2.2.1 x.2.2.2.2.2.2), (4, bytR z (.slice A43 ((List.replicate K (0 : UInt8))).length c43))]) (fun k x => k = (J - x.1) ∧ (x.1 ≤ J ∧ 0 ≤ x.2.1 ∧ x.2.1 ≤ 13000 * (x.1 : Int) ∧ x.2.2.2.1.length ≤ 13000 * x.1 ∧ x.2.2.2.2.1.length ≤ 13000 * x.1 ∧ (x.2.2.1 = false → x.2.2.2.2.1 = x.2.2.2.1) ∧ (x.2.2.1 = true → x.2.2.2.1 = []))) _ ⟨0, 0, false, [], [], .slice none 0 0, .slice none 0 0⟩ ⟨rfl, ⟨Nat.zero_le _, by decide, by decide, by decide, by decide, fun _ => rfl, fun e => by cases e⟩⟩ (F71.sub ⟨rfl, rfl, rfl, rfl, rfl, trivial⟩) (M72.sub ⟨rfl, rfl, rfl, rfl, rfl, trivial⟩) ?_
  clear F71 M72
  rintro k73 ⟨jn, nt, bt, L, L2, u, u2⟩ a73 w73 K73 ⟨ek73, I73⟩ F73 M73 hK73
  replace F73 : Fx 78 a73 [(0, .int .i64 a0), (5, .pointer (some ⟨g28, 0, none⟩)), (6, .pointer (some ⟨g29, 0, none⟩)), (8, .slice A43 ((List.replicate K (0 : UInt8))).length c43), (10, .int .i64 (jn : Int))] := F73
  replace M73 : Mx _ _ w73 [(0, blkR g28 94 (#[u, .int .i64 nt, .bool bt])), (1, tlR L u), (2, blkR g29 96 (#[u2, .int .i64 nt, .bool bt])), (3, bytR L2 u2), (4, bytR z (.slice A43 ((List.replicate K (0 : UInt8))).length c43))] := M73
  replace I73 : jn ≤ J ∧ 0 ≤ nt ∧ nt ≤ 13000 * (jn : Int) ∧ L.length ≤ 13000 * jn ∧ L2.length ≤ 13000 * jn ∧ (bt = false → L2 = L) ∧ (bt = true → L = []) := I73
  replace ek73 : k73 = (J - jn) := ek73
  obtain ⟨hj, hn0, hn1, hl1, hl2, hf, ht⟩ := I73
  cases bt
  rotate_left
  · obtain ⟨e1, e2, e3, e4⟩ := nx_nil (ht rfl)
    refine wp_seq_k fun K180 hK180 => wp_seq_k fun K181 hK181 => ?_
    refine wp_region_lit ?_
    refine rm rfl F73 fun a182 F182 => ?_
    refine rm rfl F182 fun a183 F183 => ?_
    refine wl_call (wanted_none rfl) rfl F183 rfl rfl (enters_of Try.func22 (by kernel_rfl) rfl) #[.int .i64 a0, .int .i64 8] (args2 (F183.get rfl) rfl) (call_ex ((within5_any a0 8 (by omega) (by omega) (by omega) (by omega) w73))) ?_
    rintro _ w184 a184 ⟨rfl, rfl⟩ F184
    refine rn rfl rfl F184 rfl (.int .i64 (J : Int)) (y_addI _ _ _ _ rfl rfl (F184.get rfl) hJ (by omega)) fun a185 F185 => ?_
    by_cases h186 : (jn : Int) < (J : Int)
    · refine rn rfl rfl F185 rfl (.bool true) (y_lss _ _ _ _ rfl (F185.get rfl) (F185.get rfl) (decide_eq_true h186)) fun a187 F187 => ?_
      refine hK181 _ _ (wp_cond_true (F187.get (t := 43) rfl) ?_)
      refine wp_skip ?_
      refine hK180 _ _ (wp_seq_k fun K188 hK188 => ?_)
      refine wp_block ?_
      refine wp_seq_k fun K189 hK189 => wp_region_lit ?_
      refine rm rfl F187 fun a190 F190 => ?_
      refine rm rfl F190 fun a191 F191 => ?_
      refine wl_call (wanted_none rfl) rfl F191 rfl rfl (enters_of Try.func28 (by kernel_rfl) rfl) #[.pointer (some ⟨g28, 0, none⟩), .slice A43 ((List.replicate K (0 : UInt8))).length c43] (args2 (F191.get rfl) (F191.get rfl)) (swrite_any M73 0 1 4 g28 L z u (.slice A43 ((List.replicate K (0 : UInt8))).length c43) nt true rfl rfl rfl (by decide) (by decide) (by omega) ⟨by omega, by omega⟩ false rfl) ?_
      rintro _ w192 a192 ⟨u192, N192, rfl⟩ F192
      rw [(show wrL false L z = ([] : List UInt8) from rfl)] at N192
      rw [(show wrN false nt z = nt from rfl)] at N192
      clear M73
      replace N192 : Mx _ _ _ ((0, blkR g28 94 #[u192, .int .i64 nt, .bool true]) :: _) := N192
      refine rm rfl F192 fun a193 F193 => ?_
      refine rm rfl F193 fun a194 F194 => ?_
      refine wl_call (wanted_none rfl) rfl F194 rfl rfl (enters_of Try.func29 (by kernel_rfl) rfl) #[.pointer (some ⟨g29, 0, none⟩), .slice A43 ((List.replicate K (0 : UInt8))).length c43] (args2 (F194.get rfl) (F194.get rfl)) (rwrite_any N192 2 3 4 g29 L2 z u2 (.slice A43 ((List.replicate K (0 : UInt8))).length c43) nt true rfl rfl rfl (by decide) (by decide) (by omega) ⟨by omega, by omega⟩ false rfl) ?_
      rintro _ w195 a195 ⟨u195, N195, rfl⟩ F195
      rw [(show wrR false L2 z = L2 from rfl)] at N195
      rw [(show wrN false nt z = nt from rfl)] at N195
      clear N192
      replace N195 : Mx _ _ _ ((2, blkR g29 96 #[u195, .int .i64 nt, .bool true]) :: _) := N195
      refine rn rfl rfl F195 rfl (.bool false) (y_neB _ _ rfl (F195.get rfl) (F195.get rfl) rfl) fun a196 F196 => ?_
      refine rm rfl F196 fun a197 F197 => ?_
      refine rm rfl F197 fun a198 F198 => ?_
      refine wl_call (wanted_yes rfl rfl rfl (F198.get rfl)) rfl F198 rfl rfl (enters_of Try.func32 (by kernel_rfl) rfl) #[.pointer (some ⟨g28, 0, none⟩)] (args1 (F198.get rfl)) (call_ex ((bad_any g28 u192 nt true w195 (N195.blk (k := 0) rfl)))) ?_
      rintro _ w199 a199 ⟨rfl, b199⟩ F199
      have M199 := N195.step b199
      refine rm rfl F199 fun a200 F200 => ?_
      refine wl_call (wanted_yes rfl rfl rfl (F200.get rfl)) rfl F200 rfl rfl (enters_of Try.func33 (by kernel_rfl) rfl) #[.pointer (some ⟨g29, 0, none⟩)] (args1 (F200.get rfl)) (call_ex ((rbad_any g29 u195 nt true w199 (M199.blk (k := 2) rfl)))) ?_
      rintro _ w201 a201 ⟨rfl, b201⟩ F201
      have M201 := M199.step b201
      refine wl_run (w' := w201) (wanted_yes rfl rfl rfl (F201.get rfl)) rfl F201 rfl (.bool false) (y_neB _ _ rfl (F201.get rfl) (F201.get rfl) rfl) fun a202 F202 => ?_
      refine rn rfl rfl F202 rfl (.bool false) (run_pick_f rfl (F202.get rfl) (F202.get rfl)) fun a203 F203 => ?_
      refine hK189 _ _ (wp_cond_false (F203.get (t := 59) rfl) ?_)
      refine wp_skip ?_
      refine hK188 _ _ (wp_region_lit ?_)
      refine rm rfl F203 fun a204 F204 => ?_
      refine rn rfl rfl F204 rfl (.int .i64 ((jn + 1 : Nat) : Int)) (y_addI _ _ _ _ rfl (F204.get rfl) rfl (by omega) (by omega)) fun a205 F205 => ?_
      refine rm rfl F205 fun a206 F206 => ?_
      subst ek73
      exact hK73 _ ⟨(jn + 1), nt, true, ([] : List UInt8), L2, u192, u195⟩ _ _ (by omega) ⟨rfl, ⟨by (dsimp only; omega), by (dsimp only; omega), by (dsimp only; omega), by (dsimp only; (try simp only [List.length_append, List.length_nil]); omega), by (dsimp only; (try simp only [List.length_append]); omega), (fun e => by cases e), (fun _ => rfl)⟩⟩ (F206.sub ⟨rfl, rfl, rfl, rfl, rfl, trivial⟩) (M201.sub ⟨rfl, rfl, rfl, rfl, rfl, trivial⟩)
    refine rn rfl rfl F185 rfl (.bool false) (y_lss _ _ _ _ rfl (F185.get rfl) (F185.get rfl) (decide_eq_false h186)) fun a207 F207 => ?_
    refine hK181 _ _ (wp_cond_false (F207.get (t := 43) rfl) ?_)
    refine wp_exit ?_
    simp only [Exit.then, Exit.inBlock, ↓reduceIte, Nat.reduceEqDiff]
    refine hK69 _ _ (wp_seq_k fun K208 hK208 => ?_)
    refine wp_region_lit ?_
    refine rm rfl F207 fun a209 F209 => ?_
    refine wl_call (wanted_none rfl) rfl F209 rfl rfl (enters_of Try.func30 (by kernel_rfl) rfl) #[.pointer (some ⟨g28, 0, none⟩)] (args1 (F209.get rfl)) (next_is M73 0 1 g28 L u nt true rfl rfl (by decide) (by omega) 5 6 7 8 9 mZero false true (nxL L) e1 e2 rfl rfl) ?_
    rintro _ w210 a210 ⟨u210, V210, N210, rfl⟩ F210
    clear M73
    refine exA 3 [(60, .tuple #[.agg (msgA mZero V210), .bool false]), (63, .agg (msgA mZero V210)), (64, .bool false)] [] dnil [] F210 (by kernel_rfl) (by kernel_rfl) fun a211 F211 => ?_
    simp only [List.drop_succ_cons, List.drop_zero]
    refine wl_alloc (wanted_none rfl) rfl F211 rfl N210 10 (t := 29) (c := msgA ⟨0, 0, 0, 0, "".toUTF8, 0, 0, [], [], [], [], []⟩ ⟨.slice none 0 0, .slice none 0 0, .slice none 0 0, .slice none 0 0, .slice none 0 0⟩) (by unfold execOp; kernel_rfl) ?_
    intro g212 a212 w212 F212 M212
    clear F211 N210
    refine wl_st (wanted_none rfl) rfl F212 M212 (k := 10) rfl _ _ _ rfl (F212.get rfl) (F212.get rfl) (msgA mZero V210) (msgA mZero V210) rfl (Nat.le_of_ble_eq_true rfl) (msgA_one (w := w212) ⟨(M212.isb (k := 5) rfl), (M212.isb (k := 6) rfl), (M212.isb (k := 7) rfl), (M212.isb (k := 8) rfl), (M212.isb (k := 9) rfl)⟩) (y_put0 rfl) (by kernel_rfl) ?_
    intro w213 M213
    clear M212
    refine rm rfl F212 fun a214 F214 => ?_
    refine hK208 _ _ (wp_seq_k fun K215 hK215 => ?_)
    refine wp_region_lit ?_
    refine rm rfl F214 fun a216 F216 => ?_
    refine wl_call (wanted_none rfl) rfl F216 rfl rfl (enters_of Try.func31 (by kernel_rfl) rfl) #[.pointer (some ⟨g29, 0, none⟩)] (args1 (F216.get rfl)) (rnextb_is M213 2 3 g29 L2 u2 nt rfl rfl (by decide) (by omega) 11 12 13 14 15) ?_
    rintro _ w217 a217 ⟨u217, V217, N217, rfl⟩ F217
    clear M213
    refine exA 3 [(65, .tuple #[.agg (msgA mZero V217), .bool false]), (68, .agg (msgA mZero V217)), (69, .bool false)] [] dnil [] F217 (by kernel_rfl) (by kernel_rfl) fun a218 F218 => ?_
    simp only [List.drop_succ_cons, List.drop_zero]
    refine wl_alloc (wanted_none rfl) rfl F218 rfl N217 16 (t := 29) (c := msgA ⟨0, 0, 0, 0, "".toUTF8, 0, 0, [], [], [], [], []⟩ ⟨.slice none 0 0, .slice none 0 0, .slice none 0 0, .slice none 0 0, .slice none 0 0⟩) (by unfold execOp; kernel_rfl) ?_
    intro g219 a219 w219 F219 M219
    clear F218 N217
    refine wl_st (wanted_none rfl) rfl F219 M219 (k := 16) rfl _ _ _ rfl (F219.get rfl) (F219.get rfl) (msgA mZero V217) (msgA mZero V217) rfl (Nat.le_of_ble_eq_true rfl) (msgA_one (w := w219) ⟨(M219.isb (k := 11) rfl), (M219.isb (k := 12) rfl), (M219.isb (k := 13) rfl), (M219.isb (k := 14) rfl), (M219.isb (k := 15) rfl)⟩) (y_put0 rfl) (by kernel_rfl) ?_
    intro w220 M220
    clear M219
    refine rm rfl F219 fun a221 F221 => ?_
    refine hK215 _ _ (wp_seq_k fun K222 hK222 => ?_)
    refine wp_region_lit ?_
    refine rm rfl F221 fun a223 F223 => ?_
    refine rm rfl F223 fun a224 F224 => ?_
    refine rn rfl rfl F224 rfl (.bool true) (y_eqB _ _ rfl (F224.get rfl) (F224.get rfl) rfl) fun a225 F225 => ?_
    refine exA 3 [(73, .bool true), (74, .agg (msgA mZero V210)), (75, .agg (msgA mZero V217))] [0, 1] (dcons (M220.blk (k := 10) rfl) (dcons (M220.blk (k := 16) rfl) dnil)) [g212, g219] F225 (by kernel_rfl) (by kernel_rfl) fun a226 F226 => ?_
    simp only [List.drop_succ_cons, List.drop_zero]
    refine wl_call (wanted_yes rfl rfl rfl (F226.get rfl)) rfl F226 rfl rfl (enters_of Try.func21 (by kernel_rfl) rfl) #[.agg (msgA mZero V210), .agg (msgA mZero V217)] (args2 (F226.get rfl) (F226.get rfl)) (call_ex ((msgs_is mZero mZero V210 V217 mZero_ok mZero_ok true (eqM_self mZero) w220 ⟨(M220.isb (k := 5) rfl), (M220.isb (k := 6) rfl), (M220.isb (k := 7) rfl), (M220.isb (k := 8) rfl), (M220.isb (k := 9) rfl)⟩ ⟨(M220.isb (k := 11) rfl), (M220.isb (k := 12) rfl), (M220.isb (k := 13) rfl), (M220.isb (k := 14) rfl), (M220.isb (k := 15) rfl)⟩))) ?_
    rintro _ w227 a227 ⟨rfl, b227⟩ F227
    have M227 := M220.step b227
    refine exA 2 [(77, .bool true), (4, .bool true)] [] dnil [] F227 (by kernel_rfl) (by kernel_rfl) fun a228 F228 => ?_
    simp only [List.drop_succ_cons, List.drop_zero]
    refine hK222 _ _ (wp_ret ?_)
    try simp only [Exit.then, Exit.inBlock, Exit.jump]
    exact bodyPost_ret (res1 rfl (F228.get (t := 4) rfl)) F228.defers ⟨rfl, M227.below⟩
  have hLL := hf rfl
  obtain ⟨mx, hmx⟩ : ∃ m, nxM L = m := ⟨_, rfl⟩
  obtain ⟨okx, hokx⟩ : ∃ m, nxOk L = m := ⟨_, rfl⟩
  obtain ⟨bx, hbx⟩ : ∃ m, (false || nxBad L) = m := ⟨_, rfl⟩
  have hmo := (nxM_ok L).1
  rw [hmx] at hmo
  by_cases hnt : nt < 100000
  · refine wp_seq_k fun K74 hK74 => ?_
    refine wp_seq_k fun K75 hK75 => wp_region_lit ?_
    refine rm rfl F73 fun a76 F76 => ?_
    refine rm rfl F76 fun a77 F77 => ?_
    refine wl_call (wanted_none rfl) rfl F77 rfl rfl (enters_of Try.func22 (by kernel_rfl) rfl) #[.int .i64 a0, .int .i64 8] (args2 (F77.get rfl) rfl) (call_ex ((within5_any a0 8 (by omega) (by omega) (by omega) (by omega) w73))) ?_
    rintro _ w78 a78 ⟨rfl, rfl⟩ F78
    refine rn rfl rfl F78 rfl (.int .i64 (J : Int)) (y_addI _ _ _ _ rfl rfl (F78.get rfl) hJ (by omega)) fun a79 F79 => ?_
    by_cases h80 : (jn : Int) < (J : Int)
    · refine rn rfl rfl F79 rfl (.bool true) (y_lss _ _ _ _ rfl (F79.get rfl) (F79.get rfl) (decide_eq_true h80)) fun a81 F81 => ?_
      refine hK75 _ _ (wp_cond_true (F81.get (t := 43) rfl) ?_)
      refine wp_skip ?_
      refine hK74 _ _ (wp_seq_k fun K82 hK82 => ?_)
      refine wp_block ?_
      refine wp_seq_k fun K83 hK83 => wp_region_lit ?_
      refine rm rfl F81 fun a84 F84 => ?_
      refine rm rfl F84 fun a85 F85 => ?_
      refine wl_call (wanted_none rfl) rfl F85 rfl rfl (enters_of Try.func28 (by kernel_rfl) rfl) #[.pointer (some ⟨g28, 0, none⟩), .slice A43 ((List.replicate K (0 : UInt8))).length c43] (args2 (F85.get rfl) (F85.get rfl)) (swrite_any M73 0 1 4 g28 L z u (.slice A43 ((List.replicate K (0 : UInt8))).length c43) nt false rfl rfl rfl (by decide) (by decide) (by omega) ⟨by omega, by omega⟩ true (wrOk_t hnt)) ?_
      rintro _ w86 a86 ⟨u86, N86, rfl⟩ F86
      rw [(show wrL true L z = L ++ z from rfl)] at N86
      rw [(show wrN true nt z = nt + (z.length : Int) from rfl)] at N86
      clear M73
      replace N86 : Mx _ _ _ ((0, blkR g28 94 #[u86, .int .i64 (nt + (z.length : Int)), .bool false]) :: _) := N86
      refine rm rfl F86 fun a87 F87 => ?_
      refine rm rfl F87 fun a88 F88 => ?_
      refine wl_call (wanted_none rfl) rfl F88 rfl rfl (enters_of Try.func29 (by kernel_rfl) rfl) #[.pointer (some ⟨g29, 0, none⟩), .slice A43 ((List.replicate K (0 : UInt8))).length c43] (args2 (F88.get rfl) (F88.get rfl)) (rwrite_any N86 2 3 4 g29 L2 z u2 (.slice A43 ((List.replicate K (0 : UInt8))).length c43) nt false rfl rfl rfl (by decide) (by decide) (by omega) ⟨by omega, by omega⟩ true (wrOk_t hnt)) ?_
      rintro _ w89 a89 ⟨u89, N89, rfl⟩ F89
      rw [(show wrR true L2 z = L2 ++ z from rfl)] at N89
      rw [(show wrN true nt z = nt + (z.length : Int) from rfl)] at N89
      clear N86
      replace N89 : Mx _ _ _ ((2, blkR g29 96 #[u89, .int .i64 (nt + (z.length : Int)), .bool false]) :: _) := N89
      refine rn rfl rfl F89 rfl (.bool false) (y_neB _ _ rfl (F89.get rfl) (F89.get rfl) rfl) fun a90 F90 => ?_
      refine rm rfl F90 fun a91 F91 => ?_
      refine rm rfl F91 fun a92 F92 => ?_
      refine wl_call (wanted_yes rfl rfl rfl (F92.get rfl)) rfl F92 rfl rfl (enters_of Try.func32 (by kernel_rfl) rfl) #[.pointer (some ⟨g28, 0, none⟩)] (args1 (F92.get rfl)) (call_ex ((bad_any g28 u86 (nt + (z.length : Int)) false w89 (N89.blk (k := 0) rfl)))) ?_
      rintro _ w93 a93 ⟨rfl, b93⟩ F93
      have M93 := N89.step b93
      refine rm rfl F93 fun a94 F94 => ?_
      refine wl_call (wanted_yes rfl rfl rfl (F94.get rfl)) rfl F94 rfl rfl (enters_of Try.func33 (by kernel_rfl) rfl) #[.pointer (some ⟨g29, 0, none⟩)] (args1 (F94.get rfl)) (call_ex ((rbad_any g29 u89 (nt + (z.length : Int)) false w93 (M93.blk (k := 2) rfl)))) ?_
      rintro _ w95 a95 ⟨rfl, b95⟩ F95
      have M95 := M93.step b95
      refine wl_run (w' := w95) (wanted_yes rfl rfl rfl (F95.get rfl)) rfl F95 rfl (.bool false) (y_neB _ _ rfl (F95.get rfl) (F95.get rfl) rfl) fun a96 F96 => ?_
      refine rn rfl rfl F96 rfl (.bool false) (run_pick_f rfl (F96.get rfl) (F96.get rfl)) fun a97 F97 => ?_
      refine hK83 _ _ (wp_cond_false (F97.get (t := 59) rfl) ?_)
      refine wp_skip ?_
      refine hK82 _ _ (wp_region_lit ?_)
      refine rm rfl F97 fun a98 F98 => ?_
      refine rn rfl rfl F98 rfl (.int .i64 ((jn + 1 : Nat) : Int)) (y_addI _ _ _ _ rfl (F98.get rfl) rfl (by omega) (by omega)) fun a99 F99 => ?_
      refine rm rfl F99 fun a100 F100 => ?_
      subst ek73
      exact hK73 _ ⟨(jn + 1), (nt + (z.length : Int)), false, (L ++ z), (L2 ++ z), u86, u89⟩ _ _ (by omega) ⟨rfl, ⟨by (dsimp only; omega), by (dsimp only; omega), by (dsimp only; omega), by (dsimp only; (try simp only [List.length_append, List.length_nil]); omega), by (dsimp only; (try simp only [List.length_append]); omega), (fun _ => by rw [hLL]), (fun e => by cases e)⟩⟩ (F100.sub ⟨rfl, rfl, rfl, rfl, rfl, trivial⟩) (M95.sub ⟨rfl, rfl, rfl, rfl, rfl, trivial⟩)
    refine rn rfl rfl F79 rfl (.bool false) (y_lss _ _ _ _ rfl (F79.get rfl) (F79.get rfl) (decide_eq_false h80)) fun a101 F101 => ?_
    refine hK75 _ _ (wp_cond_false (F101.get (t := 43) rfl) ?_)
    refine wp_exit ?_
    simp only [Exit.then, Exit.inBlock, ↓reduceIte, Nat.reduceEqDiff]
    refine hK69 _ _ (wp_seq_k fun K102 hK102 => ?_)
    refine wp_region_lit ?_
    refine rm rfl F101 fun a103 F103 => ?_
    refine wl_call (wanted_none rfl) rfl F103 rfl rfl (enters_of Try.func30 (by kernel_rfl) rfl) #[.pointer (some ⟨g28, 0, none⟩)] (args1 (F103.get rfl)) (next_is M73 0 1 g28 L u nt false rfl rfl (by decide) (by omega) 5 6 7 8 9 mx okx bx (nxL L) hmx hokx hbx rfl) ?_
    rintro _ w104 a104 ⟨u104, V104, N104, rfl⟩ F104
    clear M73
    refine exA 3 [(60, .tuple #[.agg (msgA mx V104), .bool okx]), (63, .agg (msgA mx V104)), (64, .bool okx)] [] dnil [] F104 (by kernel_rfl) (by kernel_rfl) fun a105 F105 => ?_
    simp only [List.drop_succ_cons, List.drop_zero]
    refine wl_alloc (wanted_none rfl) rfl F105 rfl N104 10 (t := 29) (c := msgA ⟨0, 0, 0, 0, "".toUTF8, 0, 0, [], [], [], [], []⟩ ⟨.slice none 0 0, .slice none 0 0, .slice none 0 0, .slice none 0 0, .slice none 0 0⟩) (by unfold execOp; kernel_rfl) ?_
    intro g106 a106 w106 F106 M106
    clear F105 N104
    refine wl_st (wanted_none rfl) rfl F106 M106 (k := 10) rfl _ _ _ rfl (F106.get rfl) (F106.get rfl) (msgA mx V104) (msgA mx V104) rfl (Nat.le_of_ble_eq_true rfl) (msgA_one (w := w106) ⟨(M106.isb (k := 5) rfl), (M106.isb (k := 6) rfl), (M106.isb (k := 7) rfl), (M106.isb (k := 8) rfl), (M106.isb (k := 9) rfl)⟩) (y_put0 rfl) (by kernel_rfl) ?_
    intro w107 M107
    clear M106
    refine rm rfl F106 fun a108 F108 => ?_
    refine hK102 _ _ (wp_seq_k fun K109 hK109 => ?_)
    refine wp_region_lit ?_
    refine rm rfl F108 fun a110 F110 => ?_
    refine wl_call (wanted_none rfl) rfl F110 rfl rfl (enters_of Try.func31 (by kernel_rfl) rfl) #[.pointer (some ⟨g29, 0, none⟩)] (args1 (F110.get rfl)) (rnext_is M107 2 3 g29 L2 u2 nt  rfl rfl (by decide) (by omega) 11 12 13 14 15 mx okx bx (nxR L2) (by rw [hLL]; exact hmx) (by rw [hLL]; exact hokx) (by rw [hLL]; exact hbx) rfl) ?_
    rintro _ w111 a111 ⟨u111, V111, N111, rfl⟩ F111
    clear M107
    refine exA 3 [(65, .tuple #[.agg (msgA mx V111), .bool okx]), (68, .agg (msgA mx V111)), (69, .bool okx)] [] dnil [] F111 (by kernel_rfl) (by kernel_rfl) fun a112 F112 => ?_
    simp only [List.drop_succ_cons, List.drop_zero]
    refine wl_alloc (wanted_none rfl) rfl F112 rfl N111 16 (t := 29) (c := msgA ⟨0, 0, 0, 0, "".toUTF8, 0, 0, [], [], [], [], []⟩ ⟨.slice none 0 0, .slice none 0 0, .slice none 0 0, .slice none 0 0, .slice none 0 0⟩) (by unfold execOp; kernel_rfl) ?_
    intro g113 a113 w113 F113 M113
    clear F112 N111
    refine wl_st (wanted_none rfl) rfl F113 M113 (k := 16) rfl _ _ _ rfl (F113.get rfl) (F113.get rfl) (msgA mx V111) (msgA mx V111) rfl (Nat.le_of_ble_eq_true rfl) (msgA_one (w := w113) ⟨(M113.isb (k := 11) rfl), (M113.isb (k := 12) rfl), (M113.isb (k := 13) rfl), (M113.isb (k := 14) rfl), (M113.isb (k := 15) rfl)⟩) (y_put0 rfl) (by kernel_rfl) ?_
    intro w114 M114
    clear M113
    refine rm rfl F113 fun a115 F115 => ?_
    refine hK109 _ _ (wp_seq_k fun K116 hK116 => ?_)
    refine wp_region_lit ?_
    refine rm rfl F115 fun a117 F117 => ?_
    refine rm rfl F117 fun a118 F118 => ?_
    cases okx
    · refine rn rfl rfl F118 rfl (.bool true) (y_eqB _ _ rfl (F118.get rfl) (F118.get rfl) rfl) fun a119 F119 => ?_
      refine exA 3 [(73, .bool true), (74, .agg (msgA mx V104)), (75, .agg (msgA mx V111))] [0, 1] (dcons (M114.blk (k := 10) rfl) (dcons (M114.blk (k := 16) rfl) dnil)) [g106, g113] F119 (by kernel_rfl) (by kernel_rfl) fun a120 F120 => ?_
      simp only [List.drop_succ_cons, List.drop_zero]
      refine wl_call (wanted_yes rfl rfl rfl (F120.get rfl)) rfl F120 rfl rfl (enters_of Try.func21 (by kernel_rfl) rfl) #[.agg (msgA mx V104), .agg (msgA mx V111)] (args2 (F120.get rfl) (F120.get rfl)) (call_ex ((msgs_is mx mx V104 V111 hmo hmo true (eqM_self mx) w114 ⟨(M114.isb (k := 5) rfl), (M114.isb (k := 6) rfl), (M114.isb (k := 7) rfl), (M114.isb (k := 8) rfl), (M114.isb (k := 9) rfl)⟩ ⟨(M114.isb (k := 11) rfl), (M114.isb (k := 12) rfl), (M114.isb (k := 13) rfl), (M114.isb (k := 14) rfl), (M114.isb (k := 15) rfl)⟩))) ?_
      rintro _ w121 a121 ⟨rfl, b121⟩ F121
      have M121 := M114.step b121
      refine exA 2 [(77, .bool true), (4, .bool true)] [] dnil [] F121 (by kernel_rfl) (by kernel_rfl) fun a122 F122 => ?_
      simp only [List.drop_succ_cons, List.drop_zero]
      refine hK116 _ _ (wp_ret ?_)
      try simp only [Exit.then, Exit.inBlock, Exit.jump]
      exact bodyPost_ret (res1 rfl (F122.get (t := 4) rfl)) F122.defers ⟨rfl, M121.below⟩
    refine rn rfl rfl F118 rfl (.bool true) (y_eqB _ _ rfl (F118.get rfl) (F118.get rfl) rfl) fun a123 F123 => ?_
    refine exA 3 [(73, .bool true), (74, .agg (msgA mx V104)), (75, .agg (msgA mx V111))] [0, 1] (dcons (M114.blk (k := 10) rfl) (dcons (M114.blk (k := 16) rfl) dnil)) [g106, g113] F123 (by kernel_rfl) (by kernel_rfl) fun a124 F124 => ?_
    simp only [List.drop_succ_cons, List.drop_zero]
    refine wl_call (wanted_yes rfl rfl rfl (F124.get rfl)) rfl F124 rfl rfl (enters_of Try.func21 (by kernel_rfl) rfl) #[.agg (msgA mx V104), .agg (msgA mx V111)] (args2 (F124.get rfl) (F124.get rfl)) (call_ex ((msgs_is mx mx V104 V111 hmo hmo true (eqM_self mx) w114 ⟨(M114.isb (k := 5) rfl), (M114.isb (k := 6) rfl), (M114.isb (k := 7) rfl), (M114.isb (k := 8) rfl), (M114.isb (k := 9) rfl)⟩ ⟨(M114.isb (k := 11) rfl), (M114.isb (k := 12) rfl), (M114.isb (k := 13) rfl), (M114.isb (k := 14) rfl), (M114.isb (k := 15) rfl)⟩))) ?_
    rintro _ w125 a125 ⟨rfl, b125⟩ F125
    have M125 := M114.step b125
    refine exA 2 [(77, .bool true), (4, .bool true)] [] dnil [] F125 (by kernel_rfl) (by kernel_rfl) fun a126 F126 => ?_
    simp only [List.drop_succ_cons, List.drop_zero]
    refine hK116 _ _ (wp_ret ?_)
    try simp only [Exit.then, Exit.inBlock, Exit.jump]
    exact bodyPost_ret (res1 rfl (F126.get (t := 4) rfl)) F126.defers ⟨rfl, M125.below⟩
  refine wp_seq_k fun K127 hK127 => wp_seq_k fun K128 hK128 => ?_
  refine wp_region_lit ?_
  refine rm rfl F73 fun a129 F129 => ?_
  refine rm rfl F129 fun a130 F130 => ?_
  refine wl_call (wanted_none rfl) rfl F130 rfl rfl (enters_of Try.func22 (by kernel_rfl) rfl) #[.int .i64 a0, .int .i64 8] (args2 (F130.get rfl) rfl) (call_ex ((within5_any a0 8 (by omega) (by omega) (by omega) (by omega) w73))) ?_
  rintro _ w131 a131 ⟨rfl, rfl⟩ F131
  refine rn rfl rfl F131 rfl (.int .i64 (J : Int)) (y_addI _ _ _ _ rfl rfl (F131.get rfl) hJ (by omega)) fun a132 F132 => ?_
  by_cases h133 : (jn : Int) < (J : Int)
  · refine rn rfl rfl F132 rfl (.bool true) (y_lss _ _ _ _ rfl (F132.get rfl) (F132.get rfl) (decide_eq_true h133)) fun a134 F134 => ?_
    refine hK128 _ _ (wp_cond_true (F134.get (t := 43) rfl) ?_)
    refine wp_skip ?_
    refine hK127 _ _ (wp_seq_k fun K135 hK135 => ?_)
    refine wp_block ?_
    refine wp_seq_k fun K136 hK136 => wp_region_lit ?_
    refine rm rfl F134 fun a137 F137 => ?_
    refine rm rfl F137 fun a138 F138 => ?_
    refine wl_call (wanted_none rfl) rfl F138 rfl rfl (enters_of Try.func28 (by kernel_rfl) rfl) #[.pointer (some ⟨g28, 0, none⟩), .slice A43 ((List.replicate K (0 : UInt8))).length c43] (args2 (F138.get rfl) (F138.get rfl)) (swrite_any M73 0 1 4 g28 L z u (.slice A43 ((List.replicate K (0 : UInt8))).length c43) nt false rfl rfl rfl (by decide) (by decide) (by omega) ⟨by omega, by omega⟩ false (wrOk_f hnt)) ?_
    rintro _ w139 a139 ⟨u139, N139, rfl⟩ F139
    rw [(show wrL false L z = ([] : List UInt8) from rfl)] at N139
    rw [(show wrN false nt z = nt from rfl)] at N139
    clear M73
    replace N139 : Mx _ _ _ ((0, blkR g28 94 #[u139, .int .i64 nt, .bool true]) :: _) := N139
    refine rm rfl F139 fun a140 F140 => ?_
    refine rm rfl F140 fun a141 F141 => ?_
    refine wl_call (wanted_none rfl) rfl F141 rfl rfl (enters_of Try.func29 (by kernel_rfl) rfl) #[.pointer (some ⟨g29, 0, none⟩), .slice A43 ((List.replicate K (0 : UInt8))).length c43] (args2 (F141.get rfl) (F141.get rfl)) (rwrite_any N139 2 3 4 g29 L2 z u2 (.slice A43 ((List.replicate K (0 : UInt8))).length c43) nt false rfl rfl rfl (by decide) (by decide) (by omega) ⟨by omega, by omega⟩ false (wrOk_f hnt)) ?_
    rintro _ w142 a142 ⟨u142, N142, rfl⟩ F142
    rw [(show wrR false L2 z = L2 from rfl)] at N142
    rw [(show wrN false nt z = nt from rfl)] at N142
    clear N139
    replace N142 : Mx _ _ _ ((2, blkR g29 96 #[u142, .int .i64 nt, .bool true]) :: _) := N142
    refine rn rfl rfl F142 rfl (.bool false) (y_neB _ _ rfl (F142.get rfl) (F142.get rfl) rfl) fun a143 F143 => ?_
    refine rm rfl F143 fun a144 F144 => ?_
    refine rm rfl F144 fun a145 F145 => ?_
    refine wl_call (wanted_yes rfl rfl rfl (F145.get rfl)) rfl F145 rfl rfl (enters_of Try.func32 (by kernel_rfl) rfl) #[.pointer (some ⟨g28, 0, none⟩)] (args1 (F145.get rfl)) (call_ex ((bad_any g28 u139 nt true w142 (N142.blk (k := 0) rfl)))) ?_
    rintro _ w146 a146 ⟨rfl, b146⟩ F146
    have M146 := N142.step b146
    refine rm rfl F146 fun a147 F147 => ?_
    refine wl_call (wanted_yes rfl rfl rfl (F147.get rfl)) rfl F147 rfl rfl (enters_of Try.func33 (by kernel_rfl) rfl) #[.pointer (some ⟨g29, 0, none⟩)] (args1 (F147.get rfl)) (call_ex ((rbad_any g29 u142 nt true w146 (M146.blk (k := 2) rfl)))) ?_
    rintro _ w148 a148 ⟨rfl, b148⟩ F148
    have M148 := M146.step b148
    refine wl_run (w' := w148) (wanted_yes rfl rfl rfl (F148.get rfl)) rfl F148 rfl (.bool false) (y_neB _ _ rfl (F148.get rfl) (F148.get rfl) rfl) fun a149 F149 => ?_
    refine rn rfl rfl F149 rfl (.bool false) (run_pick_f rfl (F149.get rfl) (F149.get rfl)) fun a150 F150 => ?_
    refine hK136 _ _ (wp_cond_false (F150.get (t := 59) rfl) ?_)
    refine wp_skip ?_
    refine hK135 _ _ (wp_region_lit ?_)
    refine rm rfl F150 fun a151 F151 => ?_
    refine rn rfl rfl F151 rfl (.int .i64 ((jn + 1 : Nat) : Int)) (y_addI _ _ _ _ rfl (F151.get rfl) rfl (by omega) (by omega)) fun a152 F152 => ?_
    refine rm rfl F152 fun a153 F153 => ?_
    subst ek73
    exact hK73 _ ⟨(jn + 1), nt, true, ([] : List UInt8), L2, u139, u142⟩ _ _ (by omega) ⟨rfl, ⟨by (dsimp only; omega), by (dsimp only; omega), by (dsimp only; omega), by (dsimp only; (try simp only [List.length_append, List.length_nil]); omega), by (dsimp only; (try simp only [List.length_append]); omega), (fun e => by cases e), (fun _ => rfl)⟩⟩ (F153.sub ⟨rfl, rfl, rfl, rfl, rfl, trivial⟩) (M148.sub ⟨rfl, rfl, rfl, rfl, rfl, trivial⟩)
  refine rn rfl rfl F132 rfl (.bool false) (y_lss _ _ _ _ rfl (F132.get rfl) (F132.get rfl) (decide_eq_false h133)) fun a154 F154 => ?_
  refine hK128 _ _ (wp_cond_false (F154.get (t := 43) rfl) ?_)
  refine wp_exit ?_
  simp only [Exit.then, Exit.inBlock, ↓reduceIte, Nat.reduceEqDiff]
  refine hK69 _ _ (wp_seq_k fun K155 hK155 => ?_)
  refine wp_region_lit ?_
  refine rm rfl F154 fun a156 F156 => ?_
  refine wl_call (wanted_none rfl) rfl F156 rfl rfl (enters_of Try.func30 (by kernel_rfl) rfl) #[.pointer (some ⟨g28, 0, none⟩)] (args1 (F156.get rfl)) (next_is M73 0 1 g28 L u nt false rfl rfl (by decide) (by omega) 5 6 7 8 9 mx okx bx (nxL L) hmx hokx hbx rfl) ?_
  rintro _ w157 a157 ⟨u157, V157, N157, rfl⟩ F157
  clear M73
  refine exA 3 [(60, .tuple #[.agg (msgA mx V157), .bool okx]), (63, .agg (msgA mx V157)), (64, .bool okx)] [] dnil [] F157 (by kernel_rfl) (by kernel_rfl) fun a158 F158 => ?_
  simp only [List.drop_succ_cons, List.drop_zero]
  refine wl_alloc (wanted_none rfl) rfl F158 rfl N157 10 (t := 29) (c := msgA ⟨0, 0, 0, 0, "".toUTF8, 0, 0, [], [], [], [], []⟩ ⟨.slice none 0 0, .slice none 0 0, .slice none 0 0, .slice none 0 0, .slice none 0 0⟩) (by unfold execOp; kernel_rfl) ?_
  intro g159 a159 w159 F159 M159
  clear F158 N157
  refine wl_st (wanted_none rfl) rfl F159 M159 (k := 10) rfl _ _ _ rfl (F159.get rfl) (F159.get rfl) (msgA mx V157) (msgA mx V157) rfl (Nat.le_of_ble_eq_true rfl) (msgA_one (w := w159) ⟨(M159.isb (k := 5) rfl), (M159.isb (k := 6) rfl), (M159.isb (k := 7) rfl), (M159.isb (k := 8) rfl), (M159.isb (k := 9) rfl)⟩) (y_put0 rfl) (by kernel_rfl) ?_
  intro w160 M160
  clear M159
  refine rm rfl F159 fun a161 F161 => ?_
  refine hK155 _ _ (wp_seq_k fun K162 hK162 => ?_)
  refine wp_region_lit ?_
  refine rm rfl F161 fun a163 F163 => ?_
  refine wl_call (wanted_none rfl) rfl F163 rfl rfl (enters_of Try.func31 (by kernel_rfl) rfl) #[.pointer (some ⟨g29, 0, none⟩)] (args1 (F163.get rfl)) (rnext_is M160 2 3 g29 L2 u2 nt  rfl rfl (by decide) (by omega) 11 12 13 14 15 mx okx bx (nxR L2) (by rw [hLL]; exact hmx) (by rw [hLL]; exact hokx) (by rw [hLL]; exact hbx) rfl) ?_
  rintro _ w164 a164 ⟨u164, V164, N164, rfl⟩ F164
  clear M160
  refine exA 3 [(65, .tuple #[.agg (msgA mx V164), .bool okx]), (68, .agg (msgA mx V164)), (69, .bool okx)] [] dnil [] F164 (by kernel_rfl) (by kernel_rfl) fun a165 F165 => ?_
  simp only [List.drop_succ_cons, List.drop_zero]
  refine wl_alloc (wanted_none rfl) rfl F165 rfl N164 16 (t := 29) (c := msgA ⟨0, 0, 0, 0, "".toUTF8, 0, 0, [], [], [], [], []⟩ ⟨.slice none 0 0, .slice none 0 0, .slice none 0 0, .slice none 0 0, .slice none 0 0⟩) (by unfold execOp; kernel_rfl) ?_
  intro g166 a166 w166 F166 M166
  clear F165 N164
  refine wl_st (wanted_none rfl) rfl F166 M166 (k := 16) rfl _ _ _ rfl (F166.get rfl) (F166.get rfl) (msgA mx V164) (msgA mx V164) rfl (Nat.le_of_ble_eq_true rfl) (msgA_one (w := w166) ⟨(M166.isb (k := 11) rfl), (M166.isb (k := 12) rfl), (M166.isb (k := 13) rfl), (M166.isb (k := 14) rfl), (M166.isb (k := 15) rfl)⟩) (y_put0 rfl) (by kernel_rfl) ?_
  intro w167 M167
  clear M166
  refine rm rfl F166 fun a168 F168 => ?_
  refine hK162 _ _ (wp_seq_k fun K169 hK169 => ?_)
  refine wp_region_lit ?_
  refine rm rfl F168 fun a170 F170 => ?_
  refine rm rfl F170 fun a171 F171 => ?_
  cases okx
  · refine rn rfl rfl F171 rfl (.bool true) (y_eqB _ _ rfl (F171.get rfl) (F171.get rfl) rfl) fun a172 F172 => ?_
    refine exA 3 [(73, .bool true), (74, .agg (msgA mx V157)), (75, .agg (msgA mx V164))] [0, 1] (dcons (M167.blk (k := 10) rfl) (dcons (M167.blk (k := 16) rfl) dnil)) [g159, g166] F172 (by kernel_rfl) (by kernel_rfl) fun a173 F173 => ?_
    simp only [List.drop_succ_cons, List.drop_zero]
    refine wl_call (wanted_yes rfl rfl rfl (F173.get rfl)) rfl F173 rfl rfl (enters_of Try.func21 (by kernel_rfl) rfl) #[.agg (msgA mx V157), .agg (msgA mx V164)] (args2 (F173.get rfl) (F173.get rfl)) (call_ex ((msgs_is mx mx V157 V164 hmo hmo true (eqM_self mx) w167 ⟨(M167.isb (k := 5) rfl), (M167.isb (k := 6) rfl), (M167.isb (k := 7) rfl), (M167.isb (k := 8) rfl), (M167.isb (k := 9) rfl)⟩ ⟨(M167.isb (k := 11) rfl), (M167.isb (k := 12) rfl), (M167.isb (k := 13) rfl), (M167.isb (k := 14) rfl), (M167.isb (k := 15) rfl)⟩))) ?_
    rintro _ w174 a174 ⟨rfl, b174⟩ F174
    have M174 := M167.step b174
    refine exA 2 [(77, .bool true), (4, .bool true)] [] dnil [] F174 (by kernel_rfl) (by kernel_rfl) fun a175 F175 => ?_
    simp only [List.drop_succ_cons, List.drop_zero]
    refine hK169 _ _ (wp_ret ?_)
    try simp only [Exit.then, Exit.inBlock, Exit.jump]
    exact bodyPost_ret (res1 rfl (F175.get (t := 4) rfl)) F175.defers ⟨rfl, M174.below⟩
  refine rn rfl rfl F171 rfl (.bool true) (y_eqB _ _ rfl (F171.get rfl) (F171.get rfl) rfl) fun a176 F176 => ?_
  refine exA 3 [(73, .bool true), (74, .agg (msgA mx V157)), (75, .agg (msgA mx V164))] [0, 1] (dcons (M167.blk (k := 10) rfl) (dcons (M167.blk (k := 16) rfl) dnil)) [g159, g166] F176 (by kernel_rfl) (by kernel_rfl) fun a177 F177 => ?_
  simp only [List.drop_succ_cons, List.drop_zero]
  refine wl_call (wanted_yes rfl rfl rfl (F177.get rfl)) rfl F177 rfl rfl (enters_of Try.func21 (by kernel_rfl) rfl) #[.agg (msgA mx V157), .agg (msgA mx V164)] (args2 (F177.get rfl) (F177.get rfl)) (call_ex ((msgs_is mx mx V157 V164 hmo hmo true (eqM_self mx) w167 ⟨(M167.isb (k := 5) rfl), (M167.isb (k := 6) rfl), (M167.isb (k := 7) rfl), (M167.isb (k := 8) rfl), (M167.isb (k := 9) rfl)⟩ ⟨(M167.isb (k := 11) rfl), (M167.isb (k := 12) rfl), (M167.isb (k := 13) rfl), (M167.isb (k := 14) rfl), (M167.isb (k := 15) rfl)⟩))) ?_
  rintro _ w178 a178 ⟨rfl, b178⟩ F178
  have M178 := M167.step b178
  refine exA 2 [(77, .bool true), (4, .bool true)] [] dnil [] F178 (by kernel_rfl) (by kernel_rfl) fun a179 F179 => ?_
  simp only [List.drop_succ_cons, List.drop_zero]
  refine hK169 _ _ (wp_ret ?_)
  try simp only [Exit.then, Exit.inBlock, Exit.jump]
  exact bodyPost_ret (res1 rfl (F179.get (t := 4) rfl)) F179.defers ⟨rfl, M178.below⟩
end Go.Proofs.Ytlbkogdmojlpmaa
