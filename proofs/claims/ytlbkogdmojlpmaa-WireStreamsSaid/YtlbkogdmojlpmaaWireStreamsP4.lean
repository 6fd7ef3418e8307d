/- What WireStreams stands on, part 4. -/
import Derived.Test.YtlbkogdmojlpmaaWireStreamsP1
import Derived.Test.YtlbkogdmojlpmaaWireStreamsP2
import Derived.Test.YtlbkogdmojlpmaaWireStreamsP3
set_option maxRecDepth 100000
set_option maxHeartbeats 8000000
set_option linter.unusedVariables false
set_option linter.unusedSimpArgs false
namespace Go.Proofs.Ytlbkogdmojlpmaa
open Go.ChangeShapes Go.WideShapes Go.ChangeAt Go.RowKit
noncomputable def nameB (s : ByteArray) : Bool := @decide (NameOk s) (Classical.propDecidable _)
theorem isname_any (s : ByteArray) (hs : s.size ≤ 1000) (w : World) : Calls Try.prog 78 #[.string s] w fun e w' => e = .returned (.bool (nameB s)) ∧ Below w.heap.size w w' := by
  unfold nameB
  by_cases h : NameOk s
  · rw [@decide_eq_true _ (Classical.propDecidable _) h]; exact isname_ok s h w
  · rw [@decide_eq_false _ (Classical.propDecidable _) h]; exact isname_no s hs h w
def nilB (s : ByteArray) : Bool := decide (s.toList = ({ data := #[] } : ByteArray).toList)
noncomputable def zca (m : MsgN) : Bool := (decide (m.p = 0) || protoB m.p) && (nilB m.s || nameB m.s) && decide (topI m.a 8 ≤ 32) && decide (topI m.b 8 ≤ 32) && decide ((m.l5.length : Int) ≤ 16) && decide ((m.l6.length : Int) ≤ 48) && decide ((m.l7.length : Int) ≤ 16) && decide ((m.l8.length : Int) ≤ 80) && decide ((m.l9.length : Int) ≤ 120) && decide (0 ≤ m.c) && decide (0 ≤ m.e) && decide (m.e ≤ 11)
theorem fits_any (m : MsgN) (V : MsgV) (hs : m.s.size ≤ 1000) (w : World) (hm : MsgIs w m V) :
  Calls Try.prog 51 #[.agg (msgA m V)] w fun e w' => e = .returned (.bool (zca m)) ∧ Below w.heap.size w w' := by
 refine zg (args := [.agg (msgA m V)]) 78 Try.func51 rfl rfl rfl ?_
 intro fa F
 have M := Mx.start w
 replace M := M.argB 0 hm.h5 (fun g e => by cases e)
 replace M := M.argB 1 hm.h6 (fun g e => by cases e)
 replace M := M.argB 2 hm.h7 (fun g e => by cases e)
 replace M := M.argB 3 hm.h8 (fun g e => by cases e)
 replace M := M.argB 4 hm.h9 (fun g e => by cases e)
 obtain ⟨bP, hP⟩ : ∃ b, protoB m.p = b := ⟨_, rfl⟩
 obtain ⟨bN, hN⟩ : ∃ b, nameB m.s = b := ⟨_, rfl⟩
 obtain ⟨bS, hS⟩ : ∃ b, nilB m.s = b := ⟨_, rfl⟩
 refine zT fun _ hK1 => ?_
 refine zf (za rfl) rfl F rfl M 5 (t := 29) (c := msgA m V) (by unfold execOp; simp only [(F.get (t := 0) rfl)]; kernel_rfl) ?_
 intro g2 a2 w2 F2 M2
 clear F M
 refine rm rfl F2 fun _ F3 => ?_
 refine hK1 _ _ (zS fun _ hK4 => ?_)
 simp only [List.append_eq, List.cons_append, List.nil_append]
 refine zR ?_
 refine zB 2 [(1, .pointer (some ⟨g2, 0, none⟩)), (2, .bool false), (4, .int .i64 m.p)] [0] (zj (M2.blk (k := 5) rfl) dnil) [g2] F3 fun _ F5 => ?_
 by_cases h6 : m.p = 0
 ·refine rn rfl rfl F5 rfl (.bool true) (zq _ _ _ _ rfl (F5.get rfl) rfl Try.underlying3 (zka h6)) fun _ F7 => ?_
  refine zB 8 [(1, .pointer (some ⟨g2, 0, none⟩)), (2, .bool false), (11, .bool true), (13, .string m.s)] [0] (zj (M2.blk (k := 5) rfl) dnil) [g2] F7 fun _ F8 => ?_
  refine ze (w' := w2) (zb rfl rfl rfl (F8.get rfl)) rfl F8 rfl (.bool bS) (y_eqS _ _ _ rfl (F8.get rfl) rfl hS) fun _ F9 => ?_
  refine rm rfl F9 fun _ F10 => ?_
  cases bS
  rotate_left
  ·refine zB 8 [(1, .pointer (some ⟨g2, 0, none⟩)), (2, .bool false), (21, .bool true), (23, numV m.a)] [0] (zj (M2.blk (k := 5) rfl) dnil) [g2] F10 fun _ F74 => ?_
   refine zd (zb rfl rfl rfl (F74.get rfl)) rfl F74 rfl rfl (zE Try.func79 rfl) #[numV m.a] (zp (F74.get rfl)) (zh (bits_any m.a w2)) ?_
   rintro _ w75 a75 ⟨rfl, b75⟩ F75
   have M75 := M2.step b75
   by_cases h76 : (topI m.a 8) ≤ 32
   rotate_left
   ·refine ze (w' := w75) (zb rfl rfl rfl (F75.get rfl)) rfl F75 rfl (.bool false) (z8 _ _ _ _ rfl (F75.get rfl) rfl (decide_eq_false h76)) fun _ F130 => ?_
    refine zB 53 [(2, .bool false)] [] dnil [] F130 fun _ F131 => ?_
    refine hK4 _ _ (wp_ret ?_)
    try simp only [Exit.then, Exit.inBlock, Exit.jump]
    exact bodyPost_ret (res1 rfl (F131.get rfl)) F131.defers ⟨by rw [show zca m = false from by unfold zca; simp [hP, hN, hS, h6, h76]], M75.below⟩
   refine ze (w' := w75) (zb rfl rfl rfl (F75.get rfl)) rfl F75 rfl (.bool true) (z8 _ _ _ _ rfl (F75.get rfl) rfl (decide_eq_true h76)) fun _ F77 => ?_
   refine zB 4 [(1, .pointer (some ⟨g2, 0, none⟩)), (2, .bool false), (27, .bool true), (29, numV m.b)] [0] (zj (M75.blk (k := 5) rfl) dnil) [g2] F77 fun _ F78 => ?_
   refine zd (zb rfl rfl rfl (F78.get rfl)) rfl F78 rfl rfl (zE Try.func79 rfl) #[numV m.b] (zp (F78.get rfl)) (zh (bits_any m.b w75)) ?_
   rintro _ w79 a79 ⟨rfl, b79⟩ F79
   have M79 := M75.step b79
   by_cases h80 : (topI m.b 8) ≤ 32
   rotate_left
   ·refine ze (w' := w79) (zb rfl rfl rfl (F79.get rfl)) rfl F79 rfl (.bool false) (z8 _ _ _ _ rfl (F79.get rfl) rfl (decide_eq_false h80)) fun _ F128 => ?_
    refine zB 47 [(2, .bool false)] [] dnil [] F128 fun _ F129 => ?_
    refine hK4 _ _ (wp_ret ?_)
    try simp only [Exit.then, Exit.inBlock, Exit.jump]
    exact bodyPost_ret (res1 rfl (F129.get rfl)) F129.defers ⟨by rw [show zca m = false from by unfold zca; simp [hP, hN, hS, h6, h76, h80]], M79.below⟩
   refine ze (w' := w79) (zb rfl rfl rfl (F79.get rfl)) rfl F79 rfl (.bool true) (z8 _ _ _ _ rfl (F79.get rfl) rfl (decide_eq_true h80)) fun _ F81 => ?_
   refine zB 4 [(1, .pointer (some ⟨g2, 0, none⟩)), (2, .bool false), (33, .bool true), (35, V.v5)] [0] (zj (M79.blk (k := 5) rfl) dnil) [g2] F81 fun _ F82 => ?_
   refine ze (w' := w79) (zb rfl rfl rfl (F82.get rfl)) rfl F82 rfl (.int .i64 (m.l5.length : Int)) (z9 _ rfl (F82.get rfl) (M79.isb (k := 0) rfl) rfl) fun _ F83 => ?_
   by_cases h84 : (m.l5.length : Int) ≤ 16
   rotate_left
   ·refine ze (w' := w79) (zb rfl rfl rfl (F83.get rfl)) rfl F83 rfl (.bool false) (z8 _ _ _ _ rfl (F83.get rfl) rfl (decide_eq_false h84)) fun _ F126 => ?_
    refine zB 41 [(2, .bool false)] [] dnil [] F126 fun _ F127 => ?_
    refine hK4 _ _ (wp_ret ?_)
    try simp only [Exit.then, Exit.inBlock, Exit.jump]
    exact bodyPost_ret (res1 rfl (F127.get rfl)) F127.defers ⟨by rw [show zca m = false from by unfold zca; simp [hP, hN, hS, h6, h76, h80, h84]], M79.below⟩
   refine ze (w' := w79) (zb rfl rfl rfl (F83.get rfl)) rfl F83 rfl (.bool true) (z8 _ _ _ _ rfl (F83.get rfl) rfl (decide_eq_true h84)) fun _ F85 => ?_
   refine zB 4 [(1, .pointer (some ⟨g2, 0, none⟩)), (2, .bool false), (39, .bool true), (41, V.v6)] [0] (zj (M79.blk (k := 5) rfl) dnil) [g2] F85 fun _ F86 => ?_
   refine ze (w' := w79) (zb rfl rfl rfl (F86.get rfl)) rfl F86 rfl (.int .i64 (m.l6.length : Int)) (z9 _ rfl (F86.get rfl) (M79.isb (k := 1) rfl) rfl) fun _ F87 => ?_
   by_cases h88 : (m.l6.length : Int) ≤ 48
   rotate_left
   ·refine ze (w' := w79) (zb rfl rfl rfl (F87.get rfl)) rfl F87 rfl (.bool false) (z8 _ _ _ _ rfl (F87.get rfl) rfl (decide_eq_false h88)) fun _ F124 => ?_
    refine zB 35 [(2, .bool false)] [] dnil [] F124 fun _ F125 => ?_
    refine hK4 _ _ (wp_ret ?_)
    try simp only [Exit.then, Exit.inBlock, Exit.jump]
    exact bodyPost_ret (res1 rfl (F125.get rfl)) F125.defers ⟨by rw [show zca m = false from by unfold zca; simp [hP, hN, hS, h6, h76, h80, h84, h88]], M79.below⟩
   refine ze (w' := w79) (zb rfl rfl rfl (F87.get rfl)) rfl F87 rfl (.bool true) (z8 _ _ _ _ rfl (F87.get rfl) rfl (decide_eq_true h88)) fun _ F89 => ?_
   refine zB 4 [(1, .pointer (some ⟨g2, 0, none⟩)), (2, .bool false), (45, .bool true), (47, V.v7)] [0] (zj (M79.blk (k := 5) rfl) dnil) [g2] F89 fun _ F90 => ?_
   refine ze (w' := w79) (zb rfl rfl rfl (F90.get rfl)) rfl F90 rfl (.int .i64 (m.l7.length : Int)) (z9 _ rfl (F90.get rfl) (M79.isb (k := 2) rfl) rfl) fun _ F91 => ?_
   by_cases h92 : (m.l7.length : Int) ≤ 16
   rotate_left
   ·refine ze (w' := w79) (zb rfl rfl rfl (F91.get rfl)) rfl F91 rfl (.bool false) (z8 _ _ _ _ rfl (F91.get rfl) rfl (decide_eq_false h92)) fun _ F122 => ?_
    refine zB 29 [(2, .bool false)] [] dnil [] F122 fun _ F123 => ?_
    refine hK4 _ _ (wp_ret ?_)
    try simp only [Exit.then, Exit.inBlock, Exit.jump]
    exact bodyPost_ret (res1 rfl (F123.get rfl)) F123.defers ⟨by rw [show zca m = false from by unfold zca; simp [hP, hN, hS, h6, h76, h80, h84, h88, h92]], M79.below⟩
   refine ze (w' := w79) (zb rfl rfl rfl (F91.get rfl)) rfl F91 rfl (.bool true) (z8 _ _ _ _ rfl (F91.get rfl) rfl (decide_eq_true h92)) fun _ F93 => ?_
   refine zB 4 [(1, .pointer (some ⟨g2, 0, none⟩)), (2, .bool false), (51, .bool true), (53, V.v8)] [0] (zj (M79.blk (k := 5) rfl) dnil) [g2] F93 fun _ F94 => ?_
   refine ze (w' := w79) (zb rfl rfl rfl (F94.get rfl)) rfl F94 rfl (.int .i64 (m.l8.length : Int)) (z9 _ rfl (F94.get rfl) (M79.isb (k := 3) rfl) rfl) fun _ F95 => ?_
   by_cases h96 : (m.l8.length : Int) ≤ 80
   rotate_left
   ·refine ze (w' := w79) (zb rfl rfl rfl (F95.get rfl)) rfl F95 rfl (.bool false) (z8 _ _ _ _ rfl (F95.get rfl) rfl (decide_eq_false h96)) fun _ F120 => ?_
    refine zB 23 [(2, .bool false)] [] dnil [] F120 fun _ F121 => ?_
    refine hK4 _ _ (wp_ret ?_)
    try simp only [Exit.then, Exit.inBlock, Exit.jump]
    exact bodyPost_ret (res1 rfl (F121.get rfl)) F121.defers ⟨by rw [show zca m = false from by unfold zca; simp [hP, hN, hS, h6, h76, h80, h84, h88, h92, h96]], M79.below⟩
   refine ze (w' := w79) (zb rfl rfl rfl (F95.get rfl)) rfl F95 rfl (.bool true) (z8 _ _ _ _ rfl (F95.get rfl) rfl (decide_eq_true h96)) fun _ F97 => ?_
   refine zB 4 [(1, .pointer (some ⟨g2, 0, none⟩)), (2, .bool false), (57, .bool true), (59, V.v9)] [0] (zj (M79.blk (k := 5) rfl) dnil) [g2] F97 fun _ F98 => ?_
   refine ze (w' := w79) (zb rfl rfl rfl (F98.get rfl)) rfl F98 rfl (.int .i64 (m.l9.length : Int)) (z9 _ rfl (F98.get rfl) (M79.isb (k := 4) rfl) rfl) fun _ F99 => ?_
   by_cases h100 : (m.l9.length : Int) ≤ 120
   rotate_left
   ·refine ze (w' := w79) (zb rfl rfl rfl (F99.get rfl)) rfl F99 rfl (.bool false) (z8 _ _ _ _ rfl (F99.get rfl) rfl (decide_eq_false h100)) fun _ F118 => ?_
    refine zB 17 [(2, .bool false)] [] dnil [] F118 fun _ F119 => ?_
    refine hK4 _ _ (wp_ret ?_)
    try simp only [Exit.then, Exit.inBlock, Exit.jump]
    exact bodyPost_ret (res1 rfl (F119.get rfl)) F119.defers ⟨by rw [show zca m = false from by unfold zca; simp [hP, hN, hS, h6, h76, h80, h84, h88, h92, h96, h100]], M79.below⟩
   refine ze (w' := w79) (zb rfl rfl rfl (F99.get rfl)) rfl F99 rfl (.bool true) (z8 _ _ _ _ rfl (F99.get rfl) rfl (decide_eq_true h100)) fun _ F101 => ?_
   refine zB 4 [(1, .pointer (some ⟨g2, 0, none⟩)), (2, .bool false), (63, .bool true), (65, .int .i64 m.c)] [0] (zj (M79.blk (k := 5) rfl) dnil) [g2] F101 fun _ F102 => ?_
   by_cases h103 : 0 ≤ m.c
   rotate_left
   ·refine ze (w' := w79) (zb rfl rfl rfl (F102.get rfl)) rfl F102 rfl (.bool false) (zob _ _ _ _ rfl (F102.get rfl) rfl (decide_eq_false h103)) fun _ F116 => ?_
    refine zB 12 [(2, .bool false)] [] dnil [] F116 fun _ F117 => ?_
    refine hK4 _ _ (wp_ret ?_)
    try simp only [Exit.then, Exit.inBlock, Exit.jump]
    exact bodyPost_ret (res1 rfl (F117.get rfl)) F117.defers ⟨by rw [show zca m = false from by unfold zca; simp [hP, hN, hS, h6, h76, h80, h84, h88, h92, h96, h100, h103]], M79.below⟩
   refine ze (w' := w79) (zb rfl rfl rfl (F102.get rfl)) rfl F102 rfl (.bool true) (zob _ _ _ _ rfl (F102.get rfl) rfl (decide_eq_true h103)) fun _ F104 => ?_
   refine zB 4 [(1, .pointer (some ⟨g2, 0, none⟩)), (2, .bool false), (68, .bool true), (70, .int .i64 m.e)] [0] (zj (M79.blk (k := 5) rfl) dnil) [g2] F104 fun _ F105 => ?_
   by_cases h106 : 0 ≤ m.e
   rotate_left
   ·refine ze (w' := w79) (zb rfl rfl rfl (F105.get rfl)) rfl F105 rfl (.bool false) (zob _ _ _ _ rfl (F105.get rfl) rfl (decide_eq_false h106)) fun _ F114 => ?_
    refine zB 7 [(2, .bool false)] [] dnil [] F114 fun _ F115 => ?_
    refine hK4 _ _ (wp_ret ?_)
    try simp only [Exit.then, Exit.inBlock, Exit.jump]
    exact bodyPost_ret (res1 rfl (F115.get rfl)) F115.defers ⟨by rw [show zca m = false from by unfold zca; simp [hP, hN, hS, h6, h76, h80, h84, h88, h92, h96, h100, h103, h106]], M79.below⟩
   refine ze (w' := w79) (zb rfl rfl rfl (F105.get rfl)) rfl F105 rfl (.bool true) (zob _ _ _ _ rfl (F105.get rfl) rfl (decide_eq_true h106)) fun _ F107 => ?_
   refine zB 4 [(2, .bool false), (73, .bool true), (75, .int .i64 m.e)] [0] (zj (M79.blk (k := 5) rfl) dnil) [g2] F107 fun _ F108 => ?_
   by_cases h109 : m.e ≤ 11
   ·refine ze (w' := w79) (zb rfl rfl rfl (F108.get rfl)) rfl F108 rfl (.bool true) (z8 _ _ _ _ rfl (F108.get rfl) rfl (decide_eq_true h109)) fun _ F110 => ?_
    refine zB 2 [(2, .bool true)] [] dnil [] F110 fun _ F111 => ?_
    refine hK4 _ _ (wp_ret ?_)
    try simp only [Exit.then, Exit.inBlock, Exit.jump]
    exact bodyPost_ret (res1 rfl (F111.get rfl)) F111.defers ⟨by rw [show zca m = true from by unfold zca; simp [hP, hN, hS, h6, h76, h80, h84, h88, h92, h96, h100, h103, h106, h109]], M79.below⟩
   refine ze (w' := w79) (zb rfl rfl rfl (F108.get rfl)) rfl F108 rfl (.bool false) (z8 _ _ _ _ rfl (F108.get rfl) rfl (decide_eq_false h109)) fun _ F112 => ?_
   refine zB 2 [(2, .bool false)] [] dnil [] F112 fun _ F113 => ?_
   refine hK4 _ _ (wp_ret ?_)
   try simp only [Exit.then, Exit.inBlock, Exit.jump]
   exact bodyPost_ret (res1 rfl (F113.get rfl)) F113.defers ⟨by rw [show zca m = false from by unfold zca; simp [hP, hN, hS, h6, h76, h80, h84, h88, h92, h96, h100, h103, h106, h109]], M79.below⟩
  refine ze (w' := w2) (zb rfl rfl rfl (F10.get rfl)) rfl F10 rfl (.pointer (some ⟨g2, 4, none⟩)) (y_fa (off := 4) rfl (F10.get rfl) (by kernel_rfl) rfl) fun _ F11 => ?_
  refine ze (w' := w2) (zb rfl rfl rfl (F11.get rfl)) rfl F11 rfl (.string m.s) (y_ld1 _ _ rfl (F11.get rfl) (M2.blk (k := 5) rfl) rfl Try.underlying9 rfl) fun _ F12 => ?_
  refine zd (zb rfl rfl rfl (F12.get rfl)) rfl F12 rfl rfl (zE Try.func78 rfl) #[.string m.s] (zp (F12.get rfl)) (zh ((hN ▸ isname_any m.s hs w2))) ?_
  rintro _ w13 a13 ⟨rfl, b13⟩ F13
  have M13 := M2.step b13
  refine zB 3 [(1, .pointer (some ⟨g2, 0, none⟩)), (2, .bool false), (21, .bool bN)] [] dnil [] F13 fun _ F14 => ?_
  cases bN
  ·refine zB 57 [(2, .bool false)] [] dnil [] F14 fun _ F15 => ?_
   refine hK4 _ _ (wp_ret ?_)
   try simp only [Exit.then, Exit.inBlock, Exit.jump]
   exact bodyPost_ret (res1 rfl (F15.get rfl)) F15.defers ⟨by rw [show zca m = false from by unfold zca; simp [hP, hN, hS, h6]], M13.below⟩
  refine zB 2 [(1, .pointer (some ⟨g2, 0, none⟩)), (2, .bool false), (21, .bool true), (23, numV m.a)] [0] (zj (M13.blk (k := 5) rfl) dnil) [g2] F14 fun _ F16 => ?_
  refine zd (zb rfl rfl rfl (F16.get rfl)) rfl F16 rfl rfl (zE Try.func79 rfl) #[numV m.a] (zp (F16.get rfl)) (zh (bits_any m.a w13)) ?_
  rintro _ w17 a17 ⟨rfl, b17⟩ F17
  have M17 := M13.step b17
  by_cases h18 : (topI m.a 8) ≤ 32
  rotate_left
  ·refine ze (w' := w17) (zb rfl rfl rfl (F17.get rfl)) rfl F17 rfl (.bool false) (z8 _ _ _ _ rfl (F17.get rfl) rfl (decide_eq_false h18)) fun _ F72 => ?_
   refine zB 53 [(2, .bool false)] [] dnil [] F72 fun _ F73 => ?_
   refine hK4 _ _ (wp_ret ?_)
   try simp only [Exit.then, Exit.inBlock, Exit.jump]
   exact bodyPost_ret (res1 rfl (F73.get rfl)) F73.defers ⟨by rw [show zca m = false from by unfold zca; simp [hP, hN, hS, h6, h18]], M17.below⟩
  refine ze (w' := w17) (zb rfl rfl rfl (F17.get rfl)) rfl F17 rfl (.bool true) (z8 _ _ _ _ rfl (F17.get rfl) rfl (decide_eq_true h18)) fun _ F19 => ?_
  refine zB 4 [(1, .pointer (some ⟨g2, 0, none⟩)), (2, .bool false), (27, .bool true), (29, numV m.b)] [0] (zj (M17.blk (k := 5) rfl) dnil) [g2] F19 fun _ F20 => ?_
  refine zd (zb rfl rfl rfl (F20.get rfl)) rfl F20 rfl rfl (zE Try.func79 rfl) #[numV m.b] (zp (F20.get rfl)) (zh (bits_any m.b w17)) ?_
  rintro _ w21 a21 ⟨rfl, b21⟩ F21
  have M21 := M17.step b21
  by_cases h22 : (topI m.b 8) ≤ 32
  rotate_left
  ·refine ze (w' := w21) (zb rfl rfl rfl (F21.get rfl)) rfl F21 rfl (.bool false) (z8 _ _ _ _ rfl (F21.get rfl) rfl (decide_eq_false h22)) fun _ F70 => ?_
   refine zB 47 [(2, .bool false)] [] dnil [] F70 fun _ F71 => ?_
   refine hK4 _ _ (wp_ret ?_)
   try simp only [Exit.then, Exit.inBlock, Exit.jump]
   exact bodyPost_ret (res1 rfl (F71.get rfl)) F71.defers ⟨by rw [show zca m = false from by unfold zca; simp [hP, hN, hS, h6, h18, h22]], M21.below⟩
  refine ze (w' := w21) (zb rfl rfl rfl (F21.get rfl)) rfl F21 rfl (.bool true) (z8 _ _ _ _ rfl (F21.get rfl) rfl (decide_eq_true h22)) fun _ F23 => ?_
  refine zB 4 [(1, .pointer (some ⟨g2, 0, none⟩)), (2, .bool false), (33, .bool true), (35, V.v5)] [0] (zj (M21.blk (k := 5) rfl) dnil) [g2] F23 fun _ F24 => ?_
  refine ze (w' := w21) (zb rfl rfl rfl (F24.get rfl)) rfl F24 rfl (.int .i64 (m.l5.length : Int)) (z9 _ rfl (F24.get rfl) (M21.isb (k := 0) rfl) rfl) fun _ F25 => ?_
  by_cases h26 : (m.l5.length : Int) ≤ 16
  rotate_left
  ·refine ze (w' := w21) (zb rfl rfl rfl (F25.get rfl)) rfl F25 rfl (.bool false) (z8 _ _ _ _ rfl (F25.get rfl) rfl (decide_eq_false h26)) fun _ F68 => ?_
   refine zB 41 [(2, .bool false)] [] dnil [] F68 fun _ F69 => ?_
   refine hK4 _ _ (wp_ret ?_)
   try simp only [Exit.then, Exit.inBlock, Exit.jump]
   exact bodyPost_ret (res1 rfl (F69.get rfl)) F69.defers ⟨by rw [show zca m = false from by unfold zca; simp [hP, hN, hS, h6, h18, h22, h26]], M21.below⟩
  refine ze (w' := w21) (zb rfl rfl rfl (F25.get rfl)) rfl F25 rfl (.bool true) (z8 _ _ _ _ rfl (F25.get rfl) rfl (decide_eq_true h26)) fun _ F27 => ?_
  refine zB 4 [(1, .pointer (some ⟨g2, 0, none⟩)), (2, .bool false), (39, .bool true), (41, V.v6)] [0] (zj (M21.blk (k := 5) rfl) dnil) [g2] F27 fun _ F28 => ?_
  refine ze (w' := w21) (zb rfl rfl rfl (F28.get rfl)) rfl F28 rfl (.int .i64 (m.l6.length : Int)) (z9 _ rfl (F28.get rfl) (M21.isb (k := 1) rfl) rfl) fun _ F29 => ?_
  by_cases h30 : (m.l6.length : Int) ≤ 48
  rotate_left
  ·refine ze (w' := w21) (zb rfl rfl rfl (F29.get rfl)) rfl F29 rfl (.bool false) (z8 _ _ _ _ rfl (F29.get rfl) rfl (decide_eq_false h30)) fun _ F66 => ?_
   refine zB 35 [(2, .bool false)] [] dnil [] F66 fun _ F67 => ?_
   refine hK4 _ _ (wp_ret ?_)
   try simp only [Exit.then, Exit.inBlock, Exit.jump]
   exact bodyPost_ret (res1 rfl (F67.get rfl)) F67.defers ⟨by rw [show zca m = false from by unfold zca; simp [hP, hN, hS, h6, h18, h22, h26, h30]], M21.below⟩
  refine ze (w' := w21) (zb rfl rfl rfl (F29.get rfl)) rfl F29 rfl (.bool true) (z8 _ _ _ _ rfl (F29.get rfl) rfl (decide_eq_true h30)) fun _ F31 => ?_
  refine zB 4 [(1, .pointer (some ⟨g2, 0, none⟩)), (2, .bool false), (45, .bool true), (47, V.v7)] [0] (zj (M21.blk (k := 5) rfl) dnil) [g2] F31 fun _ F32 => ?_
  refine ze (w' := w21) (zb rfl rfl rfl (F32.get rfl)) rfl F32 rfl (.int .i64 (m.l7.length : Int)) (z9 _ rfl (F32.get rfl) (M21.isb (k := 2) rfl) rfl) fun _ F33 => ?_
  by_cases h34 : (m.l7.length : Int) ≤ 16
  rotate_left
  ·refine ze (w' := w21) (zb rfl rfl rfl (F33.get rfl)) rfl F33 rfl (.bool false) (z8 _ _ _ _ rfl (F33.get rfl) rfl (decide_eq_false h34)) fun _ F64 => ?_
   refine zB 29 [(2, .bool false)] [] dnil [] F64 fun _ F65 => ?_
   refine hK4 _ _ (wp_ret ?_)
   try simp only [Exit.then, Exit.inBlock, Exit.jump]
   exact bodyPost_ret (res1 rfl (F65.get rfl)) F65.defers ⟨by rw [show zca m = false from by unfold zca; simp [hP, hN, hS, h6, h18, h22, h26, h30, h34]], M21.below⟩
  refine ze (w' := w21) (zb rfl rfl rfl (F33.get rfl)) rfl F33 rfl (.bool true) (z8 _ _ _ _ rfl (F33.get rfl) rfl (decide_eq_true h34)) fun _ F35 => ?_
  refine zB 4 [(1, .pointer (some ⟨g2, 0, none⟩)), (2, .bool false), (51, .bool true), (53, V.v8)] [0] (zj (M21.blk (k := 5) rfl) dnil) [g2] F35 fun _ F36 => ?_
  refine ze (w' := w21) (zb rfl rfl rfl (F36.get rfl)) rfl F36 rfl (.int .i64 (m.l8.length : Int)) (z9 _ rfl (F36.get rfl) (M21.isb (k := 3) rfl) rfl) fun _ F37 => ?_
  by_cases h38 : (m.l8.length : Int) ≤ 80
  rotate_left
  ·refine ze (w' := w21) (zb rfl rfl rfl (F37.get rfl)) rfl F37 rfl (.bool false) (z8 _ _ _ _ rfl (F37.get rfl) rfl (decide_eq_false h38)) fun _ F62 => ?_
   refine zB 23 [(2, .bool false)] [] dnil [] F62 fun _ F63 => ?_
   refine hK4 _ _ (wp_ret ?_)
   try simp only [Exit.then, Exit.inBlock, Exit.jump]
   exact bodyPost_ret (res1 rfl (F63.get rfl)) F63.defers ⟨by rw [show zca m = false from by unfold zca; simp [hP, hN, hS, h6, h18, h22, h26, h30, h34, h38]], M21.below⟩
  refine ze (w' := w21) (zb rfl rfl rfl (F37.get rfl)) rfl F37 rfl (.bool true) (z8 _ _ _ _ rfl (F37.get rfl) rfl (decide_eq_true h38)) fun _ F39 => ?_
  refine zB 4 [(1, .pointer (some ⟨g2, 0, none⟩)), (2, .bool false), (57, .bool true), (59, V.v9)] [0] (zj (M21.blk (k := 5) rfl) dnil) [g2] F39 fun _ F40 => ?_
  refine ze (w' := w21) (zb rfl rfl rfl (F40.get rfl)) rfl F40 rfl (.int .i64 (m.l9.length : Int)) (z9 _ rfl (F40.get rfl) (M21.isb (k := 4) rfl) rfl) fun _ F41 => ?_
  by_cases h42 : (m.l9.length : Int) ≤ 120
  rotate_left
  ·refine ze (w' := w21) (zb rfl rfl rfl (F41.get rfl)) rfl F41 rfl (.bool false) (z8 _ _ _ _ rfl (F41.get rfl) rfl (decide_eq_false h42)) fun _ F60 => ?_
   refine zB 17 [(2, .bool false)] [] dnil [] F60 fun _ F61 => ?_
   refine hK4 _ _ (wp_ret ?_)
   try simp only [Exit.then, Exit.inBlock, Exit.jump]
   exact bodyPost_ret (res1 rfl (F61.get rfl)) F61.defers ⟨by rw [show zca m = false from by unfold zca; simp [hP, hN, hS, h6, h18, h22, h26, h30, h34, h38, h42]], M21.below⟩
  refine ze (w' := w21) (zb rfl rfl rfl (F41.get rfl)) rfl F41 rfl (.bool true) (z8 _ _ _ _ rfl (F41.get rfl) rfl (decide_eq_true h42)) fun _ F43 => ?_
  refine zB 4 [(1, .pointer (some ⟨g2, 0, none⟩)), (2, .bool false), (63, .bool true), (65, .int .i64 m.c)] [0] (zj (M21.blk (k := 5) rfl) dnil) [g2] F43 fun _ F44 => ?_
  by_cases h45 : 0 ≤ m.c
  rotate_left
  ·refine ze (w' := w21) (zb rfl rfl rfl (F44.get rfl)) rfl F44 rfl (.bool false) (zob _ _ _ _ rfl (F44.get rfl) rfl (decide_eq_false h45)) fun _ F58 => ?_
   refine zB 12 [(2, .bool false)] [] dnil [] F58 fun _ F59 => ?_
   refine hK4 _ _ (wp_ret ?_)
   try simp only [Exit.then, Exit.inBlock, Exit.jump]
   exact bodyPost_ret (res1 rfl (F59.get rfl)) F59.defers ⟨by rw [show zca m = false from by unfold zca; simp [hP, hN, hS, h6, h18, h22, h26, h30, h34, h38, h42, h45]], M21.below⟩
  refine ze (w' := w21) (zb rfl rfl rfl (F44.get rfl)) rfl F44 rfl (.bool true) (zob _ _ _ _ rfl (F44.get rfl) rfl (decide_eq_true h45)) fun _ F46 => ?_
  refine zB 4 [(1, .pointer (some ⟨g2, 0, none⟩)), (2, .bool false), (68, .bool true), (70, .int .i64 m.e)] [0] (zj (M21.blk (k := 5) rfl) dnil) [g2] F46 fun _ F47 => ?_
  by_cases h48 : 0 ≤ m.e
  rotate_left
  ·refine ze (w' := w21) (zb rfl rfl rfl (F47.get rfl)) rfl F47 rfl (.bool false) (zob _ _ _ _ rfl (F47.get rfl) rfl (decide_eq_false h48)) fun _ F56 => ?_
   refine zB 7 [(2, .bool false)] [] dnil [] F56 fun _ F57 => ?_
   refine hK4 _ _ (wp_ret ?_)
   try simp only [Exit.then, Exit.inBlock, Exit.jump]
   exact bodyPost_ret (res1 rfl (F57.get rfl)) F57.defers ⟨by rw [show zca m = false from by unfold zca; simp [hP, hN, hS, h6, h18, h22, h26, h30, h34, h38, h42, h45, h48]], M21.below⟩
  refine ze (w' := w21) (zb rfl rfl rfl (F47.get rfl)) rfl F47 rfl (.bool true) (zob _ _ _ _ rfl (F47.get rfl) rfl (decide_eq_true h48)) fun _ F49 => ?_
  refine zB 4 [(2, .bool false), (73, .bool true), (75, .int .i64 m.e)] [0] (zj (M21.blk (k := 5) rfl) dnil) [g2] F49 fun _ F50 => ?_
  by_cases h51 : m.e ≤ 11
  ·refine ze (w' := w21) (zb rfl rfl rfl (F50.get rfl)) rfl F50 rfl (.bool true) (z8 _ _ _ _ rfl (F50.get rfl) rfl (decide_eq_true h51)) fun _ F52 => ?_
   refine zB 2 [(2, .bool true)] [] dnil [] F52 fun _ F53 => ?_
   refine hK4 _ _ (wp_ret ?_)
   try simp only [Exit.then, Exit.inBlock, Exit.jump]
   exact bodyPost_ret (res1 rfl (F53.get rfl)) F53.defers ⟨by rw [show zca m = true from by unfold zca; simp [hP, hN, hS, h6, h18, h22, h26, h30, h34, h38, h42, h45, h48, h51]], M21.below⟩
  refine ze (w' := w21) (zb rfl rfl rfl (F50.get rfl)) rfl F50 rfl (.bool false) (z8 _ _ _ _ rfl (F50.get rfl) rfl (decide_eq_false h51)) fun _ F54 => ?_
  refine zB 2 [(2, .bool false)] [] dnil [] F54 fun _ F55 => ?_
  refine hK4 _ _ (wp_ret ?_)
  try simp only [Exit.then, Exit.inBlock, Exit.jump]
  exact bodyPost_ret (res1 rfl (F55.get rfl)) F55.defers ⟨by rw [show zca m = false from by unfold zca; simp [hP, hN, hS, h6, h18, h22, h26, h30, h34, h38, h42, h45, h48, h51]], M21.below⟩
 refine rn rfl rfl F5 rfl (.bool false) (zq _ _ _ _ rfl (F5.get rfl) rfl Try.underlying3 (zr h6)) fun _ F132 => ?_
 refine zB 3 [(1, .pointer (some ⟨g2, 0, none⟩)), (2, .bool false), (6, .bool false), (8, .int .i64 m.p)] [0] (zj (M2.blk (k := 5) rfl) dnil) [g2] F132 fun _ F133 => ?_
 refine zd (zb rfl rfl rfl (F133.get rfl)) rfl F133 rfl rfl (zE Try.func77 rfl) #[.int .i64 m.p] (zp (F133.get rfl)) (zh ((hP ▸ isProto_any m.p w2))) ?_
 rintro _ w134 a134 ⟨rfl, b134⟩ F134
 have M134 := M2.step b134
 refine rn rfl rfl F134 rfl (.bool bP) (zqa rfl (F134.get rfl) (F134.get rfl)) fun _ F135 => ?_
 refine rm rfl F135 fun _ F136 => ?_
 cases bP
 ·refine zB 67 [(2, .bool false)] [] dnil [] F136 fun _ F137 => ?_
  refine hK4 _ _ (wp_ret ?_)
  try simp only [Exit.then, Exit.inBlock, Exit.jump]
  exact bodyPost_ret (res1 rfl (F137.get rfl)) F137.defers ⟨by rw [show zca m = false from by unfold zca; simp [hP, hN, hS, h6]], M134.below⟩
 refine zB 2 [(1, .pointer (some ⟨g2, 0, none⟩)), (2, .bool false), (11, .bool true), (13, .string m.s)] [0] (zj (M134.blk (k := 5) rfl) dnil) [g2] F136 fun _ F138 => ?_
 refine ze (w' := w134) (zb rfl rfl rfl (F138.get rfl)) rfl F138 rfl (.bool bS) (y_eqS _ _ _ rfl (F138.get rfl) rfl hS) fun _ F139 => ?_
 refine rm rfl F139 fun _ F140 => ?_
 cases bS
 rotate_left
 ·refine zB 8 [(1, .pointer (some ⟨g2, 0, none⟩)), (2, .bool false), (21, .bool true), (23, numV m.a)] [0] (zj (M134.blk (k := 5) rfl) dnil) [g2] F140 fun _ F204 => ?_
  refine zd (zb rfl rfl rfl (F204.get rfl)) rfl F204 rfl rfl (zE Try.func79 rfl) #[numV m.a] (zp (F204.get rfl)) (zh (bits_any m.a w134)) ?_
  rintro _ w205 a205 ⟨rfl, b205⟩ F205
  have M205 := M134.step b205
  by_cases h206 : (topI m.a 8) ≤ 32
  rotate_left
  ·refine ze (w' := w205) (zb rfl rfl rfl (F205.get rfl)) rfl F205 rfl (.bool false) (z8 _ _ _ _ rfl (F205.get rfl) rfl (decide_eq_false h206)) fun _ F260 => ?_
   refine zB 53 [(2, .bool false)] [] dnil [] F260 fun _ F261 => ?_
   refine hK4 _ _ (wp_ret ?_)
   try simp only [Exit.then, Exit.inBlock, Exit.jump]
   exact bodyPost_ret (res1 rfl (F261.get rfl)) F261.defers ⟨by rw [show zca m = false from by unfold zca; simp [hP, hN, hS, h6, h206]], M205.below⟩
  refine ze (w' := w205) (zb rfl rfl rfl (F205.get rfl)) rfl F205 rfl (.bool true) (z8 _ _ _ _ rfl (F205.get rfl) rfl (decide_eq_true h206)) fun _ F207 => ?_
  refine zB 4 [(1, .pointer (some ⟨g2, 0, none⟩)), (2, .bool false), (27, .bool true), (29, numV m.b)] [0] (zj (M205.blk (k := 5) rfl) dnil) [g2] F207 fun _ F208 => ?_
  refine zd (zb rfl rfl rfl (F208.get rfl)) rfl F208 rfl rfl (zE Try.func79 rfl) #[numV m.b] (zp (F208.get rfl)) (zh (bits_any m.b w205)) ?_
  rintro _ w209 a209 ⟨rfl, b209⟩ F209
  have M209 := M205.step b209
  by_cases h210 : (topI m.b 8) ≤ 32
  rotate_left
  ·refine ze (w' := w209) (zb rfl rfl rfl (F209.get rfl)) rfl F209 rfl (.bool false) (z8 _ _ _ _ rfl (F209.get rfl) rfl (decide_eq_false h210)) fun _ F258 => ?_
   refine zB 47 [(2, .bool false)] [] dnil [] F258 fun _ F259 => ?_
   refine hK4 _ _ (wp_ret ?_)
   try simp only [Exit.then, Exit.inBlock, Exit.jump]
   exact bodyPost_ret (res1 rfl (F259.get rfl)) F259.defers ⟨by rw [show zca m = false from by unfold zca; simp [hP, hN, hS, h6, h206, h210]], M209.below⟩
  refine ze (w' := w209) (zb rfl rfl rfl (F209.get rfl)) rfl F209 rfl (.bool true) (z8 _ _ _ _ rfl (F209.get rfl) rfl (decide_eq_true h210)) fun _ F211 => ?_
  refine zB 4 [(1, .pointer (some ⟨g2, 0, none⟩)), (2, .bool false), (33, .bool true), (35, V.v5)] [0] (zj (M209.blk (k := 5) rfl) dnil) [g2] F211 fun _ F212 => ?_
  refine ze (w' := w209) (zb rfl rfl rfl (F212.get rfl)) rfl F212 rfl (.int .i64 (m.l5.length : Int)) (z9 _ rfl (F212.get rfl) (M209.isb (k := 0) rfl) rfl) fun _ F213 => ?_
  by_cases h214 : (m.l5.length : Int) ≤ 16
  rotate_left
  ·refine ze (w' := w209) (zb rfl rfl rfl (F213.get rfl)) rfl F213 rfl (.bool false) (z8 _ _ _ _ rfl (F213.get rfl) rfl (decide_eq_false h214)) fun _ F256 => ?_
   refine zB 41 [(2, .bool false)] [] dnil [] F256 fun _ F257 => ?_
   refine hK4 _ _ (wp_ret ?_)
   try simp only [Exit.then, Exit.inBlock, Exit.jump]
   exact bodyPost_ret (res1 rfl (F257.get rfl)) F257.defers ⟨by rw [show zca m = false from by unfold zca; simp [hP, hN, hS, h6, h206, h210, h214]], M209.below⟩
  refine ze (w' := w209) (zb rfl rfl rfl (F213.get rfl)) rfl F213 rfl (.bool true) (z8 _ _ _ _ rfl (F213.get rfl) rfl (decide_eq_true h214)) fun _ F215 => ?_
  refine zB 4 [(1, .pointer (some ⟨g2, 0, none⟩)), (2, .bool false), (39, .bool true), (41, V.v6)] [0] (zj (M209.blk (k := 5) rfl) dnil) [g2] F215 fun _ F216 => ?_
  refine ze (w' := w209) (zb rfl rfl rfl (F216.get rfl)) rfl F216 rfl (.int .i64 (m.l6.length : Int)) (z9 _ rfl (F216.get rfl) (M209.isb (k := 1) rfl) rfl) fun _ F217 => ?_
  by_cases h218 : (m.l6.length : Int) ≤ 48
  rotate_left
  ·refine ze (w' := w209) (zb rfl rfl rfl (F217.get rfl)) rfl F217 rfl (.bool false) (z8 _ _ _ _ rfl (F217.get rfl) rfl (decide_eq_false h218)) fun _ F254 => ?_
   refine zB 35 [(2, .bool false)] [] dnil [] F254 fun _ F255 => ?_
   refine hK4 _ _ (wp_ret ?_)
   try simp only [Exit.then, Exit.inBlock, Exit.jump]
   exact bodyPost_ret (res1 rfl (F255.get rfl)) F255.defers ⟨by rw [show zca m = false from by unfold zca; simp [hP, hN, hS, h6, h206, h210, h214, h218]], M209.below⟩
  refine ze (w' := w209) (zb rfl rfl rfl (F217.get rfl)) rfl F217 rfl (.bool true) (z8 _ _ _ _ rfl (F217.get rfl) rfl (decide_eq_true h218)) fun _ F219 => ?_
  refine zB 4 [(1, .pointer (some ⟨g2, 0, none⟩)), (2, .bool false), (45, .bool true), (47, V.v7)] [0] (zj (M209.blk (k := 5) rfl) dnil) [g2] F219 fun _ F220 => ?_
  refine ze (w' := w209) (zb rfl rfl rfl (F220.get rfl)) rfl F220 rfl (.int .i64 (m.l7.length : Int)) (z9 _ rfl (F220.get rfl) (M209.isb (k := 2) rfl) rfl) fun _ F221 => ?_
  by_cases h222 : (m.l7.length : Int) ≤ 16
  rotate_left
  ·refine ze (w' := w209) (zb rfl rfl rfl (F221.get rfl)) rfl F221 rfl (.bool false) (z8 _ _ _ _ rfl (F221.get rfl) rfl (decide_eq_false h222)) fun _ F252 => ?_
   refine zB 29 [(2, .bool false)] [] dnil [] F252 fun _ F253 => ?_
   refine hK4 _ _ (wp_ret ?_)
   try simp only [Exit.then, Exit.inBlock, Exit.jump]
   exact bodyPost_ret (res1 rfl (F253.get rfl)) F253.defers ⟨by rw [show zca m = false from by unfold zca; simp [hP, hN, hS, h6, h206, h210, h214, h218, h222]], M209.below⟩
  refine ze (w' := w209) (zb rfl rfl rfl (F221.get rfl)) rfl F221 rfl (.bool true) (z8 _ _ _ _ rfl (F221.get rfl) rfl (decide_eq_true h222)) fun _ F223 => ?_
  refine zB 4 [(1, .pointer (some ⟨g2, 0, none⟩)), (2, .bool false), (51, .bool true), (53, V.v8)] [0] (zj (M209.blk (k := 5) rfl) dnil) [g2] F223 fun _ F224 => ?_
  refine ze (w' := w209) (zb rfl rfl rfl (F224.get rfl)) rfl F224 rfl (.int .i64 (m.l8.length : Int)) (z9 _ rfl (F224.get rfl) (M209.isb (k := 3) rfl) rfl) fun _ F225 => ?_
  by_cases h226 : (m.l8.length : Int) ≤ 80
  rotate_left
  ·refine ze (w' := w209) (zb rfl rfl rfl (F225.get rfl)) rfl F225 rfl (.bool false) (z8 _ _ _ _ rfl (F225.get rfl) rfl (decide_eq_false h226)) fun _ F250 => ?_
   refine zB 23 [(2, .bool false)] [] dnil [] F250 fun _ F251 => ?_
   refine hK4 _ _ (wp_ret ?_)
   try simp only [Exit.then, Exit.inBlock, Exit.jump]
   exact bodyPost_ret (res1 rfl (F251.get rfl)) F251.defers ⟨by rw [show zca m = false from by unfold zca; simp [hP, hN, hS, h6, h206, h210, h214, h218, h222, h226]], M209.below⟩
  refine ze (w' := w209) (zb rfl rfl rfl (F225.get rfl)) rfl F225 rfl (.bool true) (z8 _ _ _ _ rfl (F225.get rfl) rfl (decide_eq_true h226)) fun _ F227 => ?_
  refine zB 4 [(1, .pointer (some ⟨g2, 0, none⟩)), (2, .bool false), (57, .bool true), (59, V.v9)] [0] (zj (M209.blk (k := 5) rfl) dnil) [g2] F227 fun _ F228 => ?_
  refine ze (w' := w209) (zb rfl rfl rfl (F228.get rfl)) rfl F228 rfl (.int .i64 (m.l9.length : Int)) (z9 _ rfl (F228.get rfl) (M209.isb (k := 4) rfl) rfl) fun _ F229 => ?_
  by_cases h230 : (m.l9.length : Int) ≤ 120
  rotate_left
  ·refine ze (w' := w209) (zb rfl rfl rfl (F229.get rfl)) rfl F229 rfl (.bool false) (z8 _ _ _ _ rfl (F229.get rfl) rfl (decide_eq_false h230)) fun _ F248 => ?_
   refine zB 17 [(2, .bool false)] [] dnil [] F248 fun _ F249 => ?_
   refine hK4 _ _ (wp_ret ?_)
   try simp only [Exit.then, Exit.inBlock, Exit.jump]
   exact bodyPost_ret (res1 rfl (F249.get rfl)) F249.defers ⟨by rw [show zca m = false from by unfold zca; simp [hP, hN, hS, h6, h206, h210, h214, h218, h222, h226, h230]], M209.below⟩
  refine ze (w' := w209) (zb rfl rfl rfl (F229.get rfl)) rfl F229 rfl (.bool true) (z8 _ _ _ _ rfl (F229.get rfl) rfl (decide_eq_true h230)) fun _ F231 => ?_
  refine zB 4 [(1, .pointer (some ⟨g2, 0, none⟩)), (2, .bool false), (63, .bool true), (65, .int .i64 m.c)] [0] (zj (M209.blk (k := 5) rfl) dnil) [g2] F231 fun _ F232 => ?_
  by_cases h233 : 0 ≤ m.c
  rotate_left
  ·refine ze (w' := w209) (zb rfl rfl rfl (F232.get rfl)) rfl F232 rfl (.bool false) (zob _ _ _ _ rfl (F232.get rfl) rfl (decide_eq_false h233)) fun _ F246 => ?_
   refine zB 12 [(2, .bool false)] [] dnil [] F246 fun _ F247 => ?_
   refine hK4 _ _ (wp_ret ?_)
   try simp only [Exit.then, Exit.inBlock, Exit.jump]
   exact bodyPost_ret (res1 rfl (F247.get rfl)) F247.defers ⟨by rw [show zca m = false from by unfold zca; simp [hP, hN, hS, h6, h206, h210, h214, h218, h222, h226, h230, h233]], M209.below⟩
  refine ze (w' := w209) (zb rfl rfl rfl (F232.get rfl)) rfl F232 rfl (.bool true) (zob _ _ _ _ rfl (F232.get rfl) rfl (decide_eq_true h233)) fun _ F234 => ?_
  refine zB 4 [(1, .pointer (some ⟨g2, 0, none⟩)), (2, .bool false), (68, .bool true), (70, .int .i64 m.e)] [0] (zj (M209.blk (k := 5) rfl) dnil) [g2] F234 fun _ F235 => ?_
  by_cases h236 : 0 ≤ m.e
  rotate_left
  ·refine ze (w' := w209) (zb rfl rfl rfl (F235.get rfl)) rfl F235 rfl (.bool false) (zob _ _ _ _ rfl (F235.get rfl) rfl (decide_eq_false h236)) fun _ F244 => ?_
   refine zB 7 [(2, .bool false)] [] dnil [] F244 fun _ F245 => ?_
   refine hK4 _ _ (wp_ret ?_)
   try simp only [Exit.then, Exit.inBlock, Exit.jump]
   exact bodyPost_ret (res1 rfl (F245.get rfl)) F245.defers ⟨by rw [show zca m = false from by unfold zca; simp [hP, hN, hS, h6, h206, h210, h214, h218, h222, h226, h230, h233, h236]], M209.below⟩
  refine ze (w' := w209) (zb rfl rfl rfl (F235.get rfl)) rfl F235 rfl (.bool true) (zob _ _ _ _ rfl (F235.get rfl) rfl (decide_eq_true h236)) fun _ F237 => ?_
  refine zB 4 [(2, .bool false), (73, .bool true), (75, .int .i64 m.e)] [0] (zj (M209.blk (k := 5) rfl) dnil) [g2] F237 fun _ F238 => ?_
  by_cases h239 : m.e ≤ 11
  ·refine ze (w' := w209) (zb rfl rfl rfl (F238.get rfl)) rfl F238 rfl (.bool true) (z8 _ _ _ _ rfl (F238.get rfl) rfl (decide_eq_true h239)) fun _ F240 => ?_
   refine zB 2 [(2, .bool true)] [] dnil [] F240 fun _ F241 => ?_
   refine hK4 _ _ (wp_ret ?_)
   try simp only [Exit.then, Exit.inBlock, Exit.jump]
   exact bodyPost_ret (res1 rfl (F241.get rfl)) F241.defers ⟨by rw [show zca m = true from by unfold zca; simp [hP, hN, hS, h6, h206, h210, h214, h218, h222, h226, h230, h233, h236, h239]], M209.below⟩
  refine ze (w' := w209) (zb rfl rfl rfl (F238.get rfl)) rfl F238 rfl (.bool false) (z8 _ _ _ _ rfl (F238.get rfl) rfl (decide_eq_false h239)) fun _ F242 => ?_
  refine zB 2 [(2, .bool false)] [] dnil [] F242 fun _ F243 => ?_
  refine hK4 _ _ (wp_ret ?_)
  try simp only [Exit.then, Exit.inBlock, Exit.jump]
  exact bodyPost_ret (res1 rfl (F243.get rfl)) F243.defers ⟨by rw [show zca m = false from by unfold zca; simp [hP, hN, hS, h6, h206, h210, h214, h218, h222, h226, h230, h233, h236, h239]], M209.below⟩
 refine ze (w' := w134) (zb rfl rfl rfl (F140.get rfl)) rfl F140 rfl (.pointer (some ⟨g2, 4, none⟩)) (y_fa (off := 4) rfl (F140.get rfl) (by kernel_rfl) rfl) fun _ F141 => ?_
 refine ze (w' := w134) (zb rfl rfl rfl (F141.get rfl)) rfl F141 rfl (.string m.s) (y_ld1 _ _ rfl (F141.get rfl) (M134.blk (k := 5) rfl) rfl Try.underlying9 rfl) fun _ F142 => ?_
 refine zd (zb rfl rfl rfl (F142.get rfl)) rfl F142 rfl rfl (zE Try.func78 rfl) #[.string m.s] (zp (F142.get rfl)) (zh ((hN ▸ isname_any m.s hs w134))) ?_
 rintro _ w143 a143 ⟨rfl, b143⟩ F143
 have M143 := M134.step b143
 refine zB 3 [(1, .pointer (some ⟨g2, 0, none⟩)), (2, .bool false), (21, .bool bN)] [] dnil [] F143 fun _ F144 => ?_
 cases bN
 ·refine zB 57 [(2, .bool false)] [] dnil [] F144 fun _ F145 => ?_
  refine hK4 _ _ (wp_ret ?_)
  try simp only [Exit.then, Exit.inBlock, Exit.jump]
  exact bodyPost_ret (res1 rfl (F145.get rfl)) F145.defers ⟨by rw [show zca m = false from by unfold zca; simp [hP, hN, hS, h6]], M143.below⟩
 refine zB 2 [(1, .pointer (some ⟨g2, 0, none⟩)), (2, .bool false), (21, .bool true), (23, numV m.a)] [0] (zj (M143.blk (k := 5) rfl) dnil) [g2] F144 fun _ F146 => ?_
 refine zd (zb rfl rfl rfl (F146.get rfl)) rfl F146 rfl rfl (zE Try.func79 rfl) #[numV m.a] (zp (F146.get rfl)) (zh (bits_any m.a w143)) ?_
 rintro _ w147 a147 ⟨rfl, b147⟩ F147
 have M147 := M143.step b147
 by_cases h148 : (topI m.a 8) ≤ 32
 rotate_left
 ·refine ze (w' := w147) (zb rfl rfl rfl (F147.get rfl)) rfl F147 rfl (.bool false) (z8 _ _ _ _ rfl (F147.get rfl) rfl (decide_eq_false h148)) fun _ F202 => ?_
  refine zB 53 [(2, .bool false)] [] dnil [] F202 fun _ F203 => ?_
  refine hK4 _ _ (wp_ret ?_)
  try simp only [Exit.then, Exit.inBlock, Exit.jump]
  exact bodyPost_ret (res1 rfl (F203.get rfl)) F203.defers ⟨by rw [show zca m = false from by unfold zca; simp [hP, hN, hS, h6, h148]], M147.below⟩
 refine ze (w' := w147) (zb rfl rfl rfl (F147.get rfl)) rfl F147 rfl (.bool true) (z8 _ _ _ _ rfl (F147.get rfl) rfl (decide_eq_true h148)) fun _ F149 => ?_
 refine zB 4 [(1, .pointer (some ⟨g2, 0, none⟩)), (2, .bool false), (27, .bool true), (29, numV m.b)] [0] (zj (M147.blk (k := 5) rfl) dnil) [g2] F149 fun _ F150 => ?_
 refine zd (zb rfl rfl rfl (F150.get rfl)) rfl F150 rfl rfl (zE Try.func79 rfl) #[numV m.b] (zp (F150.get rfl)) (zh (bits_any m.b w147)) ?_
 rintro _ w151 a151 ⟨rfl, b151⟩ F151
 have M151 := M147.step b151
 by_cases h152 : (topI m.b 8) ≤ 32
 rotate_left
 ·refine ze (w' := w151) (zb rfl rfl rfl (F151.get rfl)) rfl F151 rfl (.bool false) (z8 _ _ _ _ rfl (F151.get rfl) rfl (decide_eq_false h152)) fun _ F200 => ?_
  refine zB 47 [(2, .bool false)] [] dnil [] F200 fun _ F201 => ?_
  refine hK4 _ _ (wp_ret ?_)
  try simp only [Exit.then, Exit.inBlock, Exit.jump]
  exact bodyPost_ret (res1 rfl (F201.get rfl)) F201.defers ⟨by rw [show zca m = false from by unfold zca; simp [hP, hN, hS, h6, h148, h152]], M151.below⟩
 refine ze (w' := w151) (zb rfl rfl rfl (F151.get rfl)) rfl F151 rfl (.bool true) (z8 _ _ _ _ rfl (F151.get rfl) rfl (decide_eq_true h152)) fun _ F153 => ?_
 refine zB 4 [(1, .pointer (some ⟨g2, 0, none⟩)), (2, .bool false), (33, .bool true), (35, V.v5)] [0] (zj (M151.blk (k := 5) rfl) dnil) [g2] F153 fun _ F154 => ?_
 refine ze (w' := w151) (zb rfl rfl rfl (F154.get rfl)) rfl F154 rfl (.int .i64 (m.l5.length : Int)) (z9 _ rfl (F154.get rfl) (M151.isb (k := 0) rfl) rfl) fun _ F155 => ?_
 by_cases h156 : (m.l5.length : Int) ≤ 16
 rotate_left
 ·refine ze (w' := w151) (zb rfl rfl rfl (F155.get rfl)) rfl F155 rfl (.bool false) (z8 _ _ _ _ rfl (F155.get rfl) rfl (decide_eq_false h156)) fun _ F198 => ?_
  refine zB 41 [(2, .bool false)] [] dnil [] F198 fun _ F199 => ?_
  refine hK4 _ _ (wp_ret ?_)
  try simp only [Exit.then, Exit.inBlock, Exit.jump]
  exact bodyPost_ret (res1 rfl (F199.get rfl)) F199.defers ⟨by rw [show zca m = false from by unfold zca; simp [hP, hN, hS, h6, h148, h152, h156]], M151.below⟩
 refine ze (w' := w151) (zb rfl rfl rfl (F155.get rfl)) rfl F155 rfl (.bool true) (z8 _ _ _ _ rfl (F155.get rfl) rfl (decide_eq_true h156)) fun _ F157 => ?_
 refine zB 4 [(1, .pointer (some ⟨g2, 0, none⟩)), (2, .bool false), (39, .bool true), (41, V.v6)] [0] (zj (M151.blk (k := 5) rfl) dnil) [g2] F157 fun _ F158 => ?_
 refine ze (w' := w151) (zb rfl rfl rfl (F158.get rfl)) rfl F158 rfl (.int .i64 (m.l6.length : Int)) (z9 _ rfl (F158.get rfl) (M151.isb (k := 1) rfl) rfl) fun _ F159 => ?_
 by_cases h160 : (m.l6.length : Int) ≤ 48
 rotate_left
 ·refine ze (w' := w151) (zb rfl rfl rfl (F159.get rfl)) rfl F159 rfl (.bool false) (z8 _ _ _ _ rfl (F159.get rfl) rfl (decide_eq_false h160)) fun _ F196 => ?_
  refine zB 35 [(2, .bool false)] [] dnil [] F196 fun _ F197 => ?_
  refine hK4 _ _ (wp_ret ?_)
  try simp only [Exit.then, Exit.inBlock, Exit.jump]
  exact bodyPost_ret (res1 rfl (F197.get rfl)) F197.defers ⟨by rw [show zca m = false from by unfold zca; simp [hP, hN, hS, h6, h148, h152, h156, h160]], M151.below⟩
 refine ze (w' := w151) (zb rfl rfl rfl (F159.get rfl)) rfl F159 rfl (.bool true) (z8 _ _ _ _ rfl (F159.get rfl) rfl (decide_eq_true h160)) fun _ F161 => ?_
 refine zB 4 [(1, .pointer (some ⟨g2, 0, none⟩)), (2, .bool false), (45, .bool true), (47, V.v7)] [0] (zj (M151.blk (k := 5) rfl) dnil) [g2] F161 fun _ F162 => ?_
 refine ze (w' := w151) (zb rfl rfl rfl (F162.get rfl)) rfl F162 rfl (.int .i64 (m.l7.length : Int)) (z9 _ rfl (F162.get rfl) (M151.isb (k := 2) rfl) rfl) fun _ F163 => ?_
 by_cases h164 : (m.l7.length : Int) ≤ 16
 rotate_left
 ·refine ze (w' := w151) (zb rfl rfl rfl (F163.get rfl)) rfl F163 rfl (.bool false) (z8 _ _ _ _ rfl (F163.get rfl) rfl (decide_eq_false h164)) fun _ F194 => ?_
  refine zB 29 [(2, .bool false)] [] dnil [] F194 fun _ F195 => ?_
  refine hK4 _ _ (wp_ret ?_)
  try simp only [Exit.then, Exit.inBlock, Exit.jump]
  exact bodyPost_ret (res1 rfl (F195.get rfl)) F195.defers ⟨by rw [show zca m = false from by unfold zca; simp [hP, hN, hS, h6, h148, h152, h156, h160, h164]], M151.below⟩
 refine ze (w' := w151) (zb rfl rfl rfl (F163.get rfl)) rfl F163 rfl (.bool true) (z8 _ _ _ _ rfl (F163.get rfl) rfl (decide_eq_true h164)) fun _ F165 => ?_
 refine zB 4 [(1, .pointer (some ⟨g2, 0, none⟩)), (2, .bool false), (51, .bool true), (53, V.v8)] [0] (zj (M151.blk (k := 5) rfl) dnil) [g2] F165 fun _ F166 => ?_
 refine ze (w' := w151) (zb rfl rfl rfl (F166.get rfl)) rfl F166 rfl (.int .i64 (m.l8.length : Int)) (z9 _ rfl (F166.get rfl) (M151.isb (k := 3) rfl) rfl) fun _ F167 => ?_
 by_cases h168 : (m.l8.length : Int) ≤ 80
 rotate_left
 ·refine ze (w' := w151) (zb rfl rfl rfl (F167.get rfl)) rfl F167 rfl (.bool false) (z8 _ _ _ _ rfl (F167.get rfl) rfl (decide_eq_false h168)) fun _ F192 => ?_
  refine zB 23 [(2, .bool false)] [] dnil [] F192 fun _ F193 => ?_
  refine hK4 _ _ (wp_ret ?_)
  try simp only [Exit.then, Exit.inBlock, Exit.jump]
  exact bodyPost_ret (res1 rfl (F193.get rfl)) F193.defers ⟨by rw [show zca m = false from by unfold zca; simp [hP, hN, hS, h6, h148, h152, h156, h160, h164, h168]], M151.below⟩
 refine ze (w' := w151) (zb rfl rfl rfl (F167.get rfl)) rfl F167 rfl (.bool true) (z8 _ _ _ _ rfl (F167.get rfl) rfl (decide_eq_true h168)) fun _ F169 => ?_
 refine zB 4 [(1, .pointer (some ⟨g2, 0, none⟩)), (2, .bool false), (57, .bool true), (59, V.v9)] [0] (zj (M151.blk (k := 5) rfl) dnil) [g2] F169 fun _ F170 => ?_
 refine ze (w' := w151) (zb rfl rfl rfl (F170.get rfl)) rfl F170 rfl (.int .i64 (m.l9.length : Int)) (z9 _ rfl (F170.get rfl) (M151.isb (k := 4) rfl) rfl) fun _ F171 => ?_
 by_cases h172 : (m.l9.length : Int) ≤ 120
 rotate_left
 ·refine ze (w' := w151) (zb rfl rfl rfl (F171.get rfl)) rfl F171 rfl (.bool false) (z8 _ _ _ _ rfl (F171.get rfl) rfl (decide_eq_false h172)) fun _ F190 => ?_
  refine zB 17 [(2, .bool false)] [] dnil [] F190 fun _ F191 => ?_
  refine hK4 _ _ (wp_ret ?_)
  try simp only [Exit.then, Exit.inBlock, Exit.jump]
  exact bodyPost_ret (res1 rfl (F191.get rfl)) F191.defers ⟨by rw [show zca m = false from by unfold zca; simp [hP, hN, hS, h6, h148, h152, h156, h160, h164, h168, h172]], M151.below⟩
 refine ze (w' := w151) (zb rfl rfl rfl (F171.get rfl)) rfl F171 rfl (.bool true) (z8 _ _ _ _ rfl (F171.get rfl) rfl (decide_eq_true h172)) fun _ F173 => ?_
 refine zB 4 [(1, .pointer (some ⟨g2, 0, none⟩)), (2, .bool false), (63, .bool true), (65, .int .i64 m.c)] [0] (zj (M151.blk (k := 5) rfl) dnil) [g2] F173 fun _ F174 => ?_
 by_cases h175 : 0 ≤ m.c
 rotate_left
 ·refine ze (w' := w151) (zb rfl rfl rfl (F174.get rfl)) rfl F174 rfl (.bool false) (zob _ _ _ _ rfl (F174.get rfl) rfl (decide_eq_false h175)) fun _ F188 => ?_
  refine zB 12 [(2, .bool false)] [] dnil [] F188 fun _ F189 => ?_
  refine hK4 _ _ (wp_ret ?_)
  try simp only [Exit.then, Exit.inBlock, Exit.jump]
  exact bodyPost_ret (res1 rfl (F189.get rfl)) F189.defers ⟨by rw [show zca m = false from by unfold zca; simp [hP, hN, hS, h6, h148, h152, h156, h160, h164, h168, h172, h175]], M151.below⟩
 refine ze (w' := w151) (zb rfl rfl rfl (F174.get rfl)) rfl F174 rfl (.bool true) (zob _ _ _ _ rfl (F174.get rfl) rfl (decide_eq_true h175)) fun _ F176 => ?_
 refine zB 4 [(1, .pointer (some ⟨g2, 0, none⟩)), (2, .bool false), (68, .bool true), (70, .int .i64 m.e)] [0] (zj (M151.blk (k := 5) rfl) dnil) [g2] F176 fun _ F177 => ?_
 by_cases h178 : 0 ≤ m.e
 rotate_left
 ·refine ze (w' := w151) (zb rfl rfl rfl (F177.get rfl)) rfl F177 rfl (.bool false) (zob _ _ _ _ rfl (F177.get rfl) rfl (decide_eq_false h178)) fun _ F186 => ?_
  refine zB 7 [(2, .bool false)] [] dnil [] F186 fun _ F187 => ?_
  refine hK4 _ _ (wp_ret ?_)
  try simp only [Exit.then, Exit.inBlock, Exit.jump]
  exact bodyPost_ret (res1 rfl (F187.get rfl)) F187.defers ⟨by rw [show zca m = false from by unfold zca; simp [hP, hN, hS, h6, h148, h152, h156, h160, h164, h168, h172, h175, h178]], M151.below⟩
 refine ze (w' := w151) (zb rfl rfl rfl (F177.get rfl)) rfl F177 rfl (.bool true) (zob _ _ _ _ rfl (F177.get rfl) rfl (decide_eq_true h178)) fun _ F179 => ?_
 refine zB 4 [(2, .bool false), (73, .bool true), (75, .int .i64 m.e)] [0] (zj (M151.blk (k := 5) rfl) dnil) [g2] F179 fun _ F180 => ?_
 by_cases h181 : m.e ≤ 11
 ·refine ze (w' := w151) (zb rfl rfl rfl (F180.get rfl)) rfl F180 rfl (.bool true) (z8 _ _ _ _ rfl (F180.get rfl) rfl (decide_eq_true h181)) fun _ F182 => ?_
  refine zB 2 [(2, .bool true)] [] dnil [] F182 fun _ F183 => ?_
  refine hK4 _ _ (wp_ret ?_)
  try simp only [Exit.then, Exit.inBlock, Exit.jump]
  exact bodyPost_ret (res1 rfl (F183.get rfl)) F183.defers ⟨by rw [show zca m = true from by unfold zca; simp [hP, hN, hS, h6, h148, h152, h156, h160, h164, h168, h172, h175, h178, h181]], M151.below⟩
 refine ze (w' := w151) (zb rfl rfl rfl (F180.get rfl)) rfl F180 rfl (.bool false) (z8 _ _ _ _ rfl (F180.get rfl) rfl (decide_eq_false h181)) fun _ F184 => ?_
 refine zB 2 [(2, .bool false)] [] dnil [] F184 fun _ F185 => ?_
 refine hK4 _ _ (wp_ret ?_)
 try simp only [Exit.then, Exit.inBlock, Exit.jump]
 exact bodyPost_ret (res1 rfl (F185.get rfl)) F185.defers ⟨by rw [show zca m = false from by unfold zca; simp [hP, hN, hS, h6, h148, h152, h156, h160, h164, h168, h172, h175, h178, h181]], M151.below⟩
end Go.Proofs.Ytlbkogdmojlpmaa
namespace Go.Proofs.Ytlbkogdmojlpmaa
open Go.ChangeShapes Go.WideShapes Go.ChangeAt Go.RowKit Go.Shelf
def updB (S : Nat → Bool) (k : Nat) (j : Nat) : Bool := match Nat.beq j k with
  | true => true
  | false => S j
def updV (p : Nat → Value) (k : Nat) (v : Value) (j : Nat) : Value := match Nat.beq j k with
  | true => v
  | false => p j
theorem updB_at (S : Nat → Bool) (k j : Nat) : updB S k j = if j = k then true else S j := by
  unfold updB
  by_cases h : j = k
  · subst h; rw [if_pos rfl, Nat.beq_refl]
  · rw [if_neg h, show Nat.beq j k = false by cases hb : Nat.beq j k with
      | false => rfl
      | true => exact absurd (Nat.eq_of_beq_eq_true hb) h]
theorem updV_at (p : Nat → Value) (k : Nat) (v : Value) (j : Nat) : updV p k v j = if j = k then v else p j := by
  unfold updV
  by_cases h : j = k
  · subst h; rw [if_pos rfl, Nat.beq_refl]
  · rw [if_neg h, show Nat.beq j k = false by cases hb : Nat.beq j k with
      | false => rfl
      | true => exact absurd (Nat.eq_of_beq_eq_true hb) h]
def SlotM (L : List Oper) (E : Nat → Value → Prop) (a0 a : Act) (S : Nat → Bool) (p : Nat → Value) (t : Tmp) : Prop := match depOf L t with
  | none => a.eval (.tmp t) = a0.eval (.tmp t)
  | some j => S j = true ∧ a.eval (.tmp t) = p j ∧ E j (p j)
def needs (L : List Oper) (m j k : Nat) : Bool := match (L.take m)[j]? with
  | some o => o.after.any fun e => Region.binds .any e && e.on == k
  | none => false
def HopM (P : Program) (L : List Oper) (m : Nat) (Q : Exit → Act → World → Prop) (E : Nat → Value → Prop) (J : (Nat → Bool) → (Nat → Value) → World → Prop) (a0 : Act) (k : Nat) (o : Oper) : Prop :=
  ∀ (a : Act) (w : World) (S : Nat → Bool) (p : Nat → Value), J S p w → S k = false → (∀ j, needs L m j k = true → S j = false) → (∀ t ∈ o.looksAt L.toArray, SlotM (L.take m) E a0 a S p t) →
    if Region.wanted o (yielded L.toArray a.tmps) = true then o.wp P a w (fun a' w' => ∃ v, a' = a.put o.dst v ∧ E k v ∧ J (updB S k) (updV p k v) w') Q else E k undef ∧ J (updB S k) (updV p k undef) w
def HopAllM (P : Program) (L : List Oper) (m : Nat) (Q : Exit → Act → World → Prop) (E : Nat → Value → Prop) (J : (Nat → Bool) → (Nat → Value) → World → Prop) (a0 : Act) : List Oper → Nat → Prop
  | [], _ => True
  | o :: l, k => HopM P L m Q E J a0 k o ∧ HopAllM P L m Q E J a0 l (k + 1)
theorem hop_atM {P : Program} {L : List Oper} {m : Nat} {Q : Exit → Act → World → Prop} {E : Nat → Value → Prop} {J : (Nat → Bool) → (Nat → Value) → World → Prop} {a0 : Act} : ∀ (l : List Oper) (k : Nat), HopAllM P L m Q E J a0 l k → ∀ (i : Nat) (o : Oper), l[i]? = some o → HopM P L m Q E J a0 (k + i) o
  | [], _, _, i, o, ho => by cases ho
  | q :: l, k, h, 0, o, ho => by
    simp only [List.getElem?_cons_zero, Option.some.injEq] at ho
    subst ho; exact h.1
  | q :: l, k, h, i + 1, o, ho => by
    have := hop_atM l (k + 1) h.2 i o (by simpa using ho)
    rwa [show k + 1 + i = k + (i + 1) by omega] at this
theorem wp_region_relM {P : Program} {id : Nat} {Q : Exit → Act → World → Prop} {a0 : Act} {W : World} {L : List Oper} (m n : Nat) (hn : a0.tmps.size = n) (hm : P.follows .mixedOrders = true) (hok : relOkC L m n = true) (hml : Nat.ble m L.length = true) (E : Nat → Value → Prop) (hds : ∀ (j : Nat) (o : Oper), (L.take m)[j]? = some o → o.dst = none → ∀ v, E j v ↔ v = undef) (J : (Nat → Bool) → (Nat → Value) → World → Prop)
    (h0 : ∀ p, J (fun j => Nat.ble m j) p W.drew) (hop : HopAllM P L m Q E J a0 (L.take m) 0)
    (hend : ∀ (p : Nat → Value) (w : World), J (fun _ => true) p w → (∀ (j : Nat) (o : Oper), (L.take m)[j]? = some o → E j (p j)) → wpList P L.toArray Q (L.drop m) (z5b p (L.take m) 0 a0) w) : (Code.region id L.toArray true).wp P Q a0 W := by
  have hW := zib W
  unfold relOkC at hok
  simp only [Bool.and_eq_true, List.all_eq_true, Option.isNone_iff_eq_none, Bool.or_eq_true, decide_eq_true_eq] at hok
  obtain ⟨⟨⟨⟨hsel, hE⟩, hall⟩, hT1⟩, hT2⟩ := hok
  have htake : ∀ (i : Nat) (o : Oper), (L.take m)[i]? = some o → i < m ∧ L[i]? = some o := fun i o h => by
    rw [List.getElem?_take] at h
    split at h
    · exact ⟨by assumption, h⟩
    · cases h
  have hintake : ∀ (i : Nat) (o : Oper), i < m → L[i]? = some o → (L.take m)[i]? = some o := fun i o h1 h2 => by
    rw [List.getElem?_take, if_pos h1]; exact h2
  have hdst : ∀ (i : Nat) (o : Oper) (d : Tmp), (L.take m)[i]? = some o → o.dst = some d → d < n ∧ depOf (L.take m) d = some i := fun i o d ho hd => by
    have h1 := hall i (List.mem_range.2 (htake i o ho).1)
    simp only [ho, hd, Bool.and_eq_true, decide_eq_true_eq, beq_iff_eq] at h1
    exact h1.1
  have hread : ∀ (i : Nat) (o : Oper) (t : Tmp) (j : Nat), (L.take m)[i]? = some o → t ∈ o.looksAt L.toArray → depOf (L.take m) t = some j → ∃ e ∈ o.after, Region.binds .any e = true ∧ e.on = j := fun i o t j ho ht hj => by
    have h1 := hall i (List.mem_range.2 (htake i o ho).1)
    simp only [ho, Bool.and_eq_true, List.all_eq_true] at h1
    have h2 := h1.2 t ht
    simp only [hj, Array.any_eq_true, Bool.and_eq_true, beq_iff_eq] at h2
    obtain ⟨x, hx, hb, he⟩ := h2
    exact ⟨_, Array.getElem_mem hx, hb, he⟩
  have hdis : ∀ (i j : Nat) (oi oj : Oper) (d : Tmp), (L.take m)[i]? = some oi → (L.take m)[j]? = some oj → j ≠ i → oi.dst = some d → oj.dst ≠ some d := fun i j oi oj d hi hj hne hd e => by
    have h1 := (hdst i oi d hi hd).2
    have h2 := (hdst j oj d hj e).2
    rw [h1] at h2
    exact hne (Option.some.inj h2).symm
  -- a tail operation that is ready: all ahead of it is listed
  have htail : ∀ (listed : Array Bool) (i : Nat), listed.size = L.toArray.size → (∀ (j : Nat) (oj : Oper), L[j]? = some oj → listed.getD j true = true → ∀ e ∈ oj.after, Region.binds .any e = true → listed.getD e.on true = true) → i ∈ Region.ready .any L.toArray listed → m ≤ i → ∀ j, j < i → listed.getD j true = true := by
    intro listed i hs hcl hi hmi j hj
    obtain ⟨hiu, o, ho, hwait⟩ := mem_ready.1 hi
    have ho' : L[i]? = some o := by simpa using ho
    have hil := (List.getElem?_eq_some_iff.1 ho').1
    rcases hT2 i (List.mem_range.2 hil) with h3 | h3
    · omega
    have h4 := h3 j (List.mem_range.2 hj)
    unfold aftB at h4
    simp only [ho', Array.any_eq_true, Bool.and_eq_true, Bool.or_eq_true, beq_iff_eq] at h4
    obtain ⟨x, hx, hb, h4⟩ := h4
    have h5 : listed.getD (o.after[x]).on true = true := by
      have h1 := hwait _ (Array.getElem_mem hx) hb
      by_cases hlt : (o.after[x]).on < listed.size
      · simpa [hlt] using h1
      · rw [Array.getD_eq_getD_getElem?, Array.getElem?_eq_none (by omega)]; rfl
    rcases h4 with h4 | h4
    · rw [h4] at h5; exact h5
    · cases hq : L[(o.after[x]).on]? with
      | none => unfold aftB at h4; rw [hq] at h4; cases h4
      | some oq => exact aft_listed hcl 39 _ oq j hq h5 h4
  have hI : ∀ (listed : Array Bool) (a : Act) (w : World), (J (fun j => Nat.ble m j || listed.getD j true) (fun j => a.eval (match ((L.take m)[j]?).bind (·.dst) with | some d => .tmp d | none => .const undef)) w ∧ a.tmps.size = n ∧ a.defers = a0.defers ∧
      (∀ t : Tmp, (∀ (j : Nat) (oj : Oper), (L.take m)[j]? = some oj → listed.getD j true = true → oj.dst ≠ some t) → a.eval (.tmp t) = a0.eval (.tmp t)) ∧
      (∀ (j : Nat) (oj : Oper) (d : Tmp), (L.take m)[j]? = some oj → listed.getD j true = true → oj.dst = some d → E j (a.eval (.tmp d)))) → listed.size = L.length → (∀ j, j < m → j < L.length → listed.getD j true = true) → wpList P L.toArray Q (L.drop m) a w := by
    rintro listed a w ⟨hB, hz, hd, hbase, hYs⟩ hls hl
    have hlisted : ∀ (j : Nat) (oj : Oper), (L.take m)[j]? = some oj → listed.getD j true = true := fun j oj hoj => by
      obtain ⟨h1, h2⟩ := htake j oj hoj
      exact hl j h1 (List.getElem?_eq_some_iff.1 h2).1
    have hp : a = z5b (fun j => a.eval (match ((L.take m)[j]?).bind (·.dst) with | some d => .tmp d | none => .const undef)) (L.take m) 0 a0 := by
      obtain ⟨z1, z2⟩ := lay_size (fun j => a.eval (match ((L.take m)[j]?).bind (·.dst) with | some d => .tmp d | none => .const undef)) (L.take m) 0 a0
      refine act_ext (by rw [z1, hz, hn]) (by rw [z2, hd]) fun t ht => ?_
      cases hj : depOf (L.take m) t with
      | none => rw [lay_base _ (L.take m) 0 a0 (z6b hj)]; exact hbase t fun j oj hoj _ => z6b hj j oj hoj
      | some j =>
        obtain ⟨oj, hoj, hdj⟩ := depOf_some hj
        rw [lay_at _ (L.take m) 0 j a0 oj hoj hdj (by rw [hn, ← hz]; exact ht) fun i oi hi hne => hdis j i oj oi t hoj hi hne hdj]
        rw [Nat.zero_add]
        simp only [hoj, hdj, Option.bind_some]
    rw [hp]
    have hS : (fun j => Nat.ble m j || listed.getD j true) = fun _ => true := funext fun j => by
      by_cases hj : m ≤ j
      · rw [Nat.ble_eq_true_of_le hj]; rfl
      · by_cases hjl : j < L.length
        · rw [hl j (by omega) hjl]; simp
        · have hnone : listed[j]? = none ∨ True := .inr trivial
          have : (L.take m)[j]? = none := by rw [List.getElem?_eq_none_iff]; simp; omega
          have hsz := hls
          rw [Array.getD_eq_getD_getElem?, Array.getElem?_eq_none (by omega)]; simp
    rw [hS] at hB
    refine hend _ w hB fun i o ho => ?_
    cases hdo : o.dst with
    | some d =>
      simp only [ho, hdo, Option.bind_some]
      exact hYs i o d ho (hlisted i o ho) hdo
    | none =>
      simp only [ho, hdo, Option.bind_some]
      exact (hds i o ho hdo _).2 rfl
  refine wp_region_inv hm (fun listed a w => (∀ (j : Nat) (oj : Oper), L[j]? = some oj → listed.getD j true = true → ∀ e ∈ oj.after, Region.binds .any e = true → listed.getD e.on true = true) ∧ (((∀ j, m ≤ j → j < L.length → listed.getD j true = false) ∧ J (fun j => Nat.ble m j || listed.getD j true) (fun j => a.eval (match ((L.take m)[j]?).bind (·.dst) with | some d => .tmp d | none => .const undef)) w ∧ a.tmps.size = n ∧ a.defers = a0.defers ∧
    (∀ t : Tmp, (∀ (j : Nat) (oj : Oper), (L.take m)[j]? = some oj → listed.getD j true = true → oj.dst ≠ some t) → a.eval (.tmp t) = a0.eval (.tmp t)) ∧
    (∀ (j : Nat) (oj : Oper) (d : Tmp), (L.take m)[j]? = some oj → listed.getD j true = true → oj.dst = some d → E j (a.eval (.tmp d)))) ∨
    (∃ k, m ≤ k ∧ (∀ j, j < L.length → (listed.getD j true = true ↔ j < k)) ∧ wpList P L.toArray Q (L.drop k) a w))) ?_ ?_ ?_
  · refine ⟨fun j oj hj hl => ?_, .inl ⟨fun j _ hj => by simp [hj], ?_, hn, rfl, fun _ _ => rfl, fun j oj d hj hl _ => ?_⟩⟩
    · have hjl := (List.getElem?_eq_some_iff.1 hj).1
      simp [hjl] at hl
    · have hml' := Nat.le_of_ble_eq_true hml
      refine (congrArg (fun S => J S _ W.drew) (funext fun j => ?_)).mp (h0 _)
      by_cases hj : m ≤ j
      · rw [Nat.ble_eq_true_of_le hj]; rfl
      · have : j < L.length := by omega
        simp [this]
    · have hjl := (List.getElem?_eq_some_iff.1 (htake j oj hj).2).1
      simp [hjl] at hl
  · rintro listed a w i hs ⟨hcl, hinv⟩ hi
    obtain ⟨hiu, o, ho, hwait⟩ := mem_ready.1 hi
    have ho' : L[i]? = some o := by simpa using ho
    have hil := (List.getElem?_eq_some_iff.1 ho').1
    have hsl : listed.size = L.length := by simpa using hs
    have hcl2 : (∀ (j : Nat) (oj : Oper), L[j]? = some oj → (listed.setIfInBounds i true).getD j true = true → ∀ e ∈ oj.after, Region.binds .any e = true → (listed.setIfInBounds i true).getD e.on true = true) := fun j oj hoj hl e he hbd => by
      by_cases ei : i = e.on
      · rw [← ei, Array.getD_eq_getD_getElem?, Array.getElem?_setIfInBounds_self]; simp [hsl, hil]
      · rw [getD_set_ne true ei]
        by_cases ej : i = j
        · subst ej
          obtain rfl : o = oj := Option.some.inj (ho'.symm.trans hoj)
          have h1 := hwait e he hbd
          by_cases hlt : e.on < listed.size
          · simpa [hlt] using h1
          · rw [Array.getD_eq_getD_getElem?, Array.getElem?_eq_none (by omega)]; rfl
        · rw [getD_set_ne true ej] at hl
          exact hcl j oj hoj hl e he hbd
    by_cases him : i < m
    · rcases hinv with ⟨htl, hB, hz, hd, hbase, hYs⟩ | ⟨k, hmk, hlk, _⟩
      · have ht' := hintake i o him ho'
        have hh := hop_atM (L.take m) 0 hop i o ht'
        rw [Nat.zero_add] at hh
        have hslots : ∀ t ∈ o.looksAt L.toArray, SlotM (L.take m) E a0 a (fun j => Nat.ble m j || listed.getD j true) (fun j => a.eval (match ((L.take m)[j]?).bind (·.dst) with | some d => .tmp d | none => .const undef)) t := fun t ht => by
          unfold SlotM
          cases hj : depOf (L.take m) t with
          | none => exact hbase t fun j oj hoj _ => z6b hj j oj hoj
          | some j =>
            obtain ⟨oj, hoj, hdj⟩ := depOf_some hj
            obtain ⟨e, he, hb, hon⟩ := hread i o t j ht' ht hj
            have h1 := hwait e he hb
            rw [hon] at h1
            have hjl : j < listed.size := by rw [hsl]; exact (List.getElem?_eq_some_iff.1 (htake j oj hoj).2).1
            have hl1 : listed.getD j true = true := by simpa [hjl] using h1
            have hjm : j < m := (htake j oj hoj).1
            refine ⟨by simp only [hl1, Bool.or_true], ?_, ?_⟩
            · simp only [hoj, hdj, Option.bind_some]
            · simp only [hoj, hdj, Option.bind_some]
              exact hYs j oj t hoj hl1 hdj
        have hSi : (Nat.ble m i || listed.getD i true) = false := by
          rw [show Nat.ble m i = false by cases hb : Nat.ble m i with
            | false => rfl
            | true => exact absurd (Nat.le_of_ble_eq_true hb) (by omega)]
          rw [Bool.false_or]; simpa using hiu
        have hnd : ∀ j, needs L m j i = true → (Nat.ble m j || listed.getD j true) = false := fun j hj => by
          unfold needs at hj
          cases hoj : (L.take m)[j]? with
          | none => rw [hoj] at hj; cases hj
          | some oj =>
            rw [hoj] at hj
            simp only [Array.any_eq_true, Bool.and_eq_true, beq_iff_eq] at hj
            obtain ⟨x, hx, hb, he⟩ := hj
            have hjm := (htake j oj hoj).1
            rw [show Nat.ble m j = false by cases hb2 : Nat.ble m j with
              | false => rfl
              | true => exact absurd (Nat.le_of_ble_eq_true hb2) (by omega), Bool.false_or]
            cases hlj : listed.getD j true with
            | false => rfl
            | true =>
              have := hcl j oj (htake j oj hoj).2 hlj _ (Array.getElem_mem hx) hb
              rw [he] at this
              have h2 : listed.getD i true = false := by simpa using hiu
              rw [h2] at this; cases this
        have hh := hh a w _ _ hB hSi hnd hslots
        have hset : ∀ (v : Value) (w' : World), E i v → J (updB (fun j => Nat.ble m j || listed.getD j true) i) (updV (fun j => a.eval (match ((L.take m)[j]?).bind (·.dst) with | some d => .tmp d | none => .const undef)) i v) w' → ((∀ j, m ≤ j → j < L.length → (listed.setIfInBounds i true).getD j true = false) ∧ J (fun j => Nat.ble m j || (listed.setIfInBounds i true).getD j true) (fun j => (a.put o.dst v).eval (match ((L.take m)[j]?).bind (·.dst) with | some d => .tmp d | none => .const undef)) w' ∧ (a.put o.dst v).tmps.size = n ∧ (a.put o.dst v).defers = a0.defers ∧
            (∀ t : Tmp, (∀ (j : Nat) (oj : Oper), (L.take m)[j]? = some oj → (listed.setIfInBounds i true).getD j true = true → oj.dst ≠ some t) → (a.put o.dst v).eval (.tmp t) = a0.eval (.tmp t)) ∧
            (∀ (j : Nat) (oj : Oper) (d : Tmp), (L.take m)[j]? = some oj → (listed.setIfInBounds i true).getD j true = true → oj.dst = some d → E j ((a.put o.dst v).eval (.tmp d)))) := fun v w' hy hb => by
          refine ⟨fun j h1 h2 => by rw [getD_set_ne true (show i ≠ j by omega)]; exact htl j h1 h2, ?_, by rw [put_size]; exact hz, by rw [put_defers]; exact hd, fun t ht => ?_, fun j oj d hoj hl hdj => ?_⟩
          · have e1 : (fun j => Nat.ble m j || (listed.setIfInBounds i true).getD j true) = updB (fun j => Nat.ble m j || listed.getD j true) i := funext fun j => by
              rw [updB_at]
              by_cases e : i = j
              · subst e; rw [if_pos rfl, Array.getD_eq_getD_getElem?, Array.getElem?_setIfInBounds_self]; simp [hsl, hil]
              · rw [if_neg (fun e2 => e e2.symm), getD_set_ne true e]
            have e2 : (fun j => (a.put o.dst v).eval (match ((L.take m)[j]?).bind (·.dst) with | some d => .tmp d | none => .const undef)) = updV (fun j => a.eval (match ((L.take m)[j]?).bind (·.dst) with | some d => .tmp d | none => .const undef)) i v := funext fun j => by
              rw [updV_at]
              by_cases e : i = j
              · subst e; rw [if_pos rfl]
                cases hdd : o.dst with
                | some dd =>
                  simp only [ht', hdd, Option.bind_some]
                  exact z3b (by rw [hz]; exact (hdst i o dd ht' hdd).1)
                | none =>
                  simp only [ht', hdd, Option.bind_some]
                  exact ((hds i o ht' hdd v).1 hy).symm
              · rw [if_neg (fun e2 => e e2.symm)]
                cases hoj : (L.take m)[j]? with
                | none => rfl
                | some oj =>
                  cases hdj : oj.dst with
                  | none => simp only [Option.bind_some, hdj]; rfl
                  | some dj =>
                    simp only [Option.bind_some, hdj]
                    exact zsb (hdis j i oj o dj hoj ht' e hdj)
            rw [e1, e2]; exact hb
          · rw [zsb (ht i o ht' (by rw [Array.getD_eq_getD_getElem?, Array.getElem?_setIfInBounds_self]; simp [hsl, hil]))]
            refine hbase t fun j oj hoj hl => ht j oj hoj ?_
            by_cases e : i = j
            · subst e; rw [hl] at hiu; cases hiu
            · rw [getD_set_ne true e]; exact hl
          · by_cases e : i = j
            · subst e
              obtain rfl : o = oj := Option.some.inj (ht'.symm.trans hoj)
              rw [hdj, z3b (by rw [hz]; exact (hdst i o d ht' hdj).1)]
              exact hy
            · rw [zsb (hdis j i oj o d hoj ht' e hdj)]
              rw [getD_set_ne true e] at hl
              exact hYs j oj d hoj hl hdj
        unfold wpOp
        simp only [ho]
        by_cases hw : Region.wanted o (yielded L.toArray a.tmps) = true
        · rw [if_pos hw] at hh ⊢
          exact .inl (Oper.wp_mono (fun a' w' ⟨v, e, hy, hb⟩ => by rw [e]; exact ⟨hcl2, .inl (hset v w' hy hb)⟩) hh)
        · rw [if_neg hw] at hh ⊢
          exact ⟨hcl2, .inl (hset undef w hh.1 hh.2)⟩
      · have := (hlk i hil).2 (by omega)
        rw [this] at hiu; cases hiu
    · have hmi : m ≤ i := Nat.le_of_not_lt him
      have hahead := htail listed i hs hcl hi hmi
      have hk : (∀ j, j < L.length → (listed.getD j true = true ↔ j < i)) ∧ wpList P L.toArray Q (L.drop i) a w := by
        rcases hinv with ⟨htl, hrest⟩ | ⟨k, hmk, hlk, hwp⟩
        · obtain rfl : i = m := by
            refine Nat.le_antisymm (Nat.le_of_not_lt fun hlt => ?_) hmi
            have h1 := hahead m hlt
            rw [htl m (Nat.le_refl _) (by omega)] at h1; cases h1
          refine ⟨fun j hj => ⟨fun h => Nat.lt_of_not_le fun h2 => ?_, hahead j⟩, hI listed a w hrest hsl fun j h1 _ => hahead j h1⟩
          rw [htl j h2 hj] at h; cases h
        · obtain rfl : k = i := by
            refine Nat.le_antisymm (Nat.le_of_not_lt fun hlt => ?_) (Nat.le_of_not_lt fun hlt => ?_)
            · have := (hlk i hil).2 hlt
              rw [this] at hiu; cases hiu
            · have := (hlk k (by omega)).1 (hahead k hlt)
              omega
          exact ⟨hlk, hwp⟩
      obtain ⟨hlk, hwp⟩ := hk
      have hdr : L.drop i = L[i] :: L.drop (i + 1) := List.drop_eq_getElem_cons hil
      have hoe : L[i] = o := by rw [List.getElem?_eq_getElem hil] at ho'; exact Option.some.inj ho'
      rw [hoe] at hdr
      have hg := hT1 o (by
        have h6 : L.drop i = (L.drop m).drop (i - m) := by rw [List.drop_drop]; congr 1; omega
        have h7 : o ∈ L.drop i := by rw [hdr]; exact List.mem_cons_self
        rw [h6] at h7
        exact List.mem_of_mem_drop h7)
      have hset : ∀ j, j < L.length → ((listed.setIfInBounds i true).getD j true = true ↔ j < i + 1) := by
        intro j hj
        by_cases hji : j = i
        · subst hji; simp [hsl, hj]
        · rw [getD_set_ne true (fun e => hji e.symm), hlk j hj]; omega
      rw [hdr] at hwp
      unfold wpList at hwp
      unfold wpOp
      simp only [ho]
      have hw' : ∀ g, Region.wanted o g = true := fun g => by simp [Region.wanted, hg]
      simp only [hw', if_true] at hwp ⊢
      exact hwp.imp (Oper.wp_mono fun a' w' h' => ⟨hcl2, .inr ⟨i + 1, by omega, hset, h'⟩⟩) (fun h => h)
  · rintro listed a w hs ⟨hcl, hinv⟩ hr
    have hsl : listed.size = L.length := by simpa using hs
    have hlisted : ∀ j, j < L.length → listed.getD j true = true := fun j hj => by
      cases h : listed.getD j true with
      | true => rfl
      | false => exact absurd hr (ready_of_unlisted hE hs j (by simpa using hj) h)
    have hwp : ∃ k, L.length ≤ k ∧ wpList P L.toArray Q (L.drop k) a w := by
      rcases hinv with ⟨htl, hrest⟩ | ⟨k, hmk, hlk, hwp⟩
      · refine ⟨m, Nat.le_of_not_lt fun hlt => ?_, hI listed a w hrest hsl fun j _ hj => hlisted j hj⟩
        have h1 := htl m (Nat.le_refl _) hlt
        rw [hlisted m hlt] at h1; cases h1
      · refine ⟨k, Nat.le_of_not_lt fun hlt => ?_, hwp⟩
        exact absurd ((hlk k hlt).1 (hlisted k hlt)) (Nat.lt_irrefl _)
    obtain ⟨k, h1, h2⟩ := hwp
    rw [List.drop_eq_nil_of_le h1] at h2
    exact h2
end Go.Proofs.Ytlbkogdmojlpmaa
namespace Go.Proofs.Ytlbkogdmojlpmaa
open Go.ChangeShapes Go.WideShapes Go.ChangeAt Go.RowKit Go.Shelf
variable {ds : List Deferred}
def trivR : Res := ⟨false, fun _ => False, fun _ => True⟩
def condR (b : Bool) (r : Res) : Res := match b with
  | true => r
  | false => trivR
theorem condR_look {R : List (Nat × Res)} {i : Nat} {b : Bool} {r : Res} (hb : b = true) (h : look R i = some (condR b r)) : look R i = some r := by subst hb; exact h
def eitherR (b : Bool) (r s : Res) : Res := match b with
  | true => r
  | false => s
theorem eitherR_r {R : List (Nat × Res)} {i : Nat} {c : Bool} {r s : Res} (hc : c = false) (h : look R i = some (eitherR c r s)) : look R i = some s := by subst hc; exact h
def sfp (v : Value) (g : Nat) : Prop := ∃ n m, v = .slice (some ⟨g, 0, none⟩) n m
def slcR (t : TypeId) (n : Nat) (c : Array Value) (v : Value) : Res := ⟨true, sfp v, fun w => ∃ g, v = .slice (some ⟨g, 0, none⟩) n n ∧ w.heap[g]? = some (.cells c t (0, 0))⟩
section
variable {G : Option Nat} {w0 w w' : World} {R : List (Nat × Res)} {i k : Nat}
theorem Mx.triv (M : Mx G w0 w R) (i : Nat) : Mx G w0 w ((i, trivR) :: R) := M.cons i trivR trivial (fun _ _ _ _ => trivial) (fun _ h => h.elim) (fun e => by cases e) (fun _ _ _ _ _ _ h => h.elim)
theorem slcR_dep {t : TypeId} {n : Nat} {c : Array Value} {v : Value} : ∀ u u', Same (slcR t n c v).fp u u' → (slcR t n c v).F u → (slcR t n c v).F u' := fun u u' hs ⟨g, e, h⟩ => ⟨g, e, hs g _ ⟨_, _, e⟩ h⟩
theorem Mx.allocS (M : Mx G w0 w R) (i : Nat) (t : TypeId) (n : Nat) (c : Array Value) : Mx G w0 (w.alloc (.cells c t)) ((i, slcR t n c (.slice (some ⟨w.heap.size, 0, none⟩) n n)) :: R) :=
  M.fresh (zub w _) i _ ⟨_, rfl, heap_alloc_new _ _⟩ slcR_dep (fun g ⟨a, b, hg⟩ => by
    have e : w.heap.size = g := by injection hg with hg; injection hg with hg; injection hg
    subst e; exact ⟨Nat.le_refl _, by simp⟩)
end
theorem relOkC_dst {L : List Oper} {m n : Nat} (hok : relOkC L m n = true) : ∀ (i : Nat) (o : Oper) (d : Nat), (L.take m)[i]? = some o → o.dst = some d → d < n := by
  unfold relOkC at hok
  simp only [Bool.and_eq_true, List.all_eq_true] at hok
  obtain ⟨⟨⟨⟨-, -⟩, hall⟩, -⟩, -⟩ := hok
  intro i o d ho hd
  have hi : i < m := by
    rw [List.getElem?_take] at ho
    split at ho
    · assumption
    · cases ho
  have h1 := hall i (List.mem_range.2 hi)
  simp only [ho, hd, Bool.and_eq_true, decide_eq_true_eq] at h1
  exact h1.1.1
def JM (G : Option Nat) (w0 : World) (RL : (Nat → Bool) → (Nat → Value) → List (Nat × Res)) (S : Nat → Bool) (p : Nat → Value) (w : World) : Prop := Mx G w0 w (RL S p)
def stE (E : List (Value → Prop)) (k : Nat) (v : Value) : Prop := ((E[k]?).getD fun _ => True) v
def EAll (E : List (Value → Prop)) (p : Nat → Value) : List Oper → Nat → Prop
  | [], _ => True
  | _ :: l, k => stE E k (p k) ∧ EAll E p l (k + 1)
def EDs (E : List (Value → Prop)) : List Oper → Nat → Prop
  | [], _ => True
  | o :: l, k => (match o.dst with
    | some _ => True
    | none => ∀ v, stE E k v ↔ v = undef) ∧ EDs E l (k + 1)
theorem EDs.at {E : List (Value → Prop)} : ∀ {l : List Oper} {k : Nat}, EDs E l k → ∀ (j : Nat) (o : Oper), l[j]? = some o → o.dst = none → ∀ v, stE E (k + j) v ↔ v = undef
  | [], _, _, j, o, ho, _ => by cases ho
  | q :: l, k, h, 0, o, ho, hn => by
    cases ho
    have := h.1
    rw [hn] at this
    exact this
  | q :: l, k, h, j + 1, o, ho, hn => by
    have := EDs.at h.2 j o (by simpa using ho) hn
    rwa [show k + (j + 1) = k + 1 + j by omega]
theorem eall_of {E : List (Value → Prop)} {p : Nat → Value} : ∀ (l : List Oper) (k : Nat), (∀ (j : Nat) (o : Oper), l[j]? = some o → stE E (k + j) (p (k + j))) → EAll E p l k
  | [], _, _ => trivial
  | o :: l, k, h => ⟨h 0 o rfl, eall_of l (k + 1) fun j o' hj => by
    have := h (j + 1) o' (by simpa using hj)
    rwa [show k + (j + 1) = k + 1 + j by omega] at this⟩
section
variable {P : Program}
theorem z1b {id : Nat} {Q : Exit → Act → World → Prop} {a0 : Act} {W : World} {L : List Oper} {n : Nat} {V : List (Nat × Value)} (F : Fx n a0 V ds) (E : List (Value → Prop)) (J : (Nat → Bool) → (Nat → Value) → World → Prop) (m : Nat) (hm : P.follows .mixedOrders = true) (hok : relOkC L m n = true) (hml : Nat.ble m L.length = true) (hds : EDs E (L.take m) 0)
    (h0 : ∀ p, J (fun j => Nat.ble m j) p W.drew) (hop : HopAllM P L m Q (stE E) J a0 (L.take m) 0)
    (hend : ∀ (p : Nat → Value) (a : Act) (w : World), J (fun _ => true) p w → Fx n a (layV p (L.take m) 0 V) ds → EAll E p (L.take m) 0 → wpList P L.toArray Q (L.drop m) a w) : (Code.region id L.toArray true).wp P Q a0 W :=
  wp_region_relM m n F.size hm hok hml (stE E) (fun j o ho hn => by have := hds.at j o ho hn; rwa [Nat.zero_add] at this) J h0 hop fun p w hj hE => hend p _ w hj (F.lay p (L.take m) 0 a0 V (relOkC_dst hok)) (eall_of _ 0 fun j o ho => by rw [Nat.zero_add]; exact hE j o ho)
variable {ops : Array Oper} {Q : Exit → Act → World → Prop} {a : Act} {w : World} {o : Oper} {E : List (Value → Prop)} {J : (Nat → Bool) → (Nat → Value) → World → Prop} {S : Nat → Bool} {p : Nat → Value} {k : Nat}
theorem zl (hw : Region.wanted o (yielded ops a.tmps) = true) (v : Value) {w' : World} (hr : (execOp a.eval o).run P w = .ok (.value v) w') (hE : stE E k v) (hJ : J (updB S k) (updV p k v) w') :
    if Region.wanted o (yielded ops a.tmps) = true then o.wp P a w (fun a' w' => ∃ v, a' = a.put o.dst v ∧ stE E k v ∧ J (updB S k) (updV p k v) w') Q else stE E k undef ∧ J (updB S k) (updV p k undef) w := by
  rw [if_pos hw]
  unfold Oper.wp
  rw [hr]
  exact ⟨v, rfl, hE, hJ⟩
theorem hopM_do (hw : Region.wanted o (yielded ops a.tmps) = true) (hd : o.dst = none) (hr : ∃ w', (execOp a.eval o).run P w = .ok .skip w' ∧ J (updB S k) (updV p k undef) w') (hE : stE E k undef) :
    if Region.wanted o (yielded ops a.tmps) = true then o.wp P a w (fun a' w' => ∃ v, a' = a.put o.dst v ∧ stE E k v ∧ J (updB S k) (updV p k v) w') Q else stE E k undef ∧ J (updB S k) (updV p k undef) w := by
  obtain ⟨w', h1, h2⟩ := hr
  rw [if_pos hw]
  unfold Oper.wp
  rw [h1]
  exact ⟨undef, rfl, hE, h2⟩
theorem hopM_doM (hw : Region.wanted o (yielded ops a.tmps) = true) (hd : o.dst = none) {G : Option Nat} {w0 : World} {R' : List (Nat × Res)} (hr : ∃ w', (execOp a.eval o).run P w = .ok .skip w' ∧ Mx G w0 w' R') (hJ : ∀ w', Mx G w0 w' R' → J (updB S k) (updV p k undef) w') (hE : stE E k undef) :
    if Region.wanted o (yielded ops a.tmps) = true then o.wp P a w (fun a' w' => ∃ v, a' = a.put o.dst v ∧ stE E k v ∧ J (updB S k) (updV p k v) w') Q else stE E k undef ∧ J (updB S k) (updV p k undef) w :=
  hopM_do hw hd (hr.imp fun w' h => ⟨h.1, hJ w' h.2⟩) hE
theorem hopM_ex (hw : Region.wanted o (yielded ops a.tmps) = true) (hr : ∃ v w', (execOp a.eval o).run P w = .ok (.value v) w' ∧ stE E k v ∧ J (updB S k) (updV p k v) w') :
    if Region.wanted o (yielded ops a.tmps) = true then o.wp P a w (fun a' w' => ∃ v, a' = a.put o.dst v ∧ stE E k v ∧ J (updB S k) (updV p k v) w') Q else stE E k undef ∧ J (updB S k) (updV p k undef) w := by
  obtain ⟨v, w', h1, h2, h3⟩ := hr
  exact zl hw v h1 h2 h3
theorem hopM_exE (hw : Region.wanted o (yielded ops a.tmps) = true) {Z : Value → Prop} (hr : ∃ v, (execOp a.eval o).run P w = .ok (.value v) w ∧ Z v) (h : ∀ v, Z v → stE E k v ∧ J (updB S k) (updV p k v) w) :
    if Region.wanted o (yielded ops a.tmps) = true then o.wp P a w (fun a' w' => ∃ v, a' = a.put o.dst v ∧ stE E k v ∧ J (updB S k) (updV p k v) w') Q else stE E k undef ∧ J (updB S k) (updV p k undef) w :=
  hopM_ex hw (hr.elim fun v h1 => ⟨v, w, h1.1, h v h1.2⟩)
theorem hopM_call (hw : Region.wanted o (yielded ops a.tmps) = true) {f : FuncId} {args : Array Operand} {ts : Array TypeId} (ho : o.op = .call { callee := .value (.func f), args := args, argTypes := ts }) (vals : Array Value) (hv : args.map a.eval = vals) (hr : ∀ args w, (callFunc f args).run P w = .ok (.enter f args) w)
    (hc : Calls P f vals w fun e w' => ∃ v, e = .returned v ∧ stE E k v ∧ J (updB S k) (updV p k v) w') :
    if Region.wanted o (yielded ops a.tmps) = true then o.wp P a w (fun a' w' => ∃ v, a' = a.put o.dst v ∧ stE E k v ∧ J (updB S k) (updV p k v) w') Q else stE E k undef ∧ J (updB S k) (updV p k undef) w := by
  rw [if_pos hw]
  subst hv
  unfold Oper.wp
  have : (execOp a.eval o).run P w = .ok (.enter f (args.map a.eval)) w := by
    simp [execOp, ho, resolve, invoke, Act.eval, go_sem, hr]
  rw [this]
  refine hc.mono fun e w' ⟨v, he, h1, h2⟩ => ?_
  subst he
  exact ⟨v, rfl, h1, h2⟩
end
end Go.Proofs.Ytlbkogdmojlpmaa
namespace Go.Proofs.Ytlbkogdmojlpmaa
open Go.ChangeShapes Go.WideShapes Go.ChangeAt Go.RowKit Go.Shelf
variable {ds : List Deferred}
def MidOk2 (F : Fence) (n : Nat) (P : Program) (l : Nat) (body : Code) (W : World) (R : World → Prop) (a₁ : Act) (W1 : World) : Prop :=
  KeepsOthers W W1 ∧ ∀ o, NotCells W1 l → o.isCells = false → body.wpIn (F.inRound l) n P (roundEnd l (W1.putObj l o) R) a₁ (W1.putObj l o)
theorem wpIn_range2 {F : Fence} {n : Nat} {P : Program} {g : Operand} {ps : Array Tmp} {assign body : Code} {Q : Exit → Act → World → Prop} {a : Act} {w : World}
    (hro : F.round = none) (h1 : 1 ≤ n) {gf : Nat} {lb : Array Value} (hg : a.eval g = .func (.func gf) #[] lb) (hFg : F.fn gf) (eg : ∀ args w, (callFunc gf args).run P w = .ok (.enter gf args) w)
    {α : Type} (encs : α → Array Value) (hps : ∀ x, (encs x).size = ps.size) (Pre : α → World → Prop) (Post : α → World → World → Prop) (Fin : World → Prop)
    (hround : ∀ (l : Nat) (x : α) (W : World), w.heap.size < l → l < W.heap.size → Pre x W →
      assign.wpIn (F.inRound l) (n - 1 - 1) P (Exit.then (MidOk2 F (n - 1 - 1) P l body W (Post x W)) (fun _ _ _ => False)) { tmps := (ps.zip (encs x)).foldl (fun t (p, v) => t.setIfInBounds p v) a.tmps, defers := [] } W)
    (hiter : ∀ (l D : Nat) (o1 o2 : Obj) (W1 : World), D = w.heap.size → l = w.heap.size + 1 → W1 = (w.alloc o2).alloc o1 → RecAt l D o1 o2 W1 →
      (∀ x W, Pre x W → RecAt l D o1 o2 W → YieldAt F (n - 1 - 1) P l (encs x) W fun e W' => e = .returned (.bool true) ∧ RecAt l D o1 o2 W' ∧ Post x W W') →
      CallsIn F (n - 1) P gf (#[.func (.yield l) #[] #[]] ++ lb) W1 fun e W' => (∃ v, e = .returned v) ∧ RecAt l D o1 o2 W' ∧ Fin W')
    (hdone : ∀ (l D : Nat) (o : Obj) (W : World), D = w.heap.size → l = w.heap.size + 1 → Fin W → l < W.heap.size → NotCells W l → (W.putObj l o).heap[D]? = some (.deferred (some [])) →
      Q .normal { a with defers := { target := .collected D, args := #[] } :: a.defers } (W.putObj l o)) :
    (Code.rangeFunc g ps assign body).wpIn F n P Q a w := by
  refine wpIn_rangeFunc ?_
  intro fn hfn
  rw [hro]
  obtain ⟨rec, hrec⟩ : ∃ rec : LoopState → Option Code → Loop, rec = fun st pe => { state := st, pending := pe, fn, tmps := a.tmps, params := ps, assign, body, defers := w.heap.size } := ⟨_, rfl⟩
  obtain ⟨W1, hW1⟩ : ∃ W1, (w.alloc (.deferred (some []))).alloc (.loop (rec .ready none)) = W1 := ⟨_, rfl⟩
  have hL1 : W1.heap[w.heap.size + 1]? = some (.loop (rec .ready none)) := by
    rw [← hW1]; have := World.alloc_heap_new (w.alloc (.deferred (some []))) (.loop (rec .ready none)); rwa [World.size_alloc] at this
  have hK1 : W1.heap[w.heap.size]? = some (.deferred (some [])) := by
    rw [← hW1]; exact (Below.heap_alloc _ _ _ (by simp)).trans (World.alloc_heap_new w _)
  refine ⟨w.heap.size + 1, [{ target := .collected w.heap.size, args := #[] }], W1, { target := .fn (.func gf) lb, args := #[.func (.yield (w.heap.size + 1)) #[] #[]] }, W1, gf,
    #[.func (.yield (w.heap.size + 1)) #[] #[]] ++ lb, W1, ?_, ?_, ?_, ?_, fun _ => h1, ?_⟩
  · rw [← hW1, hrec]; exact run_enterLoop_outer _ _ _ _ _
  · simp only [resolve, hg]
    simp [go_sem]
  · intro f' hf'; simp [Target.leads] at hf'; subst hf'; exact hFg
  · simp [invoke, go_sem, eg]
  · refine (hiter (w.heap.size + 1) w.heap.size (.loop (rec .ready none)) (.deferred (some [])) W1 rfl rfl hW1.symm ⟨hL1, hK1, rfl, rfl⟩ ?_).mono ?_
    · rintro x W hpre ⟨hl, hk, -, -⟩
      have hlt : w.heap.size + 1 < W.heap.size := (Array.getElem?_eq_some_iff.1 hl).1
      have hy := run_yield (P := P) (args := encs x) hl (by rw [hrec]; exact hps x)
      rw [hrec] at hy
      refine ⟨fn, _, assign, body, hy, roundIn_of_wpIn hfn (wpIn_mono (hround (w.heap.size + 1) x W (by omega) hlt hpre) ?_)⟩
      rintro e a1 W2 hp
      cases e with
      | normal =>
        obtain ⟨hk2, hb⟩ := hp
        have hl2 := hk2.same _ _ hl rfl
        have hd2 := hk2.same _ _ hk rfl
        have hlt2 := (Array.getElem?_eq_some_iff.1 hl2).1
        refine ⟨_, run_beginRound hl2 (by rw [hrec]), ?_⟩
        refine wpIn_mono (hb (.loop { rec .ready none with state := .busy }) (fun o' ho' => by rw [hl2] at ho'; cases ho'; rfl) rfl) ?_
        rintro e3 a3 W3 hp3
        cases e3 with
        | normal =>
          obtain ⟨hk3, hR⟩ := hp3
          have hl3 : W3.heap[w.heap.size + 1]? = some (.loop { rec .ready none with state := .busy }) := hk3.same _ _ (World.putObj_heap_same hlt2) rfl
          have hd3 : W3.heap[w.heap.size]? = some (.deferred (some [])) := hk3.same _ _ ((World.putObj_heap_other (by omega)).trans hd2) rfl
          have hend := run_endRound (P := P) none hl3
          rw [hrec] at hend
          refine ⟨_, _, hend, rfl, ⟨?_, ?_, rfl, rfl⟩, hR _⟩
          · rw [hrec]; exact World.putObj_heap_same (Array.getElem?_eq_some_iff.1 hl3).1
          · exact (World.putObj_heap_other (by omega)).trans hd3
        | _ => exact hp3.elim
      | _ => exact hp.elim
    · rintro e W2 ⟨⟨v, rfl⟩, ⟨hl, hk, -, -⟩, hf⟩
      refine ⟨none, _, by have := run_endLoop (P := P) hl (by rw [hrec]; simp); rw [hrec] at this; exact this, ?_⟩
      exact hdone (w.heap.size + 1) w.heap.size _ W2 rfl rfl hf (Array.getElem?_eq_some_iff.1 hl).1 (fun o' ho' => by rw [hl] at ho'; cases ho'; rfl) ((World.putObj_heap_other (by omega)).trans hk)
theorem wp_region_relM_in {P : Program} {id : Nat} {Q : Exit → Act → World → Prop} {a0 : Act} {W : World} {L : List Oper} {l n' : Nat} (hQ : ¬ LetsOut Q) (hnd : noDefer L = true) (m n : Nat) (hn : a0.tmps.size = n) (hm : P.follows .mixedOrders = true) (hok : relOkC L m n = true) (hml : Nat.ble m L.length = true) (E : Nat → Value → Prop) (hds : ∀ (j : Nat) (o : Oper), (L.take m)[j]? = some o → o.dst = none → ∀ v, E j v ↔ v = undef) (J : (Nat → Bool) → (Nat → Value) → World → Prop)
    (h0 : ∀ p, J (fun j => Nat.ble m j) p W.drew) (hop : HopAllM P L m Q E J a0 (L.take m) 0)
    (hend : ∀ (p : Nat → Value) (w : World), J (fun _ => true) p w → (∀ (j : Nat) (o : Oper), (L.take m)[j]? = some o → E j (p j)) → wpList P L.toArray Q (L.drop m) (z5b p (L.take m) 0 a0) w) : (Code.region id L.toArray true).wpIn (Fence.wide.inRound l) n' P Q a0 W := by
  have hW := zib W
  unfold relOkC at hok
  simp only [Bool.and_eq_true, List.all_eq_true, Option.isNone_iff_eq_none, Bool.or_eq_true, decide_eq_true_eq] at hok
  obtain ⟨⟨⟨⟨hsel, hE⟩, hall⟩, hT1⟩, hT2⟩ := hok
  have htake : ∀ (i : Nat) (o : Oper), (L.take m)[i]? = some o → i < m ∧ L[i]? = some o := fun i o h => by
    rw [List.getElem?_take] at h
    split at h
    · exact ⟨by assumption, h⟩
    · cases h
  have hintake : ∀ (i : Nat) (o : Oper), i < m → L[i]? = some o → (L.take m)[i]? = some o := fun i o h1 h2 => by
    rw [List.getElem?_take, if_pos h1]; exact h2
  have hdst : ∀ (i : Nat) (o : Oper) (d : Tmp), (L.take m)[i]? = some o → o.dst = some d → d < n ∧ depOf (L.take m) d = some i := fun i o d ho hd => by
    have h1 := hall i (List.mem_range.2 (htake i o ho).1)
    simp only [ho, hd, Bool.and_eq_true, decide_eq_true_eq, beq_iff_eq] at h1
    exact h1.1
  have hread : ∀ (i : Nat) (o : Oper) (t : Tmp) (j : Nat), (L.take m)[i]? = some o → t ∈ o.looksAt L.toArray → depOf (L.take m) t = some j → ∃ e ∈ o.after, Region.binds .any e = true ∧ e.on = j := fun i o t j ho ht hj => by
    have h1 := hall i (List.mem_range.2 (htake i o ho).1)
    simp only [ho, Bool.and_eq_true, List.all_eq_true] at h1
    have h2 := h1.2 t ht
    simp only [hj, Array.any_eq_true, Bool.and_eq_true, beq_iff_eq] at h2
    obtain ⟨x, hx, hb, he⟩ := h2
    exact ⟨_, Array.getElem_mem hx, hb, he⟩
  have hdis : ∀ (i j : Nat) (oi oj : Oper) (d : Tmp), (L.take m)[i]? = some oi → (L.take m)[j]? = some oj → j ≠ i → oi.dst = some d → oj.dst ≠ some d := fun i j oi oj d hi hj hne hd e => by
    have h1 := (hdst i oi d hi hd).2
    have h2 := (hdst j oj d hj e).2
    rw [h1] at h2
    exact hne (Option.some.inj h2).symm
  -- a tail operation that is ready: all ahead of it is listed
  have htail : ∀ (listed : Array Bool) (i : Nat), listed.size = L.toArray.size → (∀ (j : Nat) (oj : Oper), L[j]? = some oj → listed.getD j true = true → ∀ e ∈ oj.after, Region.binds .any e = true → listed.getD e.on true = true) → i ∈ Region.ready .any L.toArray listed → m ≤ i → ∀ j, j < i → listed.getD j true = true := by
    intro listed i hs hcl hi hmi j hj
    obtain ⟨hiu, o, ho, hwait⟩ := mem_ready.1 hi
    have ho' : L[i]? = some o := by simpa using ho
    have hil := (List.getElem?_eq_some_iff.1 ho').1
    rcases hT2 i (List.mem_range.2 hil) with h3 | h3
    · omega
    have h4 := h3 j (List.mem_range.2 hj)
    unfold aftB at h4
    simp only [ho', Array.any_eq_true, Bool.and_eq_true, Bool.or_eq_true, beq_iff_eq] at h4
    obtain ⟨x, hx, hb, h4⟩ := h4
    have h5 : listed.getD (o.after[x]).on true = true := by
      have h1 := hwait _ (Array.getElem_mem hx) hb
      by_cases hlt : (o.after[x]).on < listed.size
      · simpa [hlt] using h1
      · rw [Array.getD_eq_getD_getElem?, Array.getElem?_eq_none (by omega)]; rfl
    rcases h4 with h4 | h4
    · rw [h4] at h5; exact h5
    · cases hq : L[(o.after[x]).on]? with
      | none => unfold aftB at h4; rw [hq] at h4; cases h4
      | some oq => exact aft_listed hcl 39 _ oq j hq h5 h4
  have hI : ∀ (listed : Array Bool) (a : Act) (w : World), (J (fun j => Nat.ble m j || listed.getD j true) (fun j => a.eval (match ((L.take m)[j]?).bind (·.dst) with | some d => .tmp d | none => .const undef)) w ∧ a.tmps.size = n ∧ a.defers = a0.defers ∧
      (∀ t : Tmp, (∀ (j : Nat) (oj : Oper), (L.take m)[j]? = some oj → listed.getD j true = true → oj.dst ≠ some t) → a.eval (.tmp t) = a0.eval (.tmp t)) ∧
      (∀ (j : Nat) (oj : Oper) (d : Tmp), (L.take m)[j]? = some oj → listed.getD j true = true → oj.dst = some d → E j (a.eval (.tmp d)))) → listed.size = L.length → (∀ j, j < m → j < L.length → listed.getD j true = true) → wpList P L.toArray Q (L.drop m) a w := by
    rintro listed a w ⟨hB, hz, hd, hbase, hYs⟩ hls hl
    have hlisted : ∀ (j : Nat) (oj : Oper), (L.take m)[j]? = some oj → listed.getD j true = true := fun j oj hoj => by
      obtain ⟨h1, h2⟩ := htake j oj hoj
      exact hl j h1 (List.getElem?_eq_some_iff.1 h2).1
    have hp : a = z5b (fun j => a.eval (match ((L.take m)[j]?).bind (·.dst) with | some d => .tmp d | none => .const undef)) (L.take m) 0 a0 := by
      obtain ⟨z1, z2⟩ := lay_size (fun j => a.eval (match ((L.take m)[j]?).bind (·.dst) with | some d => .tmp d | none => .const undef)) (L.take m) 0 a0
      refine act_ext (by rw [z1, hz, hn]) (by rw [z2, hd]) fun t ht => ?_
      cases hj : depOf (L.take m) t with
      | none => rw [lay_base _ (L.take m) 0 a0 (z6b hj)]; exact hbase t fun j oj hoj _ => z6b hj j oj hoj
      | some j =>
        obtain ⟨oj, hoj, hdj⟩ := depOf_some hj
        rw [lay_at _ (L.take m) 0 j a0 oj hoj hdj (by rw [hn, ← hz]; exact ht) fun i oi hi hne => hdis j i oj oi t hoj hi hne hdj]
        rw [Nat.zero_add]
        simp only [hoj, hdj, Option.bind_some]
    rw [hp]
    have hS : (fun j => Nat.ble m j || listed.getD j true) = fun _ => true := funext fun j => by
      by_cases hj : m ≤ j
      · rw [Nat.ble_eq_true_of_le hj]; rfl
      · by_cases hjl : j < L.length
        · rw [hl j (by omega) hjl]; simp
        · have hnone : listed[j]? = none ∨ True := .inr trivial
          have : (L.take m)[j]? = none := by rw [List.getElem?_eq_none_iff]; simp; omega
          have hsz := hls
          rw [Array.getD_eq_getD_getElem?, Array.getElem?_eq_none (by omega)]; simp
    rw [hS] at hB
    refine hend _ w hB fun i o ho => ?_
    cases hdo : o.dst with
    | some d =>
      simp only [ho, hdo, Option.bind_some]
      exact hYs i o d ho (hlisted i o ho) hdo
    | none =>
      simp only [ho, hdo, Option.bind_some]
      exact (hds i o ho hdo _).2 rfl
  refine wpIn_region_inv hQ hnd hm (fun listed a w => (∀ (j : Nat) (oj : Oper), L[j]? = some oj → listed.getD j true = true → ∀ e ∈ oj.after, Region.binds .any e = true → listed.getD e.on true = true) ∧ (((∀ j, m ≤ j → j < L.length → listed.getD j true = false) ∧ J (fun j => Nat.ble m j || listed.getD j true) (fun j => a.eval (match ((L.take m)[j]?).bind (·.dst) with | some d => .tmp d | none => .const undef)) w ∧ a.tmps.size = n ∧ a.defers = a0.defers ∧
    (∀ t : Tmp, (∀ (j : Nat) (oj : Oper), (L.take m)[j]? = some oj → listed.getD j true = true → oj.dst ≠ some t) → a.eval (.tmp t) = a0.eval (.tmp t)) ∧
    (∀ (j : Nat) (oj : Oper) (d : Tmp), (L.take m)[j]? = some oj → listed.getD j true = true → oj.dst = some d → E j (a.eval (.tmp d)))) ∨
    (∃ k, m ≤ k ∧ (∀ j, j < L.length → (listed.getD j true = true ↔ j < k)) ∧ wpList P L.toArray Q (L.drop k) a w))) ?_ ?_ ?_
  · refine ⟨fun j oj hj hl => ?_, .inl ⟨fun j _ hj => by simp [hj], ?_, hn, rfl, fun _ _ => rfl, fun j oj d hj hl _ => ?_⟩⟩
    · have hjl := (List.getElem?_eq_some_iff.1 hj).1
      simp [hjl] at hl
    · have hml' := Nat.le_of_ble_eq_true hml
      refine (congrArg (fun S => J S _ W.drew) (funext fun j => ?_)).mp (h0 _)
      by_cases hj : m ≤ j
      · rw [Nat.ble_eq_true_of_le hj]; rfl
      · have : j < L.length := by omega
        simp [this]
    · have hjl := (List.getElem?_eq_some_iff.1 (htake j oj hj).2).1
      simp [hjl] at hl
  · rintro listed a w i hs ⟨hcl, hinv⟩ hi
    obtain ⟨hiu, o, ho, hwait⟩ := mem_ready.1 hi
    have ho' : L[i]? = some o := by simpa using ho
    have hil := (List.getElem?_eq_some_iff.1 ho').1
    have hsl : listed.size = L.length := by simpa using hs
    have hcl2 : (∀ (j : Nat) (oj : Oper), L[j]? = some oj → (listed.setIfInBounds i true).getD j true = true → ∀ e ∈ oj.after, Region.binds .any e = true → (listed.setIfInBounds i true).getD e.on true = true) := fun j oj hoj hl e he hbd => by
      by_cases ei : i = e.on
      · rw [← ei, Array.getD_eq_getD_getElem?, Array.getElem?_setIfInBounds_self]; simp [hsl, hil]
      · rw [getD_set_ne true ei]
        by_cases ej : i = j
        · subst ej
          obtain rfl : o = oj := Option.some.inj (ho'.symm.trans hoj)
          have h1 := hwait e he hbd
          by_cases hlt : e.on < listed.size
          · simpa [hlt] using h1
          · rw [Array.getD_eq_getD_getElem?, Array.getElem?_eq_none (by omega)]; rfl
        · rw [getD_set_ne true ej] at hl
          exact hcl j oj hoj hl e he hbd
    by_cases him : i < m
    · rcases hinv with ⟨htl, hB, hz, hd, hbase, hYs⟩ | ⟨k, hmk, hlk, _⟩
      · have ht' := hintake i o him ho'
        have hh := hop_atM (L.take m) 0 hop i o ht'
        rw [Nat.zero_add] at hh
        have hslots : ∀ t ∈ o.looksAt L.toArray, SlotM (L.take m) E a0 a (fun j => Nat.ble m j || listed.getD j true) (fun j => a.eval (match ((L.take m)[j]?).bind (·.dst) with | some d => .tmp d | none => .const undef)) t := fun t ht => by
          unfold SlotM
          cases hj : depOf (L.take m) t with
          | none => exact hbase t fun j oj hoj _ => z6b hj j oj hoj
          | some j =>
            obtain ⟨oj, hoj, hdj⟩ := depOf_some hj
            obtain ⟨e, he, hb, hon⟩ := hread i o t j ht' ht hj
            have h1 := hwait e he hb
            rw [hon] at h1
            have hjl : j < listed.size := by rw [hsl]; exact (List.getElem?_eq_some_iff.1 (htake j oj hoj).2).1
            have hl1 : listed.getD j true = true := by simpa [hjl] using h1
            have hjm : j < m := (htake j oj hoj).1
            refine ⟨by simp only [hl1, Bool.or_true], ?_, ?_⟩
            · simp only [hoj, hdj, Option.bind_some]
            · simp only [hoj, hdj, Option.bind_some]
              exact hYs j oj t hoj hl1 hdj
        have hSi : (Nat.ble m i || listed.getD i true) = false := by
          rw [show Nat.ble m i = false by cases hb : Nat.ble m i with
            | false => rfl
            | true => exact absurd (Nat.le_of_ble_eq_true hb) (by omega)]
          rw [Bool.false_or]; simpa using hiu
        have hnd : ∀ j, needs L m j i = true → (Nat.ble m j || listed.getD j true) = false := fun j hj => by
          unfold needs at hj
          cases hoj : (L.take m)[j]? with
          | none => rw [hoj] at hj; cases hj
          | some oj =>
            rw [hoj] at hj
            simp only [Array.any_eq_true, Bool.and_eq_true, beq_iff_eq] at hj
            obtain ⟨x, hx, hb, he⟩ := hj
            have hjm := (htake j oj hoj).1
            rw [show Nat.ble m j = false by cases hb2 : Nat.ble m j with
              | false => rfl
              | true => exact absurd (Nat.le_of_ble_eq_true hb2) (by omega), Bool.false_or]
            cases hlj : listed.getD j true with
            | false => rfl
            | true =>
              have := hcl j oj (htake j oj hoj).2 hlj _ (Array.getElem_mem hx) hb
              rw [he] at this
              have h2 : listed.getD i true = false := by simpa using hiu
              rw [h2] at this; cases this
        have hh := hh a w _ _ hB hSi hnd hslots
        have hset : ∀ (v : Value) (w' : World), E i v → J (updB (fun j => Nat.ble m j || listed.getD j true) i) (updV (fun j => a.eval (match ((L.take m)[j]?).bind (·.dst) with | some d => .tmp d | none => .const undef)) i v) w' → ((∀ j, m ≤ j → j < L.length → (listed.setIfInBounds i true).getD j true = false) ∧ J (fun j => Nat.ble m j || (listed.setIfInBounds i true).getD j true) (fun j => (a.put o.dst v).eval (match ((L.take m)[j]?).bind (·.dst) with | some d => .tmp d | none => .const undef)) w' ∧ (a.put o.dst v).tmps.size = n ∧ (a.put o.dst v).defers = a0.defers ∧
            (∀ t : Tmp, (∀ (j : Nat) (oj : Oper), (L.take m)[j]? = some oj → (listed.setIfInBounds i true).getD j true = true → oj.dst ≠ some t) → (a.put o.dst v).eval (.tmp t) = a0.eval (.tmp t)) ∧
            (∀ (j : Nat) (oj : Oper) (d : Tmp), (L.take m)[j]? = some oj → (listed.setIfInBounds i true).getD j true = true → oj.dst = some d → E j ((a.put o.dst v).eval (.tmp d)))) := fun v w' hy hb => by
          refine ⟨fun j h1 h2 => by rw [getD_set_ne true (show i ≠ j by omega)]; exact htl j h1 h2, ?_, by rw [put_size]; exact hz, by rw [put_defers]; exact hd, fun t ht => ?_, fun j oj d hoj hl hdj => ?_⟩
          · have e1 : (fun j => Nat.ble m j || (listed.setIfInBounds i true).getD j true) = updB (fun j => Nat.ble m j || listed.getD j true) i := funext fun j => by
              rw [updB_at]
              by_cases e : i = j
              · subst e; rw [if_pos rfl, Array.getD_eq_getD_getElem?, Array.getElem?_setIfInBounds_self]; simp [hsl, hil]
              · rw [if_neg (fun e2 => e e2.symm), getD_set_ne true e]
            have e2 : (fun j => (a.put o.dst v).eval (match ((L.take m)[j]?).bind (·.dst) with | some d => .tmp d | none => .const undef)) = updV (fun j => a.eval (match ((L.take m)[j]?).bind (·.dst) with | some d => .tmp d | none => .const undef)) i v := funext fun j => by
              rw [updV_at]
              by_cases e : i = j
              · subst e; rw [if_pos rfl]
                cases hdd : o.dst with
                | some dd =>
                  simp only [ht', hdd, Option.bind_some]
                  exact z3b (by rw [hz]; exact (hdst i o dd ht' hdd).1)
                | none =>
                  simp only [ht', hdd, Option.bind_some]
                  exact ((hds i o ht' hdd v).1 hy).symm
              · rw [if_neg (fun e2 => e e2.symm)]
                cases hoj : (L.take m)[j]? with
                | none => rfl
                | some oj =>
                  cases hdj : oj.dst with
                  | none => simp only [Option.bind_some, hdj]; rfl
                  | some dj =>
                    simp only [Option.bind_some, hdj]
                    exact zsb (hdis j i oj o dj hoj ht' e hdj)
            rw [e1, e2]; exact hb
          · rw [zsb (ht i o ht' (by rw [Array.getD_eq_getD_getElem?, Array.getElem?_setIfInBounds_self]; simp [hsl, hil]))]
            refine hbase t fun j oj hoj hl => ht j oj hoj ?_
            by_cases e : i = j
            · subst e; rw [hl] at hiu; cases hiu
            · rw [getD_set_ne true e]; exact hl
          · by_cases e : i = j
            · subst e
              obtain rfl : o = oj := Option.some.inj (ht'.symm.trans hoj)
              rw [hdj, z3b (by rw [hz]; exact (hdst i o d ht' hdj).1)]
              exact hy
            · rw [zsb (hdis j i oj o d hoj ht' e hdj)]
              rw [getD_set_ne true e] at hl
              exact hYs j oj d hoj hl hdj
        unfold wpOp
        simp only [ho]
        by_cases hw : Region.wanted o (yielded L.toArray a.tmps) = true
        · rw [if_pos hw] at hh ⊢
          exact .inl (Oper.wp_mono (fun a' w' ⟨v, e, hy, hb⟩ => by rw [e]; exact ⟨hcl2, .inl (hset v w' hy hb)⟩) hh)
        · rw [if_neg hw] at hh ⊢
          exact ⟨hcl2, .inl (hset undef w hh.1 hh.2)⟩
      · have := (hlk i hil).2 (by omega)
        rw [this] at hiu; cases hiu
    · have hmi : m ≤ i := Nat.le_of_not_lt him
      have hahead := htail listed i hs hcl hi hmi
      have hk : (∀ j, j < L.length → (listed.getD j true = true ↔ j < i)) ∧ wpList P L.toArray Q (L.drop i) a w := by
        rcases hinv with ⟨htl, hrest⟩ | ⟨k, hmk, hlk, hwp⟩
        · obtain rfl : i = m := by
            refine Nat.le_antisymm (Nat.le_of_not_lt fun hlt => ?_) hmi
            have h1 := hahead m hlt
            rw [htl m (Nat.le_refl _) (by omega)] at h1; cases h1
          refine ⟨fun j hj => ⟨fun h => Nat.lt_of_not_le fun h2 => ?_, hahead j⟩, hI listed a w hrest hsl fun j h1 _ => hahead j h1⟩
          rw [htl j h2 hj] at h; cases h
        · obtain rfl : k = i := by
            refine Nat.le_antisymm (Nat.le_of_not_lt fun hlt => ?_) (Nat.le_of_not_lt fun hlt => ?_)
            · have := (hlk i hil).2 hlt
              rw [this] at hiu; cases hiu
            · have := (hlk k (by omega)).1 (hahead k hlt)
              omega
          exact ⟨hlk, hwp⟩
      obtain ⟨hlk, hwp⟩ := hk
      have hdr : L.drop i = L[i] :: L.drop (i + 1) := List.drop_eq_getElem_cons hil
      have hoe : L[i] = o := by rw [List.getElem?_eq_getElem hil] at ho'; exact Option.some.inj ho'
      rw [hoe] at hdr
      have hg := hT1 o (by
        have h6 : L.drop i = (L.drop m).drop (i - m) := by rw [List.drop_drop]; congr 1; omega
        have h7 : o ∈ L.drop i := by rw [hdr]; exact List.mem_cons_self
        rw [h6] at h7
        exact List.mem_of_mem_drop h7)
      have hset : ∀ j, j < L.length → ((listed.setIfInBounds i true).getD j true = true ↔ j < i + 1) := by
        intro j hj
        by_cases hji : j = i
        · subst hji; simp [hsl, hj]
        · rw [getD_set_ne true (fun e => hji e.symm), hlk j hj]; omega
      rw [hdr] at hwp
      unfold wpList at hwp
      unfold wpOp
      simp only [ho]
      have hw' : ∀ g, Region.wanted o g = true := fun g => by simp [Region.wanted, hg]
      simp only [hw', if_true] at hwp ⊢
      exact hwp.imp (Oper.wp_mono fun a' w' h' => ⟨hcl2, .inr ⟨i + 1, by omega, hset, h'⟩⟩) (fun h => h)
  · rintro listed a w hs ⟨hcl, hinv⟩ hr
    have hsl : listed.size = L.length := by simpa using hs
    have hlisted : ∀ j, j < L.length → listed.getD j true = true := fun j hj => by
      cases h : listed.getD j true with
      | true => rfl
      | false => exact absurd hr (ready_of_unlisted hE hs j (by simpa using hj) h)
    have hwp : ∃ k, L.length ≤ k ∧ wpList P L.toArray Q (L.drop k) a w := by
      rcases hinv with ⟨htl, hrest⟩ | ⟨k, hmk, hlk, hwp⟩
      · refine ⟨m, Nat.le_of_not_lt fun hlt => ?_, hI listed a w hrest hsl fun j _ hj => hlisted j hj⟩
        have h1 := htl m (Nat.le_refl _) hlt
        rw [hlisted m hlt] at h1; cases h1
      · refine ⟨k, Nat.le_of_not_lt fun hlt => ?_, hwp⟩
        exact absurd ((hlk k hlt).1 (hlisted k hlt)) (Nat.lt_irrefl _)
    obtain ⟨k, h1, h2⟩ := hwp
    rw [List.drop_eq_nil_of_le h1] at h2
    exact h2
theorem region_fxM_in {P : Program} {id : Nat} {Q : Exit → Act → World → Prop} {a0 : Act} {W : World} {L : List Oper} {l n' : Nat} (hQ : ¬ LetsOut Q) (hnd : noDefer L = true) {n : Nat} {V : List (Nat × Value)} (F : Fx n a0 V ds) (E : List (Value → Prop)) (J : (Nat → Bool) → (Nat → Value) → World → Prop) (m : Nat) (hm : P.follows .mixedOrders = true) (hok : relOkC L m n = true) (hml : Nat.ble m L.length = true) (hds : EDs E (L.take m) 0)
    (h0 : ∀ p, J (fun j => Nat.ble m j) p W.drew) (hop : HopAllM P L m Q (stE E) J a0 (L.take m) 0)
    (hend : ∀ (p : Nat → Value) (a : Act) (w : World), J (fun _ => true) p w → Fx n a (layV p (L.take m) 0 V) ds → EAll E p (L.take m) 0 → wpList P L.toArray Q (L.drop m) a w) : (Code.region id L.toArray true).wpIn (Fence.wide.inRound l) n' P Q a0 W :=
  wp_region_relM_in hQ hnd m n F.size hm hok hml (stE E) (fun j o ho hn => by have := hds.at j o ho hn; rwa [Nat.zero_add] at this) J h0 hop fun p w hj hE => hend p _ w hj (F.lay p (L.take m) 0 a0 V (relOkC_dst hok)) (eall_of _ 0 fun j o ho => by rw [Nat.zero_add]; exact hE j o ho)
theorem Fx.fresh {n : Nat} {a : Act} {V : List (Nat × Value)} (F : Fx n a V ds) (ds' : List Deferred) : Fx n { a with defers := ds' } V ds' := ⟨F.size, rfl, F.at_⟩
theorem range_fx2 {n : Nat} {P : Program} {g : Operand} {p1 p2 : Tmp} {assign body : Code} {Q : Exit → Act → World → Prop} {a : Act} {w : World} {V : List (Nat × Value)} (F : Fx n a V ds)
    {gf : Nat} {lb : Array Value} (hg : a.eval g = .func (.func gf) #[] lb) (eg : ∀ args w, (callFunc gf args).run P w = .ok (.enter gf args) w) (b1 : Nat.blt p1 n = true) (b2 : Nat.blt p2 n = true)
    {α : Type} (f1 f2 : α → Value) (Pre : α → World → Prop) (Post : α → World → Prop) (Fin : World → Prop)
    (hiter : ∀ (l D : Nat) (o1 o2 : Obj) (W1 : World), D = w.heap.size → l = w.heap.size + 1 → Below w.heap.size w W1 → RecAt l D o1 o2 W1 →
      (∀ x W, Pre x W → RecAt l D o1 o2 W → YieldAt Fence.wide 1 P l #[f1 x, f2 x] W fun e W' => e = .returned (.bool true) ∧ RecAt l D o1 o2 W' ∧ Post x W') →
      CallsIn Fence.wide 2 P gf (#[.func (.yield l) #[] #[]] ++ lb) W1 fun e W' => (∃ v, e = .returned v) ∧ RecAt l D o1 o2 W' ∧ Fin W')
    (hround : ∀ (l : Nat) (x : α) (W : World) (ra : Act), Fx n ra ((p2, f2 x) :: (p1, f1 x) :: V) [] → w.heap.size < l → l < W.heap.size → Pre x W →
      assign.wpIn (Fence.wide.inRound l) 1 P (Exit.then (MidOk2 Fence.wide 1 P l body W (Post x)) (fun _ _ _ => False)) ra W)
    (hdone : ∀ (l D : Nat) (o : Obj) (W : World) (a' : Act), D = w.heap.size → l = w.heap.size + 1 → Fin W → NotCells W l → (W.putObj l o).heap[D]? = some (.deferred (some [])) → Fx n a' V ({ target := .collected D, args := #[] } :: ds) →
      Q .normal a' (W.putObj l o)) :
    (Code.rangeFunc g #[p1, p2] assign body).wp P Q a w := by
  refine (wpIn_wide (n := 3)).1 (wpIn_range2 (n := 3) rfl (by omega) hg trivial eg (fun x => #[f1 x, f2 x]) (fun _ => rfl) Pre (fun x _ W' => Post x W') Fin ?_ ?_ ?_)
  · intro l x W h1 h2 h3
    have e : ({ tmps := (#[p1, p2].zip #[f1 x, f2 x]).foldl (fun t (p, v) => t.setIfInBounds p v) a.tmps, defers := [] } : Act) = (({ a with defers := [] } : Act).put (some p1) (f1 x)).put (some p2) (f2 x) := by simp [Act.put]
    show assign.wpIn _ _ _ _ ({ tmps := (#[p1, p2].zip #[f1 x, f2 x]).foldl (fun t (p, v) => t.setIfInBounds p v) a.tmps, defers := [] } : Act) W
    rw [e]
    exact hround l x W _ (((F.fresh []).put p1 (f1 x) b1).put p2 (f2 x) b2) h1 h2 h3
  · intro l D o1 o2 W1 hD hl hW hr hY
    refine hiter l D o1 o2 W1 hD hl ?_ hr hY
    rw [hW]
    exact ((Below.refl _ _).alloc (Nat.le_refl _) _).alloc (by simp) _
  · intro l D o W hD hl hf hlt hnc hdd
    have F' := F.fresh ({ target := .collected D, args := #[] } :: a.defers)
    rw [F.defers] at F'
    have := hdone l D o W _ hD hl hf hnc hdd F'
    rw [← F.defers] at this
    exact this
end Go.Proofs.Ytlbkogdmojlpmaa
