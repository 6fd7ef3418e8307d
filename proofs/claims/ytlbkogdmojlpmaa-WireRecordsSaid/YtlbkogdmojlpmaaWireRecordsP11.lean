/- What WireRecords stands on, part 11. -/
import Derived.Test.YtlbkogdmojlpmaaWireRecordsP1
import Derived.Test.YtlbkogdmojlpmaaWireRecordsP2
import Derived.Test.YtlbkogdmojlpmaaWireRecordsP3
import Derived.Test.YtlbkogdmojlpmaaWireRecordsP4
import Derived.Test.YtlbkogdmojlpmaaWireRecordsP5
import Derived.Test.YtlbkogdmojlpmaaWireRecordsP6
import Derived.Test.YtlbkogdmojlpmaaWireRecordsP7
import Derived.Test.YtlbkogdmojlpmaaWireRecordsP8
import Derived.Test.YtlbkogdmojlpmaaWireRecordsP9
import Derived.Test.YtlbkogdmojlpmaaWireRecordsP10
namespace Go.Proofs.Ytlbkogdmojlpmaa
set_option linter.unusedVariables false
set_option maxRecDepth 20000
set_option linter.unusedSimpArgs false
open Go.ChangeShapes Go.WideShapes Go.ChangeAt Go.RowKit
noncomputable def keepR (r : RecN) : Bool := !decide (r.p < 1) && !decide (2 < r.p) && nameB r.s && !decide (16 < (r.l2.length : Int)) && !decide (48 < (r.l5.length : Int)) && decide (topI r.a 8 ≤ 32) && decide (topI r.b 8 ≤ 32) && !decide (r.t < 0) && !decide (255 < r.t) && !decide (r.c < 0) && !decide (r.z < 0)
theorem keepR_is (r : RecN) : keepR r = keepB r := by
  have hp : protoB r.p = (!decide (r.p < 1) && !decide (2 < r.p)) := by
    unfold protoB
    rw [← decide_not, ← decide_not, ← Bool.decide_and]
    apply decide_eq_decide.2; omega
  have hn : ∀ a b : Int, (!decide (a < b)) = decide (b ≤ a) := fun a b => by
    rw [← decide_not]; apply decide_eq_decide.2; omega
  unfold keepR keepB
  rw [hp]
  simp only [hn, Bool.and_assoc]
theorem recL_ref (r : RecN) : recL r = (((((((((([byteI r.p, byteI (r.s.size : Int)] ++ sBy r.s) ++ [byteI (r.l2.length : Int)]) ++ r.l2) ++ [byteI (r.l5.length : Int)]) ++ r.l5) ++ fourL r.a) ++ fourL r.b) ++ [byteI r.t]) ++ eightI r.c) ++ eightI r.z) := by
  unfold recL cntL
  rw [← sBy_len]
  simp
set_option maxRecDepth 100000 in
set_option maxHeartbeats 8000000 in
theorem rrecord_any (r : RecN) (V : RecV) (ho : RecOk r) (w : World) (hm : RecIs w r V) :
    Calls Try.prog 36 #[.agg (recA r V)] w fun e w' => ∃ v, e = .returned (.tuple #[v, .bool (keepB r)]) ∧ Byt w' w.heap.size v (recE r) ∧ Below w.heap.size w w' := by
  obtain ⟨bN, hN⟩ : ∃ b, nameB r.s = b := ⟨_, rfl⟩
  obtain ⟨bA, hA⟩ : ∃ b, decide (topI r.a 8 ≤ 32) = b := ⟨_, rfl⟩
  obtain ⟨bB, hB⟩ : ∃ b, decide (topI r.b 8 ≤ 32) = b := ⟨_, rfl⟩
  have h4a := fourL_len r.a
  have h4b := fourL_len r.b
  have h8c := eightI_len r.c
  have h8z := eightI_len r.z
  have hss := sBy_len r.s
  have hos := ho.s
  refine calls_fx (args := [.agg (recA r V)]) 118 Try.func36 rfl rfl rfl ?_
  intro fa F
  have M := Mx.start w
  replace M := M.argB 0 hm.h2 (fun g e => by cases e)
  replace M := M.argB 1 hm.h5 (fun g e => by cases e)
  refine wp_seq_k fun K1 hK1 => wp_region_lit ?_
  refine wl_alloc (wanted_none rfl) rfl F rfl M 2 (t := 54) (c := recA r V) (by unfold execOp; simp only [(F.get (t := 0) rfl)]; kernel_rfl) ?_
  intro g2 a2 w2 F2 M2
  clear F M
  refine rm rfl F2 fun a3 F3 => ?_
  refine rm rfl F3 fun a4 F4 => ?_
  refine hK1 _ _ (wp_seq_k fun K5 hK5 => ?_)
  refine wp_seq_k fun K6 hK6 => wp_region_lit ?_
  refine exS 2 [(1, .pointer (some ⟨g2, 0, none⟩)), (2, .slice none 0 0), (3, .bool false), (6, .int .i64 r.p)] [0] (dcons (M2.blk (k := 2) rfl) dnil) [g2] F4 (by kernel_rfl) fun a7 F7 => ?_
  simp only [List.drop_succ_cons, List.drop_zero]
  by_cases h8 : r.p < 1
  · refine rn rfl rfl F7 rfl (.bool true) (y_lss _ _ _ _ rfl (F7.get rfl) rfl (decide_eq_true h8)) fun a9 F9 => ?_
    refine exS 55 [(1, .pointer (some ⟨g2, 0, none⟩)), (2, .slice none 0 0), (3, .bool false), (62, .bool true)] [] dnil [] F9 (by kernel_rfl) fun a10 F10 => ?_
    simp only [List.drop_succ_cons, List.drop_zero]
    refine hK6 _ _ (wp_cond_true (F10.get (t := 62) rfl) ?_)
    refine wp_seq_k fun K11 hK11 => wp_region_lit ?_
    refine rm rfl F10 fun a12 F12 => ?_
    refine rm rfl F12 fun a13 F13 => ?_
    refine hK11 _ _ (wp_ret ?_)
    try simp only [Exit.then, Exit.inBlock, Exit.jump]
    exact bodyPost_ret (res2 rfl (F13.get (t := 2) rfl) (F13.get (t := 3) rfl)) F13.defers ⟨.slice none 0 0, (by rw [(show keepB r = false from by rw [← keepR_is]; unfold keepR; simp [hN, hA, hB, h8])]), (by rw [show recE r = [] from if_neg (by rw [(show keepB r = false from by rw [← keepR_is]; unfold keepR; simp [hN, hA, hB, h8])]; exact Bool.false_ne_true)]; exact Byt.nil _ _), M2.below⟩
  refine rn rfl rfl F7 rfl (.bool false) (y_lss _ _ _ _ rfl (F7.get rfl) rfl (decide_eq_false h8)) fun a14 F14 => ?_
  refine exS 3 [(1, .pointer (some ⟨g2, 0, none⟩)), (2, .slice none 0 0), (3, .bool false), (8, .bool false), (10, .int .i64 r.p)] [0] (dcons (M2.blk (k := 2) rfl) dnil) [g2] F14 (by kernel_rfl) fun a15 F15 => ?_
  simp only [List.drop_succ_cons, List.drop_zero]
  by_cases h16 : 2 < r.p
  · refine wl_run (w' := w2) (wanted_yes rfl rfl rfl (F15.get rfl)) rfl F15 rfl (.bool true) (y_gtr _ _ _ _ rfl (F15.get rfl) rfl (decide_eq_true h16)) fun a17 F17 => ?_
    refine exS 51 [(1, .pointer (some ⟨g2, 0, none⟩)), (2, .slice none 0 0), (3, .bool false), (62, .bool true)] [] dnil [] F17 (by kernel_rfl) fun a18 F18 => ?_
    simp only [List.drop_succ_cons, List.drop_zero]
    refine hK6 _ _ (wp_cond_true (F18.get (t := 62) rfl) ?_)
    refine wp_seq_k fun K19 hK19 => wp_region_lit ?_
    refine rm rfl F18 fun a20 F20 => ?_
    refine rm rfl F20 fun a21 F21 => ?_
    refine hK19 _ _ (wp_ret ?_)
    try simp only [Exit.then, Exit.inBlock, Exit.jump]
    exact bodyPost_ret (res2 rfl (F21.get (t := 2) rfl) (F21.get (t := 3) rfl)) F21.defers ⟨.slice none 0 0, (by rw [(show keepB r = false from by rw [← keepR_is]; unfold keepR; simp [hN, hA, hB, h8, h16])]), (by rw [show recE r = [] from if_neg (by rw [(show keepB r = false from by rw [← keepR_is]; unfold keepR; simp [hN, hA, hB, h8, h16])]; exact Bool.false_ne_true)]; exact Byt.nil _ _), M2.below⟩
  refine wl_run (w' := w2) (wanted_yes rfl rfl rfl (F15.get rfl)) rfl F15 rfl (.bool false) (y_gtr _ _ _ _ rfl (F15.get rfl) rfl (decide_eq_false h16)) fun a22 F22 => ?_
  refine exS 4 [(1, .pointer (some ⟨g2, 0, none⟩)), (2, .slice none 0 0), (3, .bool false), (13, .bool false), (15, .string r.s)] [0] (dcons (M2.blk (k := 2) rfl) dnil) [g2] F22 (by kernel_rfl) fun a23 F23 => ?_
  simp only [List.drop_succ_cons, List.drop_zero]
  refine wl_call (wanted_yes rfl rfl rfl (F23.get rfl)) rfl F23 rfl rfl (enters_of Try.func59 (by kernel_rfl) rfl) #[.string r.s] (args1 (F23.get rfl)) (call_ex ((hN ▸ rnameB_any r.s ho.s w2))) ?_
  rintro _ w24 a24 ⟨rfl, b24⟩ F24
  have M24 := M2.step b24
  cases bN
  · refine exS 46 [(1, .pointer (some ⟨g2, 0, none⟩)), (2, .slice none 0 0), (3, .bool false), (62, .bool true)] [] dnil [] F24 (by kernel_rfl) fun a25 F25 => ?_
    simp only [List.drop_succ_cons, List.drop_zero]
    refine hK6 _ _ (wp_cond_true (F25.get (t := 62) rfl) ?_)
    refine wp_seq_k fun K26 hK26 => wp_region_lit ?_
    refine rm rfl F25 fun a27 F27 => ?_
    refine rm rfl F27 fun a28 F28 => ?_
    refine hK26 _ _ (wp_ret ?_)
    try simp only [Exit.then, Exit.inBlock, Exit.jump]
    exact bodyPost_ret (res2 rfl (F28.get (t := 2) rfl) (F28.get (t := 3) rfl)) F28.defers ⟨.slice none 0 0, (by rw [(show keepB r = false from by rw [← keepR_is]; unfold keepR; simp [hN, hA, hB, h8, h16])]), (by rw [show recE r = [] from if_neg (by rw [(show keepB r = false from by rw [← keepR_is]; unfold keepR; simp [hN, hA, hB, h8, h16])]; exact Bool.false_ne_true)]; exact Byt.nil _ _), M24.below⟩
  refine exS 5 [(1, .pointer (some ⟨g2, 0, none⟩)), (2, .slice none 0 0), (3, .bool false), (19, .bool false), (21, V.v2)] [0] (dcons (M24.blk (k := 2) rfl) dnil) [g2] F24 (by kernel_rfl) fun a29 F29 => ?_
  simp only [List.drop_succ_cons, List.drop_zero]
  refine wl_run (w' := w24) (wanted_yes rfl rfl rfl (F29.get rfl)) rfl F29 rfl (.int .i64 (r.l2.length : Int)) (y_len _ rfl (F29.get rfl) (M24.isb (k := 0) rfl) rfl) fun a30 F30 => ?_
  by_cases h31 : 16 < (r.l2.length : Int)
  · refine wl_run (w' := w24) (wanted_yes rfl rfl rfl (F30.get rfl)) rfl F30 rfl (.bool true) (y_gtr _ _ _ _ rfl (F30.get rfl) rfl (decide_eq_true h31)) fun a32 F32 => ?_
    refine exS 39 [(1, .pointer (some ⟨g2, 0, none⟩)), (2, .slice none 0 0), (3, .bool false), (62, .bool true)] [] dnil [] F32 (by kernel_rfl) fun a33 F33 => ?_
    simp only [List.drop_succ_cons, List.drop_zero]
    refine hK6 _ _ (wp_cond_true (F33.get (t := 62) rfl) ?_)
    refine wp_seq_k fun K34 hK34 => wp_region_lit ?_
    refine rm rfl F33 fun a35 F35 => ?_
    refine rm rfl F35 fun a36 F36 => ?_
    refine hK34 _ _ (wp_ret ?_)
    try simp only [Exit.then, Exit.inBlock, Exit.jump]
    exact bodyPost_ret (res2 rfl (F36.get (t := 2) rfl) (F36.get (t := 3) rfl)) F36.defers ⟨.slice none 0 0, (by rw [(show keepB r = false from by rw [← keepR_is]; unfold keepR; simp [hN, hA, hB, h8, h16, h31])]), (by rw [show recE r = [] from if_neg (by rw [(show keepB r = false from by rw [← keepR_is]; unfold keepR; simp [hN, hA, hB, h8, h16, h31])]; exact Bool.false_ne_true)]; exact Byt.nil _ _), M24.below⟩
  refine wl_run (w' := w24) (wanted_yes rfl rfl rfl (F30.get rfl)) rfl F30 rfl (.bool false) (y_gtr _ _ _ _ rfl (F30.get rfl) rfl (decide_eq_false h31)) fun a37 F37 => ?_
  refine exS 4 [(1, .pointer (some ⟨g2, 0, none⟩)), (2, .slice none 0 0), (3, .bool false), (25, .bool false), (27, V.v5)] [0] (dcons (M24.blk (k := 2) rfl) dnil) [g2] F37 (by kernel_rfl) fun a38 F38 => ?_
  simp only [List.drop_succ_cons, List.drop_zero]
  refine wl_run (w' := w24) (wanted_yes rfl rfl rfl (F38.get rfl)) rfl F38 rfl (.int .i64 (r.l5.length : Int)) (y_len _ rfl (F38.get rfl) (M24.isb (k := 1) rfl) rfl) fun a39 F39 => ?_
  by_cases h40 : 48 < (r.l5.length : Int)
  · refine wl_run (w' := w24) (wanted_yes rfl rfl rfl (F39.get rfl)) rfl F39 rfl (.bool true) (y_gtr _ _ _ _ rfl (F39.get rfl) rfl (decide_eq_true h40)) fun a41 F41 => ?_
    refine exS 33 [(1, .pointer (some ⟨g2, 0, none⟩)), (2, .slice none 0 0), (3, .bool false), (62, .bool true)] [] dnil [] F41 (by kernel_rfl) fun a42 F42 => ?_
    simp only [List.drop_succ_cons, List.drop_zero]
    refine hK6 _ _ (wp_cond_true (F42.get (t := 62) rfl) ?_)
    refine wp_seq_k fun K43 hK43 => wp_region_lit ?_
    refine rm rfl F42 fun a44 F44 => ?_
    refine rm rfl F44 fun a45 F45 => ?_
    refine hK43 _ _ (wp_ret ?_)
    try simp only [Exit.then, Exit.inBlock, Exit.jump]
    exact bodyPost_ret (res2 rfl (F45.get (t := 2) rfl) (F45.get (t := 3) rfl)) F45.defers ⟨.slice none 0 0, (by rw [(show keepB r = false from by rw [← keepR_is]; unfold keepR; simp [hN, hA, hB, h8, h16, h31, h40])]), (by rw [show recE r = [] from if_neg (by rw [(show keepB r = false from by rw [← keepR_is]; unfold keepR; simp [hN, hA, hB, h8, h16, h31, h40])]; exact Bool.false_ne_true)]; exact Byt.nil _ _), M24.below⟩
  refine wl_run (w' := w24) (wanted_yes rfl rfl rfl (F39.get rfl)) rfl F39 rfl (.bool false) (y_gtr _ _ _ _ rfl (F39.get rfl) rfl (decide_eq_false h40)) fun a46 F46 => ?_
  refine exS 4 [(1, .pointer (some ⟨g2, 0, none⟩)), (2, .slice none 0 0), (3, .bool false), (31, .bool false), (33, numV r.a)] [0] (dcons (M24.blk (k := 2) rfl) dnil) [g2] F46 (by kernel_rfl) fun a47 F47 => ?_
  simp only [List.drop_succ_cons, List.drop_zero]
  refine wl_call (wanted_yes rfl rfl rfl (F47.get rfl)) rfl F47 rfl rfl (enters_of Try.func60 (by kernel_rfl) rfl) #[numV r.a] (args1 (F47.get rfl)) (call_ex ((hA ▸ rsmallB_any r.a ho.a w24))) ?_
  rintro _ w48 a48 ⟨rfl, b48⟩ F48
  have M48 := M24.step b48
  cases bA
  · refine exS 28 [(1, .pointer (some ⟨g2, 0, none⟩)), (2, .slice none 0 0), (3, .bool false), (62, .bool true)] [] dnil [] F48 (by kernel_rfl) fun a49 F49 => ?_
    simp only [List.drop_succ_cons, List.drop_zero]
    refine hK6 _ _ (wp_cond_true (F49.get (t := 62) rfl) ?_)
    refine wp_seq_k fun K50 hK50 => wp_region_lit ?_
    refine rm rfl F49 fun a51 F51 => ?_
    refine rm rfl F51 fun a52 F52 => ?_
    refine hK50 _ _ (wp_ret ?_)
    try simp only [Exit.then, Exit.inBlock, Exit.jump]
    exact bodyPost_ret (res2 rfl (F52.get (t := 2) rfl) (F52.get (t := 3) rfl)) F52.defers ⟨.slice none 0 0, (by rw [(show keepB r = false from by rw [← keepR_is]; unfold keepR; simp [hN, hA, hB, h8, h16, h31, h40])]), (by rw [show recE r = [] from if_neg (by rw [(show keepB r = false from by rw [← keepR_is]; unfold keepR; simp [hN, hA, hB, h8, h16, h31, h40])]; exact Bool.false_ne_true)]; exact Byt.nil _ _), M48.below⟩
  refine exS 5 [(1, .pointer (some ⟨g2, 0, none⟩)), (2, .slice none 0 0), (3, .bool false), (37, .bool false), (39, numV r.b)] [0] (dcons (M48.blk (k := 2) rfl) dnil) [g2] F48 (by kernel_rfl) fun a53 F53 => ?_
  simp only [List.drop_succ_cons, List.drop_zero]
  refine wl_call (wanted_yes rfl rfl rfl (F53.get rfl)) rfl F53 rfl rfl (enters_of Try.func60 (by kernel_rfl) rfl) #[numV r.b] (args1 (F53.get rfl)) (call_ex ((hB ▸ rsmallB_any r.b ho.b w48))) ?_
  rintro _ w54 a54 ⟨rfl, b54⟩ F54
  have M54 := M48.step b54
  cases bB
  · refine exS 22 [(1, .pointer (some ⟨g2, 0, none⟩)), (2, .slice none 0 0), (3, .bool false), (62, .bool true)] [] dnil [] F54 (by kernel_rfl) fun a55 F55 => ?_
    simp only [List.drop_succ_cons, List.drop_zero]
    refine hK6 _ _ (wp_cond_true (F55.get (t := 62) rfl) ?_)
    refine wp_seq_k fun K56 hK56 => wp_region_lit ?_
    refine rm rfl F55 fun a57 F57 => ?_
    refine rm rfl F57 fun a58 F58 => ?_
    refine hK56 _ _ (wp_ret ?_)
    try simp only [Exit.then, Exit.inBlock, Exit.jump]
    exact bodyPost_ret (res2 rfl (F58.get (t := 2) rfl) (F58.get (t := 3) rfl)) F58.defers ⟨.slice none 0 0, (by rw [(show keepB r = false from by rw [← keepR_is]; unfold keepR; simp [hN, hA, hB, h8, h16, h31, h40])]), (by rw [show recE r = [] from if_neg (by rw [(show keepB r = false from by rw [← keepR_is]; unfold keepR; simp [hN, hA, hB, h8, h16, h31, h40])]; exact Bool.false_ne_true)]; exact Byt.nil _ _), M54.below⟩
  refine exS 5 [(1, .pointer (some ⟨g2, 0, none⟩)), (2, .slice none 0 0), (3, .bool false), (43, .bool false), (45, .int .i64 r.t)] [0] (dcons (M54.blk (k := 2) rfl) dnil) [g2] F54 (by kernel_rfl) fun a59 F59 => ?_
  simp only [List.drop_succ_cons, List.drop_zero]
  by_cases h60 : r.t < 0
  · refine wl_run (w' := w54) (wanted_yes rfl rfl rfl (F59.get rfl)) rfl F59 rfl (.bool true) (y_lss _ _ _ _ rfl (F59.get rfl) rfl (decide_eq_true h60)) fun a61 F61 => ?_
    refine exS 16 [(1, .pointer (some ⟨g2, 0, none⟩)), (2, .slice none 0 0), (3, .bool false), (62, .bool true)] [] dnil [] F61 (by kernel_rfl) fun a62 F62 => ?_
    simp only [List.drop_succ_cons, List.drop_zero]
    refine hK6 _ _ (wp_cond_true (F62.get (t := 62) rfl) ?_)
    refine wp_seq_k fun K63 hK63 => wp_region_lit ?_
    refine rm rfl F62 fun a64 F64 => ?_
    refine rm rfl F64 fun a65 F65 => ?_
    refine hK63 _ _ (wp_ret ?_)
    try simp only [Exit.then, Exit.inBlock, Exit.jump]
    exact bodyPost_ret (res2 rfl (F65.get (t := 2) rfl) (F65.get (t := 3) rfl)) F65.defers ⟨.slice none 0 0, (by rw [(show keepB r = false from by rw [← keepR_is]; unfold keepR; simp [hN, hA, hB, h8, h16, h31, h40, h60])]), (by rw [show recE r = [] from if_neg (by rw [(show keepB r = false from by rw [← keepR_is]; unfold keepR; simp [hN, hA, hB, h8, h16, h31, h40, h60])]; exact Bool.false_ne_true)]; exact Byt.nil _ _), M54.below⟩
  refine wl_run (w' := w54) (wanted_yes rfl rfl rfl (F59.get rfl)) rfl F59 rfl (.bool false) (y_lss _ _ _ _ rfl (F59.get rfl) rfl (decide_eq_false h60)) fun a66 F66 => ?_
  refine exS 4 [(1, .pointer (some ⟨g2, 0, none⟩)), (2, .slice none 0 0), (3, .bool false), (48, .bool false), (50, .int .i64 r.t)] [0] (dcons (M54.blk (k := 2) rfl) dnil) [g2] F66 (by kernel_rfl) fun a67 F67 => ?_
  simp only [List.drop_succ_cons, List.drop_zero]
  by_cases h68 : 255 < r.t
  · refine wl_run (w' := w54) (wanted_yes rfl rfl rfl (F67.get rfl)) rfl F67 rfl (.bool true) (y_gtr _ _ _ _ rfl (F67.get rfl) rfl (decide_eq_true h68)) fun a69 F69 => ?_
    refine exS 11 [(1, .pointer (some ⟨g2, 0, none⟩)), (2, .slice none 0 0), (3, .bool false), (62, .bool true)] [] dnil [] F69 (by kernel_rfl) fun a70 F70 => ?_
    simp only [List.drop_succ_cons, List.drop_zero]
    refine hK6 _ _ (wp_cond_true (F70.get (t := 62) rfl) ?_)
    refine wp_seq_k fun K71 hK71 => wp_region_lit ?_
    refine rm rfl F70 fun a72 F72 => ?_
    refine rm rfl F72 fun a73 F73 => ?_
    refine hK71 _ _ (wp_ret ?_)
    try simp only [Exit.then, Exit.inBlock, Exit.jump]
    exact bodyPost_ret (res2 rfl (F73.get (t := 2) rfl) (F73.get (t := 3) rfl)) F73.defers ⟨.slice none 0 0, (by rw [(show keepB r = false from by rw [← keepR_is]; unfold keepR; simp [hN, hA, hB, h8, h16, h31, h40, h60, h68])]), (by rw [show recE r = [] from if_neg (by rw [(show keepB r = false from by rw [← keepR_is]; unfold keepR; simp [hN, hA, hB, h8, h16, h31, h40, h60, h68])]; exact Bool.false_ne_true)]; exact Byt.nil _ _), M54.below⟩
  refine wl_run (w' := w54) (wanted_yes rfl rfl rfl (F67.get rfl)) rfl F67 rfl (.bool false) (y_gtr _ _ _ _ rfl (F67.get rfl) rfl (decide_eq_false h68)) fun a74 F74 => ?_
  refine exS 4 [(1, .pointer (some ⟨g2, 0, none⟩)), (2, .slice none 0 0), (3, .bool false), (53, .bool false), (55, .int .i64 r.c)] [0] (dcons (M54.blk (k := 2) rfl) dnil) [g2] F74 (by kernel_rfl) fun a75 F75 => ?_
  simp only [List.drop_succ_cons, List.drop_zero]
  by_cases h76 : r.c < 0
  · refine wl_run (w' := w54) (wanted_yes rfl rfl rfl (F75.get rfl)) rfl F75 rfl (.bool true) (y_lss _ _ _ _ rfl (F75.get rfl) rfl (decide_eq_true h76)) fun a77 F77 => ?_
    refine exS 6 [(1, .pointer (some ⟨g2, 0, none⟩)), (2, .slice none 0 0), (3, .bool false), (62, .bool true)] [] dnil [] F77 (by kernel_rfl) fun a78 F78 => ?_
    simp only [List.drop_succ_cons, List.drop_zero]
    refine hK6 _ _ (wp_cond_true (F78.get (t := 62) rfl) ?_)
    refine wp_seq_k fun K79 hK79 => wp_region_lit ?_
    refine rm rfl F78 fun a80 F80 => ?_
    refine rm rfl F80 fun a81 F81 => ?_
    refine hK79 _ _ (wp_ret ?_)
    try simp only [Exit.then, Exit.inBlock, Exit.jump]
    exact bodyPost_ret (res2 rfl (F81.get (t := 2) rfl) (F81.get (t := 3) rfl)) F81.defers ⟨.slice none 0 0, (by rw [(show keepB r = false from by rw [← keepR_is]; unfold keepR; simp [hN, hA, hB, h8, h16, h31, h40, h60, h68, h76])]), (by rw [show recE r = [] from if_neg (by rw [(show keepB r = false from by rw [← keepR_is]; unfold keepR; simp [hN, hA, hB, h8, h16, h31, h40, h60, h68, h76])]; exact Bool.false_ne_true)]; exact Byt.nil _ _), M54.below⟩
  refine wl_run (w' := w54) (wanted_yes rfl rfl rfl (F75.get rfl)) rfl F75 rfl (.bool false) (y_lss _ _ _ _ rfl (F75.get rfl) rfl (decide_eq_false h76)) fun a82 F82 => ?_
  refine exS 4 [(1, .pointer (some ⟨g2, 0, none⟩)), (2, .slice none 0 0), (3, .bool false), (58, .bool false), (60, .int .i64 r.z)] [0] (dcons (M54.blk (k := 2) rfl) dnil) [g2] F82 (by kernel_rfl) fun a83 F83 => ?_
  simp only [List.drop_succ_cons, List.drop_zero]
  by_cases h84 : r.z < 0
  · refine wl_run (w' := w54) (wanted_yes rfl rfl rfl (F83.get rfl)) rfl F83 rfl (.bool true) (y_lss _ _ _ _ rfl (F83.get rfl) rfl (decide_eq_true h84)) fun a85 F85 => ?_
    refine rn rfl rfl F85 rfl (.bool true) (run_pick_f rfl (F85.get rfl) (F85.get rfl)) fun a86 F86 => ?_
    refine hK6 _ _ (wp_cond_true (F86.get (t := 62) rfl) ?_)
    refine wp_seq_k fun K87 hK87 => wp_region_lit ?_
    refine rm rfl F86 fun a88 F88 => ?_
    refine rm rfl F88 fun a89 F89 => ?_
    refine hK87 _ _ (wp_ret ?_)
    try simp only [Exit.then, Exit.inBlock, Exit.jump]
    exact bodyPost_ret (res2 rfl (F89.get (t := 2) rfl) (F89.get (t := 3) rfl)) F89.defers ⟨.slice none 0 0, (by rw [(show keepB r = false from by rw [← keepR_is]; unfold keepR; simp [hN, hA, hB, h8, h16, h31, h40, h60, h68, h76, h84])]), (by rw [show recE r = [] from if_neg (by rw [(show keepB r = false from by rw [← keepR_is]; unfold keepR; simp [hN, hA, hB, h8, h16, h31, h40, h60, h68, h76, h84])]; exact Bool.false_ne_true)]; exact Byt.nil _ _), M54.below⟩
  refine wl_run (w' := w54) (wanted_yes rfl rfl rfl (F83.get rfl)) rfl F83 rfl (.bool false) (y_lss _ _ _ _ rfl (F83.get rfl) rfl (decide_eq_false h84)) fun a90 F90 => ?_
  refine rn rfl rfl F90 rfl (.bool false) (run_pick_f rfl (F90.get rfl) (F90.get rfl)) fun a91 F91 => ?_
  refine hK6 _ _ (wp_cond_false (F91.get (t := 62) rfl) ?_)
  refine wp_skip ?_
  refine hK5 _ _ (wp_seq_k fun K92 hK92 => ?_)
  refine wp_region_lit ?_
  refine exS 2 [(1, .pointer (some ⟨g2, 0, none⟩)), (2, .slice none 0 0), (3, .bool false), (64, .int .i64 r.p)] [0] (dcons (M54.blk (k := 2) rfl) dnil) [g2] F91 (by kernel_rfl) fun a93 F93 => ?_
  simp only [List.drop_succ_cons, List.drop_zero]
  refine rn rfl rfl F93 rfl (.int .u8 (((byteI r.p).toNat : Nat) : Int)) (y_cvI _ _ _ rfl (F93.get rfl) Try.underlying3 Try.underlying5 (byteI_wrap _)) fun a94 F94 => ?_
  refine exA 2 [(66, .pointer (some ⟨g2, 1, none⟩)), (67, .string r.s)] [0] (dcons (M54.blk (k := 2) rfl) dnil) [g2] F94 (by kernel_rfl) (by kernel_rfl) fun a95 F95 => ?_
  simp only [List.drop_succ_cons, List.drop_zero]
  refine rn rfl rfl F95 rfl (.int .i64 (r.s.size : Int)) (y_lenS _ rfl (F95.get rfl) rfl) fun a96 F96 => ?_
  refine rn rfl rfl F96 rfl (.int .u8 (((byteI (r.s.size : Int)).toNat : Nat) : Int)) (y_cvI _ _ _ rfl (F96.get rfl) Try.underlying3 Try.underlying5 (byteI_wrap _)) fun a97 F97 => ?_
  refine wl_runM (wanted_none rfl) rfl F97 rfl (run_litO M54 3 [(byteI r.p), (byteI (r.s.size : Int))] 2 rfl (by decide) (by decide) rfl (by simp only [List.map_toArray, List.map_cons, List.map_nil, (F97.get (t := 65) rfl), (F97.get (t := 69) rfl)]; kernel_rfl)) ?_
  intro v98 a98 w98 F98 M98
  clear F97 M54
  obtain ⟨A98, c98, rfl⟩ := (M98.isO (k := 3) rfl).shape
  refine exA 2 [(71, .pointer (some ⟨g2, 1, none⟩)), (72, .string r.s)] [0] (dcons (M98.blk (k := 2) rfl) dnil) [g2] F98 (by kernel_rfl) (by kernel_rfl) fun a99 F99 => ?_
  simp only [List.drop_succ_cons, List.drop_zero]
  refine wl_runM (wanted_none rfl) rfl F99 rfl (run_cvS M98 4 _ rfl (F99.get rfl) (Nat.le_trans ho.s (by omega))) ?_
  intro v100 a100 w100 F100 M100
  clear F99 M98
  have fr100 := M100.frN (k := 4) rfl
  replace M100 := M100.unN (k := 4) rfl
  obtain ⟨A100, c100, rfl⟩ := (M100.isb (k := 4) rfl).shape
  refine wl_runM (wanted_none rfl) rfl F100 rfl (run_app M100 (k := 3) rfl _ _ rfl (F100.get rfl) (F100.get rfl) (M100.isb (k := 4) rfl) (by simp only [List.length_append, List.length_cons, List.length_nil]; omega)) ?_
  intro v101 a101 w101 F101 M101
  clear F100 M100
  obtain ⟨A101, c101, rfl⟩ := (M101.isO (k := 3) rfl).shape
  refine rm rfl F101 fun a102 F102 => ?_
  refine hK92 _ _ (wp_seq_k fun K103 hK103 => ?_)
  refine region_fxM F102 [fun vE => vE = .slice A101 (([(byteI r.p), (byteI (r.s.size : Int))] ++ (sBy r.s))).length c101, fun vE => vE = .pointer (some ⟨g2, 2, none⟩), fun vE => vE = V.v2, fun vE => vE = .int .i64 (r.l2.length : Int), fun vE => vE = .int .u8 (((byteI (r.l2.length : Int)).toNat : Nat) : Int), fun _ => True, fun _ => True, fun vE => vE = .pointer (some ⟨g2, 2, none⟩), fun vE => vE = V.v2] (JM none w fun SV pV => [(0, bytR r.l2 V.v2), (1, bytR r.l5 V.v5), (2, blkR g2 54 (recA r V)), (3, eitherR (SV 6) (ownR (([(byteI r.p), (byteI (r.s.size : Int))] ++ (sBy r.s)) ++ [(byteI (r.l2.length : Int))]) (pV 6)) (ownR ([(byteI r.p), (byteI (r.s.size : Int))] ++ (sBy r.s)) (.slice A101 (([(byteI r.p), (byteI (r.s.size : Int))] ++ (sBy r.s))).length c101))), (4, bytR (sBy r.s) (.slice A100 ((sBy r.s)).length c100)), (5, condR (SV 5) (ownR [(byteI (r.l2.length : Int))] (pV 5)))]) 9 rfl (by kernel_rfl) rfl ⟨trivial, trivial, trivial, trivial, trivial, trivial, trivial, trivial, trivial, trivial⟩ (fun p => ((M101.step (step_drew _)).triv 5).sub ⟨rfl, rfl, rfl, rfl, rfl, rfl, trivial⟩) ⟨?_, ?_, ?_, ?_, ?_, ?_, ?_, ?_, ?_, trivial⟩ ?_
  · intro ua uw SV pV M0 hk hn hd
    have M : Mx none w uw _ := M0
    clear M0
    have e4 : ua.eval (.tmp 4) = .slice A101 (([(byteI r.p), (byteI (r.s.size : Int))] ++ (sBy r.s))).length c101 := (show ua.eval (.tmp 4) = _ from hd 4 (by decide)).trans (F102.get (t := 4) rfl)
    exact hopM_run (wanted_none rfl) (.slice A101 (([(byteI r.p), (byteI (r.s.size : Int))] ++ (sBy r.s))).length c101) (run_mv _ (.inl rfl) e4) rfl (M.sub ⟨rfl, rfl, rfl, rfl, rfl, rfl, trivial⟩)
  · intro ua uw SV pV M0 hk hn hd
    have M : Mx none w uw _ := M0
    clear M0
    have e1 : ua.eval (.tmp 1) = .pointer (some ⟨g2, 0, none⟩) := (show ua.eval (.tmp 1) = _ from hd 1 (by decide)).trans (F102.get (t := 1) rfl)
    exact hopM_run (wanted_none rfl) (.pointer (some ⟨g2, 2, none⟩)) (y_fa (off := 2) rfl e1 (by kernel_rfl) rfl) rfl (M.sub ⟨rfl, rfl, rfl, rfl, rfl, rfl, trivial⟩)
  · intro ua uw SV pV M0 hk hn hd
    have M : Mx none w uw _ := M0
    clear M0
    obtain ⟨s1, f76, q76⟩ := (show SV 1 = true ∧ ua.eval (.tmp 76) = pV 1 ∧ stE _ 1 (pV 1) from hd 76 (by decide))
    have e76 : ua.eval (.tmp 76) = .pointer (some ⟨g2, 2, none⟩) := f76.trans q76
    exact hopM_run (wanted_none rfl) (V.v2) (y_ld1 _ _ rfl e76 (M.blk (k := 2) rfl) rfl Try.underlying22 rfl) rfl (M.sub ⟨rfl, rfl, rfl, rfl, rfl, rfl, trivial⟩)
  · intro ua uw SV pV M0 hk hn hd
    have M : Mx none w uw _ := M0
    clear M0
    obtain ⟨s2, f77, q77⟩ := (show SV 2 = true ∧ ua.eval (.tmp 77) = pV 2 ∧ stE _ 2 (pV 2) from hd 77 (by decide))
    have e77 : ua.eval (.tmp 77) = V.v2 := f77.trans q77
    exact hopM_run (wanted_none rfl) (.int .i64 (r.l2.length : Int)) (y_len _ rfl e77 (M.isb (k := 0) rfl) rfl) rfl (M.sub ⟨rfl, rfl, rfl, rfl, rfl, rfl, trivial⟩)
  · intro ua uw SV pV M0 hk hn hd
    have M : Mx none w uw _ := M0
    clear M0
    obtain ⟨s3, f78, q78⟩ := (show SV 3 = true ∧ ua.eval (.tmp 78) = pV 3 ∧ stE _ 3 (pV 3) from hd 78 (by decide))
    have e78 : ua.eval (.tmp 78) = .int .i64 (r.l2.length : Int) := f78.trans q78
    exact hopM_run (wanted_none rfl) (.int .u8 (((byteI (r.l2.length : Int)).toNat : Nat) : Int)) (y_cvI _ _ _ rfl e78 Try.underlying3 Try.underlying5 (byteI_wrap _)) rfl (M.sub ⟨rfl, rfl, rfl, rfl, rfl, rfl, trivial⟩)
  · intro ua uw SV pV M0 hk hn hd
    have M : Mx none w uw _ := M0
    clear M0
    obtain ⟨s4, f79, q79⟩ := (show SV 4 = true ∧ ua.eval (.tmp 79) = pV 4 ∧ stE _ 4 (pV 4) from hd 79 (by decide))
    have e79 : ua.eval (.tmp 79) = .int .u8 (((byteI (r.l2.length : Int)).toNat : Nat) : Int) := f79.trans q79
    exact hopM_exM (wanted_none rfl) (run_litO M 5 [(byteI (r.l2.length : Int))] 1 rfl (by decide) (by decide) rfl (by simp only [List.map_toArray, List.map_cons, List.map_nil, e79]; kernel_rfl)) fun v w2 h2 => ⟨trivial, h2.sub ⟨rfl, rfl, rfl, rfl, rfl, rfl, trivial⟩⟩
  · intro ua uw SV pV M0 hk hn hd
    have M : Mx none w uw _ := M0
    clear M0
    obtain ⟨s0, f75, q75⟩ := (show SV 0 = true ∧ ua.eval (.tmp 75) = pV 0 ∧ stE _ 0 (pV 0) from hd 75 (by decide))
    have e75 : ua.eval (.tmp 75) = .slice A101 (([(byteI r.p), (byteI (r.s.size : Int))] ++ (sBy r.s))).length c101 := f75.trans q75
    obtain ⟨s5, f80, q80⟩ := (show SV 5 = true ∧ ua.eval (.tmp 80) = pV 5 ∧ stE _ 5 (pV 5) from hd 80 (by decide))
    have e80 : ua.eval (.tmp 80) = (pV 5) := f80
    exact hopM_exM (wanted_none rfl) (run_app M (k := 3) (eitherR_r hk rfl) _ _ rfl e75 e80 (M.isO (k := 5) (condR_look s5 rfl)) (by simp only [List.length_append, List.length_cons, List.length_nil]; omega)) fun v w2 h2 => ⟨trivial, h2.sub ⟨rfl, rfl, rfl, rfl, rfl, rfl, trivial⟩⟩
  · intro ua uw SV pV M0 hk hn hd
    have M : Mx none w uw _ := M0
    clear M0
    have e1 : ua.eval (.tmp 1) = .pointer (some ⟨g2, 0, none⟩) := (show ua.eval (.tmp 1) = _ from hd 1 (by decide)).trans (F102.get (t := 1) rfl)
    exact hopM_run (wanted_none rfl) (.pointer (some ⟨g2, 2, none⟩)) (y_fa (off := 2) rfl e1 (by kernel_rfl) rfl) rfl (M.sub ⟨rfl, rfl, rfl, rfl, rfl, rfl, trivial⟩)
  · intro ua uw SV pV M0 hk hn hd
    have M : Mx none w uw _ := M0
    clear M0
    obtain ⟨s7, f82, q82⟩ := (show SV 7 = true ∧ ua.eval (.tmp 82) = pV 7 ∧ stE _ 7 (pV 7) from hd 82 (by decide))
    have e82 : ua.eval (.tmp 82) = .pointer (some ⟨g2, 2, none⟩) := f82.trans q82
    exact hopM_run (wanted_none rfl) (V.v2) (y_ld1 _ _ rfl e82 (M.blk (k := 2) rfl) rfl Try.underlying22 rfl) rfl (M.sub ⟨rfl, rfl, rfl, rfl, rfl, rfl, trivial⟩)
  intro p104 a104 w104 M104 G104 y104
  obtain ⟨-, -, -, -, -, -, q6, -, q8, -⟩ := y104
  have r8 : p104 8 = V.v2 := q8
  replace M104 : Mx _ _ w104 [(0, bytR r.l2 V.v2), (1, bytR r.l5 V.v5), (2, blkR g2 54 (recA r V)), (3, eitherR true (ownR (([(byteI r.p), (byteI (r.s.size : Int))] ++ (sBy r.s)) ++ [(byteI (r.l2.length : Int))]) (p104 6)) (ownR ([(byteI r.p), (byteI (r.s.size : Int))] ++ (sBy r.s)) (.slice A101 (([(byteI r.p), (byteI (r.s.size : Int))] ++ (sBy r.s))).length c101))), (4, bytR (sBy r.s) (.slice A100 ((sBy r.s)).length c100)), (5, condR true (ownR [(byteI (r.l2.length : Int))] (p104 5)))] := M104
  simp only [List.take_succ_cons, List.take_zero, layV, Nat.zero_add, Nat.reduceAdd, r8] at G104
  obtain ⟨Ap104_5, cp104_5, hp104_5⟩ := (M104.isO (k := 5) rfl).shape
  rw [hp104_5] at M104
  try rw [hp104_5] at G104
  simp only [List.drop_succ_cons, List.drop_zero]
  refine wl_runM (wanted_none rfl) rfl G104 rfl (run_app M104 (k := 3) rfl _ _ rfl (G104.get rfl) (G104.get rfl) (M104.isb (k := 0) rfl) (by simp only [List.length_append, List.length_cons, List.length_nil]; omega)) ?_
  intro v105 a105 w105 F105 M105
  clear G104 M104
  obtain ⟨A105, c105, rfl⟩ := (M105.isO (k := 3) rfl).shape
  refine rm rfl F105 fun a106 F106 => ?_
  refine hK103 _ _ (wp_seq_k fun K107 hK107 => ?_)
  refine region_fxM F106 [fun vE => vE = .slice A105 (((([(byteI r.p), (byteI (r.s.size : Int))] ++ (sBy r.s)) ++ [(byteI (r.l2.length : Int))]) ++ r.l2)).length c105, fun vE => vE = .pointer (some ⟨g2, 19, none⟩), fun vE => vE = V.v5, fun vE => vE = .int .i64 (r.l5.length : Int), fun vE => vE = .int .u8 (((byteI (r.l5.length : Int)).toNat : Nat) : Int), fun _ => True, fun _ => True, fun vE => vE = .pointer (some ⟨g2, 19, none⟩), fun vE => vE = V.v5] (JM none w fun SV pV => [(0, bytR r.l2 V.v2), (1, bytR r.l5 V.v5), (2, blkR g2 54 (recA r V)), (3, eitherR (SV 6) (ownR (((([(byteI r.p), (byteI (r.s.size : Int))] ++ (sBy r.s)) ++ [(byteI (r.l2.length : Int))]) ++ r.l2) ++ [(byteI (r.l5.length : Int))]) (pV 6)) (ownR ((([(byteI r.p), (byteI (r.s.size : Int))] ++ (sBy r.s)) ++ [(byteI (r.l2.length : Int))]) ++ r.l2) (.slice A105 (((([(byteI r.p), (byteI (r.s.size : Int))] ++ (sBy r.s)) ++ [(byteI (r.l2.length : Int))]) ++ r.l2)).length c105))), (4, bytR (sBy r.s) (.slice A100 ((sBy r.s)).length c100)), (5, ownR [(byteI (r.l2.length : Int))] (.slice Ap104_5 ([(byteI (r.l2.length : Int))]).length cp104_5)), (6, condR (SV 5) (ownR [(byteI (r.l5.length : Int))] (pV 5)))]) 9 rfl (by kernel_rfl) rfl ⟨trivial, trivial, trivial, trivial, trivial, trivial, trivial, trivial, trivial, trivial⟩ (fun p => ((M105.step (step_drew _)).triv 6).sub ⟨rfl, rfl, rfl, rfl, rfl, rfl, rfl, trivial⟩) ⟨?_, ?_, ?_, ?_, ?_, ?_, ?_, ?_, ?_, trivial⟩ ?_
  · intro ua uw SV pV M0 hk hn hd
    have M : Mx none w uw _ := M0
    clear M0
    have e4 : ua.eval (.tmp 4) = .slice A105 (((([(byteI r.p), (byteI (r.s.size : Int))] ++ (sBy r.s)) ++ [(byteI (r.l2.length : Int))]) ++ r.l2)).length c105 := (show ua.eval (.tmp 4) = _ from hd 4 (by decide)).trans (F106.get (t := 4) rfl)
    exact hopM_run (wanted_none rfl) (.slice A105 (((([(byteI r.p), (byteI (r.s.size : Int))] ++ (sBy r.s)) ++ [(byteI (r.l2.length : Int))]) ++ r.l2)).length c105) (run_mv _ (.inl rfl) e4) rfl (M.sub ⟨rfl, rfl, rfl, rfl, rfl, rfl, rfl, trivial⟩)
  · intro ua uw SV pV M0 hk hn hd
    have M : Mx none w uw _ := M0
    clear M0
    have e1 : ua.eval (.tmp 1) = .pointer (some ⟨g2, 0, none⟩) := (show ua.eval (.tmp 1) = _ from hd 1 (by decide)).trans (F106.get (t := 1) rfl)
    exact hopM_run (wanted_none rfl) (.pointer (some ⟨g2, 19, none⟩)) (y_fa (off := 19) rfl e1 (by kernel_rfl) rfl) rfl (M.sub ⟨rfl, rfl, rfl, rfl, rfl, rfl, rfl, trivial⟩)
  · intro ua uw SV pV M0 hk hn hd
    have M : Mx none w uw _ := M0
    clear M0
    obtain ⟨s1, f86, q86⟩ := (show SV 1 = true ∧ ua.eval (.tmp 86) = pV 1 ∧ stE _ 1 (pV 1) from hd 86 (by decide))
    have e86 : ua.eval (.tmp 86) = .pointer (some ⟨g2, 19, none⟩) := f86.trans q86
    exact hopM_run (wanted_none rfl) (V.v5) (y_ld1 _ _ rfl e86 (M.blk (k := 2) rfl) rfl Try.underlying22 rfl) rfl (M.sub ⟨rfl, rfl, rfl, rfl, rfl, rfl, rfl, trivial⟩)
  · intro ua uw SV pV M0 hk hn hd
    have M : Mx none w uw _ := M0
    clear M0
    obtain ⟨s2, f87, q87⟩ := (show SV 2 = true ∧ ua.eval (.tmp 87) = pV 2 ∧ stE _ 2 (pV 2) from hd 87 (by decide))
    have e87 : ua.eval (.tmp 87) = V.v5 := f87.trans q87
    exact hopM_run (wanted_none rfl) (.int .i64 (r.l5.length : Int)) (y_len _ rfl e87 (M.isb (k := 1) rfl) rfl) rfl (M.sub ⟨rfl, rfl, rfl, rfl, rfl, rfl, rfl, trivial⟩)
  · intro ua uw SV pV M0 hk hn hd
    have M : Mx none w uw _ := M0
    clear M0
    obtain ⟨s3, f88, q88⟩ := (show SV 3 = true ∧ ua.eval (.tmp 88) = pV 3 ∧ stE _ 3 (pV 3) from hd 88 (by decide))
    have e88 : ua.eval (.tmp 88) = .int .i64 (r.l5.length : Int) := f88.trans q88
    exact hopM_run (wanted_none rfl) (.int .u8 (((byteI (r.l5.length : Int)).toNat : Nat) : Int)) (y_cvI _ _ _ rfl e88 Try.underlying3 Try.underlying5 (byteI_wrap _)) rfl (M.sub ⟨rfl, rfl, rfl, rfl, rfl, rfl, rfl, trivial⟩)
  · intro ua uw SV pV M0 hk hn hd
    have M : Mx none w uw _ := M0
    clear M0
    obtain ⟨s4, f89, q89⟩ := (show SV 4 = true ∧ ua.eval (.tmp 89) = pV 4 ∧ stE _ 4 (pV 4) from hd 89 (by decide))
    have e89 : ua.eval (.tmp 89) = .int .u8 (((byteI (r.l5.length : Int)).toNat : Nat) : Int) := f89.trans q89
    exact hopM_exM (wanted_none rfl) (run_litO M 6 [(byteI (r.l5.length : Int))] 1 rfl (by decide) (by decide) rfl (by simp only [List.map_toArray, List.map_cons, List.map_nil, e89]; kernel_rfl)) fun v w2 h2 => ⟨trivial, h2.sub ⟨rfl, rfl, rfl, rfl, rfl, rfl, rfl, trivial⟩⟩
  · intro ua uw SV pV M0 hk hn hd
    have M : Mx none w uw _ := M0
    clear M0
    obtain ⟨s0, f85, q85⟩ := (show SV 0 = true ∧ ua.eval (.tmp 85) = pV 0 ∧ stE _ 0 (pV 0) from hd 85 (by decide))
    have e85 : ua.eval (.tmp 85) = .slice A105 (((([(byteI r.p), (byteI (r.s.size : Int))] ++ (sBy r.s)) ++ [(byteI (r.l2.length : Int))]) ++ r.l2)).length c105 := f85.trans q85
    obtain ⟨s5, f90, q90⟩ := (show SV 5 = true ∧ ua.eval (.tmp 90) = pV 5 ∧ stE _ 5 (pV 5) from hd 90 (by decide))
    have e90 : ua.eval (.tmp 90) = (pV 5) := f90
    exact hopM_exM (wanted_none rfl) (run_app M (k := 3) (eitherR_r hk rfl) _ _ rfl e85 e90 (M.isO (k := 6) (condR_look s5 rfl)) (by simp only [List.length_append, List.length_cons, List.length_nil]; omega)) fun v w2 h2 => ⟨trivial, h2.sub ⟨rfl, rfl, rfl, rfl, rfl, rfl, rfl, trivial⟩⟩
  · intro ua uw SV pV M0 hk hn hd
    have M : Mx none w uw _ := M0
    clear M0
    have e1 : ua.eval (.tmp 1) = .pointer (some ⟨g2, 0, none⟩) := (show ua.eval (.tmp 1) = _ from hd 1 (by decide)).trans (F106.get (t := 1) rfl)
    exact hopM_run (wanted_none rfl) (.pointer (some ⟨g2, 19, none⟩)) (y_fa (off := 19) rfl e1 (by kernel_rfl) rfl) rfl (M.sub ⟨rfl, rfl, rfl, rfl, rfl, rfl, rfl, trivial⟩)
  · intro ua uw SV pV M0 hk hn hd
    have M : Mx none w uw _ := M0
    clear M0
    obtain ⟨s7, f92, q92⟩ := (show SV 7 = true ∧ ua.eval (.tmp 92) = pV 7 ∧ stE _ 7 (pV 7) from hd 92 (by decide))
    have e92 : ua.eval (.tmp 92) = .pointer (some ⟨g2, 19, none⟩) := f92.trans q92
    exact hopM_run (wanted_none rfl) (V.v5) (y_ld1 _ _ rfl e92 (M.blk (k := 2) rfl) rfl Try.underlying22 rfl) rfl (M.sub ⟨rfl, rfl, rfl, rfl, rfl, rfl, rfl, trivial⟩)
  intro p108 a108 w108 M108 G108 y108
  obtain ⟨-, -, -, -, -, -, q6, -, q8, -⟩ := y108
  have r8 : p108 8 = V.v5 := q8
  replace M108 : Mx _ _ w108 [(0, bytR r.l2 V.v2), (1, bytR r.l5 V.v5), (2, blkR g2 54 (recA r V)), (3, eitherR true (ownR (((([(byteI r.p), (byteI (r.s.size : Int))] ++ (sBy r.s)) ++ [(byteI (r.l2.length : Int))]) ++ r.l2) ++ [(byteI (r.l5.length : Int))]) (p108 6)) (ownR ((([(byteI r.p), (byteI (r.s.size : Int))] ++ (sBy r.s)) ++ [(byteI (r.l2.length : Int))]) ++ r.l2) (.slice A105 (((([(byteI r.p), (byteI (r.s.size : Int))] ++ (sBy r.s)) ++ [(byteI (r.l2.length : Int))]) ++ r.l2)).length c105))), (4, bytR (sBy r.s) (.slice A100 ((sBy r.s)).length c100)), (5, ownR [(byteI (r.l2.length : Int))] (.slice Ap104_5 ([(byteI (r.l2.length : Int))]).length cp104_5)), (6, condR true (ownR [(byteI (r.l5.length : Int))] (p108 5)))] := M108
  simp only [List.take_succ_cons, List.take_zero, layV, Nat.zero_add, Nat.reduceAdd, r8] at G108
  obtain ⟨Ap108_6, cp108_6, hp108_6⟩ := (M108.isO (k := 6) rfl).shape
  rw [hp108_6] at M108
  try rw [hp108_6] at G108
  simp only [List.drop_succ_cons, List.drop_zero]
  refine wl_runM (wanted_none rfl) rfl G108 rfl (run_app M108 (k := 3) rfl _ _ rfl (G108.get rfl) (G108.get rfl) (M108.isb (k := 1) rfl) (by simp only [List.length_append, List.length_cons, List.length_nil]; omega)) ?_
  intro v109 a109 w109 F109 M109
  clear G108 M108
  obtain ⟨A109, c109, rfl⟩ := (M109.isO (k := 3) rfl).shape
  refine rm rfl F109 fun a110 F110 => ?_
  refine hK107 _ _ (wp_seq_k fun K111 hK111 => ?_)
  refine region_fxM F110 [fun vE => vE = .slice A109 (((((([(byteI r.p), (byteI (r.s.size : Int))] ++ (sBy r.s)) ++ [(byteI (r.l2.length : Int))]) ++ r.l2) ++ [(byteI (r.l5.length : Int))]) ++ r.l5)).length c109, fun vE => vE = .pointer (some ⟨g2, 3, none⟩), fun vE => vE = numV r.a, fun _ => True, fun _ => True, fun vE => vE = .pointer (some ⟨g2, 11, none⟩), fun vE => vE = numV r.b, fun _ => True, fun _ => True, fun vE => vE = .pointer (some ⟨g2, 20, none⟩), fun vE => vE = .int .i64 r.t, fun vE => vE = .int .u8 (((byteI r.t).toNat : Nat) : Int), fun _ => True] (JM none w fun SV pV => [(0, bytR r.l2 V.v2), (1, bytR r.l5 V.v5), (2, blkR g2 54 (recA r V)), (3, eitherR (SV 8) (ownR ((((((([(byteI r.p), (byteI (r.s.size : Int))] ++ (sBy r.s)) ++ [(byteI (r.l2.length : Int))]) ++ r.l2) ++ [(byteI (r.l5.length : Int))]) ++ r.l5) ++ (fourL r.a)) ++ (fourL r.b)) (pV 8)) (eitherR (SV 4) (ownR (((((([(byteI r.p), (byteI (r.s.size : Int))] ++ (sBy r.s)) ++ [(byteI (r.l2.length : Int))]) ++ r.l2) ++ [(byteI (r.l5.length : Int))]) ++ r.l5) ++ (fourL r.a)) (pV 4)) (ownR ((((([(byteI r.p), (byteI (r.s.size : Int))] ++ (sBy r.s)) ++ [(byteI (r.l2.length : Int))]) ++ r.l2) ++ [(byteI (r.l5.length : Int))]) ++ r.l5) (.slice A109 (((((([(byteI r.p), (byteI (r.s.size : Int))] ++ (sBy r.s)) ++ [(byteI (r.l2.length : Int))]) ++ r.l2) ++ [(byteI (r.l5.length : Int))]) ++ r.l5)).length c109)))), (4, bytR (sBy r.s) (.slice A100 ((sBy r.s)).length c100)), (5, ownR [(byteI (r.l2.length : Int))] (.slice Ap104_5 ([(byteI (r.l2.length : Int))]).length cp104_5)), (6, ownR [(byteI (r.l5.length : Int))] (.slice Ap108_6 ([(byteI (r.l5.length : Int))]).length cp108_6)), (7, condR (SV 3) (bytR (fourL r.a) (pV 3))), (8, condR (SV 7) (bytR (fourL r.b) (pV 7))), (9, condR (SV 12) (ownR [(byteI r.t)] (pV 12)))]) 13 rfl (by kernel_rfl) rfl ⟨trivial, trivial, trivial, trivial, trivial, trivial, trivial, trivial, trivial, trivial, trivial, trivial, trivial, trivial⟩ (fun p => ((((M109.step (step_drew _)).triv 7).triv 8).triv 9).sub ⟨rfl, rfl, rfl, rfl, rfl, rfl, rfl, rfl, rfl, rfl, trivial⟩) ⟨?_, ?_, ?_, ?_, ?_, ?_, ?_, ?_, ?_, ?_, ?_, ?_, ?_, trivial⟩ ?_
  · intro ua uw SV pV M0 hk hn hd
    have M : Mx none w uw _ := M0
    clear M0
    have e4 : ua.eval (.tmp 4) = .slice A109 (((((([(byteI r.p), (byteI (r.s.size : Int))] ++ (sBy r.s)) ++ [(byteI (r.l2.length : Int))]) ++ r.l2) ++ [(byteI (r.l5.length : Int))]) ++ r.l5)).length c109 := (show ua.eval (.tmp 4) = _ from hd 4 (by decide)).trans (F110.get (t := 4) rfl)
    exact hopM_run (wanted_none rfl) (.slice A109 (((((([(byteI r.p), (byteI (r.s.size : Int))] ++ (sBy r.s)) ++ [(byteI (r.l2.length : Int))]) ++ r.l2) ++ [(byteI (r.l5.length : Int))]) ++ r.l5)).length c109) (run_mv _ (.inl rfl) e4) rfl (M.sub ⟨rfl, rfl, rfl, rfl, rfl, rfl, rfl, rfl, rfl, rfl, trivial⟩)
  · intro ua uw SV pV M0 hk hn hd
    have M : Mx none w uw _ := M0
    clear M0
    have e1 : ua.eval (.tmp 1) = .pointer (some ⟨g2, 0, none⟩) := (show ua.eval (.tmp 1) = _ from hd 1 (by decide)).trans (F110.get (t := 1) rfl)
    exact hopM_run (wanted_none rfl) (.pointer (some ⟨g2, 3, none⟩)) (y_fa (off := 3) rfl e1 (by kernel_rfl) rfl) rfl (M.sub ⟨rfl, rfl, rfl, rfl, rfl, rfl, rfl, rfl, rfl, rfl, trivial⟩)
  · intro ua uw SV pV M0 hk hn hd
    have M : Mx none w uw _ := M0
    clear M0
    obtain ⟨s1, f96, q96⟩ := (show SV 1 = true ∧ ua.eval (.tmp 96) = pV 1 ∧ stE _ 1 (pV 1) from hd 96 (by decide))
    have e96 : ua.eval (.tmp 96) = .pointer (some ⟨g2, 3, none⟩) := f96.trans q96
    exact hopM_run (wanted_none rfl) (numV r.a) (y_ldN _ _ rfl e96 (M.blk (k := 2) rfl) (numA r.a) (y_part8 rfl rfl rfl rfl rfl rfl rfl rfl) Try.underlying27 rfl size26) rfl (M.sub ⟨rfl, rfl, rfl, rfl, rfl, rfl, rfl, rfl, rfl, rfl, trivial⟩)
  · intro ua uw SV pV M0 hk hn hd
    have M : Mx none w uw _ := M0
    clear M0
    obtain ⟨s2, f97, q97⟩ := (show SV 2 = true ∧ ua.eval (.tmp 97) = pV 2 ∧ stE _ 2 (pV 2) from hd 97 (by decide))
    have e97 : ua.eval (.tmp 97) = numV r.a := f97.trans q97
    exact hopM_call (wanted_none rfl) rfl #[numV r.a] (args1 e97) (enters_of Try.func65 (by kernel_rfl) rfl) ((rfourN_any r.a uw).mono fun e w2 h => (by obtain ⟨u, h1, h2, h3, h4⟩ := h; exact ⟨u, h1, trivial, (M.newB h4 7 h2 h3).sub ⟨rfl, rfl, rfl, rfl, rfl, rfl, rfl, rfl, rfl, rfl, trivial⟩⟩))
  · intro ua uw SV pV M0 hk hn hd
    have M : Mx none w uw _ := M0
    clear M0
    obtain ⟨s0, f95, q95⟩ := (show SV 0 = true ∧ ua.eval (.tmp 95) = pV 0 ∧ stE _ 0 (pV 0) from hd 95 (by decide))
    have e95 : ua.eval (.tmp 95) = .slice A109 (((((([(byteI r.p), (byteI (r.s.size : Int))] ++ (sBy r.s)) ++ [(byteI (r.l2.length : Int))]) ++ r.l2) ++ [(byteI (r.l5.length : Int))]) ++ r.l5)).length c109 := f95.trans q95
    obtain ⟨s3, f98, q98⟩ := (show SV 3 = true ∧ ua.eval (.tmp 98) = pV 3 ∧ stE _ 3 (pV 3) from hd 98 (by decide))
    have e98 : ua.eval (.tmp 98) = (pV 3) := f98
    exact hopM_exM (wanted_none rfl) (run_app M (k := 3) (eitherR_r hk (eitherR_r (hn 8 (by kernel_rfl)) rfl)) _ _ rfl e95 e98 (M.isb (k := 7) (condR_look s3 rfl)) (by simp only [List.length_append, List.length_cons, List.length_nil]; omega)) fun v w2 h2 => ⟨trivial, h2.sub ⟨rfl, rfl, rfl, (eitherR_at (hn 8 (by kernel_rfl)) rfl), rfl, rfl, rfl, rfl, rfl, rfl, trivial⟩⟩
  · intro ua uw SV pV M0 hk hn hd
    have M : Mx none w uw _ := M0
    clear M0
    have e1 : ua.eval (.tmp 1) = .pointer (some ⟨g2, 0, none⟩) := (show ua.eval (.tmp 1) = _ from hd 1 (by decide)).trans (F110.get (t := 1) rfl)
    exact hopM_run (wanted_none rfl) (.pointer (some ⟨g2, 11, none⟩)) (y_fa (off := 11) rfl e1 (by kernel_rfl) rfl) rfl (M.sub ⟨rfl, rfl, rfl, rfl, rfl, rfl, rfl, rfl, rfl, rfl, trivial⟩)
  · intro ua uw SV pV M0 hk hn hd
    have M : Mx none w uw _ := M0
    clear M0
    obtain ⟨s5, f100, q100⟩ := (show SV 5 = true ∧ ua.eval (.tmp 100) = pV 5 ∧ stE _ 5 (pV 5) from hd 100 (by decide))
    have e100 : ua.eval (.tmp 100) = .pointer (some ⟨g2, 11, none⟩) := f100.trans q100
    exact hopM_run (wanted_none rfl) (numV r.b) (y_ldN _ _ rfl e100 (M.blk (k := 2) rfl) (numA r.b) (y_part8 rfl rfl rfl rfl rfl rfl rfl rfl) Try.underlying27 rfl size26) rfl (M.sub ⟨rfl, rfl, rfl, rfl, rfl, rfl, rfl, rfl, rfl, rfl, trivial⟩)
  · intro ua uw SV pV M0 hk hn hd
    have M : Mx none w uw _ := M0
    clear M0
    obtain ⟨s6, f101, q101⟩ := (show SV 6 = true ∧ ua.eval (.tmp 101) = pV 6 ∧ stE _ 6 (pV 6) from hd 101 (by decide))
    have e101 : ua.eval (.tmp 101) = numV r.b := f101.trans q101
    exact hopM_call (wanted_none rfl) rfl #[numV r.b] (args1 e101) (enters_of Try.func65 (by kernel_rfl) rfl) ((rfourN_any r.b uw).mono fun e w2 h => (by obtain ⟨u, h1, h2, h3, h4⟩ := h; exact ⟨u, h1, trivial, (M.newB h4 8 h2 h3).sub ⟨rfl, rfl, rfl, rfl, rfl, rfl, rfl, rfl, rfl, rfl, trivial⟩⟩))
  · intro ua uw SV pV M0 hk hn hd
    have M : Mx none w uw _ := M0
    clear M0
    obtain ⟨s4, f99, q99⟩ := (show SV 4 = true ∧ ua.eval (.tmp 99) = pV 4 ∧ stE _ 4 (pV 4) from hd 99 (by decide))
    have e99 : ua.eval (.tmp 99) = (pV 4) := f99
    obtain ⟨s7, f102, q102⟩ := (show SV 7 = true ∧ ua.eval (.tmp 102) = pV 7 ∧ stE _ 7 (pV 7) from hd 102 (by decide))
    have e102 : ua.eval (.tmp 102) = (pV 7) := f102
    exact hopM_exM (wanted_none rfl) (run_app M (k := 3) (eitherR_l s4 (eitherR_r hk rfl)) _ _ rfl e99 e102 (M.isb (k := 8) (condR_look s7 rfl)) (by simp only [List.length_append, List.length_cons, List.length_nil]; omega)) fun v w2 h2 => ⟨trivial, h2.sub ⟨rfl, rfl, rfl, rfl, rfl, rfl, rfl, rfl, rfl, rfl, trivial⟩⟩
  · intro ua uw SV pV M0 hk hn hd
    have M : Mx none w uw _ := M0
    clear M0
    have e1 : ua.eval (.tmp 1) = .pointer (some ⟨g2, 0, none⟩) := (show ua.eval (.tmp 1) = _ from hd 1 (by decide)).trans (F110.get (t := 1) rfl)
    exact hopM_run (wanted_none rfl) (.pointer (some ⟨g2, 20, none⟩)) (y_fa (off := 20) rfl e1 (by kernel_rfl) rfl) rfl (M.sub ⟨rfl, rfl, rfl, rfl, rfl, rfl, rfl, rfl, rfl, rfl, trivial⟩)
  · intro ua uw SV pV M0 hk hn hd
    have M : Mx none w uw _ := M0
    clear M0
    obtain ⟨s9, f104, q104⟩ := (show SV 9 = true ∧ ua.eval (.tmp 104) = pV 9 ∧ stE _ 9 (pV 9) from hd 104 (by decide))
    have e104 : ua.eval (.tmp 104) = .pointer (some ⟨g2, 20, none⟩) := f104.trans q104
    exact hopM_run (wanted_none rfl) (.int .i64 r.t) (y_ld1 _ _ rfl e104 (M.blk (k := 2) rfl) rfl Try.underlying3 rfl) rfl (M.sub ⟨rfl, rfl, rfl, rfl, rfl, rfl, rfl, rfl, rfl, rfl, trivial⟩)
  · intro ua uw SV pV M0 hk hn hd
    have M : Mx none w uw _ := M0
    clear M0
    obtain ⟨s10, f105, q105⟩ := (show SV 10 = true ∧ ua.eval (.tmp 105) = pV 10 ∧ stE _ 10 (pV 10) from hd 105 (by decide))
    have e105 : ua.eval (.tmp 105) = .int .i64 r.t := f105.trans q105
    exact hopM_run (wanted_none rfl) (.int .u8 (((byteI r.t).toNat : Nat) : Int)) (y_cvI _ _ _ rfl e105 Try.underlying3 Try.underlying5 (byteI_wrap _)) rfl (M.sub ⟨rfl, rfl, rfl, rfl, rfl, rfl, rfl, rfl, rfl, rfl, trivial⟩)
  · intro ua uw SV pV M0 hk hn hd
    have M : Mx none w uw _ := M0
    clear M0
    obtain ⟨s11, f106, q106⟩ := (show SV 11 = true ∧ ua.eval (.tmp 106) = pV 11 ∧ stE _ 11 (pV 11) from hd 106 (by decide))
    have e106 : ua.eval (.tmp 106) = .int .u8 (((byteI r.t).toNat : Nat) : Int) := f106.trans q106
    exact hopM_exM (wanted_none rfl) (run_litO M 9 [(byteI r.t)] 1 rfl (by decide) (by decide) rfl (by simp only [List.map_toArray, List.map_cons, List.map_nil, e106]; kernel_rfl)) fun v w2 h2 => ⟨trivial, h2.sub ⟨rfl, rfl, rfl, rfl, rfl, rfl, rfl, rfl, rfl, rfl, trivial⟩⟩
  intro p112 a112 w112 M112 G112 y112
  obtain ⟨-, -, -, -, -, -, -, -, q8, -, -, -, q12, -⟩ := y112
  replace M112 : Mx _ _ w112 [(0, bytR r.l2 V.v2), (1, bytR r.l5 V.v5), (2, blkR g2 54 (recA r V)), (3, eitherR true (ownR ((((((([(byteI r.p), (byteI (r.s.size : Int))] ++ (sBy r.s)) ++ [(byteI (r.l2.length : Int))]) ++ r.l2) ++ [(byteI (r.l5.length : Int))]) ++ r.l5) ++ (fourL r.a)) ++ (fourL r.b)) (p112 8)) (eitherR true (ownR (((((([(byteI r.p), (byteI (r.s.size : Int))] ++ (sBy r.s)) ++ [(byteI (r.l2.length : Int))]) ++ r.l2) ++ [(byteI (r.l5.length : Int))]) ++ r.l5) ++ (fourL r.a)) (p112 4)) (ownR ((((([(byteI r.p), (byteI (r.s.size : Int))] ++ (sBy r.s)) ++ [(byteI (r.l2.length : Int))]) ++ r.l2) ++ [(byteI (r.l5.length : Int))]) ++ r.l5) (.slice A109 (((((([(byteI r.p), (byteI (r.s.size : Int))] ++ (sBy r.s)) ++ [(byteI (r.l2.length : Int))]) ++ r.l2) ++ [(byteI (r.l5.length : Int))]) ++ r.l5)).length c109)))), (4, bytR (sBy r.s) (.slice A100 ((sBy r.s)).length c100)), (5, ownR [(byteI (r.l2.length : Int))] (.slice Ap104_5 ([(byteI (r.l2.length : Int))]).length cp104_5)), (6, ownR [(byteI (r.l5.length : Int))] (.slice Ap108_6 ([(byteI (r.l5.length : Int))]).length cp108_6)), (7, condR true (bytR (fourL r.a) (p112 3))), (8, condR true (bytR (fourL r.b) (p112 7))), (9, condR true (ownR [(byteI r.t)] (p112 12)))] := M112
  simp only [List.take_succ_cons, List.take_zero, layV, Nat.zero_add, Nat.reduceAdd] at G112
  obtain ⟨Ap112_7, cp112_7, hp112_7⟩ := (M112.isb (k := 7) rfl).shape
  rw [hp112_7] at M112
  try rw [hp112_7] at G112
  obtain ⟨Ap112_8, cp112_8, hp112_8⟩ := (M112.isb (k := 8) rfl).shape
  rw [hp112_8] at M112
  try rw [hp112_8] at G112
  obtain ⟨Ap112_9, cp112_9, hp112_9⟩ := (M112.isO (k := 9) rfl).shape
  rw [hp112_9] at M112
  try rw [hp112_9] at G112
  simp only [List.drop_succ_cons, List.drop_zero]
  refine wl_runM (wanted_none rfl) rfl G112 rfl (run_app M112 (k := 3) rfl _ _ rfl (G112.get rfl) (G112.get rfl) (M112.isO (k := 9) rfl) (by simp only [List.length_append, List.length_cons, List.length_nil]; omega)) ?_
  intro v113 a113 w113 F113 M113
  clear G112 M112
  obtain ⟨A113, c113, rfl⟩ := (M113.isO (k := 3) rfl).shape
  refine rm rfl F113 fun a114 F114 => ?_
  refine hK111 _ _ (wp_seq_k fun K115 hK115 => ?_)
  refine region_fxM F114 [fun vE => vE = .slice A113 ((((((((([(byteI r.p), (byteI (r.s.size : Int))] ++ (sBy r.s)) ++ [(byteI (r.l2.length : Int))]) ++ r.l2) ++ [(byteI (r.l5.length : Int))]) ++ r.l5) ++ (fourL r.a)) ++ (fourL r.b)) ++ [(byteI r.t)])).length c113, fun vE => vE = .pointer (some ⟨g2, 21, none⟩), fun vE => vE = .int .i64 r.c, fun _ => True, fun _ => True, fun vE => vE = .pointer (some ⟨g2, 22, none⟩), fun vE => vE = .int .i64 r.z] (JM none w fun SV pV => [(0, bytR r.l2 V.v2), (1, bytR r.l5 V.v5), (2, blkR g2 54 (recA r V)), (3, eitherR (SV 4) (ownR ((((((((([(byteI r.p), (byteI (r.s.size : Int))] ++ (sBy r.s)) ++ [(byteI (r.l2.length : Int))]) ++ r.l2) ++ [(byteI (r.l5.length : Int))]) ++ r.l5) ++ (fourL r.a)) ++ (fourL r.b)) ++ [(byteI r.t)]) ++ (eightI r.c)) (pV 4)) (ownR (((((((([(byteI r.p), (byteI (r.s.size : Int))] ++ (sBy r.s)) ++ [(byteI (r.l2.length : Int))]) ++ r.l2) ++ [(byteI (r.l5.length : Int))]) ++ r.l5) ++ (fourL r.a)) ++ (fourL r.b)) ++ [(byteI r.t)]) (.slice A113 ((((((((([(byteI r.p), (byteI (r.s.size : Int))] ++ (sBy r.s)) ++ [(byteI (r.l2.length : Int))]) ++ r.l2) ++ [(byteI (r.l5.length : Int))]) ++ r.l5) ++ (fourL r.a)) ++ (fourL r.b)) ++ [(byteI r.t)])).length c113))), (4, bytR (sBy r.s) (.slice A100 ((sBy r.s)).length c100)), (5, ownR [(byteI (r.l2.length : Int))] (.slice Ap104_5 ([(byteI (r.l2.length : Int))]).length cp104_5)), (6, ownR [(byteI (r.l5.length : Int))] (.slice Ap108_6 ([(byteI (r.l5.length : Int))]).length cp108_6)), (7, bytR (fourL r.a) (.slice Ap112_7 ((fourL r.a)).length cp112_7)), (8, bytR (fourL r.b) (.slice Ap112_8 ((fourL r.b)).length cp112_8)), (9, ownR [(byteI r.t)] (.slice Ap112_9 ([(byteI r.t)]).length cp112_9)), (10, condR (SV 3) (ownR (eightI r.c) (pV 3)))]) 7 rfl (by kernel_rfl) rfl ⟨trivial, trivial, trivial, trivial, trivial, trivial, trivial, trivial⟩ (fun p => ((M113.step (step_drew _)).triv 10).sub ⟨rfl, rfl, rfl, rfl, rfl, rfl, rfl, rfl, rfl, rfl, rfl, trivial⟩) ⟨?_, ?_, ?_, ?_, ?_, ?_, ?_, trivial⟩ ?_
  · intro ua uw SV pV M0 hk hn hd
    have M : Mx none w uw _ := M0
    clear M0
    have e4 : ua.eval (.tmp 4) = .slice A113 ((((((((([(byteI r.p), (byteI (r.s.size : Int))] ++ (sBy r.s)) ++ [(byteI (r.l2.length : Int))]) ++ r.l2) ++ [(byteI (r.l5.length : Int))]) ++ r.l5) ++ (fourL r.a)) ++ (fourL r.b)) ++ [(byteI r.t)])).length c113 := (show ua.eval (.tmp 4) = _ from hd 4 (by decide)).trans (F114.get (t := 4) rfl)
    exact hopM_run (wanted_none rfl) (.slice A113 ((((((((([(byteI r.p), (byteI (r.s.size : Int))] ++ (sBy r.s)) ++ [(byteI (r.l2.length : Int))]) ++ r.l2) ++ [(byteI (r.l5.length : Int))]) ++ r.l5) ++ (fourL r.a)) ++ (fourL r.b)) ++ [(byteI r.t)])).length c113) (run_mv _ (.inl rfl) e4) rfl (M.sub ⟨rfl, rfl, rfl, rfl, rfl, rfl, rfl, rfl, rfl, rfl, rfl, trivial⟩)
  · intro ua uw SV pV M0 hk hn hd
    have M : Mx none w uw _ := M0
    clear M0
    have e1 : ua.eval (.tmp 1) = .pointer (some ⟨g2, 0, none⟩) := (show ua.eval (.tmp 1) = _ from hd 1 (by decide)).trans (F114.get (t := 1) rfl)
    exact hopM_run (wanted_none rfl) (.pointer (some ⟨g2, 21, none⟩)) (y_fa (off := 21) rfl e1 (by kernel_rfl) rfl) rfl (M.sub ⟨rfl, rfl, rfl, rfl, rfl, rfl, rfl, rfl, rfl, rfl, rfl, trivial⟩)
  · intro ua uw SV pV M0 hk hn hd
    have M : Mx none w uw _ := M0
    clear M0
    obtain ⟨s1, f110, q110⟩ := (show SV 1 = true ∧ ua.eval (.tmp 110) = pV 1 ∧ stE _ 1 (pV 1) from hd 110 (by decide))
    have e110 : ua.eval (.tmp 110) = .pointer (some ⟨g2, 21, none⟩) := f110.trans q110
    exact hopM_run (wanted_none rfl) (.int .i64 r.c) (y_ld1 _ _ rfl e110 (M.blk (k := 2) rfl) rfl Try.underlying3 rfl) rfl (M.sub ⟨rfl, rfl, rfl, rfl, rfl, rfl, rfl, rfl, rfl, rfl, rfl, trivial⟩)
  · intro ua uw SV pV M0 hk hn hd
    have M : Mx none w uw _ := M0
    clear M0
    obtain ⟨s2, f111, q111⟩ := (show SV 2 = true ∧ ua.eval (.tmp 111) = pV 2 ∧ stE _ 2 (pV 2) from hd 111 (by decide))
    have e111 : ua.eval (.tmp 111) = .int .i64 r.c := f111.trans q111
    exact hopM_call (wanted_none rfl) rfl #[.int .i64 r.c] (args1 e111) (enters_of Try.func66 (by kernel_rfl) rfl) ((reight_any r.c uw).mono fun e w2 h => (by obtain ⟨u, h1, h2, h3⟩ := h; exact ⟨u, h1, trivial, (M.newO h3 10 h2).sub ⟨rfl, rfl, rfl, rfl, rfl, rfl, rfl, rfl, rfl, rfl, rfl, trivial⟩⟩))
  · intro ua uw SV pV M0 hk hn hd
    have M : Mx none w uw _ := M0
    clear M0
    obtain ⟨s0, f109, q109⟩ := (show SV 0 = true ∧ ua.eval (.tmp 109) = pV 0 ∧ stE _ 0 (pV 0) from hd 109 (by decide))
    have e109 : ua.eval (.tmp 109) = .slice A113 ((((((((([(byteI r.p), (byteI (r.s.size : Int))] ++ (sBy r.s)) ++ [(byteI (r.l2.length : Int))]) ++ r.l2) ++ [(byteI (r.l5.length : Int))]) ++ r.l5) ++ (fourL r.a)) ++ (fourL r.b)) ++ [(byteI r.t)])).length c113 := f109.trans q109
    obtain ⟨s3, f112, q112⟩ := (show SV 3 = true ∧ ua.eval (.tmp 112) = pV 3 ∧ stE _ 3 (pV 3) from hd 112 (by decide))
    have e112 : ua.eval (.tmp 112) = (pV 3) := f112
    exact hopM_exM (wanted_none rfl) (run_app M (k := 3) (eitherR_r hk rfl) _ _ rfl e109 e112 (M.isO (k := 10) (condR_look s3 rfl)) (by simp only [List.length_append, List.length_cons, List.length_nil]; omega)) fun v w2 h2 => ⟨trivial, h2.sub ⟨rfl, rfl, rfl, rfl, rfl, rfl, rfl, rfl, rfl, rfl, rfl, trivial⟩⟩
  · intro ua uw SV pV M0 hk hn hd
    have M : Mx none w uw _ := M0
    clear M0
    have e1 : ua.eval (.tmp 1) = .pointer (some ⟨g2, 0, none⟩) := (show ua.eval (.tmp 1) = _ from hd 1 (by decide)).trans (F114.get (t := 1) rfl)
    exact hopM_run (wanted_none rfl) (.pointer (some ⟨g2, 22, none⟩)) (y_fa (off := 22) rfl e1 (by kernel_rfl) rfl) rfl (M.sub ⟨rfl, rfl, rfl, rfl, rfl, rfl, rfl, rfl, rfl, rfl, rfl, trivial⟩)
  · intro ua uw SV pV M0 hk hn hd
    have M : Mx none w uw _ := M0
    clear M0
    obtain ⟨s5, f114, q114⟩ := (show SV 5 = true ∧ ua.eval (.tmp 114) = pV 5 ∧ stE _ 5 (pV 5) from hd 114 (by decide))
    have e114 : ua.eval (.tmp 114) = .pointer (some ⟨g2, 22, none⟩) := f114.trans q114
    exact hopM_run (wanted_none rfl) (.int .i64 r.z) (y_ld1 _ _ rfl e114 (M.blk (k := 2) rfl) rfl Try.underlying3 rfl) rfl (M.sub ⟨rfl, rfl, rfl, rfl, rfl, rfl, rfl, rfl, rfl, rfl, rfl, trivial⟩)
  intro p116 a116 w116 M116 G116 y116
  obtain ⟨-, -, -, -, q4, -, q6, -⟩ := y116
  have r6 : p116 6 = .int .i64 r.z := q6
  replace M116 : Mx _ _ w116 [(0, bytR r.l2 V.v2), (1, bytR r.l5 V.v5), (2, blkR g2 54 (recA r V)), (3, eitherR true (ownR ((((((((([(byteI r.p), (byteI (r.s.size : Int))] ++ (sBy r.s)) ++ [(byteI (r.l2.length : Int))]) ++ r.l2) ++ [(byteI (r.l5.length : Int))]) ++ r.l5) ++ (fourL r.a)) ++ (fourL r.b)) ++ [(byteI r.t)]) ++ (eightI r.c)) (p116 4)) (ownR (((((((([(byteI r.p), (byteI (r.s.size : Int))] ++ (sBy r.s)) ++ [(byteI (r.l2.length : Int))]) ++ r.l2) ++ [(byteI (r.l5.length : Int))]) ++ r.l5) ++ (fourL r.a)) ++ (fourL r.b)) ++ [(byteI r.t)]) (.slice A113 ((((((((([(byteI r.p), (byteI (r.s.size : Int))] ++ (sBy r.s)) ++ [(byteI (r.l2.length : Int))]) ++ r.l2) ++ [(byteI (r.l5.length : Int))]) ++ r.l5) ++ (fourL r.a)) ++ (fourL r.b)) ++ [(byteI r.t)])).length c113))), (4, bytR (sBy r.s) (.slice A100 ((sBy r.s)).length c100)), (5, ownR [(byteI (r.l2.length : Int))] (.slice Ap104_5 ([(byteI (r.l2.length : Int))]).length cp104_5)), (6, ownR [(byteI (r.l5.length : Int))] (.slice Ap108_6 ([(byteI (r.l5.length : Int))]).length cp108_6)), (7, bytR (fourL r.a) (.slice Ap112_7 ((fourL r.a)).length cp112_7)), (8, bytR (fourL r.b) (.slice Ap112_8 ((fourL r.b)).length cp112_8)), (9, ownR [(byteI r.t)] (.slice Ap112_9 ([(byteI r.t)]).length cp112_9)), (10, condR true (ownR (eightI r.c) (p116 3)))] := M116
  simp only [List.take_succ_cons, List.take_zero, layV, Nat.zero_add, Nat.reduceAdd, r6] at G116
  obtain ⟨Ap116_10, cp116_10, hp116_10⟩ := (M116.isO (k := 10) rfl).shape
  rw [hp116_10] at M116
  try rw [hp116_10] at G116
  simp only [List.drop_succ_cons, List.drop_zero]
  refine wl_call (wanted_none rfl) rfl G116 rfl rfl (enters_of Try.func66 (by kernel_rfl) rfl) #[.int .i64 r.z] (args1 (G116.get rfl)) (reight_any r.z w116) ?_
  rintro v117 w117 a117 h117 F117
  have M117 := M116.newO h117.2 11 h117.1
  clear M116 h117
  obtain ⟨A117, c117, rfl⟩ := (M117.isO (k := 11) rfl).shape
  refine wl_runM (wanted_none rfl) rfl F117 rfl (run_app M117 (k := 3) rfl _ _ rfl (F117.get rfl) (F117.get rfl) (M117.isO (k := 11) rfl) (by simp only [List.length_append, List.length_cons, List.length_nil]; omega)) ?_
  intro v118 a118 w118 F118 M118
  clear F117 M117
  obtain ⟨A118, c118, rfl⟩ := (M118.isO (k := 3) rfl).shape
  refine rm rfl F118 fun a119 F119 => ?_
  refine rm rfl F119 fun a120 F120 => ?_
  refine hK115 _ _ (wp_ret ?_)
  try simp only [Exit.then, Exit.inBlock, Exit.jump]
  exact bodyPost_ret (res2 rfl (F120.get (t := 2) rfl) (F120.get (t := 3) rfl)) F120.defers ⟨_, (by rw [(show keepB r = true from by rw [← keepR_is]; unfold keepR; simp [hN, hA, hB, h8, h16, h31, h40, h60, h68, h76, h84])]), (by rw [show recE r = recL r from if_pos (show keepB r = true from by rw [← keepR_is]; unfold keepR; simp [hN, hA, hB, h8, h16, h31, h40, h60, h68, h76, h84]), recL_ref]; exact M118.byt (k := 3) rfl), M118.below⟩
end Go.Proofs.Ytlbkogdmojlpmaa
namespace Go.Proofs.Ytlbkogdmojlpmaa
set_option linter.unusedVariables false
set_option maxRecDepth 20000
set_option linter.unusedSimpArgs false
open Go.ChangeShapes Go.WideShapes Go.ChangeAt Go.RowKit
theorem tkV_big {n : Nat} {l : List UInt8} (h : l.length < n) : tkV n l = List.replicate n 0 := if_pos h
theorem tkV_ok {n : Nat} {l : List UInt8} (h : ¬ l.length < n) : tkV n l = l.take n := if_neg h
theorem tkR_big {n : Nat} {l : List UInt8} (h : l.length < n) : tkR n l = [] := if_pos h
theorem tkR_ok {n : Nat} {l : List UInt8} (h : ¬ l.length < n) : tkR n l = l.drop n := if_neg h
theorem few_big {f : Bool} {n : Nat} {l : List UInt8} (h : l.length < n) : fewB f n l = true := by unfold fewB; rw [decide_eq_true h]; simp
theorem few_ok {f : Bool} {n : Nat} {l : List UInt8} (h : ¬ l.length < n) : fewB f n l = f := by unfold fewB; rw [decide_eq_false h]; simp
set_option maxRecDepth 100000 in
set_option maxHeartbeats 4000000 in
theorem rtake_any (g : Nat) (l : List UInt8) (u : Value) (f : Bool) (n : Nat) (hl : l.length ≤ 100000) (hn : n ≤ 1000) (w : World) (hg : w.heap[g]? = some (.cells #[u, .bool f] 104 (0, 0))) (hu : IsB w l u) (hd : ¬ bfp u g) :
    Calls Try.prog 71 #[.pointer (some ⟨g, 0, none⟩), .int .i64 (n : Int)] w fun e w' => ∃ v, e = .returned v ∧ ∃ u', Byt w' w.heap.size v (tkV n l) ∧ IsB w' (tkR n l) u' ∧ (∀ b, bfp u' b → bfp u b) ∧ w'.heap[g]? = some (.cells #[u', .bool (fewB f n l)] 104 (0, 0)) ∧ w.grownBy w' (some g) := by
  by_cases hlt : l.length < n
  · refine calls_fx (args := [.pointer (some ⟨g, 0, none⟩), .int .i64 (n : Int)]) 39 Try.func71 rfl rfl rfl ?_
    intro fa F
    have M := Mx.theG hg 0
    replace M := M.argB 1 hu (fun b e => by cases e; exact hd)
    refine wp_seq_k fun K1 hK1 => wp_region_lit ?_
    refine rm rfl F fun a2 F2 => ?_
    refine hK1 _ _ (wp_seq_k fun K3 hK3 => ?_)
    refine wp_seq_k fun K4 hK4 => wp_region_lit ?_
    refine exS 5 [(0, .pointer (some ⟨g, 0, none⟩)), (1, .int .i64 (n : Int)), (4, .slice none 0 0), (6, .int .i64 (n : Int)), (10, u)] [0] (dcons (M.blk (k := 0) rfl) dnil) [g] F2 (by kernel_rfl) fun a5 F5 => ?_
    simp only [List.drop_succ_cons, List.drop_zero]
    refine rn rfl rfl F5 rfl (.int .i64 (l.length : Int)) (y_len _ rfl (F5.get rfl) (M.isb (k := 1) rfl) rfl) fun a6 F6 => ?_
    refine rn rfl rfl F6 rfl (.bool true) (y_gtr _ _ _ _ rfl (F6.get rfl) (F6.get rfl) (decide_eq_true (by omega))) fun a7 F7 => ?_
    refine hK4 _ _ (wp_cond_true (F7.get (t := 12) rfl) ?_)
    refine wp_seq_k fun K8 hK8 => wp_region_lit ?_
    refine exS 4 [(0, .pointer (some ⟨g, 0, none⟩)), (1, .int .i64 (n : Int)), (4, .slice none 0 0), (14, .pointer (some ⟨g, 0, none⟩)), (16, .pointer (some ⟨g, 1, none⟩))] [] dnil [] F7 (by kernel_rfl) fun a9 F9 => ?_
    simp only [List.drop_succ_cons, List.drop_zero]
    refine wl_st (wanted_none rfl) rfl F9 M (k := 0) rfl _ _ _ rfl (F9.get rfl) rfl (#[.bool true]) (#[u, .bool true]) rfl (Nat.le_of_ble_eq_true rfl) (by simp [Value.oneCell']) (by kernel_rfl) (by kernel_rfl) ?_
    intro w10 M10
    clear M
    refine exS 2 [(0, .pointer (some ⟨g, 0, none⟩)), (1, .int .i64 (n : Int)), (4, .slice none 0 0), (18, .pointer (some ⟨g, 0, none⟩))] [] dnil [] F9 (by kernel_rfl) fun a11 F11 => ?_
    simp only [List.drop_succ_cons, List.drop_zero]
    refine wl_st (wanted_none rfl) rfl F11 M10 (k := 0) rfl _ _ _ rfl (F11.get rfl) rfl (#[.slice none 0 0]) (#[.slice none 0 0, .bool true]) rfl (Nat.le_of_ble_eq_true rfl) (one_slc rfl) (by kernel_rfl) (by kernel_rfl) ?_
    intro w12 M12
    clear M10
    refine hK8 _ _ (wp_seq_k fun K13 hK13 => ?_)
    refine wp_region_lit ?_
    refine rm rfl F11 fun a14 F14 => ?_
    refine wl_runM (wanted_none rfl) rfl F14 rfl (run_makeO M12 2 _ _ rfl n (F14.get rfl) (F14.get rfl) rfl hn) ?_
    intro v15 a15 w15 F15 M15
    clear F14 M12
    obtain ⟨A15, c15, rfl⟩ := (M15.isO (k := 2) rfl).shape
    refine rm rfl F15 fun a16 F16 => ?_
    refine hK13 _ _ (wp_ret ?_)
    try simp only [Exit.then, Exit.inBlock, Exit.jump]
    exact bodyPost_ret (res1 rfl (F16.get (t := 4) rfl)) F16.defers ⟨_, rfl, .slice none 0 0, (by rw [tkV_big hlt]; exact M15.bytG (k := 2) rfl (fun b e e2 => M15.dis 2 0 _ _ rfl rfl (by decide) rfl b e2 (by injection e with e; exact e.symm))), (by rw [tkR_big hlt]; exact isb_nil _), (fun b h => (bfp_nil b h).elim), (by rw [few_big hlt]; exact M15.blk (k := 0) rfl), M15.grown⟩
  refine calls_fx (args := [.pointer (some ⟨g, 0, none⟩), .int .i64 (n : Int)]) 39 Try.func71 rfl rfl rfl ?_
  intro fa F
  have M := Mx.theG hg 0
  replace M := M.argB 1 hu (fun b e => by cases e; exact hd)
  refine wp_seq_k fun K1 hK1 => wp_region_lit ?_
  refine rm rfl F fun a2 F2 => ?_
  refine hK1 _ _ (wp_seq_k fun K3 hK3 => ?_)
  refine wp_seq_k fun K4 hK4 => wp_region_lit ?_
  refine exS 5 [(0, .pointer (some ⟨g, 0, none⟩)), (1, .int .i64 (n : Int)), (4, .slice none 0 0), (6, .int .i64 (n : Int)), (10, u)] [0] (dcons (M.blk (k := 0) rfl) dnil) [g] F2 (by kernel_rfl) fun a5 F5 => ?_
  simp only [List.drop_succ_cons, List.drop_zero]
  refine rn rfl rfl F5 rfl (.int .i64 (l.length : Int)) (y_len _ rfl (F5.get rfl) (M.isb (k := 1) rfl) rfl) fun a6 F6 => ?_
  refine rn rfl rfl F6 rfl (.bool false) (y_gtr _ _ _ _ rfl (F6.get rfl) (F6.get rfl) (decide_eq_false (by omega))) fun a7 F7 => ?_
  refine hK4 _ _ (wp_cond_false (F7.get (t := 12) rfl) ?_)
  refine wp_skip ?_
  refine hK3 _ _ (wp_seq_k fun K8 hK8 => ?_)
  refine wp_region_lit ?_
  refine wl_runM (wanted_none rfl) rfl F7 rfl (run_lit0 M 2 rfl) ?_
  intro v9 a9 w9 F9 M9
  clear F7 M
  obtain ⟨A9, c9, rfl⟩ := (M9.isO (k := 2) rfl).shape
  refine exS 5 [(0, .pointer (some ⟨g, 0, none⟩)), (1, .int .i64 (n : Int)), (4, .slice none 0 0), (21, .slice A9 (([] : List UInt8)).length c9), (25, u), (26, .int .i64 (n : Int))] [0] (dcons (M9.blk (k := 0) rfl) dnil) [g] F9 (by kernel_rfl) fun a10 F10 => ?_
  simp only [List.drop_succ_cons, List.drop_zero]
  refine wl_runE (wanted_none rfl) rfl F10 rfl (y_slTo _ _ rfl (F10.get rfl) (M9.isb (k := 1) rfl) (F10.get rfl) (j := n) rfl (by omega)) ?_
  intro v11 a11 h11 F11
  have M11 := M9.partB 3 (k := 1) rfl h11.1 h11.2
  clear M9
  obtain ⟨A11, c11, rfl⟩ := (M11.isb (k := 3) rfl).shape
  refine wl_runM (wanted_none rfl) rfl F11 rfl (run_app M11 (k := 2) rfl _ _ rfl (F11.get rfl) (F11.get rfl) (M11.isb (k := 3) rfl) (by simp only [List.length_nil, List.length_take]; omega)) ?_
  intro v12 a12 w12 F12 M12
  clear F11 M11
  obtain ⟨A12, c12, rfl⟩ := (M12.isO (k := 2) rfl).shape
  refine rm rfl F12 fun a13 F13 => ?_
  refine hK8 _ _ (wp_seq_k fun K14 hK14 => ?_)
  refine wp_region_lit ?_
  refine exS 6 [(4, .slice none 0 0), (5, .slice A12 (([] ++ (l.take n))).length c12), (29, .pointer (some ⟨g, 0, none⟩)), (33, u), (34, .int .i64 (n : Int))] [0] (dcons (M12.blk (k := 0) rfl) dnil) [g] F13 (by kernel_rfl) fun a15 F15 => ?_
  simp only [List.drop_succ_cons, List.drop_zero]
  refine wl_runE (wanted_none rfl) rfl F15 rfl (y_slFrom _ _ rfl (F15.get rfl) (M12.isb (k := 1) rfl) (F15.get rfl) (i := n) rfl (by omega)) ?_
  intro v16 a16 h16 F16
  have M16 := M12.partB 4 (k := 1) rfl h16.1 h16.2
  clear M12
  obtain ⟨A16, c16, rfl⟩ := (M16.isb (k := 4) rfl).shape
  refine exA 2 [(36, .pointer (some ⟨g, 0, none⟩)), (37, .pointer (some ⟨g, 0, none⟩))] [] dnil [] F16 (by kernel_rfl) (by kernel_rfl) fun a17 F17 => ?_
  simp only [List.drop_succ_cons, List.drop_zero]
  refine wl_st (wanted_none rfl) rfl F17 M16 (k := 0) rfl _ _ _ rfl (F17.get rfl) (F17.get rfl) (#[.slice A16 ((l.drop n)).length c16]) (#[.slice A16 ((l.drop n)).length c16, .bool f]) rfl (Nat.le_of_ble_eq_true rfl) (one_slc rfl) (by kernel_rfl) (by kernel_rfl) ?_
  intro w18 M18
  clear M16
  refine hK14 _ _ (wp_seq_k fun K19 hK19 => ?_)
  refine wp_region_lit ?_
  refine rm rfl F17 fun a20 F20 => ?_
  refine rm rfl F20 fun a21 F21 => ?_
  refine hK19 _ _ (wp_ret ?_)
  try simp only [Exit.then, Exit.inBlock, Exit.jump]
  exact bodyPost_ret (res1 rfl (F21.get (t := 4) rfl)) F21.defers ⟨_, rfl, (.slice A16 ((l.drop n)).length c16), (by rw [tkV_ok hlt]; have h := M18.bytG (k := 2) rfl (fun b e e2 => M18.dis 2 0 _ _ rfl rfl (by decide) rfl b e2 (by injection e with e; exact e.symm)); rwa [List.nil_append] at h), (by rw [tkR_ok hlt]; exact M18.isb (k := 4) rfl), h16.2, (by rw [few_ok hlt]; exact M18.blk (k := 0) rfl), M18.grown⟩
end Go.Proofs.Ytlbkogdmojlpmaa
