/- What WireRecords stands on, part 14. -/
import Derived.Test.YtlbkogdmojlpmaaWireRecordsP1
import Derived.Test.YtlbkogdmojlpmaaWireRecordsP2
import Derived.Test.YtlbkogdmojlpmaaWireRecordsP3
import Derived.Test.YtlbkogdmojlpmaaWireRecordsP4
import Derived.Test.YtlbkogdmojlpmaaWireRecordsP5
import Derived.Test.YtlbkogdmojlpmaaWireRecordsP6
import Derived.Test.YtlbkogdmojlpmaaWireRecordsP7
import Derived.Test.YtlbkogdmojlpmaaWireRecordsP8
import Derived.Test.YtlbkogdmojlpmaaWireRecordsP9
import Derived.Test.YtlbkogdmojlpmaaWireRecordsP10
import Derived.Test.YtlbkogdmojlpmaaWireRecordsP11
import Derived.Test.YtlbkogdmojlpmaaWireRecordsP12
import Derived.Test.YtlbkogdmojlpmaaWireRecordsP13
namespace Go.Proofs.Ytlbkogdmojlpmaa
set_option linter.unusedVariables false
set_option maxRecDepth 20000
set_option linter.unusedSimpArgs false
open Go.ChangeShapes Go.WideShapes Go.ChangeAt Go.RowKit
theorem u8_wf {a : Int} (h : (Lit.int .u8 a).wf = true) : 0 ≤ a ∧ a < 256 := by
  have := bounds_u8 h
  omega
theorem eitherR_in {R : List (Nat × Res)} {i : Nat} {c : Bool} {r s : Res} (hc : c = true) (h : look R i = some r) : look R i = some (eitherR c r s) := by subst hc; exact h
theorem u8_ex {a : Int} (h : 0 ≤ a) (h2 : a < 256) : ∃ c : UInt8, a = ((c.toNat : Nat) : Int) := ⟨byteI a, by have := byteI_val a; omega⟩
theorem y_addU8 {a : Act} {w : World} {o : Oper} (ty tz : TypeId) (x y : Operand) {p q : Int} (ho : o.op = .binOp .add ty x y tz) (hx : a.eval x = .int .u8 p) (hy : a.eval y = .int .u8 q) : (execOp a.eval o).run Try.prog w = .ok (.value (.int .u8 (((byteI (p + q)).toNat : Nat) : Int))) w := by
  unfold execOp; simp only [ho, hx, hy]; simp [go_sem, byteI_wrap]
theorem in_ex (a : Int) {n : Nat} (h : 0 < n) : ∃ j : Nat, a % (n : Int) = (j : Int) ∧ j < n := by
  have h1 := Int.emod_nonneg a (show (n : Int) ≠ 0 by omega)
  have h2 := Int.emod_lt_of_pos a (show (0 : Int) < n by omega)
  exact ⟨(a % (n : Int)).toNat, by omega, by omega⟩
theorem recL_len {r : RecN} (h : keepB r = true) : (recL r).length ≤ 200 ∧ 0 < (recL r).length := by
  obtain ⟨h1, h2, h3⟩ := keep_len h
  rw [recL_is]
  have ha : (fourL r.a).length = 4 := fourL_len _
  have hb : (fourL r.b).length = 4 := fourL_len _
  have hc : (eightI r.c).length = 8 := eightI_len _
  have hd : (eightI r.z).length = 8 := eightI_len _
  simp only [List.length_cons, List.length_append]
  omega
theorem recE_len (r : RecN) : (recE r).length ≤ 200 := by
  unfold recE
  split
  · rename_i h; exact (recL_len h).1
  · simp
theorem recE_pos {r : RecN} (h : keepB r = true) : 0 < (recE r).length := by
  unfold recE
  rw [if_pos h]; exact (recL_len h).2
set_option maxRecDepth 100000 in
set_option maxHeartbeats 8000000 in
theorem WireRecords_walk (a0 : Int) (hk0 : -9223372036854775808 ≤ a0) (hl0 : a0 < 9223372036854775808)
    (a1 : ByteArray) (hS1 : a1.size ≤ maxLen)
    (A2 : Option Addr) (n2 cap2 : Nat) (l2 : List UInt8) (hn2 : l2.length = n2) (hc2 : n2 ≤ cap2) (hm2 : cap2 ≤ maxLen) (hz2 : A2 = none → cap2 = 0)
    (a3 : Int) (hk3 : -9223372036854775808 ≤ a3) (hl3 : a3 < 9223372036854775808)
    (a4 : Int) (hk4 : 0 ≤ a4) (hl4 : a4 < 256)
    (a5 : Int) (hk5 : -9223372036854775808 ≤ a5) (hl5 : a5 < 9223372036854775808)
    (A6 : Option Addr) (n6 cap6 : Nat) (l6 : List UInt8) (hn6 : l6.length = n6) (hc6 : n6 ≤ cap6) (hm6 : cap6 ≤ maxLen) (hz6 : A6 = none → cap6 = 0) (w : World) (hr2 : Rd w A2 l2) (hr6 : Rd w A6 l6) :
    Calls Try.prog 7 #[.int .i64 a0, .string a1, .slice A2 n2 cap2, .int .i64 a3, .int .u8 a4, .int .i64 a5, .slice A6 n6 cap6] w fun e w' => e = .returned (.bool true) ∧ Below w.heap.size w w' := by
  have ib2 : IsB w l2 (.slice A2 n2 cap2) := hr2.isB' hn2 hc2 hm2 hz2
  obtain ⟨c4, rfl⟩ := u8_ex hk4 hl4
  have ib6 : IsB w l6 (.slice A6 n6 cap6) := hr6.isB' hn6 hc6 hm6 hz6
  by_cases b0 : 40 < a1.size
  · refine calls_fx (args := [.int .i64 a0, .string a1, .slice A2 n2 cap2, .int .i64 a3, .int .u8 ((c4.toNat : Nat) : Int), .int .i64 a5, .slice A6 n6 cap6]) 146 Try.func7 rfl rfl rfl ?_
    intro fa F
    have M := Mx.start w
    replace M := M.argB 0 ib2 (fun g e => by cases e)
    replace M := M.argB 1 ib6 (fun g e => by cases e)
    refine wp_seq_k fun K21 hK21 => wp_region_lit ?_
    refine rm rfl F fun a22 F22 => ?_
    refine hK21 _ _ (wp_seq_k fun K23 hK23 => ?_)
    refine wp_seq_k fun K24 hK24 => wp_region_lit ?_
    refine wl_call (wanted_none rfl) rfl F22 rfl rfl (enters_of Try.func15 (by kernel_rfl) rfl) #[] (args0) (call_ex (lknown_any w)) ?_
    rintro _ w25 a25 ⟨rfl, b25⟩ F25
    have M25 := M.step b25
    refine rn rfl rfl F25 rfl (.bool false) (run_not _ _ rfl (F25.get (t := 29) rfl)) fun a26 F26 => ?_
    refine hK24 _ _ (wp_cond_false (F26.get (t := 30) rfl) ?_)
    refine wp_skip ?_
    refine hK23 _ _ (wp_seq_k fun K27 hK27 => ?_)
    refine wp_seq_k fun K28 hK28 => wp_region_lit ?_
    refine rm rfl F26 fun a29 F29 => ?_
    refine rn rfl rfl F29 rfl (.int .i64 (a1.size : Int)) (y_lenS _ rfl (F29.get rfl) rfl) fun a30 F30 => ?_
    refine rn rfl rfl F30 rfl (.bool true) (y_gtr _ _ _ _ rfl (F30.get rfl) rfl (decide_eq_true (show (40 : Int) < (a1.size : Int) by omega))) fun a31 F31 => ?_
    refine exS 10 [(0, .int .i64 a0), (1, .string a1), (2, .slice A2 n2 cap2), (3, .int .i64 a3), (4, .int .u8 ((c4.toNat : Nat) : Int)), (5, .int .i64 a5), (6, .slice A6 n6 cap6), (14, .bool false), (43, .bool true)] [] dnil [] F31 (by kernel_rfl) fun a32 F32 => ?_
    simp only [List.drop_succ_cons, List.drop_zero]
    refine hK28 _ _ (wp_cond_true (F32.get (t := 43) rfl) ?_)
    refine wp_seq_k fun K33 hK33 => wp_region_lit ?_
    refine rm rfl F32 fun a34 F34 => ?_
    refine hK33 _ _ (wp_ret ?_)
    try simp only [Exit.then, Exit.inBlock, Exit.jump]
    exact bodyPost_ret (res1 rfl (F34.get (t := 14) rfl)) F34.defers ⟨rfl, M25.below⟩
  by_cases b1 : 100 < l2.length
  · refine calls_fx (args := [.int .i64 a0, .string a1, .slice A2 n2 cap2, .int .i64 a3, .int .u8 ((c4.toNat : Nat) : Int), .int .i64 a5, .slice A6 n6 cap6]) 146 Try.func7 rfl rfl rfl ?_
    intro fa F
    have M := Mx.start w
    replace M := M.argB 0 ib2 (fun g e => by cases e)
    replace M := M.argB 1 ib6 (fun g e => by cases e)
    refine wp_seq_k fun K21 hK21 => wp_region_lit ?_
    refine rm rfl F fun a22 F22 => ?_
    refine hK21 _ _ (wp_seq_k fun K23 hK23 => ?_)
    refine wp_seq_k fun K24 hK24 => wp_region_lit ?_
    refine wl_call (wanted_none rfl) rfl F22 rfl rfl (enters_of Try.func15 (by kernel_rfl) rfl) #[] (args0) (call_ex (lknown_any w)) ?_
    rintro _ w25 a25 ⟨rfl, b25⟩ F25
    have M25 := M.step b25
    refine rn rfl rfl F25 rfl (.bool false) (run_not _ _ rfl (F25.get (t := 29) rfl)) fun a26 F26 => ?_
    refine hK24 _ _ (wp_cond_false (F26.get (t := 30) rfl) ?_)
    refine wp_skip ?_
    refine hK23 _ _ (wp_seq_k fun K27 hK27 => ?_)
    refine wp_seq_k fun K28 hK28 => wp_region_lit ?_
    refine rm rfl F26 fun a29 F29 => ?_
    refine rn rfl rfl F29 rfl (.int .i64 (a1.size : Int)) (y_lenS _ rfl (F29.get rfl) rfl) fun a30 F30 => ?_
    refine rn rfl rfl F30 rfl (.bool false) (y_gtr _ _ _ _ rfl (F30.get rfl) rfl (decide_eq_false (show ¬ (40 : Int) < (a1.size : Int) by omega))) fun a31 F31 => ?_
    refine rm rfl F31 fun a32 F32 => ?_
    refine rm rfl F32 fun a33 F33 => ?_
    refine wl_run (w' := w25) (wanted_yes rfl rfl rfl (F33.get rfl)) rfl F33 rfl (.int .i64 (l2.length : Int)) (y_len _ rfl (F33.get rfl) (M25.isb (k := 0) rfl) rfl) fun a34 F34 => ?_
    refine wl_run (w' := w25) (wanted_yes rfl rfl rfl (F34.get rfl)) rfl F34 rfl (.bool true) (y_gtr _ _ _ _ rfl (F34.get rfl) rfl (decide_eq_true (show (100 : Int) < (l2.length : Int) by omega))) fun a35 F35 => ?_
    refine exA 6 [(38, .bool true), (39, .bool true), (40, undef), (41, undef), (42, undef), (43, .bool true)] [] dnil [] F35 (by kernel_rfl) (by kernel_rfl) fun a36 F36 => ?_
    simp only [List.drop_succ_cons, List.drop_zero]
    refine hK28 _ _ (wp_cond_true (F36.get (t := 43) rfl) ?_)
    refine wp_seq_k fun K37 hK37 => wp_region_lit ?_
    refine rm rfl F36 fun a38 F38 => ?_
    refine hK37 _ _ (wp_ret ?_)
    try simp only [Exit.then, Exit.inBlock, Exit.jump]
    exact bodyPost_ret (res1 rfl (F38.get (t := 14) rfl)) F38.defers ⟨rfl, M25.below⟩
  by_cases b2 : 200 < l6.length
  · refine calls_fx (args := [.int .i64 a0, .string a1, .slice A2 n2 cap2, .int .i64 a3, .int .u8 ((c4.toNat : Nat) : Int), .int .i64 a5, .slice A6 n6 cap6]) 146 Try.func7 rfl rfl rfl ?_
    intro fa F
    have M := Mx.start w
    replace M := M.argB 0 ib2 (fun g e => by cases e)
    replace M := M.argB 1 ib6 (fun g e => by cases e)
    refine wp_seq_k fun K21 hK21 => wp_region_lit ?_
    refine rm rfl F fun a22 F22 => ?_
    refine hK21 _ _ (wp_seq_k fun K23 hK23 => ?_)
    refine wp_seq_k fun K24 hK24 => wp_region_lit ?_
    refine wl_call (wanted_none rfl) rfl F22 rfl rfl (enters_of Try.func15 (by kernel_rfl) rfl) #[] (args0) (call_ex (lknown_any w)) ?_
    rintro _ w25 a25 ⟨rfl, b25⟩ F25
    have M25 := M.step b25
    refine rn rfl rfl F25 rfl (.bool false) (run_not _ _ rfl (F25.get (t := 29) rfl)) fun a26 F26 => ?_
    refine hK24 _ _ (wp_cond_false (F26.get (t := 30) rfl) ?_)
    refine wp_skip ?_
    refine hK23 _ _ (wp_seq_k fun K27 hK27 => ?_)
    refine wp_seq_k fun K28 hK28 => wp_region_lit ?_
    refine rm rfl F26 fun a29 F29 => ?_
    refine rn rfl rfl F29 rfl (.int .i64 (a1.size : Int)) (y_lenS _ rfl (F29.get rfl) rfl) fun a30 F30 => ?_
    refine rn rfl rfl F30 rfl (.bool false) (y_gtr _ _ _ _ rfl (F30.get rfl) rfl (decide_eq_false (show ¬ (40 : Int) < (a1.size : Int) by omega))) fun a31 F31 => ?_
    refine rm rfl F31 fun a32 F32 => ?_
    refine rm rfl F32 fun a33 F33 => ?_
    refine wl_run (w' := w25) (wanted_yes rfl rfl rfl (F33.get rfl)) rfl F33 rfl (.int .i64 (l2.length : Int)) (y_len _ rfl (F33.get rfl) (M25.isb (k := 0) rfl) rfl) fun a34 F34 => ?_
    refine wl_run (w' := w25) (wanted_yes rfl rfl rfl (F34.get rfl)) rfl F34 rfl (.bool false) (y_gtr _ _ _ _ rfl (F34.get rfl) rfl (decide_eq_false (show ¬ (100 : Int) < (l2.length : Int) by omega))) fun a35 F35 => ?_
    refine exA 3 [(38, .bool false), (39, .bool false), (40, .slice A6 n6 cap6)] [] dnil [] F35 (by kernel_rfl) (by kernel_rfl) fun a36 F36 => ?_
    simp only [List.drop_succ_cons, List.drop_zero]
    refine wl_run (w' := w25) (wanted_yes rfl rfl rfl (F36.get rfl)) rfl F36 rfl (.int .i64 (l6.length : Int)) (y_len _ rfl (F36.get rfl) (M25.isb (k := 1) rfl) rfl) fun a37 F37 => ?_
    refine wl_run (w' := w25) (wanted_yes rfl rfl rfl (F37.get rfl)) rfl F37 rfl (.bool true) (y_gtr _ _ _ _ rfl (F37.get rfl) rfl (decide_eq_true (show (200 : Int) < (l6.length : Int) by omega))) fun a38 F38 => ?_
    refine rn rfl rfl F38 rfl (.bool true) (run_pick_f rfl (F38.get rfl) (F38.get rfl)) fun a39 F39 => ?_
    refine hK28 _ _ (wp_cond_true (F39.get (t := 43) rfl) ?_)
    refine wp_seq_k fun K40 hK40 => wp_region_lit ?_
    refine rm rfl F39 fun a41 F41 => ?_
    refine hK40 _ _ (wp_ret ?_)
    try simp only [Exit.then, Exit.inBlock, Exit.jump]
    exact bodyPost_ret (res1 rfl (F41.get (t := 14) rfl)) F41.defers ⟨rfl, M25.below⟩
  have hs : a1.size ≤ 40 := by omega
  obtain ⟨r, er⟩ : ∃ x, mkR a0 a1 l2 = x := ⟨_, rfl⟩
  have or := mkR_ok a0 a1 l2
  have pr := mkR_keep a0 a1 l2
  rw [er] at or pr
  obtain ⟨xr, hr2⟩ : ∃ x, recE r = x := ⟨_, rfl⟩
  have hxl : xr.length ≤ 200 := by rw [← hr2]; exact recE_len r
  have hx0 : 0 < xr.length := by rw [← hr2]; exact recE_pos pr
  obtain ⟨y1, y2⟩ := rd_rec or pr
  rw [hr2] at y1 y2
  obtain ⟨j, hj, hjl⟩ : ∃ j : Nat, a3 % (xr.length : Int) = (j : Int) ∧ j < xr.length := in_ex a3 hx0
  obtain ⟨k, hkk, hkl⟩ : ∃ k : Nat, a5 % ((xr.length : Int) + 1) = (k : Int) ∧ k < xr.length + 1 := by exact in_ex a5 (Nat.succ_pos _)
  obtain ⟨bz, hbz⟩ : ∃ b, xr[j]? = some b := ⟨_, List.getElem?_eq_getElem hjl⟩
  refine calls_fx (args := [.int .i64 a0, .string a1, .slice A2 n2 cap2, .int .i64 a3, .int .u8 ((c4.toNat : Nat) : Int), .int .i64 a5, .slice A6 n6 cap6]) 146 Try.func7 rfl rfl rfl ?_
  intro fa F
  have M := Mx.start w
  replace M := M.argB 0 ib2 (fun g e => by cases e)
  replace M := M.argB 1 ib6 (fun g e => by cases e)
  refine wp_seq_k fun K21 hK21 => wp_region_lit ?_
  refine rm rfl F fun a22 F22 => ?_
  refine hK21 _ _ (wp_seq_k fun K23 hK23 => ?_)
  refine wp_seq_k fun K24 hK24 => wp_region_lit ?_
  refine wl_call (wanted_none rfl) rfl F22 rfl rfl (enters_of Try.func15 (by kernel_rfl) rfl) #[] (args0) (call_ex (lknown_any w)) ?_
  rintro _ w25 a25 ⟨rfl, b25⟩ F25
  have M25 := M.step b25
  refine rn rfl rfl F25 rfl (.bool false) (run_not _ _ rfl (F25.get (t := 29) rfl)) fun a26 F26 => ?_
  refine hK24 _ _ (wp_cond_false (F26.get (t := 30) rfl) ?_)
  refine wp_skip ?_
  refine hK23 _ _ (wp_seq_k fun K27 hK27 => ?_)
  refine wp_seq_k fun K28 hK28 => wp_region_lit ?_
  refine rm rfl F26 fun a29 F29 => ?_
  refine rn rfl rfl F29 rfl (.int .i64 (a1.size : Int)) (y_lenS _ rfl (F29.get rfl) rfl) fun a30 F30 => ?_
  refine rn rfl rfl F30 rfl (.bool false) (y_gtr _ _ _ _ rfl (F30.get rfl) rfl (decide_eq_false (show ¬ (40 : Int) < (a1.size : Int) by omega))) fun a31 F31 => ?_
  refine rm rfl F31 fun a32 F32 => ?_
  refine rm rfl F32 fun a33 F33 => ?_
  refine wl_run (w' := w25) (wanted_yes rfl rfl rfl (F33.get rfl)) rfl F33 rfl (.int .i64 (l2.length : Int)) (y_len _ rfl (F33.get rfl) (M25.isb (k := 0) rfl) rfl) fun a34 F34 => ?_
  refine wl_run (w' := w25) (wanted_yes rfl rfl rfl (F34.get rfl)) rfl F34 rfl (.bool false) (y_gtr _ _ _ _ rfl (F34.get rfl) rfl (decide_eq_false (show ¬ (100 : Int) < (l2.length : Int) by omega))) fun a35 F35 => ?_
  refine exA 3 [(38, .bool false), (39, .bool false), (40, .slice A6 n6 cap6)] [] dnil [] F35 (by kernel_rfl) (by kernel_rfl) fun a36 F36 => ?_
  simp only [List.drop_succ_cons, List.drop_zero]
  refine wl_run (w' := w25) (wanted_yes rfl rfl rfl (F36.get rfl)) rfl F36 rfl (.int .i64 (l6.length : Int)) (y_len _ rfl (F36.get rfl) (M25.isb (k := 1) rfl) rfl) fun a37 F37 => ?_
  refine wl_run (w' := w25) (wanted_yes rfl rfl rfl (F37.get rfl)) rfl F37 rfl (.bool false) (y_gtr _ _ _ _ rfl (F37.get rfl) rfl (decide_eq_false (show ¬ (200 : Int) < (l6.length : Int) by omega))) fun a38 F38 => ?_
  refine rn rfl rfl F38 rfl (.bool false) (run_pick_f rfl (F38.get rfl) (F38.get rfl)) fun a39 F39 => ?_
  refine hK28 _ _ (wp_cond_false (F39.get (t := 43) rfl) ?_)
  refine wp_skip ?_
  refine hK27 _ _ (wp_seq_k fun K40 hK40 => ?_)
  refine wp_region_lit ?_
  refine rm rfl F39 fun a41 F41 => ?_
  refine rm rfl F41 fun a42 F42 => ?_
  refine rm rfl F42 fun a43 F43 => ?_
  refine wl_call (wanted_none rfl) rfl F43 rfl rfl (enters_of Try.func34 (by kernel_rfl) rfl) #[.int .i64 a0, .string a1, .slice A2 n2 cap2] (args3 (F43.get rfl) (F43.get rfl) (F43.get rfl)) (maker_is a0 a1 l2 (.slice A2 n2 cap2) ⟨hk0, hl0⟩ hs (by omega) r er w25 (M25.isb (k := 0) rfl)) ?_
  rintro _ w44 a44 ⟨V44, rfl, is44, lo44, b44⟩ F44
  have M44 := M25.newRec b44 is44 lo44 2 3
  clear M25 b44 lo44
  refine wl_alloc (wanted_none rfl) rfl F44 rfl M44 4 (t := 54) (c := recA ⟨0, "".toUTF8, [], 0, 0, [], 0, 0, 0⟩ ⟨.slice none 0 0, .slice none 0 0⟩) (by unfold execOp; kernel_rfl) ?_
  intro g45 a45 w45 F45 M45
  clear F44 M44
  refine wl_st (wanted_none rfl) rfl F45 M45 (k := 4) rfl _ _ _ rfl (F45.get rfl) (F45.get rfl) (recA r V44) (recA r V44) rfl (Nat.le_of_ble_eq_true rfl) (recA_one (w := w45) ⟨(M45.isb (k := 2) rfl), (M45.isb (k := 3) rfl)⟩) (y_put0 rfl) (by kernel_rfl) ?_
  intro w46 M46
  clear M45
  refine hK40 _ _ (wp_seq_k fun K47 hK47 => ?_)
  refine wp_region_lit ?_
  refine rn rfl rfl F45 rfl (.agg (recA r V44)) (y_ldN _ _ rfl (F45.get rfl) (M46.blk (k := 4) rfl) (recA r V44) (y_all rfl) Try.underlying54 rfl (by kernel_rfl)) fun a48 F48 => ?_
  refine wl_call (wanted_none rfl) rfl F48 rfl rfl (enters_of Try.func35 (by kernel_rfl) rfl) #[.agg (recA r V44)] (args1 (F48.get rfl)) (rec_is r V44 or true xr pr hr2 w46 ⟨(M46.isb (k := 2) rfl), (M46.isb (k := 3) rfl)⟩) ?_
  rintro _ w49 a49 ⟨v49, rfl, hv49, b49⟩ F49
  have M49 := M46.newO b49 5 hv49
  clear M46 b49 hv49
  obtain ⟨A49, c49, rfl⟩ := (M49.isO (k := 5) rfl).shape
  refine exS 5 [(3, .int .i64 a3), (4, .int .u8 ((c4.toNat : Nat) : Int)), (5, .int .i64 a5), (6, .slice A6 n6 cap6), (14, .bool false), (15, .pointer (some ⟨g45, 0, none⟩)), (16, .slice A49 (xr).length c49), (17, .bool true)] [] dnil [] F49 (by kernel_rfl) fun a50 F50 => ?_
  simp only [List.drop_succ_cons, List.drop_zero]
  refine hK47 _ _ (wp_seq_k fun K51 hK51 => ?_)
  refine wp_region_lit ?_
  refine rn rfl rfl F50 rfl (.agg (recA r V44)) (y_ldN _ _ rfl (F50.get rfl) (M49.blk (k := 4) rfl) (recA r V44) (y_all rfl) Try.underlying54 rfl (by kernel_rfl)) fun a52 F52 => ?_
  refine wl_call (wanted_none rfl) rfl F52 rfl rfl (enters_of Try.func36 (by kernel_rfl) rfl) #[.agg (recA r V44)] (args1 (F52.get rfl)) (rrec_is r V44 or true xr pr hr2 w49 ⟨(M49.isb (k := 2) rfl), (M49.isb (k := 3) rfl)⟩) ?_
  rintro _ w53 a53 ⟨v53, rfl, hv53, b53⟩ F53
  have M53 := M49.newO b53 6 hv53
  clear M49 b53 hv53
  obtain ⟨A53, c53, rfl⟩ := (M53.isO (k := 6) rfl).shape
  refine exA 5 [(53, .tuple #[.slice A53 (xr).length c53, .bool true]), (56, .slice A53 (xr).length c53), (57, .bool true), (18, .slice A53 (xr).length c53), (19, .bool true)] [] dnil [] F53 (by kernel_rfl) (by kernel_rfl) fun a54 F54 => ?_
  simp only [List.drop_succ_cons, List.drop_zero]
  refine hK51 _ _ (wp_seq_k fun K55 hK55 => ?_)
  refine wp_region_lit ?_
  refine rm rfl F54 fun a56 F56 => ?_
  refine wl_call (wanted_none rfl) rfl F56 rfl rfl (enters_of Try.func37 (by kernel_rfl) rfl) #[.slice A49 (xr).length c49] (args1 (F56.get rfl)) (rd_is xr (.slice A49 (xr).length c49) (by omega) true r y1 y2 w53 (M53.isO (k := 5) rfl)) ?_
  rintro _ w57 a57 ⟨V57, rfl, is57, lo57, b57⟩ F57
  have M57 := M53.newRec b57 is57 lo57 7 8
  clear M53 b57 lo57
  refine exA 3 [(58, .tuple #[.agg (recA r V57), .bool true]), (61, .agg (recA r V57)), (62, .bool true)] [] dnil [] F57 (by kernel_rfl) (by kernel_rfl) fun a58 F58 => ?_
  simp only [List.drop_succ_cons, List.drop_zero]
  refine wl_alloc (wanted_none rfl) rfl F58 rfl M57 9 (t := 54) (c := recA ⟨0, "".toUTF8, [], 0, 0, [], 0, 0, 0⟩ ⟨.slice none 0 0, .slice none 0 0⟩) (by unfold execOp; kernel_rfl) ?_
  intro g59 a59 w59 F59 M59
  clear F58 M57
  refine wl_st (wanted_none rfl) rfl F59 M59 (k := 9) rfl _ _ _ rfl (F59.get rfl) (F59.get rfl) (recA r V57) (recA r V57) rfl (Nat.le_of_ble_eq_true rfl) (recA_one (w := w59) ⟨(M59.isb (k := 7) rfl), (M59.isb (k := 8) rfl)⟩) (y_put0 rfl) (by kernel_rfl) ?_
  intro w60 M60
  clear M59
  refine rm rfl F59 fun a61 F61 => ?_
  refine hK55 _ _ (wp_seq_k fun K62 hK62 => ?_)
  refine wp_seq_k fun K63 hK63 => wp_region_lit ?_
  refine exA 8 [(63, .bool true), (64, .bool false), (65, .bool false), (66, .bool true), (67, .bool false), (68, .bool false), (69, .bool false), (70, .slice A49 (xr).length c49)] [] dnil [] F61 (by kernel_rfl) (by kernel_rfl) fun a64 F64 => ?_
  simp only [List.drop_succ_cons, List.drop_zero]
  refine wl_run (w' := w60) (wanted_yes rfl rfl rfl (F64.get rfl)) rfl F64 rfl (.string (⟨(xr).toArray⟩)) (y_str _ rfl (F64.get rfl) (M60.isO (k := 5) rfl)) fun a65 F65 => ?_
  refine rm rfl F65 fun a66 F66 => ?_
  refine wl_run (w' := w60) (wanted_yes rfl rfl rfl (F66.get rfl)) rfl F66 rfl (.string (⟨(xr).toArray⟩)) (y_str _ rfl (F66.get rfl) (M60.isO (k := 6) rfl)) fun a67 F67 => ?_
  refine wl_run (w' := w60) (wanted_yes rfl rfl rfl (F67.get rfl)) rfl F67 rfl (.bool false) (y_neS _ _ _ rfl (F67.get rfl) (F67.get rfl) (str_neF rfl)) fun a68 F68 => ?_
  refine exA 8 [(75, .bool false), (76, .bool false), (77, .bool true), (78, .bool false), (79, .bool false), (80, .bool false), (81, .agg (recA r V44)), (82, .agg (recA r V57))] [0, 1] (dcons (M60.blk (k := 4) rfl) (dcons (M60.blk (k := 9) rfl) dnil)) [g45, g59] F68 (by kernel_rfl) (by kernel_rfl) fun a69 F69 => ?_
  simp only [List.drop_succ_cons, List.drop_zero]
  refine wl_call (wanted_yes rfl rfl rfl (F69.get rfl)) rfl F69 rfl rfl (enters_of Try.func38 (by kernel_rfl) rfl) #[.agg (recA r V44), .agg (recA r V57)] (args2 (F69.get rfl) (F69.get rfl)) (call_ex ((recs_is r r V44 V57 or or true (eqR_self r) w60 ⟨(M60.isb (k := 2) rfl), (M60.isb (k := 3) rfl)⟩ ⟨(M60.isb (k := 7) rfl), (M60.isb (k := 8) rfl)⟩))) ?_
  rintro _ w70 a70 ⟨rfl, b70⟩ F70
  have M70 := M60.step b70
  refine exA 2 [(84, .bool false), (85, .bool false)] [] dnil [] F70 (by kernel_rfl) (by kernel_rfl) fun a71 F71 => ?_
  simp only [List.drop_succ_cons, List.drop_zero]
  refine hK63 _ _ (wp_cond_false (F71.get (t := 85) rfl) ?_)
  refine wp_skip ?_
  refine hK62 _ _ (wp_seq_k fun K72 hK72 => ?_)
  refine wp_region_lit ?_
  refine wl_runM (wanted_none rfl) rfl F71 rfl (run_lit0 M70 10 rfl) ?_
  intro v73 a73 w73 F73 M73
  clear F71 M70
  obtain ⟨A73, c73, rfl⟩ := (M73.isO (k := 10) rfl).shape
  refine rm rfl F73 fun a74 F74 => ?_
  refine wl_runM (wanted_none rfl) rfl F74 rfl (run_app M73 (k := 10) rfl _ _ rfl (F74.get rfl) (F74.get rfl) (M73.isO (k := 6) rfl) (by simp; omega)) ?_
  intro v75 a75 w75 F75 M75
  clear F74 M73
  obtain ⟨A75, c75, rfl⟩ := (M75.isO (k := 10) rfl).shape
  refine rm rfl F75 fun a76 F76 => ?_
  refine hK72 _ _ (wp_seq_k fun K77 hK77 => ?_)
  refine wp_region_lit ?_
  refine rm rfl F76 fun a78 F78 => ?_
  refine rm rfl F78 fun a79 F79 => ?_
  refine rm rfl F79 fun a80 F80 => ?_
  refine rn rfl rfl F80 rfl (.int .i64 (xr.length : Int)) (y_len _ rfl (F80.get rfl) (M75.isO (k := 10) rfl) rfl) fun a81 F81 => ?_
  refine wl_call (wanted_none rfl) rfl F81 rfl rfl (enters_of Try.func22 (by kernel_rfl) rfl) #[.int .i64 a3, .int .i64 (xr.length : Int)] (args2 (F81.get rfl) (F81.get rfl)) (call_ex ((hj ▸ within5_any a3 (xr.length : Int) (by omega) (by omega) (by omega) (by omega) w75))) ?_
  rintro _ w82 a82 ⟨rfl, rfl⟩ F82
  refine rn rfl rfl F82 rfl ((ixV (.slice A75 (xr).length c75) j)) (y_ixB _ _ rfl (F82.get rfl) (M75.isO (k := 10) rfl) (F82.get rfl) rfl (by simp; omega)) fun a83 F83 => ?_
  refine rn rfl rfl F83 rfl (.int .u8 ((bz.toNat : Nat) : Int)) (y_ldB _ rfl (F83.get rfl) (M75.isO (k := 10) rfl) hbz rfl) fun a84 F84 => ?_
  refine rm rfl F84 fun a85 F85 => ?_
  refine rn rfl rfl F85 rfl (.int .u8 (((byteI (((bz.toNat : Nat) : Int) + ((c4.toNat : Nat) : Int))).toNat : Nat) : Int)) (y_addU8 _ _ _ _ rfl (F85.get rfl) (F85.get rfl)) fun a86 F86 => ?_
  refine rn rfl rfl F86 rfl ((ixV (.slice A75 (xr).length c75) j)) (y_ixB _ _ rfl (F86.get rfl) (M75.isO (k := 10) rfl) (F86.get rfl) rfl (by simp; omega)) fun a87 F87 => ?_
  refine wl_doM (wanted_none rfl) rfl F87 (run_setO M75 (k := 10) rfl _ _ rfl (F87.get rfl) (byteI (((bz.toNat : Nat) : Int) + ((c4.toNat : Nat) : Int))) (F87.get rfl) rfl (by simp; omega)) ?_
  intro w88 M88
  clear M75
  refine hK77 _ _ (wp_seq_k fun K89 hK89 => ?_)
  obtain ⟨Z, hZ⟩ : ∃ Z, (xr.set j (byteI (((bz.toNat : Nat) : Int) + ((c4.toNat : Nat) : Int)))) = Z := ⟨_, rfl⟩
  have hZl : Z.length = xr.length := by rw [← hZ]; simp
  have M90a := M88.tame (k := 6) rfl
  clear M88
  have M90 : Mx none w w88 [(0, bytR l2 (.slice A2 n2 cap2)), (1, bytR l6 (.slice A6 n6 cap6)), (2, bytR r.l2 V44.v2), (3, bytR r.l5 V44.v5), (4, blkR g45 54 (recA r V44)), (5, ownR xr (.slice A49 (xr).length c49)), (6, bytR xr (.slice A53 (xr).length c53)), (7, bytR r.l2 V57.v2), (8, bytR r.l5 V57.v5), (9, blkR g59 54 (recA r V57)), (10, ownR Z (.slice A75 (xr).length c75))] := by rw [← hZ]; exact M90a.sub ⟨rfl, rfl, rfl, rfl, rfl, rfl, rfl, rfl, rfl, rfl, rfl, trivial⟩
  clear M90a
  refine region_fxM F87 [fun vE => vE = .slice A75 (xr).length c75, fun vE => vE = .slice A53 (xr).length c53, fun vE => vE = .int .i64 a5, fun vE => vE = .slice A53 (xr).length c53, fun vE => vE = .int .i64 (xr.length : Int), fun vE => vE = .int .i64 ((xr.length : Int) + 1), fun vE => vE = .int .i64 (k : Int), fun _ => True, fun vE => vE = .slice A6 n6 cap6, fun _ => True, fun vE => vE = .slice A53 (xr).length c53, fun _ => True, fun vE => vE = .int .u8 ((c4.toNat : Nat) : Int), fun _ => True, fun _ => True] (JM none w fun SV pV => [(0, bytR l2 (.slice A2 n2 cap2)), (1, bytR l6 (.slice A6 n6 cap6)), (2, bytR r.l2 V44.v2), (3, bytR r.l5 V44.v5), (4, blkR g45 54 (recA r V44)), (5, ownR xr (.slice A49 (xr).length c49)), (6, bytR xr (.slice A53 (xr).length c53)), (7, bytR r.l2 V57.v2), (8, bytR r.l5 V57.v5), (9, blkR g59 54 (recA r V57)), (10, ownR Z (.slice A75 (xr).length c75)), (11, condR (SV 7) (bytR (xr.take k) (pV 7))), (12, eitherR (SV 11) (eitherR (SV 14) (ownR (([] ++ xr) ++ [c4]) (pV 14)) (ownR ([] ++ xr) (pV 11))) (condR (SV 9) (ownR [] (pV 9)))), (13, condR (SV 13) (ownR [c4] (pV 13)))]) 15 rfl (by kernel_rfl) rfl ⟨trivial, trivial, trivial, trivial, trivial, trivial, trivial, trivial, trivial, trivial, trivial, trivial, trivial, trivial, trivial, trivial⟩ (fun p => ((((M90.step (step_drew _)).triv 11).triv 12).triv 13).sub ⟨rfl, rfl, rfl, rfl, rfl, rfl, rfl, rfl, rfl, rfl, rfl, rfl, rfl, rfl, trivial⟩) ⟨?_, ?_, ?_, ?_, ?_, ?_, ?_, ?_, ?_, ?_, ?_, ?_, ?_, ?_, ?_, trivial⟩ ?_
  · intro ua uw SV pV M0 hk hn hd
    have M : Mx none w uw _ := M0
    clear M0
    have e22 : ua.eval (.tmp 22) = .slice A75 (xr).length c75 := (show ua.eval (.tmp 22) = _ from hd 22 (by decide)).trans (F87.get (t := 22) rfl)
    exact hopM_run (wanted_none rfl) (.slice A75 (xr).length c75) (run_mv _ (.inl rfl) e22) rfl (M.sub ⟨rfl, rfl, rfl, rfl, rfl, rfl, rfl, rfl, rfl, rfl, rfl, rfl, rfl, rfl, trivial⟩)
  · intro ua uw SV pV M0 hk hn hd
    have M : Mx none w uw _ := M0
    clear M0
    have e18 : ua.eval (.tmp 18) = .slice A53 (xr).length c53 := (show ua.eval (.tmp 18) = _ from hd 18 (by decide)).trans (F87.get (t := 18) rfl)
    exact hopM_run (wanted_none rfl) (.slice A53 (xr).length c53) (run_mv _ (.inl rfl) e18) rfl (M.sub ⟨rfl, rfl, rfl, rfl, rfl, rfl, rfl, rfl, rfl, rfl, rfl, rfl, rfl, rfl, trivial⟩)
  · intro ua uw SV pV M0 hk hn hd
    have M : Mx none w uw _ := M0
    clear M0
    have e5 : ua.eval (.tmp 5) = .int .i64 a5 := (show ua.eval (.tmp 5) = _ from hd 5 (by decide)).trans (F87.get (t := 5) rfl)
    exact hopM_run (wanted_none rfl) (.int .i64 a5) (run_mv _ (.inl rfl) e5) rfl (M.sub ⟨rfl, rfl, rfl, rfl, rfl, rfl, rfl, rfl, rfl, rfl, rfl, rfl, rfl, rfl, trivial⟩)
  · intro ua uw SV pV M0 hk hn hd
    have M : Mx none w uw _ := M0
    clear M0
    have e18 : ua.eval (.tmp 18) = .slice A53 (xr).length c53 := (show ua.eval (.tmp 18) = _ from hd 18 (by decide)).trans (F87.get (t := 18) rfl)
    exact hopM_run (wanted_none rfl) (.slice A53 (xr).length c53) (run_mv _ (.inl rfl) e18) rfl (M.sub ⟨rfl, rfl, rfl, rfl, rfl, rfl, rfl, rfl, rfl, rfl, rfl, rfl, rfl, rfl, trivial⟩)
  · intro ua uw SV pV M0 hk hn hd
    have M : Mx none w uw _ := M0
    clear M0
    obtain ⟨s3, f102, q102⟩ := (show SV 3 = true ∧ ua.eval (.tmp 102) = pV 3 ∧ stE _ 3 (pV 3) from hd 102 (by decide))
    have e102 : ua.eval (.tmp 102) = .slice A53 (xr).length c53 := f102.trans q102
    exact hopM_run (wanted_none rfl) (.int .i64 (xr.length : Int)) (y_len _ rfl e102 (M.isb (k := 6) rfl) rfl) rfl (M.sub ⟨rfl, rfl, rfl, rfl, rfl, rfl, rfl, rfl, rfl, rfl, rfl, rfl, rfl, rfl, trivial⟩)
  · intro ua uw SV pV M0 hk hn hd
    have M : Mx none w uw _ := M0
    clear M0
    obtain ⟨s4, f103, q103⟩ := (show SV 4 = true ∧ ua.eval (.tmp 103) = pV 4 ∧ stE _ 4 (pV 4) from hd 103 (by decide))
    have e103 : ua.eval (.tmp 103) = .int .i64 (xr.length : Int) := f103.trans q103
    exact hopM_run (wanted_none rfl) (.int .i64 ((xr.length : Int) + 1)) (y_addI _ _ _ _ rfl e103 rfl rfl (by omega)) rfl (M.sub ⟨rfl, rfl, rfl, rfl, rfl, rfl, rfl, rfl, rfl, rfl, rfl, rfl, rfl, rfl, trivial⟩)
  · intro ua uw SV pV M0 hk hn hd
    have M : Mx none w uw _ := M0
    clear M0
    obtain ⟨s2, f101, q101⟩ := (show SV 2 = true ∧ ua.eval (.tmp 101) = pV 2 ∧ stE _ 2 (pV 2) from hd 101 (by decide))
    have e101 : ua.eval (.tmp 101) = .int .i64 a5 := f101.trans q101
    obtain ⟨s5, f104, q104⟩ := (show SV 5 = true ∧ ua.eval (.tmp 104) = pV 5 ∧ stE _ 5 (pV 5) from hd 104 (by decide))
    have e104 : ua.eval (.tmp 104) = .int .i64 ((xr.length : Int) + 1) := f104.trans q104
    exact hopM_call (wanted_none rfl) rfl #[.int .i64 a5, .int .i64 ((xr.length : Int) + 1)] (args2 e101 e104) (enters_of Try.func22 (by kernel_rfl) rfl) (((same_eq ((hkk ▸ within5_any a5 ((xr.length : Int) + 1) (by omega) (by omega) (by omega) (by omega) uw)))).mono fun e w2 h => ⟨_, h.1, rfl, (M.step h.2).sub ⟨rfl, rfl, rfl, rfl, rfl, rfl, rfl, rfl, rfl, rfl, rfl, rfl, rfl, rfl, trivial⟩⟩)
  · intro ua uw SV pV M0 hk hn hd
    have M : Mx none w uw _ := M0
    clear M0
    obtain ⟨s1, f100, q100⟩ := (show SV 1 = true ∧ ua.eval (.tmp 100) = pV 1 ∧ stE _ 1 (pV 1) from hd 100 (by decide))
    have e100 : ua.eval (.tmp 100) = .slice A53 (xr).length c53 := f100.trans q100
    obtain ⟨s6, f105, q105⟩ := (show SV 6 = true ∧ ua.eval (.tmp 105) = pV 6 ∧ stE _ 6 (pV 6) from hd 105 (by decide))
    have e105 : ua.eval (.tmp 105) = .int .i64 (k : Int) := f105.trans q105
    exact hopM_exE (wanted_none rfl) (y_slTo _ _ rfl e100 (M.isb (k := 6) rfl) e105 (j := k) rfl (by omega)) fun v h => ⟨trivial, (M.partB 11 (k := 6) rfl h.1 h.2).sub ⟨rfl, rfl, rfl, rfl, rfl, rfl, rfl, rfl, rfl, rfl, rfl, rfl, rfl, rfl, trivial⟩⟩
  · intro ua uw SV pV M0 hk hn hd
    have M : Mx none w uw _ := M0
    clear M0
    have e6 : ua.eval (.tmp 6) = .slice A6 n6 cap6 := (show ua.eval (.tmp 6) = _ from hd 6 (by decide)).trans (F87.get (t := 6) rfl)
    exact hopM_run (wanted_none rfl) (.slice A6 n6 cap6) (run_mv _ (.inl rfl) e6) rfl (M.sub ⟨rfl, rfl, rfl, rfl, rfl, rfl, rfl, rfl, rfl, rfl, rfl, rfl, rfl, rfl, trivial⟩)
  · intro ua uw SV pV M0 hk hn hd
    have M : Mx none w uw _ := M0
    clear M0
    exact hopM_exM (wanted_none rfl) (run_lit0 M 12 rfl) fun v w2 h2 => ⟨trivial, h2.sub ⟨rfl, rfl, rfl, rfl, rfl, rfl, rfl, rfl, rfl, rfl, rfl, rfl, (eitherR_at (hn 11 (by kernel_rfl)) rfl), rfl, trivial⟩⟩
  · intro ua uw SV pV M0 hk hn hd
    have M : Mx none w uw _ := M0
    clear M0
    have e18 : ua.eval (.tmp 18) = .slice A53 (xr).length c53 := (show ua.eval (.tmp 18) = _ from hd 18 (by decide)).trans (F87.get (t := 18) rfl)
    exact hopM_run (wanted_none rfl) (.slice A53 (xr).length c53) (run_mv _ (.inl rfl) e18) rfl (M.sub ⟨rfl, rfl, rfl, rfl, rfl, rfl, rfl, rfl, rfl, rfl, rfl, rfl, rfl, rfl, trivial⟩)
  · intro ua uw SV pV M0 hk hn hd
    have M : Mx none w uw _ := M0
    clear M0
    obtain ⟨s9, f108, q108⟩ := (show SV 9 = true ∧ ua.eval (.tmp 108) = pV 9 ∧ stE _ 9 (pV 9) from hd 108 (by decide))
    have e108 : ua.eval (.tmp 108) = (pV 9) := f108
    obtain ⟨s10, f109, q109⟩ := (show SV 10 = true ∧ ua.eval (.tmp 109) = pV 10 ∧ stE _ 10 (pV 10) from hd 109 (by decide))
    have e109 : ua.eval (.tmp 109) = .slice A53 (xr).length c53 := f109.trans q109
    exact hopM_exM (wanted_none rfl) (run_app M (k := 12) (condR_look s9 (eitherR_r hk rfl)) _ _ rfl e108 e109 (M.isb (k := 6) rfl) (by simp; omega)) fun v w2 h2 => ⟨trivial, h2.sub ⟨rfl, rfl, rfl, rfl, rfl, rfl, rfl, rfl, rfl, rfl, rfl, rfl, (eitherR_at (hn 14 (by kernel_rfl)) rfl), rfl, trivial⟩⟩
  · intro ua uw SV pV M0 hk hn hd
    have M : Mx none w uw _ := M0
    clear M0
    have e4 : ua.eval (.tmp 4) = .int .u8 ((c4.toNat : Nat) : Int) := (show ua.eval (.tmp 4) = _ from hd 4 (by decide)).trans (F87.get (t := 4) rfl)
    exact hopM_run (wanted_none rfl) (.int .u8 ((c4.toNat : Nat) : Int)) (run_mv _ (.inl rfl) e4) rfl (M.sub ⟨rfl, rfl, rfl, rfl, rfl, rfl, rfl, rfl, rfl, rfl, rfl, rfl, rfl, rfl, trivial⟩)
  · intro ua uw SV pV M0 hk hn hd
    have M : Mx none w uw _ := M0
    clear M0
    obtain ⟨s12, f111, q111⟩ := (show SV 12 = true ∧ ua.eval (.tmp 111) = pV 12 ∧ stE _ 12 (pV 12) from hd 111 (by decide))
    have e111 : ua.eval (.tmp 111) = .int .u8 ((c4.toNat : Nat) : Int) := f111.trans q111
    exact hopM_exM (wanted_none rfl) (run_litO M 13 [c4] 1 rfl (by decide) (by decide) rfl (by simp only [List.map_toArray, List.map_cons, List.map_nil, e111]; kernel_rfl)) fun v w2 h2 => ⟨trivial, h2.sub ⟨rfl, rfl, rfl, rfl, rfl, rfl, rfl, rfl, rfl, rfl, rfl, rfl, rfl, rfl, trivial⟩⟩
  · intro ua uw SV pV M0 hk hn hd
    have M : Mx none w uw _ := M0
    clear M0
    obtain ⟨s11, f110, q110⟩ := (show SV 11 = true ∧ ua.eval (.tmp 110) = pV 11 ∧ stE _ 11 (pV 11) from hd 110 (by decide))
    have e110 : ua.eval (.tmp 110) = (pV 11) := f110
    obtain ⟨s13, f112, q112⟩ := (show SV 13 = true ∧ ua.eval (.tmp 112) = pV 13 ∧ stE _ 13 (pV 13) from hd 112 (by decide))
    have e112 : ua.eval (.tmp 112) = (pV 13) := f112
    exact hopM_exM (wanted_none rfl) (run_app M (k := 12) (eitherR_r hk (eitherR_l s11 rfl)) _ _ rfl e110 e112 (M.isO (k := 13) (condR_look s13 rfl)) (by simp; omega)) fun v w2 h2 => ⟨trivial, h2.sub ⟨rfl, rfl, rfl, rfl, rfl, rfl, rfl, rfl, rfl, rfl, rfl, rfl, (eitherR_in s11 rfl), rfl, trivial⟩⟩
  intro p91 a91 w91 M91 G91 y91
  obtain ⟨q0, -, -, -, -, -, -, q7, q8, -, -, -, -, -, q14, -⟩ := y91
  have r0 : p91 0 = .slice A75 (xr).length c75 := q0
  have r8 : p91 8 = .slice A6 n6 cap6 := q8
  replace M91 : Mx _ _ w91 [(0, bytR l2 (.slice A2 n2 cap2)), (1, bytR l6 (.slice A6 n6 cap6)), (2, bytR r.l2 V44.v2), (3, bytR r.l5 V44.v5), (4, blkR g45 54 (recA r V44)), (5, ownR xr (.slice A49 (xr).length c49)), (6, bytR xr (.slice A53 (xr).length c53)), (7, bytR r.l2 V57.v2), (8, bytR r.l5 V57.v5), (9, blkR g59 54 (recA r V57)), (10, ownR Z (.slice A75 (xr).length c75)), (11, condR true (bytR (xr.take k) (p91 7))), (12, eitherR true (eitherR true (ownR (([] ++ xr) ++ [c4]) (p91 14)) (ownR ([] ++ xr) (p91 11))) (condR true (ownR [] (p91 9)))), (13, condR true (ownR [c4] (p91 13)))] := M91
  simp only [List.take_succ_cons, List.take_zero, layV, Nat.zero_add, Nat.reduceAdd, r0, r8] at G91
  obtain ⟨Ap91_11, cp91_11, hp91_11⟩ := (M91.isb (k := 11) rfl).shape
  rw [hp91_11] at M91
  try rw [hp91_11] at G91
  obtain ⟨Ap91_12, cp91_12, hp91_12⟩ := (M91.isO (k := 12) rfl).shape
  rw [hp91_12] at M91
  try rw [hp91_12] at G91
  obtain ⟨Ap91_13, cp91_13, hp91_13⟩ := (M91.isO (k := 13) rfl).shape
  rw [hp91_13] at M91
  try rw [hp91_13] at G91
  simp only [List.drop_succ_cons, List.drop_zero]
  obtain ⟨Y, hY⟩ : ∃ z, (([] ++ xr) ++ [c4]) = z := ⟨_, rfl⟩
  have hYl : Y.length = xr.length + 1 := by rw [← hY]; simp
  have M92 : Mx none w w91 [(0, bytR l2 (.slice A2 n2 cap2)), (1, bytR l6 (.slice A6 n6 cap6)), (2, bytR r.l2 V44.v2), (3, bytR r.l5 V44.v5), (4, blkR g45 54 (recA r V44)), (5, ownR xr (.slice A49 (xr).length c49)), (6, bytR xr (.slice A53 (xr).length c53)), (7, bytR r.l2 V57.v2), (8, bytR r.l5 V57.v5), (9, blkR g59 54 (recA r V57)), (10, ownR Z (.slice A75 (xr).length c75)), (11, bytR (xr.take k) (.slice Ap91_11 ((xr.take k)).length cp91_11)), (12, ownR Y (.slice Ap91_12 (Y).length cp91_12)), (13, ownR [c4] (.slice Ap91_13 ([c4]).length cp91_13))] := by rw [← hY]; exact M91.sub ⟨rfl, rfl, rfl, rfl, rfl, rfl, rfl, rfl, rfl, rfl, rfl, rfl, rfl, rfl, trivial⟩
  have F92 : Fx 146 a91 [(3, .int .i64 a3), (4, .int .u8 ((c4.toNat : Nat) : Int)), (5, .int .i64 a5), (6, .slice A6 n6 cap6), (14, .bool false), (15, .pointer (some ⟨g45, 0, none⟩)), (16, .slice A49 (xr).length c49), (17, .bool true), (54, .agg (recA r V44)), (55, .tuple #[.slice A53 (xr).length c53, .bool true]), (53, .tuple #[.slice A53 (xr).length c53, .bool true]), (56, .slice A53 (xr).length c53), (57, .bool true), (18, .slice A53 (xr).length c53), (19, .bool true), (59, .slice A49 (xr).length c49), (60, .tuple #[.agg (recA r V57), .bool true]), (58, .tuple #[.agg (recA r V57), .bool true]), (61, .agg (recA r V57)), (62, .bool true), (20, .pointer (some ⟨g59, 0, none⟩)), (21, .bool true), (63, .bool true), (64, .bool false), (65, .bool false), (66, .bool true), (67, .bool false), (68, .bool false), (69, .bool false), (70, .slice A49 (xr).length c49), (71, .string (⟨(xr).toArray⟩)), (72, .slice A53 (xr).length c53), (73, .string (⟨(xr).toArray⟩)), (74, .bool false), (75, .bool false), (76, .bool false), (77, .bool true), (78, .bool false), (79, .bool false), (80, .bool false), (81, .agg (recA r V44)), (82, .agg (recA r V57)), (83, .bool true), (84, .bool false), (85, .bool false), (86, .slice A73 (([] : List UInt8)).length c73), (87, .slice A53 (xr).length c53), (88, .slice A75 (xr).length c75), (22, .slice A75 (xr).length c75), (89, .slice A75 (xr).length c75), (90, .int .i64 a3), (91, .slice A75 (xr).length c75), (92, .int .i64 (xr.length : Int)), (93, .int .i64 (j : Int)), (94, (ixV (.slice A75 (xr).length c75) j)), (95, .int .u8 ((bz.toNat : Nat) : Int)), (96, .int .u8 ((c4.toNat : Nat) : Int)), (97, .int .u8 (((byteI (((bz.toNat : Nat) : Int) + ((c4.toNat : Nat) : Int))).toNat : Nat) : Int)), (98, (ixV (.slice A75 (xr).length c75) j)), (99, .slice A75 (xr).length c75), (106, (.slice Ap91_11 ((xr.take k)).length cp91_11)), (107, .slice A6 n6 cap6), (108, (p91 9)), (110, (p91 11)), (112, (.slice Ap91_13 ([c4]).length cp91_13)), (113, (.slice Ap91_12 (Y).length cp91_12))] [] := by rw [← hY]; exact G91.sub ⟨rfl, rfl, rfl, rfl, rfl, rfl, rfl, rfl, rfl, rfl, rfl, rfl, rfl, rfl, rfl, rfl, rfl, rfl, rfl, rfl, rfl, rfl, rfl, rfl, rfl, rfl, rfl, rfl, rfl, rfl, rfl, rfl, rfl, rfl, rfl, rfl, rfl, rfl, rfl, rfl, rfl, rfl, rfl, rfl, rfl, rfl, rfl, rfl, rfl, rfl, rfl, rfl, rfl, rfl, rfl, rfl, rfl, rfl, rfl, rfl, rfl, rfl, rfl, rfl, rfl, rfl, trivial⟩
  clear M91 G91
  refine wl_allocS (wanted_none rfl) rfl F92 rfl M92 14 (t := 22) (c := #[.slice A75 (xr).length c75, (.slice Ap91_11 ((xr.take k)).length cp91_11), .slice A6 n6 cap6, (.slice Ap91_12 (Y).length cp91_12)]) (k := 4) (m := 4) (y_litG 41 22 (s := 1) (zv := .slice none 0 0) Try.underlying41 (by kernel_rfl) (by kernel_rfl) rfl (#[.slice A75 (xr).length c75, (.slice Ap91_11 ((xr.take k)).length cp91_11), .slice A6 n6 cap6, (.slice Ap91_12 (Y).length cp91_12)]) (by decide) (by decide) (by simp only [List.map_toArray, List.map_cons, List.map_nil, (F92.get (t := 99) rfl), (F92.get (t := 106) rfl), (F92.get (t := 107) rfl), (F92.get (t := 113) rfl)]; kernel_rfl)) ?_
  intro g93 a93 w93 F93 M93
  clear F92 M92
  refine rm rfl F93 fun a94 F94 => ?_
  refine hK89 _ _ (wp_seq_k fun K95 hK95 => ?_)
  refine wp_seq_k fun K96 hK96 => wp_region_lit ?_
  refine rm rfl F94 fun a97 F97 => ?_
  refine hK96 _ _ (wp_block ?_)
  refine loop_fx (α := Nat) (n := 146) (G := none) (w0 := w) (fun x => [(23, .slice (some ⟨g93, 0, none⟩) 4 4), (24, .int .i64 (x : Int))]) (fun x => [(0, bytR l2 (.slice A2 n2 cap2)), (1, bytR l6 (.slice A6 n6 cap6)), (2, bytR r.l2 V44.v2), (3, bytR r.l5 V44.v5), (4, blkR g45 54 (recA r V44)), (5, ownR xr (.slice A49 (xr).length c49)), (6, bytR xr (.slice A53 (xr).length c53)), (7, bytR r.l2 V57.v2), (8, bytR r.l5 V57.v5), (9, blkR g59 54 (recA r V57)), (10, ownR Z (.slice A75 (xr).length c75)), (11, bytR (xr.take k) (.slice Ap91_11 ((xr.take k)).length cp91_11)), (12, ownR Y (.slice Ap91_12 (Y).length cp91_12)), (13, ownR [c4] (.slice Ap91_13 ([c4]).length cp91_13)), (14, blkR g93 22 (#[.slice A75 (xr).length c75, (.slice Ap91_11 ((xr.take k)).length cp91_11), .slice A6 n6 cap6, (.slice Ap91_12 (Y).length cp91_12)]))]) (fun k x => k = (4 - x) ∧ (x ≤ 4)) _ 0 ⟨rfl, (by decide)⟩ (F97.sub ⟨rfl, rfl, trivial⟩) (M93.sub ⟨rfl, rfl, rfl, rfl, rfl, rfl, rfl, rfl, rfl, rfl, rfl, rfl, rfl, rfl, rfl, trivial⟩) ?_
  clear F97 M93
  rintro k98 jn a98 w98 K98 ⟨ek98, I98⟩ F98 M98 hK98
  replace F98 : Fx 146 a98 [(23, .slice (some ⟨g93, 0, none⟩) 4 4), (24, .int .i64 (jn : Int))] := F98
  replace M98 : Mx _ _ w98 [(0, bytR l2 (.slice A2 n2 cap2)), (1, bytR l6 (.slice A6 n6 cap6)), (2, bytR r.l2 V44.v2), (3, bytR r.l5 V44.v5), (4, blkR g45 54 (recA r V44)), (5, ownR xr (.slice A49 (xr).length c49)), (6, bytR xr (.slice A53 (xr).length c53)), (7, bytR r.l2 V57.v2), (8, bytR r.l5 V57.v5), (9, blkR g59 54 (recA r V57)), (10, ownR Z (.slice A75 (xr).length c75)), (11, bytR (xr.take k) (.slice Ap91_11 ((xr.take k)).length cp91_11)), (12, ownR Y (.slice Ap91_12 (Y).length cp91_12)), (13, ownR [c4] (.slice Ap91_13 ([c4]).length cp91_13)), (14, blkR g93 22 (#[.slice A75 (xr).length c75, (.slice Ap91_11 ((xr.take k)).length cp91_11), .slice A6 n6 cap6, (.slice Ap91_12 (Y).length cp91_12)]))] := M98
  replace I98 : jn ≤ 4 := I98
  replace ek98 : k98 = (4 - jn) := ek98
  by_cases hj0 : jn = 0
  · subst hj0
    replace F98 : Fx _ _ [(23, .slice (some ⟨g93, 0, none⟩) 4 4), (24, .int .i64 0)] := F98
    obtain ⟨q0, hq0⟩ : ∃ x, rdOk Z = x := ⟨_, rfl⟩
    obtain ⟨t0, ht0⟩ : ∃ x, rdR Z = x := ⟨_, rfl⟩
    have ot0 : RecOk t0 := by rw [← ht0]; exact rdR_ok _
    refine wp_seq_k fun K100 hK100 => wp_seq_k fun K101 hK101 => ?_
    refine wp_region_lit ?_
    refine rm rfl F98 fun a102 F102 => ?_
    refine rm rfl F102 fun a103 F103 => ?_
    refine rn rfl rfl F103 rfl (.int .i64 4) (y_lnG 41 Try.underlying41 _ rfl (F103.get rfl) rfl) fun a104 F104 => ?_
    refine rn rfl rfl F104 rfl (.bool true) (y_lss _ _ _ _ rfl (F104.get rfl) (F104.get rfl) (decide_eq_true (by decide))) fun a105 F105 => ?_
    refine hK101 _ _ (wp_cond_true (F105.get (t := 118) rfl) ?_)
    refine wp_skip ?_
    refine hK100 _ _ (wp_seq_k fun K106 hK106 => ?_)
    refine wp_block ?_
    refine wp_seq_k fun K107 hK107 => wp_region_lit ?_
    refine rm rfl F105 fun a108 F108 => ?_
    refine rm rfl F108 fun a109 F109 => ?_
    refine rn rfl rfl F109 rfl (.pointer (some ⟨g93, 0, none⟩)) (y_ixG 41 (s := 1) Try.underlying41 (by kernel_rfl) _ _ rfl (F109.get rfl) (F109.get rfl) rfl (by decide) rfl) fun a110 F110 => ?_
    refine rn rfl rfl F110 rfl (.slice A75 (xr).length c75) (y_ld1 _ _ rfl (F110.get rfl) (M98.blk (k := 14) rfl) rfl Try.underlying22 rfl) fun a111 F111 => ?_
    refine wl_call (wanted_none rfl) rfl F111 rfl rfl (enters_of Try.func37 (by kernel_rfl) rfl) #[.slice A75 (xr).length c75] (args1 (F111.get rfl)) (rd_is Z (.slice A75 (xr).length c75) (by first | omega | (simp; omega)) q0 t0 hq0 ht0 w98 (M98.isO (k := 10) rfl)) ?_
    rintro _ w112 a112 ⟨V112, rfl, is112, lo112, b112⟩ F112
    have M112 := M98.newRec b112 is112 lo112 15 16
    clear M98 b112 lo112
    refine exS 3 [(23, .slice (some ⟨g93, 0, none⟩) 4 4), (24, .int .i64 0), (127, .agg (recA t0 V112)), (128, .bool q0)] [] dnil [] F112 (by kernel_rfl) fun a113 F113 => ?_
    simp only [List.drop_succ_cons, List.drop_zero]
    refine wl_alloc (wanted_none rfl) rfl F113 rfl M112 17 (t := 54) (c := recA ⟨0, "".toUTF8, [], 0, 0, [], 0, 0, 0⟩ ⟨.slice none 0 0, .slice none 0 0⟩) (by unfold execOp; kernel_rfl) ?_
    intro g114 a114 w114 F114 M114
    clear F113 M112
    refine wl_st (wanted_none rfl) rfl F114 M114 (k := 17) rfl _ _ _ rfl (F114.get rfl) (F114.get rfl) (recA t0 V112) (recA t0 V112) rfl (Nat.le_of_ble_eq_true rfl) (recA_one (w := w114) ⟨(M114.isb (k := 15) rfl), (M114.isb (k := 16) rfl)⟩) (y_put0 rfl) (by kernel_rfl) ?_
    intro w115 M115
    clear M114
    refine rm rfl F114 fun a116 F116 => ?_
    refine hK107 _ _ (wp_seq_k fun K117 hK117 => ?_)
    refine wp_region_lit ?_
    refine rm rfl F116 fun a118 F118 => ?_
    refine rm rfl F118 fun a119 F119 => ?_
    refine rn rfl rfl F119 rfl (.pointer (some ⟨g93, 0, none⟩)) (y_ixG 41 (s := 1) Try.underlying41 (by kernel_rfl) _ _ rfl (F119.get rfl) (F119.get rfl) rfl (by decide) rfl) fun a120 F120 => ?_
    refine rn rfl rfl F120 rfl (.slice A75 (xr).length c75) (y_ld1 _ _ rfl (F120.get rfl) (M115.blk (k := 14) rfl) rfl Try.underlying22 rfl) fun a121 F121 => ?_
    refine wl_call (wanted_none rfl) rfl F121 rfl rfl (enters_of Try.func39 (by kernel_rfl) rfl) #[.slice A75 (xr).length c75] (args1 (F121.get rfl)) (rrd_is Z (.slice A75 (xr).length c75) (by first | omega | (simp; omega)) q0 t0 hq0 ht0 w115 (M115.isO (k := 10) rfl)) ?_
    rintro _ w122 a122 ⟨V122, rfl, is122, lo122, b122⟩ F122
    have M122 := M115.newRec b122 is122 lo122 18 19
    clear M115 b122 lo122
    refine exA 3 [(129, .tuple #[.agg (recA t0 V122), .bool q0]), (135, .agg (recA t0 V122)), (136, .bool q0)] [] dnil [] F122 (by kernel_rfl) (by kernel_rfl) fun a123 F123 => ?_
    simp only [List.drop_succ_cons, List.drop_zero]
    refine wl_alloc (wanted_none rfl) rfl F123 rfl M122 20 (t := 54) (c := recA ⟨0, "".toUTF8, [], 0, 0, [], 0, 0, 0⟩ ⟨.slice none 0 0, .slice none 0 0⟩) (by unfold execOp; kernel_rfl) ?_
    intro g124 a124 w124 F124 M124
    clear F123 M122
    refine wl_st (wanted_none rfl) rfl F124 M124 (k := 20) rfl _ _ _ rfl (F124.get rfl) (F124.get rfl) (recA t0 V122) (recA t0 V122) rfl (Nat.le_of_ble_eq_true rfl) (recA_one (w := w124) ⟨(M124.isb (k := 18) rfl), (M124.isb (k := 19) rfl)⟩) (y_put0 rfl) (by kernel_rfl) ?_
    intro w125 M125
    clear M124
    refine rm rfl F124 fun a126 F126 => ?_
    refine hK117 _ _ (wp_seq_k fun K127 hK127 => ?_)
    refine wp_region_lit ?_
    refine rm rfl F126 fun a128 F128 => ?_
    refine rm rfl F128 fun a129 F129 => ?_
    cases q0
    · refine rn rfl rfl F129 rfl (.bool false) (y_neB _ _ rfl (F129.get rfl) (F129.get rfl) rfl) fun a130 F130 => ?_
      refine exA 3 [(140, .bool false), (141, .agg (recA t0 V112)), (142, .agg (recA t0 V122))] [0, 1] (dcons (M125.blk (k := 17) rfl) (dcons (M125.blk (k := 20) rfl) dnil)) [g114, g124] F130 (by kernel_rfl) (by kernel_rfl) fun a131 F131 => ?_
      simp only [List.drop_succ_cons, List.drop_zero]
      refine wl_call (wanted_yes rfl rfl rfl (F131.get rfl)) rfl F131 rfl rfl (enters_of Try.func38 (by kernel_rfl) rfl) #[.agg (recA t0 V112), .agg (recA t0 V122)] (args2 (F131.get rfl) (F131.get rfl)) (call_ex ((recs_is t0 t0 V112 V122 ot0 ot0 true (eqR_self t0) w125 ⟨(M125.isb (k := 15) rfl), (M125.isb (k := 16) rfl)⟩ ⟨(M125.isb (k := 18) rfl), (M125.isb (k := 19) rfl)⟩))) ?_
      rintro _ w132 a132 ⟨rfl, b132⟩ F132
      have M132 := M125.step b132
      refine exS 2 [(23, .slice (some ⟨g93, 0, none⟩) 4 4), (24, .int .i64 0), (145, .bool false)] [] dnil [] F132 (by kernel_rfl) fun a133 F133 => ?_
      simp only [List.drop_succ_cons, List.drop_zero]
      refine hK127 _ _ (wp_cond_false (F133.get (t := 145) rfl) ?_)
      refine wp_skip ?_
      refine hK106 _ _ (wp_region_lit ?_)
      refine rm rfl F133 fun a134 F134 => ?_
      refine rn rfl rfl F134 rfl (.int .i64 1) (y_addI _ _ _ _ rfl (F134.get rfl) rfl rfl (by omega)) fun a135 F135 => ?_
      refine rm rfl F135 fun a136 F136 => ?_
      subst ek98
      exact hK98 _ 1 _ _ (by decide) ⟨rfl, (by decide)⟩ (F136.sub ⟨rfl, rfl, trivial⟩) (M132.sub ⟨rfl, rfl, rfl, rfl, rfl, rfl, rfl, rfl, rfl, rfl, rfl, rfl, rfl, rfl, rfl, trivial⟩)
    refine rn rfl rfl F129 rfl (.bool false) (y_neB _ _ rfl (F129.get rfl) (F129.get rfl) rfl) fun a137 F137 => ?_
    refine exA 3 [(140, .bool false), (141, .agg (recA t0 V112)), (142, .agg (recA t0 V122))] [0, 1] (dcons (M125.blk (k := 17) rfl) (dcons (M125.blk (k := 20) rfl) dnil)) [g114, g124] F137 (by kernel_rfl) (by kernel_rfl) fun a138 F138 => ?_
    simp only [List.drop_succ_cons, List.drop_zero]
    refine wl_call (wanted_yes rfl rfl rfl (F138.get rfl)) rfl F138 rfl rfl (enters_of Try.func38 (by kernel_rfl) rfl) #[.agg (recA t0 V112), .agg (recA t0 V122)] (args2 (F138.get rfl) (F138.get rfl)) (call_ex ((recs_is t0 t0 V112 V122 ot0 ot0 true (eqR_self t0) w125 ⟨(M125.isb (k := 15) rfl), (M125.isb (k := 16) rfl)⟩ ⟨(M125.isb (k := 18) rfl), (M125.isb (k := 19) rfl)⟩))) ?_
    rintro _ w139 a139 ⟨rfl, b139⟩ F139
    have M139 := M125.step b139
    refine exS 2 [(23, .slice (some ⟨g93, 0, none⟩) 4 4), (24, .int .i64 0), (145, .bool false)] [] dnil [] F139 (by kernel_rfl) fun a140 F140 => ?_
    simp only [List.drop_succ_cons, List.drop_zero]
    refine hK127 _ _ (wp_cond_false (F140.get (t := 145) rfl) ?_)
    refine wp_skip ?_
    refine hK106 _ _ (wp_region_lit ?_)
    refine rm rfl F140 fun a141 F141 => ?_
    refine rn rfl rfl F141 rfl (.int .i64 1) (y_addI _ _ _ _ rfl (F141.get rfl) rfl rfl (by omega)) fun a142 F142 => ?_
    refine rm rfl F142 fun a143 F143 => ?_
    subst ek98
    exact hK98 _ 1 _ _ (by decide) ⟨rfl, (by decide)⟩ (F143.sub ⟨rfl, rfl, trivial⟩) (M139.sub ⟨rfl, rfl, rfl, rfl, rfl, rfl, rfl, rfl, rfl, rfl, rfl, rfl, rfl, rfl, rfl, trivial⟩)
  by_cases hj1 : jn = 1
  · subst hj1
    replace F98 : Fx _ _ [(23, .slice (some ⟨g93, 0, none⟩) 4 4), (24, .int .i64 1)] := F98
    obtain ⟨q1, hq1⟩ : ∃ x, rdOk (xr.take k) = x := ⟨_, rfl⟩
    obtain ⟨t1, ht1⟩ : ∃ x, rdR (xr.take k) = x := ⟨_, rfl⟩
    have ot1 : RecOk t1 := by rw [← ht1]; exact rdR_ok _
    refine wp_seq_k fun K145 hK145 => wp_seq_k fun K146 hK146 => ?_
    refine wp_region_lit ?_
    refine rm rfl F98 fun a147 F147 => ?_
    refine rm rfl F147 fun a148 F148 => ?_
    refine rn rfl rfl F148 rfl (.int .i64 4) (y_lnG 41 Try.underlying41 _ rfl (F148.get rfl) rfl) fun a149 F149 => ?_
    refine rn rfl rfl F149 rfl (.bool true) (y_lss _ _ _ _ rfl (F149.get rfl) (F149.get rfl) (decide_eq_true (by decide))) fun a150 F150 => ?_
    refine hK146 _ _ (wp_cond_true (F150.get (t := 118) rfl) ?_)
    refine wp_skip ?_
    refine hK145 _ _ (wp_seq_k fun K151 hK151 => ?_)
    refine wp_block ?_
    refine wp_seq_k fun K152 hK152 => wp_region_lit ?_
    refine rm rfl F150 fun a153 F153 => ?_
    refine rm rfl F153 fun a154 F154 => ?_
    refine rn rfl rfl F154 rfl (.pointer (some ⟨g93, 1, none⟩)) (y_ixG 41 (s := 1) Try.underlying41 (by kernel_rfl) _ _ rfl (F154.get rfl) (F154.get rfl) rfl (by decide) rfl) fun a155 F155 => ?_
    refine rn rfl rfl F155 rfl ((.slice Ap91_11 ((xr.take k)).length cp91_11)) (y_ld1 _ _ rfl (F155.get rfl) (M98.blk (k := 14) rfl) rfl Try.underlying22 rfl) fun a156 F156 => ?_
    refine wl_call (wanted_none rfl) rfl F156 rfl rfl (enters_of Try.func37 (by kernel_rfl) rfl) #[(.slice Ap91_11 ((xr.take k)).length cp91_11)] (args1 (F156.get rfl)) (rd_is (xr.take k) ((.slice Ap91_11 ((xr.take k)).length cp91_11)) (by first | omega | (simp; omega)) q1 t1 hq1 ht1 w98 (M98.isb (k := 11) rfl)) ?_
    rintro _ w157 a157 ⟨V157, rfl, is157, lo157, b157⟩ F157
    have M157 := M98.newRec b157 is157 lo157 15 16
    clear M98 b157 lo157
    refine exS 3 [(23, .slice (some ⟨g93, 0, none⟩) 4 4), (24, .int .i64 1), (127, .agg (recA t1 V157)), (128, .bool q1)] [] dnil [] F157 (by kernel_rfl) fun a158 F158 => ?_
    simp only [List.drop_succ_cons, List.drop_zero]
    refine wl_alloc (wanted_none rfl) rfl F158 rfl M157 17 (t := 54) (c := recA ⟨0, "".toUTF8, [], 0, 0, [], 0, 0, 0⟩ ⟨.slice none 0 0, .slice none 0 0⟩) (by unfold execOp; kernel_rfl) ?_
    intro g159 a159 w159 F159 M159
    clear F158 M157
    refine wl_st (wanted_none rfl) rfl F159 M159 (k := 17) rfl _ _ _ rfl (F159.get rfl) (F159.get rfl) (recA t1 V157) (recA t1 V157) rfl (Nat.le_of_ble_eq_true rfl) (recA_one (w := w159) ⟨(M159.isb (k := 15) rfl), (M159.isb (k := 16) rfl)⟩) (y_put0 rfl) (by kernel_rfl) ?_
    intro w160 M160
    clear M159
    refine rm rfl F159 fun a161 F161 => ?_
    refine hK152 _ _ (wp_seq_k fun K162 hK162 => ?_)
    refine wp_region_lit ?_
    refine rm rfl F161 fun a163 F163 => ?_
    refine rm rfl F163 fun a164 F164 => ?_
    refine rn rfl rfl F164 rfl (.pointer (some ⟨g93, 1, none⟩)) (y_ixG 41 (s := 1) Try.underlying41 (by kernel_rfl) _ _ rfl (F164.get rfl) (F164.get rfl) rfl (by decide) rfl) fun a165 F165 => ?_
    refine rn rfl rfl F165 rfl ((.slice Ap91_11 ((xr.take k)).length cp91_11)) (y_ld1 _ _ rfl (F165.get rfl) (M160.blk (k := 14) rfl) rfl Try.underlying22 rfl) fun a166 F166 => ?_
    refine wl_call (wanted_none rfl) rfl F166 rfl rfl (enters_of Try.func39 (by kernel_rfl) rfl) #[(.slice Ap91_11 ((xr.take k)).length cp91_11)] (args1 (F166.get rfl)) (rrd_is (xr.take k) ((.slice Ap91_11 ((xr.take k)).length cp91_11)) (by first | omega | (simp; omega)) q1 t1 hq1 ht1 w160 (M160.isb (k := 11) rfl)) ?_
    rintro _ w167 a167 ⟨V167, rfl, is167, lo167, b167⟩ F167
    have M167 := M160.newRec b167 is167 lo167 18 19
    clear M160 b167 lo167
    refine exA 3 [(129, .tuple #[.agg (recA t1 V167), .bool q1]), (135, .agg (recA t1 V167)), (136, .bool q1)] [] dnil [] F167 (by kernel_rfl) (by kernel_rfl) fun a168 F168 => ?_
    simp only [List.drop_succ_cons, List.drop_zero]
    refine wl_alloc (wanted_none rfl) rfl F168 rfl M167 20 (t := 54) (c := recA ⟨0, "".toUTF8, [], 0, 0, [], 0, 0, 0⟩ ⟨.slice none 0 0, .slice none 0 0⟩) (by unfold execOp; kernel_rfl) ?_
    intro g169 a169 w169 F169 M169
    clear F168 M167
    refine wl_st (wanted_none rfl) rfl F169 M169 (k := 20) rfl _ _ _ rfl (F169.get rfl) (F169.get rfl) (recA t1 V167) (recA t1 V167) rfl (Nat.le_of_ble_eq_true rfl) (recA_one (w := w169) ⟨(M169.isb (k := 18) rfl), (M169.isb (k := 19) rfl)⟩) (y_put0 rfl) (by kernel_rfl) ?_
    intro w170 M170
    clear M169
    refine rm rfl F169 fun a171 F171 => ?_
    refine hK162 _ _ (wp_seq_k fun K172 hK172 => ?_)
    refine wp_region_lit ?_
    refine rm rfl F171 fun a173 F173 => ?_
    refine rm rfl F173 fun a174 F174 => ?_
    cases q1
    · refine rn rfl rfl F174 rfl (.bool false) (y_neB _ _ rfl (F174.get rfl) (F174.get rfl) rfl) fun a175 F175 => ?_
      refine exA 3 [(140, .bool false), (141, .agg (recA t1 V157)), (142, .agg (recA t1 V167))] [0, 1] (dcons (M170.blk (k := 17) rfl) (dcons (M170.blk (k := 20) rfl) dnil)) [g159, g169] F175 (by kernel_rfl) (by kernel_rfl) fun a176 F176 => ?_
      simp only [List.drop_succ_cons, List.drop_zero]
      refine wl_call (wanted_yes rfl rfl rfl (F176.get rfl)) rfl F176 rfl rfl (enters_of Try.func38 (by kernel_rfl) rfl) #[.agg (recA t1 V157), .agg (recA t1 V167)] (args2 (F176.get rfl) (F176.get rfl)) (call_ex ((recs_is t1 t1 V157 V167 ot1 ot1 true (eqR_self t1) w170 ⟨(M170.isb (k := 15) rfl), (M170.isb (k := 16) rfl)⟩ ⟨(M170.isb (k := 18) rfl), (M170.isb (k := 19) rfl)⟩))) ?_
      rintro _ w177 a177 ⟨rfl, b177⟩ F177
      have M177 := M170.step b177
      refine exS 2 [(23, .slice (some ⟨g93, 0, none⟩) 4 4), (24, .int .i64 1), (145, .bool false)] [] dnil [] F177 (by kernel_rfl) fun a178 F178 => ?_
      simp only [List.drop_succ_cons, List.drop_zero]
      refine hK172 _ _ (wp_cond_false (F178.get (t := 145) rfl) ?_)
      refine wp_skip ?_
      refine hK151 _ _ (wp_region_lit ?_)
      refine rm rfl F178 fun a179 F179 => ?_
      refine rn rfl rfl F179 rfl (.int .i64 2) (y_addI _ _ _ _ rfl (F179.get rfl) rfl rfl (by omega)) fun a180 F180 => ?_
      refine rm rfl F180 fun a181 F181 => ?_
      subst ek98
      exact hK98 _ 2 _ _ (by decide) ⟨rfl, (by decide)⟩ (F181.sub ⟨rfl, rfl, trivial⟩) (M177.sub ⟨rfl, rfl, rfl, rfl, rfl, rfl, rfl, rfl, rfl, rfl, rfl, rfl, rfl, rfl, rfl, trivial⟩)
    refine rn rfl rfl F174 rfl (.bool false) (y_neB _ _ rfl (F174.get rfl) (F174.get rfl) rfl) fun a182 F182 => ?_
    refine exA 3 [(140, .bool false), (141, .agg (recA t1 V157)), (142, .agg (recA t1 V167))] [0, 1] (dcons (M170.blk (k := 17) rfl) (dcons (M170.blk (k := 20) rfl) dnil)) [g159, g169] F182 (by kernel_rfl) (by kernel_rfl) fun a183 F183 => ?_
    simp only [List.drop_succ_cons, List.drop_zero]
    refine wl_call (wanted_yes rfl rfl rfl (F183.get rfl)) rfl F183 rfl rfl (enters_of Try.func38 (by kernel_rfl) rfl) #[.agg (recA t1 V157), .agg (recA t1 V167)] (args2 (F183.get rfl) (F183.get rfl)) (call_ex ((recs_is t1 t1 V157 V167 ot1 ot1 true (eqR_self t1) w170 ⟨(M170.isb (k := 15) rfl), (M170.isb (k := 16) rfl)⟩ ⟨(M170.isb (k := 18) rfl), (M170.isb (k := 19) rfl)⟩))) ?_
    rintro _ w184 a184 ⟨rfl, b184⟩ F184
    have M184 := M170.step b184
    refine exS 2 [(23, .slice (some ⟨g93, 0, none⟩) 4 4), (24, .int .i64 1), (145, .bool false)] [] dnil [] F184 (by kernel_rfl) fun a185 F185 => ?_
    simp only [List.drop_succ_cons, List.drop_zero]
    refine hK172 _ _ (wp_cond_false (F185.get (t := 145) rfl) ?_)
    refine wp_skip ?_
    refine hK151 _ _ (wp_region_lit ?_)
    refine rm rfl F185 fun a186 F186 => ?_
    refine rn rfl rfl F186 rfl (.int .i64 2) (y_addI _ _ _ _ rfl (F186.get rfl) rfl rfl (by omega)) fun a187 F187 => ?_
    refine rm rfl F187 fun a188 F188 => ?_
    subst ek98
    exact hK98 _ 2 _ _ (by decide) ⟨rfl, (by decide)⟩ (F188.sub ⟨rfl, rfl, trivial⟩) (M184.sub ⟨rfl, rfl, rfl, rfl, rfl, rfl, rfl, rfl, rfl, rfl, rfl, rfl, rfl, rfl, rfl, trivial⟩)
  by_cases hj2 : jn = 2
  · subst hj2
    replace F98 : Fx _ _ [(23, .slice (some ⟨g93, 0, none⟩) 4 4), (24, .int .i64 2)] := F98
    obtain ⟨q2, hq2⟩ : ∃ x, rdOk l6 = x := ⟨_, rfl⟩
    obtain ⟨t2, ht2⟩ : ∃ x, rdR l6 = x := ⟨_, rfl⟩
    have ot2 : RecOk t2 := by rw [← ht2]; exact rdR_ok _
    refine wp_seq_k fun K190 hK190 => wp_seq_k fun K191 hK191 => ?_
    refine wp_region_lit ?_
    refine rm rfl F98 fun a192 F192 => ?_
    refine rm rfl F192 fun a193 F193 => ?_
    refine rn rfl rfl F193 rfl (.int .i64 4) (y_lnG 41 Try.underlying41 _ rfl (F193.get rfl) rfl) fun a194 F194 => ?_
    refine rn rfl rfl F194 rfl (.bool true) (y_lss _ _ _ _ rfl (F194.get rfl) (F194.get rfl) (decide_eq_true (by decide))) fun a195 F195 => ?_
    refine hK191 _ _ (wp_cond_true (F195.get (t := 118) rfl) ?_)
    refine wp_skip ?_
    refine hK190 _ _ (wp_seq_k fun K196 hK196 => ?_)
    refine wp_block ?_
    refine wp_seq_k fun K197 hK197 => wp_region_lit ?_
    refine rm rfl F195 fun a198 F198 => ?_
    refine rm rfl F198 fun a199 F199 => ?_
    refine rn rfl rfl F199 rfl (.pointer (some ⟨g93, 2, none⟩)) (y_ixG 41 (s := 1) Try.underlying41 (by kernel_rfl) _ _ rfl (F199.get rfl) (F199.get rfl) rfl (by decide) rfl) fun a200 F200 => ?_
    refine rn rfl rfl F200 rfl (.slice A6 n6 cap6) (y_ld1 _ _ rfl (F200.get rfl) (M98.blk (k := 14) rfl) rfl Try.underlying22 rfl) fun a201 F201 => ?_
    refine wl_call (wanted_none rfl) rfl F201 rfl rfl (enters_of Try.func37 (by kernel_rfl) rfl) #[.slice A6 n6 cap6] (args1 (F201.get rfl)) (rd_is l6 (.slice A6 n6 cap6) (by first | omega | (simp; omega)) q2 t2 hq2 ht2 w98 (M98.isb (k := 1) rfl)) ?_
    rintro _ w202 a202 ⟨V202, rfl, is202, lo202, b202⟩ F202
    have M202 := M98.newRec b202 is202 lo202 15 16
    clear M98 b202 lo202
    refine exS 3 [(23, .slice (some ⟨g93, 0, none⟩) 4 4), (24, .int .i64 2), (127, .agg (recA t2 V202)), (128, .bool q2)] [] dnil [] F202 (by kernel_rfl) fun a203 F203 => ?_
    simp only [List.drop_succ_cons, List.drop_zero]
    refine wl_alloc (wanted_none rfl) rfl F203 rfl M202 17 (t := 54) (c := recA ⟨0, "".toUTF8, [], 0, 0, [], 0, 0, 0⟩ ⟨.slice none 0 0, .slice none 0 0⟩) (by unfold execOp; kernel_rfl) ?_
    intro g204 a204 w204 F204 M204
    clear F203 M202
    refine wl_st (wanted_none rfl) rfl F204 M204 (k := 17) rfl _ _ _ rfl (F204.get rfl) (F204.get rfl) (recA t2 V202) (recA t2 V202) rfl (Nat.le_of_ble_eq_true rfl) (recA_one (w := w204) ⟨(M204.isb (k := 15) rfl), (M204.isb (k := 16) rfl)⟩) (y_put0 rfl) (by kernel_rfl) ?_
    intro w205 M205
    clear M204
    refine rm rfl F204 fun a206 F206 => ?_
    refine hK197 _ _ (wp_seq_k fun K207 hK207 => ?_)
    refine wp_region_lit ?_
    refine rm rfl F206 fun a208 F208 => ?_
    refine rm rfl F208 fun a209 F209 => ?_
    refine rn rfl rfl F209 rfl (.pointer (some ⟨g93, 2, none⟩)) (y_ixG 41 (s := 1) Try.underlying41 (by kernel_rfl) _ _ rfl (F209.get rfl) (F209.get rfl) rfl (by decide) rfl) fun a210 F210 => ?_
    refine rn rfl rfl F210 rfl (.slice A6 n6 cap6) (y_ld1 _ _ rfl (F210.get rfl) (M205.blk (k := 14) rfl) rfl Try.underlying22 rfl) fun a211 F211 => ?_
    refine wl_call (wanted_none rfl) rfl F211 rfl rfl (enters_of Try.func39 (by kernel_rfl) rfl) #[.slice A6 n6 cap6] (args1 (F211.get rfl)) (rrd_is l6 (.slice A6 n6 cap6) (by first | omega | (simp; omega)) q2 t2 hq2 ht2 w205 (M205.isb (k := 1) rfl)) ?_
    rintro _ w212 a212 ⟨V212, rfl, is212, lo212, b212⟩ F212
    have M212 := M205.newRec b212 is212 lo212 18 19
    clear M205 b212 lo212
    refine exA 3 [(129, .tuple #[.agg (recA t2 V212), .bool q2]), (135, .agg (recA t2 V212)), (136, .bool q2)] [] dnil [] F212 (by kernel_rfl) (by kernel_rfl) fun a213 F213 => ?_
    simp only [List.drop_succ_cons, List.drop_zero]
    refine wl_alloc (wanted_none rfl) rfl F213 rfl M212 20 (t := 54) (c := recA ⟨0, "".toUTF8, [], 0, 0, [], 0, 0, 0⟩ ⟨.slice none 0 0, .slice none 0 0⟩) (by unfold execOp; kernel_rfl) ?_
    intro g214 a214 w214 F214 M214
    clear F213 M212
    refine wl_st (wanted_none rfl) rfl F214 M214 (k := 20) rfl _ _ _ rfl (F214.get rfl) (F214.get rfl) (recA t2 V212) (recA t2 V212) rfl (Nat.le_of_ble_eq_true rfl) (recA_one (w := w214) ⟨(M214.isb (k := 18) rfl), (M214.isb (k := 19) rfl)⟩) (y_put0 rfl) (by kernel_rfl) ?_
    intro w215 M215
    clear M214
    refine rm rfl F214 fun a216 F216 => ?_
    refine hK207 _ _ (wp_seq_k fun K217 hK217 => ?_)
    refine wp_region_lit ?_
    refine rm rfl F216 fun a218 F218 => ?_
    refine rm rfl F218 fun a219 F219 => ?_
    cases q2
    · refine rn rfl rfl F219 rfl (.bool false) (y_neB _ _ rfl (F219.get rfl) (F219.get rfl) rfl) fun a220 F220 => ?_
      refine exA 3 [(140, .bool false), (141, .agg (recA t2 V202)), (142, .agg (recA t2 V212))] [0, 1] (dcons (M215.blk (k := 17) rfl) (dcons (M215.blk (k := 20) rfl) dnil)) [g204, g214] F220 (by kernel_rfl) (by kernel_rfl) fun a221 F221 => ?_
      simp only [List.drop_succ_cons, List.drop_zero]
      refine wl_call (wanted_yes rfl rfl rfl (F221.get rfl)) rfl F221 rfl rfl (enters_of Try.func38 (by kernel_rfl) rfl) #[.agg (recA t2 V202), .agg (recA t2 V212)] (args2 (F221.get rfl) (F221.get rfl)) (call_ex ((recs_is t2 t2 V202 V212 ot2 ot2 true (eqR_self t2) w215 ⟨(M215.isb (k := 15) rfl), (M215.isb (k := 16) rfl)⟩ ⟨(M215.isb (k := 18) rfl), (M215.isb (k := 19) rfl)⟩))) ?_
      rintro _ w222 a222 ⟨rfl, b222⟩ F222
      have M222 := M215.step b222
      refine exS 2 [(23, .slice (some ⟨g93, 0, none⟩) 4 4), (24, .int .i64 2), (145, .bool false)] [] dnil [] F222 (by kernel_rfl) fun a223 F223 => ?_
      simp only [List.drop_succ_cons, List.drop_zero]
      refine hK217 _ _ (wp_cond_false (F223.get (t := 145) rfl) ?_)
      refine wp_skip ?_
      refine hK196 _ _ (wp_region_lit ?_)
      refine rm rfl F223 fun a224 F224 => ?_
      refine rn rfl rfl F224 rfl (.int .i64 3) (y_addI _ _ _ _ rfl (F224.get rfl) rfl rfl (by omega)) fun a225 F225 => ?_
      refine rm rfl F225 fun a226 F226 => ?_
      subst ek98
      exact hK98 _ 3 _ _ (by decide) ⟨rfl, (by decide)⟩ (F226.sub ⟨rfl, rfl, trivial⟩) (M222.sub ⟨rfl, rfl, rfl, rfl, rfl, rfl, rfl, rfl, rfl, rfl, rfl, rfl, rfl, rfl, rfl, trivial⟩)
    refine rn rfl rfl F219 rfl (.bool false) (y_neB _ _ rfl (F219.get rfl) (F219.get rfl) rfl) fun a227 F227 => ?_
    refine exA 3 [(140, .bool false), (141, .agg (recA t2 V202)), (142, .agg (recA t2 V212))] [0, 1] (dcons (M215.blk (k := 17) rfl) (dcons (M215.blk (k := 20) rfl) dnil)) [g204, g214] F227 (by kernel_rfl) (by kernel_rfl) fun a228 F228 => ?_
    simp only [List.drop_succ_cons, List.drop_zero]
    refine wl_call (wanted_yes rfl rfl rfl (F228.get rfl)) rfl F228 rfl rfl (enters_of Try.func38 (by kernel_rfl) rfl) #[.agg (recA t2 V202), .agg (recA t2 V212)] (args2 (F228.get rfl) (F228.get rfl)) (call_ex ((recs_is t2 t2 V202 V212 ot2 ot2 true (eqR_self t2) w215 ⟨(M215.isb (k := 15) rfl), (M215.isb (k := 16) rfl)⟩ ⟨(M215.isb (k := 18) rfl), (M215.isb (k := 19) rfl)⟩))) ?_
    rintro _ w229 a229 ⟨rfl, b229⟩ F229
    have M229 := M215.step b229
    refine exS 2 [(23, .slice (some ⟨g93, 0, none⟩) 4 4), (24, .int .i64 2), (145, .bool false)] [] dnil [] F229 (by kernel_rfl) fun a230 F230 => ?_
    simp only [List.drop_succ_cons, List.drop_zero]
    refine hK217 _ _ (wp_cond_false (F230.get (t := 145) rfl) ?_)
    refine wp_skip ?_
    refine hK196 _ _ (wp_region_lit ?_)
    refine rm rfl F230 fun a231 F231 => ?_
    refine rn rfl rfl F231 rfl (.int .i64 3) (y_addI _ _ _ _ rfl (F231.get rfl) rfl rfl (by omega)) fun a232 F232 => ?_
    refine rm rfl F232 fun a233 F233 => ?_
    subst ek98
    exact hK98 _ 3 _ _ (by decide) ⟨rfl, (by decide)⟩ (F233.sub ⟨rfl, rfl, trivial⟩) (M229.sub ⟨rfl, rfl, rfl, rfl, rfl, rfl, rfl, rfl, rfl, rfl, rfl, rfl, rfl, rfl, rfl, trivial⟩)
  by_cases hj3 : jn = 3
  · subst hj3
    replace F98 : Fx _ _ [(23, .slice (some ⟨g93, 0, none⟩) 4 4), (24, .int .i64 3)] := F98
    obtain ⟨q3, hq3⟩ : ∃ x, rdOk Y = x := ⟨_, rfl⟩
    obtain ⟨t3, ht3⟩ : ∃ x, rdR Y = x := ⟨_, rfl⟩
    have ot3 : RecOk t3 := by rw [← ht3]; exact rdR_ok _
    refine wp_seq_k fun K235 hK235 => wp_seq_k fun K236 hK236 => ?_
    refine wp_region_lit ?_
    refine rm rfl F98 fun a237 F237 => ?_
    refine rm rfl F237 fun a238 F238 => ?_
    refine rn rfl rfl F238 rfl (.int .i64 4) (y_lnG 41 Try.underlying41 _ rfl (F238.get rfl) rfl) fun a239 F239 => ?_
    refine rn rfl rfl F239 rfl (.bool true) (y_lss _ _ _ _ rfl (F239.get rfl) (F239.get rfl) (decide_eq_true (by decide))) fun a240 F240 => ?_
    refine hK236 _ _ (wp_cond_true (F240.get (t := 118) rfl) ?_)
    refine wp_skip ?_
    refine hK235 _ _ (wp_seq_k fun K241 hK241 => ?_)
    refine wp_block ?_
    refine wp_seq_k fun K242 hK242 => wp_region_lit ?_
    refine rm rfl F240 fun a243 F243 => ?_
    refine rm rfl F243 fun a244 F244 => ?_
    refine rn rfl rfl F244 rfl (.pointer (some ⟨g93, 3, none⟩)) (y_ixG 41 (s := 1) Try.underlying41 (by kernel_rfl) _ _ rfl (F244.get rfl) (F244.get rfl) rfl (by decide) rfl) fun a245 F245 => ?_
    refine rn rfl rfl F245 rfl ((.slice Ap91_12 (Y).length cp91_12)) (y_ld1 _ _ rfl (F245.get rfl) (M98.blk (k := 14) rfl) rfl Try.underlying22 rfl) fun a246 F246 => ?_
    refine wl_call (wanted_none rfl) rfl F246 rfl rfl (enters_of Try.func37 (by kernel_rfl) rfl) #[(.slice Ap91_12 (Y).length cp91_12)] (args1 (F246.get rfl)) (rd_is Y ((.slice Ap91_12 (Y).length cp91_12)) (by first | omega | (simp; omega)) q3 t3 hq3 ht3 w98 (M98.isO (k := 12) rfl)) ?_
    rintro _ w247 a247 ⟨V247, rfl, is247, lo247, b247⟩ F247
    have M247 := M98.newRec b247 is247 lo247 15 16
    clear M98 b247 lo247
    refine exS 3 [(23, .slice (some ⟨g93, 0, none⟩) 4 4), (24, .int .i64 3), (127, .agg (recA t3 V247)), (128, .bool q3)] [] dnil [] F247 (by kernel_rfl) fun a248 F248 => ?_
    simp only [List.drop_succ_cons, List.drop_zero]
    refine wl_alloc (wanted_none rfl) rfl F248 rfl M247 17 (t := 54) (c := recA ⟨0, "".toUTF8, [], 0, 0, [], 0, 0, 0⟩ ⟨.slice none 0 0, .slice none 0 0⟩) (by unfold execOp; kernel_rfl) ?_
    intro g249 a249 w249 F249 M249
    clear F248 M247
    refine wl_st (wanted_none rfl) rfl F249 M249 (k := 17) rfl _ _ _ rfl (F249.get rfl) (F249.get rfl) (recA t3 V247) (recA t3 V247) rfl (Nat.le_of_ble_eq_true rfl) (recA_one (w := w249) ⟨(M249.isb (k := 15) rfl), (M249.isb (k := 16) rfl)⟩) (y_put0 rfl) (by kernel_rfl) ?_
    intro w250 M250
    clear M249
    refine rm rfl F249 fun a251 F251 => ?_
    refine hK242 _ _ (wp_seq_k fun K252 hK252 => ?_)
    refine wp_region_lit ?_
    refine rm rfl F251 fun a253 F253 => ?_
    refine rm rfl F253 fun a254 F254 => ?_
    refine rn rfl rfl F254 rfl (.pointer (some ⟨g93, 3, none⟩)) (y_ixG 41 (s := 1) Try.underlying41 (by kernel_rfl) _ _ rfl (F254.get rfl) (F254.get rfl) rfl (by decide) rfl) fun a255 F255 => ?_
    refine rn rfl rfl F255 rfl ((.slice Ap91_12 (Y).length cp91_12)) (y_ld1 _ _ rfl (F255.get rfl) (M250.blk (k := 14) rfl) rfl Try.underlying22 rfl) fun a256 F256 => ?_
    refine wl_call (wanted_none rfl) rfl F256 rfl rfl (enters_of Try.func39 (by kernel_rfl) rfl) #[(.slice Ap91_12 (Y).length cp91_12)] (args1 (F256.get rfl)) (rrd_is Y ((.slice Ap91_12 (Y).length cp91_12)) (by first | omega | (simp; omega)) q3 t3 hq3 ht3 w250 (M250.isO (k := 12) rfl)) ?_
    rintro _ w257 a257 ⟨V257, rfl, is257, lo257, b257⟩ F257
    have M257 := M250.newRec b257 is257 lo257 18 19
    clear M250 b257 lo257
    refine exA 3 [(129, .tuple #[.agg (recA t3 V257), .bool q3]), (135, .agg (recA t3 V257)), (136, .bool q3)] [] dnil [] F257 (by kernel_rfl) (by kernel_rfl) fun a258 F258 => ?_
    simp only [List.drop_succ_cons, List.drop_zero]
    refine wl_alloc (wanted_none rfl) rfl F258 rfl M257 20 (t := 54) (c := recA ⟨0, "".toUTF8, [], 0, 0, [], 0, 0, 0⟩ ⟨.slice none 0 0, .slice none 0 0⟩) (by unfold execOp; kernel_rfl) ?_
    intro g259 a259 w259 F259 M259
    clear F258 M257
    refine wl_st (wanted_none rfl) rfl F259 M259 (k := 20) rfl _ _ _ rfl (F259.get rfl) (F259.get rfl) (recA t3 V257) (recA t3 V257) rfl (Nat.le_of_ble_eq_true rfl) (recA_one (w := w259) ⟨(M259.isb (k := 18) rfl), (M259.isb (k := 19) rfl)⟩) (y_put0 rfl) (by kernel_rfl) ?_
    intro w260 M260
    clear M259
    refine rm rfl F259 fun a261 F261 => ?_
    refine hK252 _ _ (wp_seq_k fun K262 hK262 => ?_)
    refine wp_region_lit ?_
    refine rm rfl F261 fun a263 F263 => ?_
    refine rm rfl F263 fun a264 F264 => ?_
    cases q3
    · refine rn rfl rfl F264 rfl (.bool false) (y_neB _ _ rfl (F264.get rfl) (F264.get rfl) rfl) fun a265 F265 => ?_
      refine exA 3 [(140, .bool false), (141, .agg (recA t3 V247)), (142, .agg (recA t3 V257))] [0, 1] (dcons (M260.blk (k := 17) rfl) (dcons (M260.blk (k := 20) rfl) dnil)) [g249, g259] F265 (by kernel_rfl) (by kernel_rfl) fun a266 F266 => ?_
      simp only [List.drop_succ_cons, List.drop_zero]
      refine wl_call (wanted_yes rfl rfl rfl (F266.get rfl)) rfl F266 rfl rfl (enters_of Try.func38 (by kernel_rfl) rfl) #[.agg (recA t3 V247), .agg (recA t3 V257)] (args2 (F266.get rfl) (F266.get rfl)) (call_ex ((recs_is t3 t3 V247 V257 ot3 ot3 true (eqR_self t3) w260 ⟨(M260.isb (k := 15) rfl), (M260.isb (k := 16) rfl)⟩ ⟨(M260.isb (k := 18) rfl), (M260.isb (k := 19) rfl)⟩))) ?_
      rintro _ w267 a267 ⟨rfl, b267⟩ F267
      have M267 := M260.step b267
      refine exS 2 [(23, .slice (some ⟨g93, 0, none⟩) 4 4), (24, .int .i64 3), (145, .bool false)] [] dnil [] F267 (by kernel_rfl) fun a268 F268 => ?_
      simp only [List.drop_succ_cons, List.drop_zero]
      refine hK262 _ _ (wp_cond_false (F268.get (t := 145) rfl) ?_)
      refine wp_skip ?_
      refine hK241 _ _ (wp_region_lit ?_)
      refine rm rfl F268 fun a269 F269 => ?_
      refine rn rfl rfl F269 rfl (.int .i64 4) (y_addI _ _ _ _ rfl (F269.get rfl) rfl rfl (by omega)) fun a270 F270 => ?_
      refine rm rfl F270 fun a271 F271 => ?_
      subst ek98
      exact hK98 _ 4 _ _ (by decide) ⟨rfl, (by decide)⟩ (F271.sub ⟨rfl, rfl, trivial⟩) (M267.sub ⟨rfl, rfl, rfl, rfl, rfl, rfl, rfl, rfl, rfl, rfl, rfl, rfl, rfl, rfl, rfl, trivial⟩)
    refine rn rfl rfl F264 rfl (.bool false) (y_neB _ _ rfl (F264.get rfl) (F264.get rfl) rfl) fun a272 F272 => ?_
    refine exA 3 [(140, .bool false), (141, .agg (recA t3 V247)), (142, .agg (recA t3 V257))] [0, 1] (dcons (M260.blk (k := 17) rfl) (dcons (M260.blk (k := 20) rfl) dnil)) [g249, g259] F272 (by kernel_rfl) (by kernel_rfl) fun a273 F273 => ?_
    simp only [List.drop_succ_cons, List.drop_zero]
    refine wl_call (wanted_yes rfl rfl rfl (F273.get rfl)) rfl F273 rfl rfl (enters_of Try.func38 (by kernel_rfl) rfl) #[.agg (recA t3 V247), .agg (recA t3 V257)] (args2 (F273.get rfl) (F273.get rfl)) (call_ex ((recs_is t3 t3 V247 V257 ot3 ot3 true (eqR_self t3) w260 ⟨(M260.isb (k := 15) rfl), (M260.isb (k := 16) rfl)⟩ ⟨(M260.isb (k := 18) rfl), (M260.isb (k := 19) rfl)⟩))) ?_
    rintro _ w274 a274 ⟨rfl, b274⟩ F274
    have M274 := M260.step b274
    refine exS 2 [(23, .slice (some ⟨g93, 0, none⟩) 4 4), (24, .int .i64 3), (145, .bool false)] [] dnil [] F274 (by kernel_rfl) fun a275 F275 => ?_
    simp only [List.drop_succ_cons, List.drop_zero]
    refine hK262 _ _ (wp_cond_false (F275.get (t := 145) rfl) ?_)
    refine wp_skip ?_
    refine hK241 _ _ (wp_region_lit ?_)
    refine rm rfl F275 fun a276 F276 => ?_
    refine rn rfl rfl F276 rfl (.int .i64 4) (y_addI _ _ _ _ rfl (F276.get rfl) rfl rfl (by omega)) fun a277 F277 => ?_
    refine rm rfl F277 fun a278 F278 => ?_
    subst ek98
    exact hK98 _ 4 _ _ (by decide) ⟨rfl, (by decide)⟩ (F278.sub ⟨rfl, rfl, trivial⟩) (M274.sub ⟨rfl, rfl, rfl, rfl, rfl, rfl, rfl, rfl, rfl, rfl, rfl, rfl, rfl, rfl, rfl, trivial⟩)
  have hjN : jn = 4 := by omega
  subst hjN
  replace F98 : Fx _ _ [(23, .slice (some ⟨g93, 0, none⟩) 4 4), (24, .int .i64 4)] := F98
  refine wp_seq_k fun K279 hK279 => wp_seq_k fun K280 hK280 => ?_
  refine wp_region_lit ?_
  refine rm rfl F98 fun a281 F281 => ?_
  refine rm rfl F281 fun a282 F282 => ?_
  refine rn rfl rfl F282 rfl (.int .i64 4) (y_lnG 41 Try.underlying41 _ rfl (F282.get rfl) rfl) fun a283 F283 => ?_
  refine rn rfl rfl F283 rfl (.bool false) (y_lss _ _ _ _ rfl (F283.get rfl) (F283.get rfl) (decide_eq_false (by decide))) fun a284 F284 => ?_
  refine hK280 _ _ (wp_cond_false (F284.get (t := 118) rfl) ?_)
  refine wp_exit ?_
  simp only [Exit.then, Exit.inBlock, ↓reduceIte, Nat.reduceEqDiff]
  refine hK95 _ _ (wp_seq_k fun K285 hK285 => ?_)
  refine wp_region_lit ?_
  refine rm rfl F284 fun a286 F286 => ?_
  refine hK285 _ _ (wp_ret ?_)
  try simp only [Exit.then, Exit.inBlock, Exit.jump]
  exact bodyPost_ret (res1 rfl (F286.get (t := 14) rfl)) F286.defers ⟨rfl, M98.below⟩
end Go.Proofs.Ytlbkogdmojlpmaa
