/- What WireApart stands on, part 11. -/
import Derived.Deep.CutRange
import Derived.Test.YtlbkogdmojlpmaaWireApartP1
import Derived.Test.YtlbkogdmojlpmaaWireApartP2
import Derived.Test.YtlbkogdmojlpmaaWireApartP3
import Derived.Test.YtlbkogdmojlpmaaWireApartP4
import Derived.Test.YtlbkogdmojlpmaaWireApartP5
import Derived.Test.YtlbkogdmojlpmaaWireApartP6
import Derived.Test.YtlbkogdmojlpmaaWireApartP7
import Derived.Test.YtlbkogdmojlpmaaWireApartP8
import Derived.Test.YtlbkogdmojlpmaaWireApartP9
import Derived.Test.YtlbkogdmojlpmaaWireApartP10
namespace Go.Proofs.Ytlbkogdmojlpmaa
set_option linter.unusedVariables false
set_option maxRecDepth 20000
set_option linter.unusedSimpArgs false
open Go.ChangeShapes Go.WideShapes Go.ChangeAt Go.RowKit
set_option maxRecDepth 100000 in
set_option maxHeartbeats 8000000 in
theorem WireApart_walk (a0 : Int) (hk0 : -9223372036854775808 ≤ a0) (hl0 : a0 < 9223372036854775808)
    (a1 : Int) (hk1 : -9223372036854775808 ≤ a1) (hl1 : a1 < 9223372036854775808)
    (a2 : Int) (hk2 : -9223372036854775808 ≤ a2) (hl2 : a2 < 9223372036854775808)
    (a3 : ByteArray) (hS3 : a3.size ≤ maxLen)
    (a4 : ByteArray) (hS4 : a4.size ≤ maxLen)
    (A5 : Option Addr) (n5 cap5 : Nat) (l5 : List UInt8) (hn5 : l5.length = n5) (hc5 : n5 ≤ cap5) (hm5 : cap5 ≤ maxLen) (hz5 : A5 = none → cap5 = 0)
    (A6 : Option Addr) (n6 cap6 : Nat) (l6 : List UInt8) (hn6 : l6.length = n6) (hc6 : n6 ≤ cap6) (hm6 : cap6 ≤ maxLen) (hz6 : A6 = none → cap6 = 0) (w : World) (hr5 : Rd w A5 l5) (hr6 : Rd w A6 l6) :
    Calls Try.prog 13 #[.int .i64 a0, .int .i64 a1, .int .i64 a2, .string a3, .string a4, .slice A5 n5 cap5, .slice A6 n6 cap6] w fun e w' => e = .returned (.bool true) ∧ Below w.heap.size w w' := by
  have ib5 : IsB w l5 (.slice A5 n5 cap5) := hr5.isB' hn5 hc5 hm5 hz5
  have ib6 : IsB w l6 (.slice A6 n6 cap6) := hr6.isB' hn6 hc6 hm6 hz6
  by_cases b0 : 40 < a3.size
  · refine calls_fx (args := [.int .i64 a0, .int .i64 a1, .int .i64 a2, .string a3, .string a4, .slice A5 n5 cap5, .slice A6 n6 cap6]) 113 Try.func13 rfl rfl rfl ?_
    intro fa F
    have M := Mx.start w
    replace M := M.argB 0 ib5 (fun g e => by cases e)
    replace M := M.argB 1 ib6 (fun g e => by cases e)
    refine wp_seq_k fun K21 hK21 => wp_region_lit ?_
    refine rm rfl F fun a22 F22 => ?_
    refine hK21 _ _ (wp_seq_k fun K23 hK23 => ?_)
    refine wp_seq_k fun K24 hK24 => wp_region_lit ?_
    refine wl_call (wanted_none rfl) rfl F22 rfl rfl (enters_of Try.func15 (by kernel_rfl) rfl) #[] (args0) (call_ex (lknown_any w)) ?_
    rintro _ w25 a25 ⟨rfl, b25⟩ F25
    have M25 := M.step b25
    refine rn rfl rfl F25 rfl (.bool false) (run_not _ _ rfl (F25.get (t := 27) rfl)) fun a26 F26 => ?_
    refine hK24 _ _ (wp_cond_false (F26.get (t := 28) rfl) ?_)
    refine wp_skip ?_
    refine hK23 _ _ (wp_seq_k fun K27 hK27 => ?_)
    refine wp_seq_k fun K28 hK28 => wp_region_lit ?_
    refine rm rfl F26 fun a29 F29 => ?_
    refine rn rfl rfl F29 rfl (.int .i64 (a3.size : Int)) (y_lenS _ rfl (F29.get rfl) rfl) fun a30 F30 => ?_
    refine rn rfl rfl F30 rfl (.bool true) (y_gtr _ _ _ _ rfl (F30.get rfl) rfl (decide_eq_true (show (40 : Int) < (a3.size : Int) by omega))) fun a31 F31 => ?_
    refine exS 15 [(0, .int .i64 a0), (1, .int .i64 a1), (2, .int .i64 a2), (3, .string a3), (4, .string a4), (5, .slice A5 n5 cap5), (6, .slice A6 n6 cap6), (14, .bool false), (46, .bool true)] [] dnil [] F31 (by kernel_rfl) fun a32 F32 => ?_
    simp only [List.drop_succ_cons, List.drop_zero]
    refine hK28 _ _ (wp_cond_true (F32.get (t := 46) rfl) ?_)
    refine wp_seq_k fun K33 hK33 => wp_region_lit ?_
    refine rm rfl F32 fun a34 F34 => ?_
    refine hK33 _ _ (wp_ret ?_)
    try simp only [Exit.then, Exit.inBlock, Exit.jump]
    exact bodyPost_ret (res1 rfl (F34.get (t := 14) rfl)) F34.defers ⟨rfl, M25.below⟩
  by_cases b1 : 40 < a4.size
  · refine calls_fx (args := [.int .i64 a0, .int .i64 a1, .int .i64 a2, .string a3, .string a4, .slice A5 n5 cap5, .slice A6 n6 cap6]) 113 Try.func13 rfl rfl rfl ?_
    intro fa F
    have M := Mx.start w
    replace M := M.argB 0 ib5 (fun g e => by cases e)
    replace M := M.argB 1 ib6 (fun g e => by cases e)
    refine wp_seq_k fun K21 hK21 => wp_region_lit ?_
    refine rm rfl F fun a22 F22 => ?_
    refine hK21 _ _ (wp_seq_k fun K23 hK23 => ?_)
    refine wp_seq_k fun K24 hK24 => wp_region_lit ?_
    refine wl_call (wanted_none rfl) rfl F22 rfl rfl (enters_of Try.func15 (by kernel_rfl) rfl) #[] (args0) (call_ex (lknown_any w)) ?_
    rintro _ w25 a25 ⟨rfl, b25⟩ F25
    have M25 := M.step b25
    refine rn rfl rfl F25 rfl (.bool false) (run_not _ _ rfl (F25.get (t := 27) rfl)) fun a26 F26 => ?_
    refine hK24 _ _ (wp_cond_false (F26.get (t := 28) rfl) ?_)
    refine wp_skip ?_
    refine hK23 _ _ (wp_seq_k fun K27 hK27 => ?_)
    refine wp_seq_k fun K28 hK28 => wp_region_lit ?_
    refine rm rfl F26 fun a29 F29 => ?_
    refine rn rfl rfl F29 rfl (.int .i64 (a3.size : Int)) (y_lenS _ rfl (F29.get rfl) rfl) fun a30 F30 => ?_
    refine rn rfl rfl F30 rfl (.bool false) (y_gtr _ _ _ _ rfl (F30.get rfl) rfl (decide_eq_false (show ¬ (40 : Int) < (a3.size : Int) by omega))) fun a31 F31 => ?_
    refine rm rfl F31 fun a32 F32 => ?_
    refine rm rfl F32 fun a33 F33 => ?_
    refine wl_run (w' := w25) (wanted_yes rfl rfl rfl (F33.get rfl)) rfl F33 rfl (.int .i64 (a4.size : Int)) (y_lenS _ rfl (F33.get rfl) rfl) fun a34 F34 => ?_
    refine wl_run (w' := w25) (wanted_yes rfl rfl rfl (F34.get rfl)) rfl F34 rfl (.bool true) (y_gtr _ _ _ _ rfl (F34.get rfl) rfl (decide_eq_true (show (40 : Int) < (a4.size : Int) by omega))) fun a35 F35 => ?_
    refine exS 11 [(0, .int .i64 a0), (1, .int .i64 a1), (2, .int .i64 a2), (3, .string a3), (4, .string a4), (5, .slice A5 n5 cap5), (6, .slice A6 n6 cap6), (14, .bool false), (46, .bool true)] [] dnil [] F35 (by kernel_rfl) fun a36 F36 => ?_
    simp only [List.drop_succ_cons, List.drop_zero]
    refine hK28 _ _ (wp_cond_true (F36.get (t := 46) rfl) ?_)
    refine wp_seq_k fun K37 hK37 => wp_region_lit ?_
    refine rm rfl F36 fun a38 F38 => ?_
    refine hK37 _ _ (wp_ret ?_)
    try simp only [Exit.then, Exit.inBlock, Exit.jump]
    exact bodyPost_ret (res1 rfl (F38.get (t := 14) rfl)) F38.defers ⟨rfl, M25.below⟩
  by_cases b2 : 100 < l5.length
  · refine calls_fx (args := [.int .i64 a0, .int .i64 a1, .int .i64 a2, .string a3, .string a4, .slice A5 n5 cap5, .slice A6 n6 cap6]) 113 Try.func13 rfl rfl rfl ?_
    intro fa F
    have M := Mx.start w
    replace M := M.argB 0 ib5 (fun g e => by cases e)
    replace M := M.argB 1 ib6 (fun g e => by cases e)
    refine wp_seq_k fun K21 hK21 => wp_region_lit ?_
    refine rm rfl F fun a22 F22 => ?_
    refine hK21 _ _ (wp_seq_k fun K23 hK23 => ?_)
    refine wp_seq_k fun K24 hK24 => wp_region_lit ?_
    refine wl_call (wanted_none rfl) rfl F22 rfl rfl (enters_of Try.func15 (by kernel_rfl) rfl) #[] (args0) (call_ex (lknown_any w)) ?_
    rintro _ w25 a25 ⟨rfl, b25⟩ F25
    have M25 := M.step b25
    refine rn rfl rfl F25 rfl (.bool false) (run_not _ _ rfl (F25.get (t := 27) rfl)) fun a26 F26 => ?_
    refine hK24 _ _ (wp_cond_false (F26.get (t := 28) rfl) ?_)
    refine wp_skip ?_
    refine hK23 _ _ (wp_seq_k fun K27 hK27 => ?_)
    refine wp_seq_k fun K28 hK28 => wp_region_lit ?_
    refine rm rfl F26 fun a29 F29 => ?_
    refine rn rfl rfl F29 rfl (.int .i64 (a3.size : Int)) (y_lenS _ rfl (F29.get rfl) rfl) fun a30 F30 => ?_
    refine rn rfl rfl F30 rfl (.bool false) (y_gtr _ _ _ _ rfl (F30.get rfl) rfl (decide_eq_false (show ¬ (40 : Int) < (a3.size : Int) by omega))) fun a31 F31 => ?_
    refine rm rfl F31 fun a32 F32 => ?_
    refine rm rfl F32 fun a33 F33 => ?_
    refine wl_run (w' := w25) (wanted_yes rfl rfl rfl (F33.get rfl)) rfl F33 rfl (.int .i64 (a4.size : Int)) (y_lenS _ rfl (F33.get rfl) rfl) fun a34 F34 => ?_
    refine wl_run (w' := w25) (wanted_yes rfl rfl rfl (F34.get rfl)) rfl F34 rfl (.bool false) (y_gtr _ _ _ _ rfl (F34.get rfl) rfl (decide_eq_false (show ¬ (40 : Int) < (a4.size : Int) by omega))) fun a35 F35 => ?_
    refine exA 3 [(36, .bool false), (37, .bool false), (38, .slice A5 n5 cap5)] [] dnil [] F35 (by kernel_rfl) (by kernel_rfl) fun a36 F36 => ?_
    simp only [List.drop_succ_cons, List.drop_zero]
    refine wl_run (w' := w25) (wanted_yes rfl rfl rfl (F36.get rfl)) rfl F36 rfl (.int .i64 (l5.length : Int)) (y_len _ rfl (F36.get rfl) (M25.isb (k := 0) rfl) rfl) fun a37 F37 => ?_
    refine wl_run (w' := w25) (wanted_yes rfl rfl rfl (F37.get rfl)) rfl F37 rfl (.bool true) (y_gtr _ _ _ _ rfl (F37.get rfl) rfl (decide_eq_true (show (100 : Int) < (l5.length : Int) by omega))) fun a38 F38 => ?_
    refine exA 6 [(41, .bool true), (42, .bool true), (43, undef), (44, undef), (45, undef), (46, .bool true)] [] dnil [] F38 (by kernel_rfl) (by kernel_rfl) fun a39 F39 => ?_
    simp only [List.drop_succ_cons, List.drop_zero]
    refine hK28 _ _ (wp_cond_true (F39.get (t := 46) rfl) ?_)
    refine wp_seq_k fun K40 hK40 => wp_region_lit ?_
    refine rm rfl F39 fun a41 F41 => ?_
    refine hK40 _ _ (wp_ret ?_)
    try simp only [Exit.then, Exit.inBlock, Exit.jump]
    exact bodyPost_ret (res1 rfl (F41.get (t := 14) rfl)) F41.defers ⟨rfl, M25.below⟩
  by_cases b3 : 100 < l6.length
  · refine calls_fx (args := [.int .i64 a0, .int .i64 a1, .int .i64 a2, .string a3, .string a4, .slice A5 n5 cap5, .slice A6 n6 cap6]) 113 Try.func13 rfl rfl rfl ?_
    intro fa F
    have M := Mx.start w
    replace M := M.argB 0 ib5 (fun g e => by cases e)
    replace M := M.argB 1 ib6 (fun g e => by cases e)
    refine wp_seq_k fun K21 hK21 => wp_region_lit ?_
    refine rm rfl F fun a22 F22 => ?_
    refine hK21 _ _ (wp_seq_k fun K23 hK23 => ?_)
    refine wp_seq_k fun K24 hK24 => wp_region_lit ?_
    refine wl_call (wanted_none rfl) rfl F22 rfl rfl (enters_of Try.func15 (by kernel_rfl) rfl) #[] (args0) (call_ex (lknown_any w)) ?_
    rintro _ w25 a25 ⟨rfl, b25⟩ F25
    have M25 := M.step b25
    refine rn rfl rfl F25 rfl (.bool false) (run_not _ _ rfl (F25.get (t := 27) rfl)) fun a26 F26 => ?_
    refine hK24 _ _ (wp_cond_false (F26.get (t := 28) rfl) ?_)
    refine wp_skip ?_
    refine hK23 _ _ (wp_seq_k fun K27 hK27 => ?_)
    refine wp_seq_k fun K28 hK28 => wp_region_lit ?_
    refine rm rfl F26 fun a29 F29 => ?_
    refine rn rfl rfl F29 rfl (.int .i64 (a3.size : Int)) (y_lenS _ rfl (F29.get rfl) rfl) fun a30 F30 => ?_
    refine rn rfl rfl F30 rfl (.bool false) (y_gtr _ _ _ _ rfl (F30.get rfl) rfl (decide_eq_false (show ¬ (40 : Int) < (a3.size : Int) by omega))) fun a31 F31 => ?_
    refine rm rfl F31 fun a32 F32 => ?_
    refine rm rfl F32 fun a33 F33 => ?_
    refine wl_run (w' := w25) (wanted_yes rfl rfl rfl (F33.get rfl)) rfl F33 rfl (.int .i64 (a4.size : Int)) (y_lenS _ rfl (F33.get rfl) rfl) fun a34 F34 => ?_
    refine wl_run (w' := w25) (wanted_yes rfl rfl rfl (F34.get rfl)) rfl F34 rfl (.bool false) (y_gtr _ _ _ _ rfl (F34.get rfl) rfl (decide_eq_false (show ¬ (40 : Int) < (a4.size : Int) by omega))) fun a35 F35 => ?_
    refine exA 3 [(36, .bool false), (37, .bool false), (38, .slice A5 n5 cap5)] [] dnil [] F35 (by kernel_rfl) (by kernel_rfl) fun a36 F36 => ?_
    simp only [List.drop_succ_cons, List.drop_zero]
    refine wl_run (w' := w25) (wanted_yes rfl rfl rfl (F36.get rfl)) rfl F36 rfl (.int .i64 (l5.length : Int)) (y_len _ rfl (F36.get rfl) (M25.isb (k := 0) rfl) rfl) fun a37 F37 => ?_
    refine wl_run (w' := w25) (wanted_yes rfl rfl rfl (F37.get rfl)) rfl F37 rfl (.bool false) (y_gtr _ _ _ _ rfl (F37.get rfl) rfl (decide_eq_false (show ¬ (100 : Int) < (l5.length : Int) by omega))) fun a38 F38 => ?_
    refine exA 3 [(41, .bool false), (42, .bool false), (43, .slice A6 n6 cap6)] [] dnil [] F38 (by kernel_rfl) (by kernel_rfl) fun a39 F39 => ?_
    simp only [List.drop_succ_cons, List.drop_zero]
    refine wl_run (w' := w25) (wanted_yes rfl rfl rfl (F39.get rfl)) rfl F39 rfl (.int .i64 (l6.length : Int)) (y_len _ rfl (F39.get rfl) (M25.isb (k := 1) rfl) rfl) fun a40 F40 => ?_
    refine wl_run (w' := w25) (wanted_yes rfl rfl rfl (F40.get rfl)) rfl F40 rfl (.bool true) (y_gtr _ _ _ _ rfl (F40.get rfl) rfl (decide_eq_true (show (100 : Int) < (l6.length : Int) by omega))) fun a41 F41 => ?_
    refine rn rfl rfl F41 rfl (.bool true) (run_pick_f rfl (F41.get rfl) (F41.get rfl)) fun a42 F42 => ?_
    refine hK28 _ _ (wp_cond_true (F42.get (t := 46) rfl) ?_)
    refine wp_seq_k fun K43 hK43 => wp_region_lit ?_
    refine rm rfl F42 fun a44 F44 => ?_
    refine hK43 _ _ (wp_ret ?_)
    try simp only [Exit.then, Exit.inBlock, Exit.jump]
    exact bodyPost_ret (res1 rfl (F44.get (t := 14) rfl)) F44.defers ⟨rfl, M25.below⟩
  have hs : a3.size ≤ 40 := by omega
  have ht : a4.size ≤ 40 := by omega
  obtain ⟨m, em⟩ : ∃ x, mkM a0 a1 a3 l5 = x := ⟨_, rfl⟩
  obtain ⟨om, zm⟩ := mkM_ok a0 a1 a3 l5
  have rgm := mkM_right a0 a1 a3 l5
  have km := mkM_kind a0 a1 a3 l5
  rw [em] at om zm rgm km
  obtain ⟨qm, hm1⟩ : ∃ x, encOk m = x := ⟨_, rfl⟩
  obtain ⟨xm, hm2⟩ : ∃ x, encL m = x := ⟨_, rfl⟩
  obtain ⟨u, eu⟩ : ∃ x, mkM a0 a2 a4 l6 = x := ⟨_, rfl⟩
  obtain ⟨ou, zu⟩ := mkM_ok a0 a2 a4 l6
  have rgu := mkM_right a0 a2 a4 l6
  have ku := mkM_kind a0 a2 a4 l6
  rw [eu] at ou zu rgu ku
  obtain ⟨qu, hu1⟩ : ∃ x, encOk u = x := ⟨_, rfl⟩
  obtain ⟨xu, hu2⟩ : ∃ x, encL u = x := ⟨_, rfl⟩
  obtain ⟨r, er⟩ : ∃ x, mkR a1 a3 l5 = x := ⟨_, rfl⟩
  have or := mkR_ok a1 a3 l5
  have pr := mkR_keep a1 a3 l5
  rw [er] at or pr
  obtain ⟨xr, hr2⟩ : ∃ x, recE r = x := ⟨_, rfl⟩
  obtain ⟨t, et⟩ : ∃ x, mkR a2 a4 l6 = x := ⟨_, rfl⟩
  have ot := mkR_ok a2 a4 l6
  have pt := mkR_keep a2 a4 l6
  rw [et] at ot pt
  obtain ⟨xt, ht2⟩ : ∃ x, recE t = x := ⟨_, rfl⟩
  obtain ⟨qe, he⟩ : ∃ x, eqM m u = x := ⟨_, rfl⟩
  obtain ⟨qf, hf⟩ : ∃ x, eqR r t = x := ⟨_, rfl⟩
  refine calls_fx (args := [.int .i64 a0, .int .i64 a1, .int .i64 a2, .string a3, .string a4, .slice A5 n5 cap5, .slice A6 n6 cap6]) 113 Try.func13 rfl rfl rfl ?_
  intro fa F
  have M := Mx.start w
  replace M := M.argB 0 ib5 (fun g e => by cases e)
  replace M := M.argB 1 ib6 (fun g e => by cases e)
  refine wp_seq_k fun K21 hK21 => wp_region_lit ?_
  refine rm rfl F fun a22 F22 => ?_
  refine hK21 _ _ (wp_seq_k fun K23 hK23 => ?_)
  refine wp_seq_k fun K24 hK24 => wp_region_lit ?_
  refine wl_call (wanted_none rfl) rfl F22 rfl rfl (enters_of Try.func15 (by kernel_rfl) rfl) #[] (args0) (call_ex (lknown_any w)) ?_
  rintro _ w25 a25 ⟨rfl, b25⟩ F25
  have M25 := M.step b25
  refine rn rfl rfl F25 rfl (.bool false) (run_not _ _ rfl (F25.get (t := 27) rfl)) fun a26 F26 => ?_
  refine hK24 _ _ (wp_cond_false (F26.get (t := 28) rfl) ?_)
  refine wp_skip ?_
  refine hK23 _ _ (wp_seq_k fun K27 hK27 => ?_)
  refine wp_seq_k fun K28 hK28 => wp_region_lit ?_
  refine rm rfl F26 fun a29 F29 => ?_
  refine rn rfl rfl F29 rfl (.int .i64 (a3.size : Int)) (y_lenS _ rfl (F29.get rfl) rfl) fun a30 F30 => ?_
  refine rn rfl rfl F30 rfl (.bool false) (y_gtr _ _ _ _ rfl (F30.get rfl) rfl (decide_eq_false (show ¬ (40 : Int) < (a3.size : Int) by omega))) fun a31 F31 => ?_
  refine rm rfl F31 fun a32 F32 => ?_
  refine rm rfl F32 fun a33 F33 => ?_
  refine wl_run (w' := w25) (wanted_yes rfl rfl rfl (F33.get rfl)) rfl F33 rfl (.int .i64 (a4.size : Int)) (y_lenS _ rfl (F33.get rfl) rfl) fun a34 F34 => ?_
  refine wl_run (w' := w25) (wanted_yes rfl rfl rfl (F34.get rfl)) rfl F34 rfl (.bool false) (y_gtr _ _ _ _ rfl (F34.get rfl) rfl (decide_eq_false (show ¬ (40 : Int) < (a4.size : Int) by omega))) fun a35 F35 => ?_
  refine exA 3 [(36, .bool false), (37, .bool false), (38, .slice A5 n5 cap5)] [] dnil [] F35 (by kernel_rfl) (by kernel_rfl) fun a36 F36 => ?_
  simp only [List.drop_succ_cons, List.drop_zero]
  refine wl_run (w' := w25) (wanted_yes rfl rfl rfl (F36.get rfl)) rfl F36 rfl (.int .i64 (l5.length : Int)) (y_len _ rfl (F36.get rfl) (M25.isb (k := 0) rfl) rfl) fun a37 F37 => ?_
  refine wl_run (w' := w25) (wanted_yes rfl rfl rfl (F37.get rfl)) rfl F37 rfl (.bool false) (y_gtr _ _ _ _ rfl (F37.get rfl) rfl (decide_eq_false (show ¬ (100 : Int) < (l5.length : Int) by omega))) fun a38 F38 => ?_
  refine exA 3 [(41, .bool false), (42, .bool false), (43, .slice A6 n6 cap6)] [] dnil [] F38 (by kernel_rfl) (by kernel_rfl) fun a39 F39 => ?_
  simp only [List.drop_succ_cons, List.drop_zero]
  refine wl_run (w' := w25) (wanted_yes rfl rfl rfl (F39.get rfl)) rfl F39 rfl (.int .i64 (l6.length : Int)) (y_len _ rfl (F39.get rfl) (M25.isb (k := 1) rfl) rfl) fun a40 F40 => ?_
  refine wl_run (w' := w25) (wanted_yes rfl rfl rfl (F40.get rfl)) rfl F40 rfl (.bool false) (y_gtr _ _ _ _ rfl (F40.get rfl) rfl (decide_eq_false (show ¬ (100 : Int) < (l6.length : Int) by omega))) fun a41 F41 => ?_
  refine rn rfl rfl F41 rfl (.bool false) (run_pick_f rfl (F41.get rfl) (F41.get rfl)) fun a42 F42 => ?_
  refine hK28 _ _ (wp_cond_false (F42.get (t := 46) rfl) ?_)
  refine wp_skip ?_
  refine hK27 _ _ (wp_seq_k fun K43 hK43 => ?_)
  refine wp_region_lit ?_
  refine rm rfl F42 fun a44 F44 => ?_
  refine rm rfl F44 fun a45 F45 => ?_
  refine rm rfl F45 fun a46 F46 => ?_
  refine rm rfl F46 fun a47 F47 => ?_
  refine wl_call (wanted_none rfl) rfl F47 rfl rfl (enters_of Try.func16 (by kernel_rfl) rfl) #[.int .i64 a0, .int .i64 a1, .string a3, .slice A5 n5 cap5] (args4 (F47.get rfl) (F47.get rfl) (F47.get rfl) (F47.get rfl)) (make_is a0 a1 a3 l5 (.slice A5 n5 cap5) ⟨hk0, hl0⟩ ⟨hk1, hl1⟩ hs m em w25 (M25.isb (k := 0) rfl)) ?_
  rintro _ w48 a48 ⟨V48, rfl, is48, lo48, b48⟩ F48
  have M48 := M25.newMsg b48 is48 lo48 2 3 4 5 6
  clear M25 b48 lo48
  refine rm rfl F48 fun a49 F49 => ?_
  refine rm rfl F49 fun a50 F50 => ?_
  refine rm rfl F50 fun a51 F51 => ?_
  refine rm rfl F51 fun a52 F52 => ?_
  refine wl_call (wanted_none rfl) rfl F52 rfl rfl (enters_of Try.func16 (by kernel_rfl) rfl) #[.int .i64 a0, .int .i64 a2, .string a4, .slice A6 n6 cap6] (args4 (F52.get rfl) (F52.get rfl) (F52.get rfl) (F52.get rfl)) (make_is a0 a2 a4 l6 (.slice A6 n6 cap6) ⟨hk0, hl0⟩ ⟨hk2, hl2⟩ ht u eu w48 (M48.isb (k := 1) rfl)) ?_
  rintro _ w53 a53 ⟨V53, rfl, is53, lo53, b53⟩ F53
  have M53 := M48.newMsg b53 is53 lo53 7 8 9 10 11
  clear M48 b53 lo53
  refine wl_alloc (wanted_none rfl) rfl F53 rfl M53 12 (t := 29) (c := msgA ⟨0, 0, 0, 0, "".toUTF8, 0, 0, [], [], [], [], []⟩ ⟨.slice none 0 0, .slice none 0 0, .slice none 0 0, .slice none 0 0, .slice none 0 0⟩) (by unfold execOp; kernel_rfl) ?_
  intro g54 a54 w54 F54 M54
  clear F53 M53
  refine wl_alloc (wanted_none rfl) rfl F54 rfl M54 13 (t := 29) (c := msgA ⟨0, 0, 0, 0, "".toUTF8, 0, 0, [], [], [], [], []⟩ ⟨.slice none 0 0, .slice none 0 0, .slice none 0 0, .slice none 0 0, .slice none 0 0⟩) (by unfold execOp; kernel_rfl) ?_
  intro g55 a55 w55 F55 M55
  clear F54 M54
  refine wl_st (wanted_none rfl) rfl F55 M55 (k := 12) rfl _ _ _ rfl (F55.get rfl) (F55.get rfl) (msgA m V48) (msgA m V48) rfl (Nat.le_of_ble_eq_true rfl) (msgA_one (w := w55) ⟨(M55.isb (k := 2) rfl), (M55.isb (k := 3) rfl), (M55.isb (k := 4) rfl), (M55.isb (k := 5) rfl), (M55.isb (k := 6) rfl)⟩) (y_put0 rfl) (by kernel_rfl) ?_
  intro w56 M56
  clear M55
  refine wl_st (wanted_none rfl) rfl F55 M56 (k := 13) rfl _ _ _ rfl (F55.get rfl) (F55.get rfl) (msgA u V53) (msgA u V53) rfl (Nat.le_of_ble_eq_true rfl) (msgA_one (w := w56) ⟨(M56.isb (k := 7) rfl), (M56.isb (k := 8) rfl), (M56.isb (k := 9) rfl), (M56.isb (k := 10) rfl), (M56.isb (k := 11) rfl)⟩) (y_put0 rfl) (by kernel_rfl) ?_
  intro w57 M57
  clear M56
  refine hK43 _ _ (wp_seq_k fun K58 hK58 => ?_)
  refine wp_region_lit ?_
  refine rn rfl rfl F55 rfl (.agg (msgA m V48)) (y_ldN _ _ rfl (F55.get rfl) (M57.blk (k := 12) rfl) (msgA m V48) (y_all rfl) Try.underlying29 rfl (by kernel_rfl)) fun a59 F59 => ?_
  refine wl_call (wanted_none rfl) rfl F59 rfl rfl (enters_of Try.func17 (by kernel_rfl) rfl) #[.agg (msgA m V48)] (args1 (F59.get rfl)) (enc_is m V48 om zm qm xm hm1 hm2 w57 ⟨(M57.isb (k := 2) rfl), (M57.isb (k := 3) rfl), (M57.isb (k := 4) rfl), (M57.isb (k := 5) rfl), (M57.isb (k := 6) rfl)⟩) ?_
  rintro _ w60 a60 ⟨v60, rfl, hv60, b60⟩ F60
  have M60 := M57.newO b60 14 hv60
  clear M57 b60 hv60
  obtain ⟨A60, c60, rfl⟩ := (M60.isO (k := 14) rfl).shape
  refine exA 5 [(57, .tuple #[.slice A60 (xm).length c60, .bool qm]), (60, .slice A60 (xm).length c60), (61, .bool qm), (17, .slice A60 (xm).length c60), (18, .bool qm)] [] dnil [] F60 (by kernel_rfl) (by kernel_rfl) fun a61 F61 => ?_
  simp only [List.drop_succ_cons, List.drop_zero]
  refine hK58 _ _ (wp_seq_k fun K62 hK62 => ?_)
  refine wp_region_lit ?_
  refine rn rfl rfl F61 rfl (.agg (msgA u V53)) (y_ldN _ _ rfl (F61.get rfl) (M60.blk (k := 13) rfl) (msgA u V53) (y_all rfl) Try.underlying29 rfl (by kernel_rfl)) fun a63 F63 => ?_
  refine wl_call (wanted_none rfl) rfl F63 rfl rfl (enters_of Try.func17 (by kernel_rfl) rfl) #[.agg (msgA u V53)] (args1 (F63.get rfl)) (enc_is u V53 ou zu qu xu hu1 hu2 w60 ⟨(M60.isb (k := 7) rfl), (M60.isb (k := 8) rfl), (M60.isb (k := 9) rfl), (M60.isb (k := 10) rfl), (M60.isb (k := 11) rfl)⟩) ?_
  rintro _ w64 a64 ⟨v64, rfl, hv64, b64⟩ F64
  have M64 := M60.newO b64 15 hv64
  clear M60 b64 hv64
  obtain ⟨A64, c64, rfl⟩ := (M64.isO (k := 15) rfl).shape
  refine exA 5 [(62, .tuple #[.slice A64 (xu).length c64, .bool qu]), (65, .slice A64 (xu).length c64), (66, .bool qu), (19, .slice A64 (xu).length c64), (20, .bool qu)] [] dnil [] F64 (by kernel_rfl) (by kernel_rfl) fun a65 F65 => ?_
  simp only [List.drop_succ_cons, List.drop_zero]
  refine hK62 _ _ (wp_seq_k fun K66 hK66 => ?_)
  refine wp_region_lit ?_
  refine rm rfl F65 fun a67 F67 => ?_
  refine rm rfl F67 fun a68 F68 => ?_
  refine rm rfl F68 fun a69 F69 => ?_
  refine wl_call (wanted_none rfl) rfl F69 rfl rfl (enters_of Try.func34 (by kernel_rfl) rfl) #[.int .i64 a1, .string a3, .slice A5 n5 cap5] (args3 (F69.get rfl) (F69.get rfl) (F69.get rfl)) (maker_is a1 a3 l5 (.slice A5 n5 cap5) ⟨hk1, hl1⟩ hs (by omega) r er w64 (M64.isb (k := 0) rfl)) ?_
  rintro _ w70 a70 ⟨V70, rfl, is70, lo70, b70⟩ F70
  have M70 := M64.newRec b70 is70 lo70 16 17
  clear M64 b70 lo70
  refine rm rfl F70 fun a71 F71 => ?_
  refine rm rfl F71 fun a72 F72 => ?_
  refine rm rfl F72 fun a73 F73 => ?_
  refine wl_call (wanted_none rfl) rfl F73 rfl rfl (enters_of Try.func34 (by kernel_rfl) rfl) #[.int .i64 a2, .string a4, .slice A6 n6 cap6] (args3 (F73.get rfl) (F73.get rfl) (F73.get rfl)) (maker_is a2 a4 l6 (.slice A6 n6 cap6) ⟨hk2, hl2⟩ ht (by omega) t et w70 (M70.isb (k := 1) rfl)) ?_
  rintro _ w74 a74 ⟨V74, rfl, is74, lo74, b74⟩ F74
  have M74 := M70.newRec b74 is74 lo74 18 19
  clear M70 b74 lo74
  refine wl_alloc (wanted_none rfl) rfl F74 rfl M74 20 (t := 54) (c := recA ⟨0, "".toUTF8, [], 0, 0, [], 0, 0, 0⟩ ⟨.slice none 0 0, .slice none 0 0⟩) (by unfold execOp; kernel_rfl) ?_
  intro g75 a75 w75 F75 M75
  clear F74 M74
  refine wl_alloc (wanted_none rfl) rfl F75 rfl M75 21 (t := 54) (c := recA ⟨0, "".toUTF8, [], 0, 0, [], 0, 0, 0⟩ ⟨.slice none 0 0, .slice none 0 0⟩) (by unfold execOp; kernel_rfl) ?_
  intro g76 a76 w76 F76 M76
  clear F75 M75
  refine wl_st (wanted_none rfl) rfl F76 M76 (k := 20) rfl _ _ _ rfl (F76.get rfl) (F76.get rfl) (recA r V70) (recA r V70) rfl (Nat.le_of_ble_eq_true rfl) (recA_one (w := w76) ⟨(M76.isb (k := 16) rfl), (M76.isb (k := 17) rfl)⟩) (y_put0 rfl) (by kernel_rfl) ?_
  intro w77 M77
  clear M76
  refine wl_st (wanted_none rfl) rfl F76 M77 (k := 21) rfl _ _ _ rfl (F76.get rfl) (F76.get rfl) (recA t V74) (recA t V74) rfl (Nat.le_of_ble_eq_true rfl) (recA_one (w := w77) ⟨(M77.isb (k := 18) rfl), (M77.isb (k := 19) rfl)⟩) (y_put0 rfl) (by kernel_rfl) ?_
  intro w78 M78
  clear M77
  refine hK66 _ _ (wp_seq_k fun K79 hK79 => ?_)
  refine wp_region_lit ?_
  refine rn rfl rfl F76 rfl (.agg (recA r V70)) (y_ldN _ _ rfl (F76.get rfl) (M78.blk (k := 20) rfl) (recA r V70) (y_all rfl) Try.underlying54 rfl (by kernel_rfl)) fun a80 F80 => ?_
  refine wl_call (wanted_none rfl) rfl F80 rfl rfl (enters_of Try.func35 (by kernel_rfl) rfl) #[.agg (recA r V70)] (args1 (F80.get rfl)) (rec_is r V70 or true xr pr hr2 w78 ⟨(M78.isb (k := 16) rfl), (M78.isb (k := 17) rfl)⟩) ?_
  rintro _ w81 a81 ⟨v81, rfl, hv81, b81⟩ F81
  have M81 := M78.newO b81 22 hv81
  clear M78 b81 hv81
  obtain ⟨A81, c81, rfl⟩ := (M81.isO (k := 22) rfl).shape
  refine exA 5 [(75, .tuple #[.slice A81 (xr).length c81, .bool true]), (78, .slice A81 (xr).length c81), (79, .bool true), (23, .slice A81 (xr).length c81), (24, .bool true)] [] dnil [] F81 (by kernel_rfl) (by kernel_rfl) fun a82 F82 => ?_
  simp only [List.drop_succ_cons, List.drop_zero]
  refine hK79 _ _ (wp_seq_k fun K83 hK83 => ?_)
  refine wp_region_lit ?_
  refine rn rfl rfl F82 rfl (.agg (recA t V74)) (y_ldN _ _ rfl (F82.get rfl) (M81.blk (k := 21) rfl) (recA t V74) (y_all rfl) Try.underlying54 rfl (by kernel_rfl)) fun a84 F84 => ?_
  refine wl_call (wanted_none rfl) rfl F84 rfl rfl (enters_of Try.func35 (by kernel_rfl) rfl) #[.agg (recA t V74)] (args1 (F84.get rfl)) (rec_is t V74 ot true xt pt ht2 w81 ⟨(M81.isb (k := 18) rfl), (M81.isb (k := 19) rfl)⟩) ?_
  rintro _ w85 a85 ⟨v85, rfl, hv85, b85⟩ F85
  have M85 := M81.newO b85 23 hv85
  clear M81 b85 hv85
  obtain ⟨A85, c85, rfl⟩ := (M85.isO (k := 23) rfl).shape
  refine exA 5 [(80, .tuple #[.slice A85 (xt).length c85, .bool true]), (83, .slice A85 (xt).length c85), (84, .bool true), (25, .slice A85 (xt).length c85), (26, .bool true)] [] dnil [] F85 (by kernel_rfl) (by kernel_rfl) fun a86 F86 => ?_
  simp only [List.drop_succ_cons, List.drop_zero]
  refine hK83 _ _ (wp_seq_k fun K87 hK87 => ?_)
  cases qm
  · cases qf
    rotate_left
    · have hD90 := (dcons (M85.blk (k := 20) rfl) (dcons (M85.blk (k := 21) rfl) dnil))
      refine region_fx F86 (SK [.inl (.bool false), .inl (.bool true), .inl (.bool true), .inl (undef), .inl (undef), .inl (.bool true), .inl (.bool true), .inl (undef), .inl (undef), .inl (undef), .inl (undef), .inl (undef), .inl (undef), .inl (undef), .inl (undef), .inl (undef), .inl (.bool true), .inl (.bool true), .inl (.slice A81 (xr).length c81), .inl (.string (⟨(xr).toArray⟩)), .inl (.slice A85 (xt).length c85), .inl (.string (⟨(xt).toArray⟩)), .inl (.bool true), .inl (.agg (recA r V70)), .inl (.agg (recA t V74)), .inl (.bool true), .inl (.bool true), .inl (.bool true), .inl (.bool true)]) 29 rfl (by kernel_rfl) ⟨hop0 F86 (by kernel_rfl), hop0 F86 (by kernel_rfl), hop0 F86 (by kernel_rfl), hop0 F86 (by kernel_rfl), hop0 F86 (by kernel_rfl), hop0 F86 (by kernel_rfl), hop0 F86 (by kernel_rfl), hop0 F86 (by kernel_rfl), hop0 F86 (by kernel_rfl), hop0 F86 (by kernel_rfl), hop0 F86 (by kernel_rfl), hop0 F86 (by kernel_rfl), hop0 F86 (by kernel_rfl), hop0 F86 (by kernel_rfl), hop0 F86 (by kernel_rfl), hop0 F86 (by kernel_rfl), hop0 F86 (by kernel_rfl), hop0 F86 (by kernel_rfl), hop0 F86 (by kernel_rfl), ?_, hop0 F86 (by kernel_rfl), ?_, ?_, hopP F86 hD90 0 (some g75) (by kernel_rfl), hopP F86 hD90 1 (some g76) (by kernel_rfl), ?_, ?_, hop0 F86 (by kernel_rfl), hop0 F86 (by kernel_rfl), trivial⟩ ?_
      · intro ua uw hb hd
        have eg : ua.eval (.tmp 102) = .bool true := hd 102 (by decide)
        have e103 : ua.eval (.tmp 103) = .slice A81 (xr).length c81 := hd 103 (by decide)
        exact hop_runK (F := (StK.eq (.string (⟨(xr).toArray⟩))).F) (wanted_yes rfl rfl rfl eg) (.string (⟨(xr).toArray⟩)) (y_str _ rfl e103 ((M85.step hb).isO (k := 22) rfl)) rfl
      · intro ua uw hb hd
        have eg : ua.eval (.tmp 102) = .bool true := hd 102 (by decide)
        have e105 : ua.eval (.tmp 105) = .slice A85 (xt).length c85 := hd 105 (by decide)
        exact hop_runK (F := (StK.eq (.string (⟨(xt).toArray⟩))).F) (wanted_yes rfl rfl rfl eg) (.string (⟨(xt).toArray⟩)) (y_str _ rfl e105 ((M85.step hb).isO (k := 23) rfl)) rfl
      · intro ua uw hb hd
        have eg : ua.eval (.tmp 102) = .bool true := hd 102 (by decide)
        have e104 : ua.eval (.tmp 104) = .string (⟨(xr).toArray⟩) := hd 104 (by decide)
        have e106 : ua.eval (.tmp 106) = .string (⟨(xt).toArray⟩) := hd 106 (by decide)
        exact hop_runK (F := (StK.eq (.bool true)).F) (wanted_yes rfl rfl rfl eg) (.bool true) (y_eqS _ _ _ rfl e104 e106 (str_eq (by rw [← hr2, ← ht2, (eqR_iff _ _).1 hf]))) rfl
      · intro ua uw hb hd
        have eg : ua.eval (.tmp 102) = .bool true := hd 102 (by decide)
        have e108 : ua.eval (.tmp 108) = .agg (recA r V70) := hd 108 (by decide)
        have e109 : ua.eval (.tmp 109) = .agg (recA t V74) := hd 109 (by decide)
        exact hop_callK (F := (StK.eq (.bool true)).F) (wanted_yes rfl rfl rfl eg) hb.size rfl #[.agg (recA r V70), .agg (recA t V74)] (args2 e108 e109) (enters_of Try.func38 (by kernel_rfl) rfl) (call_eqS ((recs_is r t V70 V74 or ot true hf uw ⟨((M85.step hb).isb (k := 16) rfl), ((M85.step hb).isb (k := 17) rfl)⟩ ⟨((M85.step hb).isb (k := 18) rfl), ((M85.step hb).isb (k := 19) rfl)⟩)))
      · intro ua uw hb hd
        have eg : ua.eval (.tmp 102) = .bool true := hd 102 (by decide)
        have e107 : ua.eval (.tmp 107) = .bool true := hd 107 (by decide)
        have e110 : ua.eval (.tmp 110) = .bool true := hd 110 (by decide)
        exact hop_runK (F := (StK.eq (.bool true)).F) (wanted_yes rfl rfl rfl eg) (.bool true) (y_eqB _ _ rfl e107 e110 rfl) rfl
      intro p91 a91 w91 b91 G91 y91
      obtain ⟨-, -, -, -, -, -, -, -, -, -, -, -, -, -, -, -, -, -, -, -, -, -, -, -, -, -, -, -, q28, -⟩ := y91
      have r28 : p91 28 = .bool true := q28 (by decide)
      simp only [List.take_succ_cons, List.take_zero, layV, Nat.zero_add, Nat.reduceAdd, r28] at G91
      have M91 := M85.kc b91
      clear F86 M85 r28 q28
      refine hK87 _ _ (wp_ret ?_)
      try simp only [Exit.then, Exit.inBlock, Exit.jump]
      exact bodyPost_ret (res1 rfl (G91.get (t := 14) rfl)) G91.defers ⟨rfl, M91.below⟩
    have hD88 := (dcons (M85.blk (k := 20) rfl) (dcons (M85.blk (k := 21) rfl) dnil))
    refine region_fx F86 (SK [.inl (.bool false), .inl (.bool true), .inl (.bool true), .inl (undef), .inl (undef), .inl (.bool true), .inl (.bool true), .inl (undef), .inl (undef), .inl (undef), .inl (undef), .inl (undef), .inl (undef), .inl (undef), .inl (undef), .inl (undef), .inl (.bool true), .inl (.bool true), .inl (.slice A81 (xr).length c81), .inl (.string (⟨(xr).toArray⟩)), .inl (.slice A85 (xt).length c85), .inl (.string (⟨(xt).toArray⟩)), .inl (.bool false), .inl (.agg (recA r V70)), .inl (.agg (recA t V74)), .inl (.bool false), .inl (.bool true), .inl (.bool true), .inl (.bool true)]) 29 rfl (by kernel_rfl) ⟨hop0 F86 (by kernel_rfl), hop0 F86 (by kernel_rfl), hop0 F86 (by kernel_rfl), hop0 F86 (by kernel_rfl), hop0 F86 (by kernel_rfl), hop0 F86 (by kernel_rfl), hop0 F86 (by kernel_rfl), hop0 F86 (by kernel_rfl), hop0 F86 (by kernel_rfl), hop0 F86 (by kernel_rfl), hop0 F86 (by kernel_rfl), hop0 F86 (by kernel_rfl), hop0 F86 (by kernel_rfl), hop0 F86 (by kernel_rfl), hop0 F86 (by kernel_rfl), hop0 F86 (by kernel_rfl), hop0 F86 (by kernel_rfl), hop0 F86 (by kernel_rfl), hop0 F86 (by kernel_rfl), ?_, hop0 F86 (by kernel_rfl), ?_, ?_, hopP F86 hD88 0 (some g75) (by kernel_rfl), hopP F86 hD88 1 (some g76) (by kernel_rfl), ?_, ?_, hop0 F86 (by kernel_rfl), hop0 F86 (by kernel_rfl), trivial⟩ ?_
    · intro ua uw hb hd
      have eg : ua.eval (.tmp 102) = .bool true := hd 102 (by decide)
      have e103 : ua.eval (.tmp 103) = .slice A81 (xr).length c81 := hd 103 (by decide)
      exact hop_runK (F := (StK.eq (.string (⟨(xr).toArray⟩))).F) (wanted_yes rfl rfl rfl eg) (.string (⟨(xr).toArray⟩)) (y_str _ rfl e103 ((M85.step hb).isO (k := 22) rfl)) rfl
    · intro ua uw hb hd
      have eg : ua.eval (.tmp 102) = .bool true := hd 102 (by decide)
      have e105 : ua.eval (.tmp 105) = .slice A85 (xt).length c85 := hd 105 (by decide)
      exact hop_runK (F := (StK.eq (.string (⟨(xt).toArray⟩))).F) (wanted_yes rfl rfl rfl eg) (.string (⟨(xt).toArray⟩)) (y_str _ rfl e105 ((M85.step hb).isO (k := 23) rfl)) rfl
    · intro ua uw hb hd
      have eg : ua.eval (.tmp 102) = .bool true := hd 102 (by decide)
      have e104 : ua.eval (.tmp 104) = .string (⟨(xr).toArray⟩) := hd 104 (by decide)
      have e106 : ua.eval (.tmp 106) = .string (⟨(xt).toArray⟩) := hd 106 (by decide)
      exact hop_runK (F := (StK.eq (.bool false)).F) (wanted_yes rfl rfl rfl eg) (.bool false) (y_eqS _ _ _ rfl e104 e106 (str_ne (fun e => Bool.false_ne_true (hf.symm.trans ((eqR_iff _ _).2 ((rec_inj or ot pr pt).1 (hr2.trans (e.trans ht2.symm)))))))) rfl
    · intro ua uw hb hd
      have eg : ua.eval (.tmp 102) = .bool true := hd 102 (by decide)
      have e108 : ua.eval (.tmp 108) = .agg (recA r V70) := hd 108 (by decide)
      have e109 : ua.eval (.tmp 109) = .agg (recA t V74) := hd 109 (by decide)
      exact hop_callK (F := (StK.eq (.bool false)).F) (wanted_yes rfl rfl rfl eg) hb.size rfl #[.agg (recA r V70), .agg (recA t V74)] (args2 e108 e109) (enters_of Try.func38 (by kernel_rfl) rfl) (call_eqS ((recs_is r t V70 V74 or ot false hf uw ⟨((M85.step hb).isb (k := 16) rfl), ((M85.step hb).isb (k := 17) rfl)⟩ ⟨((M85.step hb).isb (k := 18) rfl), ((M85.step hb).isb (k := 19) rfl)⟩)))
    · intro ua uw hb hd
      have eg : ua.eval (.tmp 102) = .bool true := hd 102 (by decide)
      have e107 : ua.eval (.tmp 107) = .bool false := hd 107 (by decide)
      have e110 : ua.eval (.tmp 110) = .bool false := hd 110 (by decide)
      exact hop_runK (F := (StK.eq (.bool true)).F) (wanted_yes rfl rfl rfl eg) (.bool true) (y_eqB _ _ rfl e107 e110 rfl) rfl
    intro p89 a89 w89 b89 G89 y89
    obtain ⟨-, -, -, -, -, -, -, -, -, -, -, -, -, -, -, -, -, -, -, -, -, -, -, -, -, -, -, -, q28, -⟩ := y89
    have r28 : p89 28 = .bool true := q28 (by decide)
    simp only [List.take_succ_cons, List.take_zero, layV, Nat.zero_add, Nat.reduceAdd, r28] at G89
    have M89 := M85.kc b89
    clear F86 M85 r28 q28
    refine hK87 _ _ (wp_ret ?_)
    try simp only [Exit.then, Exit.inBlock, Exit.jump]
    exact bodyPost_ret (res1 rfl (G89.get (t := 14) rfl)) G89.defers ⟨rfl, M89.below⟩
  cases qu
  · cases qf
    rotate_left
    · have hD94 := (dcons (M85.blk (k := 20) rfl) (dcons (M85.blk (k := 21) rfl) dnil))
      refine region_fx F86 (SK [.inl (.bool true), .inl (.bool false), .inl (.bool false), .inl (.bool false), .inl (.bool true), .inl (.bool true), .inl (.bool true), .inl (undef), .inl (undef), .inl (undef), .inl (undef), .inl (undef), .inl (undef), .inl (undef), .inl (undef), .inl (undef), .inl (.bool true), .inl (.bool true), .inl (.slice A81 (xr).length c81), .inl (.string (⟨(xr).toArray⟩)), .inl (.slice A85 (xt).length c85), .inl (.string (⟨(xt).toArray⟩)), .inl (.bool true), .inl (.agg (recA r V70)), .inl (.agg (recA t V74)), .inl (.bool true), .inl (.bool true), .inl (.bool true), .inl (.bool true)]) 29 rfl (by kernel_rfl) ⟨hop0 F86 (by kernel_rfl), hop0 F86 (by kernel_rfl), hop0 F86 (by kernel_rfl), hop0 F86 (by kernel_rfl), hop0 F86 (by kernel_rfl), hop0 F86 (by kernel_rfl), hop0 F86 (by kernel_rfl), hop0 F86 (by kernel_rfl), hop0 F86 (by kernel_rfl), hop0 F86 (by kernel_rfl), hop0 F86 (by kernel_rfl), hop0 F86 (by kernel_rfl), hop0 F86 (by kernel_rfl), hop0 F86 (by kernel_rfl), hop0 F86 (by kernel_rfl), hop0 F86 (by kernel_rfl), hop0 F86 (by kernel_rfl), hop0 F86 (by kernel_rfl), hop0 F86 (by kernel_rfl), ?_, hop0 F86 (by kernel_rfl), ?_, ?_, hopP F86 hD94 0 (some g75) (by kernel_rfl), hopP F86 hD94 1 (some g76) (by kernel_rfl), ?_, ?_, hop0 F86 (by kernel_rfl), hop0 F86 (by kernel_rfl), trivial⟩ ?_
      · intro ua uw hb hd
        have eg : ua.eval (.tmp 102) = .bool true := hd 102 (by decide)
        have e103 : ua.eval (.tmp 103) = .slice A81 (xr).length c81 := hd 103 (by decide)
        exact hop_runK (F := (StK.eq (.string (⟨(xr).toArray⟩))).F) (wanted_yes rfl rfl rfl eg) (.string (⟨(xr).toArray⟩)) (y_str _ rfl e103 ((M85.step hb).isO (k := 22) rfl)) rfl
      · intro ua uw hb hd
        have eg : ua.eval (.tmp 102) = .bool true := hd 102 (by decide)
        have e105 : ua.eval (.tmp 105) = .slice A85 (xt).length c85 := hd 105 (by decide)
        exact hop_runK (F := (StK.eq (.string (⟨(xt).toArray⟩))).F) (wanted_yes rfl rfl rfl eg) (.string (⟨(xt).toArray⟩)) (y_str _ rfl e105 ((M85.step hb).isO (k := 23) rfl)) rfl
      · intro ua uw hb hd
        have eg : ua.eval (.tmp 102) = .bool true := hd 102 (by decide)
        have e104 : ua.eval (.tmp 104) = .string (⟨(xr).toArray⟩) := hd 104 (by decide)
        have e106 : ua.eval (.tmp 106) = .string (⟨(xt).toArray⟩) := hd 106 (by decide)
        exact hop_runK (F := (StK.eq (.bool true)).F) (wanted_yes rfl rfl rfl eg) (.bool true) (y_eqS _ _ _ rfl e104 e106 (str_eq (by rw [← hr2, ← ht2, (eqR_iff _ _).1 hf]))) rfl
      · intro ua uw hb hd
        have eg : ua.eval (.tmp 102) = .bool true := hd 102 (by decide)
        have e108 : ua.eval (.tmp 108) = .agg (recA r V70) := hd 108 (by decide)
        have e109 : ua.eval (.tmp 109) = .agg (recA t V74) := hd 109 (by decide)
        exact hop_callK (F := (StK.eq (.bool true)).F) (wanted_yes rfl rfl rfl eg) hb.size rfl #[.agg (recA r V70), .agg (recA t V74)] (args2 e108 e109) (enters_of Try.func38 (by kernel_rfl) rfl) (call_eqS ((recs_is r t V70 V74 or ot true hf uw ⟨((M85.step hb).isb (k := 16) rfl), ((M85.step hb).isb (k := 17) rfl)⟩ ⟨((M85.step hb).isb (k := 18) rfl), ((M85.step hb).isb (k := 19) rfl)⟩)))
      · intro ua uw hb hd
        have eg : ua.eval (.tmp 102) = .bool true := hd 102 (by decide)
        have e107 : ua.eval (.tmp 107) = .bool true := hd 107 (by decide)
        have e110 : ua.eval (.tmp 110) = .bool true := hd 110 (by decide)
        exact hop_runK (F := (StK.eq (.bool true)).F) (wanted_yes rfl rfl rfl eg) (.bool true) (y_eqB _ _ rfl e107 e110 rfl) rfl
      intro p95 a95 w95 b95 G95 y95
      obtain ⟨-, -, -, -, -, -, -, -, -, -, -, -, -, -, -, -, -, -, -, -, -, -, -, -, -, -, -, -, q28, -⟩ := y95
      have r28 : p95 28 = .bool true := q28 (by decide)
      simp only [List.take_succ_cons, List.take_zero, layV, Nat.zero_add, Nat.reduceAdd, r28] at G95
      have M95 := M85.kc b95
      clear F86 M85 r28 q28
      refine hK87 _ _ (wp_ret ?_)
      try simp only [Exit.then, Exit.inBlock, Exit.jump]
      exact bodyPost_ret (res1 rfl (G95.get (t := 14) rfl)) G95.defers ⟨rfl, M95.below⟩
    have hD92 := (dcons (M85.blk (k := 20) rfl) (dcons (M85.blk (k := 21) rfl) dnil))
    refine region_fx F86 (SK [.inl (.bool true), .inl (.bool false), .inl (.bool false), .inl (.bool false), .inl (.bool true), .inl (.bool true), .inl (.bool true), .inl (undef), .inl (undef), .inl (undef), .inl (undef), .inl (undef), .inl (undef), .inl (undef), .inl (undef), .inl (undef), .inl (.bool true), .inl (.bool true), .inl (.slice A81 (xr).length c81), .inl (.string (⟨(xr).toArray⟩)), .inl (.slice A85 (xt).length c85), .inl (.string (⟨(xt).toArray⟩)), .inl (.bool false), .inl (.agg (recA r V70)), .inl (.agg (recA t V74)), .inl (.bool false), .inl (.bool true), .inl (.bool true), .inl (.bool true)]) 29 rfl (by kernel_rfl) ⟨hop0 F86 (by kernel_rfl), hop0 F86 (by kernel_rfl), hop0 F86 (by kernel_rfl), hop0 F86 (by kernel_rfl), hop0 F86 (by kernel_rfl), hop0 F86 (by kernel_rfl), hop0 F86 (by kernel_rfl), hop0 F86 (by kernel_rfl), hop0 F86 (by kernel_rfl), hop0 F86 (by kernel_rfl), hop0 F86 (by kernel_rfl), hop0 F86 (by kernel_rfl), hop0 F86 (by kernel_rfl), hop0 F86 (by kernel_rfl), hop0 F86 (by kernel_rfl), hop0 F86 (by kernel_rfl), hop0 F86 (by kernel_rfl), hop0 F86 (by kernel_rfl), hop0 F86 (by kernel_rfl), ?_, hop0 F86 (by kernel_rfl), ?_, ?_, hopP F86 hD92 0 (some g75) (by kernel_rfl), hopP F86 hD92 1 (some g76) (by kernel_rfl), ?_, ?_, hop0 F86 (by kernel_rfl), hop0 F86 (by kernel_rfl), trivial⟩ ?_
    · intro ua uw hb hd
      have eg : ua.eval (.tmp 102) = .bool true := hd 102 (by decide)
      have e103 : ua.eval (.tmp 103) = .slice A81 (xr).length c81 := hd 103 (by decide)
      exact hop_runK (F := (StK.eq (.string (⟨(xr).toArray⟩))).F) (wanted_yes rfl rfl rfl eg) (.string (⟨(xr).toArray⟩)) (y_str _ rfl e103 ((M85.step hb).isO (k := 22) rfl)) rfl
    · intro ua uw hb hd
      have eg : ua.eval (.tmp 102) = .bool true := hd 102 (by decide)
      have e105 : ua.eval (.tmp 105) = .slice A85 (xt).length c85 := hd 105 (by decide)
      exact hop_runK (F := (StK.eq (.string (⟨(xt).toArray⟩))).F) (wanted_yes rfl rfl rfl eg) (.string (⟨(xt).toArray⟩)) (y_str _ rfl e105 ((M85.step hb).isO (k := 23) rfl)) rfl
    · intro ua uw hb hd
      have eg : ua.eval (.tmp 102) = .bool true := hd 102 (by decide)
      have e104 : ua.eval (.tmp 104) = .string (⟨(xr).toArray⟩) := hd 104 (by decide)
      have e106 : ua.eval (.tmp 106) = .string (⟨(xt).toArray⟩) := hd 106 (by decide)
      exact hop_runK (F := (StK.eq (.bool false)).F) (wanted_yes rfl rfl rfl eg) (.bool false) (y_eqS _ _ _ rfl e104 e106 (str_ne (fun e => Bool.false_ne_true (hf.symm.trans ((eqR_iff _ _).2 ((rec_inj or ot pr pt).1 (hr2.trans (e.trans ht2.symm)))))))) rfl
    · intro ua uw hb hd
      have eg : ua.eval (.tmp 102) = .bool true := hd 102 (by decide)
      have e108 : ua.eval (.tmp 108) = .agg (recA r V70) := hd 108 (by decide)
      have e109 : ua.eval (.tmp 109) = .agg (recA t V74) := hd 109 (by decide)
      exact hop_callK (F := (StK.eq (.bool false)).F) (wanted_yes rfl rfl rfl eg) hb.size rfl #[.agg (recA r V70), .agg (recA t V74)] (args2 e108 e109) (enters_of Try.func38 (by kernel_rfl) rfl) (call_eqS ((recs_is r t V70 V74 or ot false hf uw ⟨((M85.step hb).isb (k := 16) rfl), ((M85.step hb).isb (k := 17) rfl)⟩ ⟨((M85.step hb).isb (k := 18) rfl), ((M85.step hb).isb (k := 19) rfl)⟩)))
    · intro ua uw hb hd
      have eg : ua.eval (.tmp 102) = .bool true := hd 102 (by decide)
      have e107 : ua.eval (.tmp 107) = .bool false := hd 107 (by decide)
      have e110 : ua.eval (.tmp 110) = .bool false := hd 110 (by decide)
      exact hop_runK (F := (StK.eq (.bool true)).F) (wanted_yes rfl rfl rfl eg) (.bool true) (y_eqB _ _ rfl e107 e110 rfl) rfl
    intro p93 a93 w93 b93 G93 y93
    obtain ⟨-, -, -, -, -, -, -, -, -, -, -, -, -, -, -, -, -, -, -, -, -, -, -, -, -, -, -, -, q28, -⟩ := y93
    have r28 : p93 28 = .bool true := q28 (by decide)
    simp only [List.take_succ_cons, List.take_zero, layV, Nat.zero_add, Nat.reduceAdd, r28] at G93
    have M93 := M85.kc b93
    clear F86 M85 r28 q28
    refine hK87 _ _ (wp_ret ?_)
    try simp only [Exit.then, Exit.inBlock, Exit.jump]
    exact bodyPost_ret (res1 rfl (G93.get (t := 14) rfl)) G93.defers ⟨rfl, M93.below⟩
  cases qe
  rotate_left
  · cases qf
    rotate_left
    · have hD102 := (dcons (M85.blk (k := 12) rfl) (dcons (M85.blk (k := 13) rfl) (dcons (M85.blk (k := 20) rfl) (dcons (M85.blk (k := 21) rfl) dnil))))
      refine region_fx F86 (SK [.inl (.bool true), .inl (.bool false), .inl (.bool false), .inl (.bool true), .inl (.bool false), .inl (.bool false), .inl (.bool false), .inl (.slice A60 (xm).length c60), .inl (.string (⟨(xm).toArray⟩)), .inl (.slice A64 (xu).length c64), .inl (.string (⟨(xu).toArray⟩)), .inl (.bool true), .inl (.agg (msgA m V48)), .inl (.agg (msgA u V53)), .inl (.bool true), .inl (.bool true), .inl (.bool true), .inl (.bool true), .inl (.slice A81 (xr).length c81), .inl (.string (⟨(xr).toArray⟩)), .inl (.slice A85 (xt).length c85), .inl (.string (⟨(xt).toArray⟩)), .inl (.bool true), .inl (.agg (recA r V70)), .inl (.agg (recA t V74)), .inl (.bool true), .inl (.bool true), .inl (.bool true), .inl (.bool true)]) 29 rfl (by kernel_rfl) ⟨hop0 F86 (by kernel_rfl), hop0 F86 (by kernel_rfl), hop0 F86 (by kernel_rfl), hop0 F86 (by kernel_rfl), hop0 F86 (by kernel_rfl), hop0 F86 (by kernel_rfl), hop0 F86 (by kernel_rfl), hop0 F86 (by kernel_rfl), ?_, hop0 F86 (by kernel_rfl), ?_, ?_, hopP F86 hD102 0 (some g54) (by kernel_rfl), hopP F86 hD102 1 (some g55) (by kernel_rfl), ?_, ?_, hop0 F86 (by kernel_rfl), hop0 F86 (by kernel_rfl), hop0 F86 (by kernel_rfl), ?_, hop0 F86 (by kernel_rfl), ?_, ?_, hopP F86 hD102 2 (some g75) (by kernel_rfl), hopP F86 hD102 3 (some g76) (by kernel_rfl), ?_, ?_, hop0 F86 (by kernel_rfl), hop0 F86 (by kernel_rfl), trivial⟩ ?_
      · intro ua uw hb hd
        have eg : ua.eval (.tmp 91) = .bool false := hd 91 (by decide)
        have e92 : ua.eval (.tmp 92) = .slice A60 (xm).length c60 := hd 92 (by decide)
        exact hop_runK (F := (StK.eq (.string (⟨(xm).toArray⟩))).F) (wanted_yes rfl rfl rfl eg) (.string (⟨(xm).toArray⟩)) (y_str _ rfl e92 ((M85.step hb).isO (k := 14) rfl)) rfl
      · intro ua uw hb hd
        have eg : ua.eval (.tmp 91) = .bool false := hd 91 (by decide)
        have e94 : ua.eval (.tmp 94) = .slice A64 (xu).length c64 := hd 94 (by decide)
        exact hop_runK (F := (StK.eq (.string (⟨(xu).toArray⟩))).F) (wanted_yes rfl rfl rfl eg) (.string (⟨(xu).toArray⟩)) (y_str _ rfl e94 ((M85.step hb).isO (k := 15) rfl)) rfl
      · intro ua uw hb hd
        have eg : ua.eval (.tmp 91) = .bool false := hd 91 (by decide)
        have e93 : ua.eval (.tmp 93) = .string (⟨(xm).toArray⟩) := hd 93 (by decide)
        have e95 : ua.eval (.tmp 95) = .string (⟨(xu).toArray⟩) := hd 95 (by decide)
        exact hop_runK (F := (StK.eq (.bool true)).F) (wanted_yes rfl rfl rfl eg) (.bool true) (y_eqS _ _ _ rfl e93 e95 (str_eq (by rw [← hm2, ← hu2, (eqM_iff _ _).1 he]))) rfl
      · intro ua uw hb hd
        have eg : ua.eval (.tmp 91) = .bool false := hd 91 (by decide)
        have e97 : ua.eval (.tmp 97) = .agg (msgA m V48) := hd 97 (by decide)
        have e98 : ua.eval (.tmp 98) = .agg (msgA u V53) := hd 98 (by decide)
        exact hop_callK (F := (StK.eq (.bool true)).F) (wanted_yes rfl rfl rfl eg) hb.size rfl #[.agg (msgA m V48), .agg (msgA u V53)] (args2 e97 e98) (enters_of Try.func21 (by kernel_rfl) rfl) (call_eqS ((msgs_is m u V48 V53 om ou true he uw ⟨((M85.step hb).isb (k := 2) rfl), ((M85.step hb).isb (k := 3) rfl), ((M85.step hb).isb (k := 4) rfl), ((M85.step hb).isb (k := 5) rfl), ((M85.step hb).isb (k := 6) rfl)⟩ ⟨((M85.step hb).isb (k := 7) rfl), ((M85.step hb).isb (k := 8) rfl), ((M85.step hb).isb (k := 9) rfl), ((M85.step hb).isb (k := 10) rfl), ((M85.step hb).isb (k := 11) rfl)⟩)))
      · intro ua uw hb hd
        have eg : ua.eval (.tmp 91) = .bool false := hd 91 (by decide)
        have e96 : ua.eval (.tmp 96) = .bool true := hd 96 (by decide)
        have e99 : ua.eval (.tmp 99) = .bool true := hd 99 (by decide)
        exact hop_runK (F := (StK.eq (.bool true)).F) (wanted_yes rfl rfl rfl eg) (.bool true) (y_eqB _ _ rfl e96 e99 rfl) rfl
      · intro ua uw hb hd
        have eg : ua.eval (.tmp 102) = .bool true := hd 102 (by decide)
        have e103 : ua.eval (.tmp 103) = .slice A81 (xr).length c81 := hd 103 (by decide)
        exact hop_runK (F := (StK.eq (.string (⟨(xr).toArray⟩))).F) (wanted_yes rfl rfl rfl eg) (.string (⟨(xr).toArray⟩)) (y_str _ rfl e103 ((M85.step hb).isO (k := 22) rfl)) rfl
      · intro ua uw hb hd
        have eg : ua.eval (.tmp 102) = .bool true := hd 102 (by decide)
        have e105 : ua.eval (.tmp 105) = .slice A85 (xt).length c85 := hd 105 (by decide)
        exact hop_runK (F := (StK.eq (.string (⟨(xt).toArray⟩))).F) (wanted_yes rfl rfl rfl eg) (.string (⟨(xt).toArray⟩)) (y_str _ rfl e105 ((M85.step hb).isO (k := 23) rfl)) rfl
      · intro ua uw hb hd
        have eg : ua.eval (.tmp 102) = .bool true := hd 102 (by decide)
        have e104 : ua.eval (.tmp 104) = .string (⟨(xr).toArray⟩) := hd 104 (by decide)
        have e106 : ua.eval (.tmp 106) = .string (⟨(xt).toArray⟩) := hd 106 (by decide)
        exact hop_runK (F := (StK.eq (.bool true)).F) (wanted_yes rfl rfl rfl eg) (.bool true) (y_eqS _ _ _ rfl e104 e106 (str_eq (by rw [← hr2, ← ht2, (eqR_iff _ _).1 hf]))) rfl
      · intro ua uw hb hd
        have eg : ua.eval (.tmp 102) = .bool true := hd 102 (by decide)
        have e108 : ua.eval (.tmp 108) = .agg (recA r V70) := hd 108 (by decide)
        have e109 : ua.eval (.tmp 109) = .agg (recA t V74) := hd 109 (by decide)
        exact hop_callK (F := (StK.eq (.bool true)).F) (wanted_yes rfl rfl rfl eg) hb.size rfl #[.agg (recA r V70), .agg (recA t V74)] (args2 e108 e109) (enters_of Try.func38 (by kernel_rfl) rfl) (call_eqS ((recs_is r t V70 V74 or ot true hf uw ⟨((M85.step hb).isb (k := 16) rfl), ((M85.step hb).isb (k := 17) rfl)⟩ ⟨((M85.step hb).isb (k := 18) rfl), ((M85.step hb).isb (k := 19) rfl)⟩)))
      · intro ua uw hb hd
        have eg : ua.eval (.tmp 102) = .bool true := hd 102 (by decide)
        have e107 : ua.eval (.tmp 107) = .bool true := hd 107 (by decide)
        have e110 : ua.eval (.tmp 110) = .bool true := hd 110 (by decide)
        exact hop_runK (F := (StK.eq (.bool true)).F) (wanted_yes rfl rfl rfl eg) (.bool true) (y_eqB _ _ rfl e107 e110 rfl) rfl
      intro p103 a103 w103 b103 G103 y103
      obtain ⟨-, -, -, -, -, -, -, -, -, -, -, -, -, -, -, -, -, -, -, -, -, -, -, -, -, -, -, -, q28, -⟩ := y103
      have r28 : p103 28 = .bool true := q28 (by decide)
      simp only [List.take_succ_cons, List.take_zero, layV, Nat.zero_add, Nat.reduceAdd, r28] at G103
      have M103 := M85.kc b103
      clear F86 M85 r28 q28
      refine hK87 _ _ (wp_ret ?_)
      try simp only [Exit.then, Exit.inBlock, Exit.jump]
      exact bodyPost_ret (res1 rfl (G103.get (t := 14) rfl)) G103.defers ⟨rfl, M103.below⟩
    have hD100 := (dcons (M85.blk (k := 12) rfl) (dcons (M85.blk (k := 13) rfl) (dcons (M85.blk (k := 20) rfl) (dcons (M85.blk (k := 21) rfl) dnil))))
    refine region_fx F86 (SK [.inl (.bool true), .inl (.bool false), .inl (.bool false), .inl (.bool true), .inl (.bool false), .inl (.bool false), .inl (.bool false), .inl (.slice A60 (xm).length c60), .inl (.string (⟨(xm).toArray⟩)), .inl (.slice A64 (xu).length c64), .inl (.string (⟨(xu).toArray⟩)), .inl (.bool true), .inl (.agg (msgA m V48)), .inl (.agg (msgA u V53)), .inl (.bool true), .inl (.bool true), .inl (.bool true), .inl (.bool true), .inl (.slice A81 (xr).length c81), .inl (.string (⟨(xr).toArray⟩)), .inl (.slice A85 (xt).length c85), .inl (.string (⟨(xt).toArray⟩)), .inl (.bool false), .inl (.agg (recA r V70)), .inl (.agg (recA t V74)), .inl (.bool false), .inl (.bool true), .inl (.bool true), .inl (.bool true)]) 29 rfl (by kernel_rfl) ⟨hop0 F86 (by kernel_rfl), hop0 F86 (by kernel_rfl), hop0 F86 (by kernel_rfl), hop0 F86 (by kernel_rfl), hop0 F86 (by kernel_rfl), hop0 F86 (by kernel_rfl), hop0 F86 (by kernel_rfl), hop0 F86 (by kernel_rfl), ?_, hop0 F86 (by kernel_rfl), ?_, ?_, hopP F86 hD100 0 (some g54) (by kernel_rfl), hopP F86 hD100 1 (some g55) (by kernel_rfl), ?_, ?_, hop0 F86 (by kernel_rfl), hop0 F86 (by kernel_rfl), hop0 F86 (by kernel_rfl), ?_, hop0 F86 (by kernel_rfl), ?_, ?_, hopP F86 hD100 2 (some g75) (by kernel_rfl), hopP F86 hD100 3 (some g76) (by kernel_rfl), ?_, ?_, hop0 F86 (by kernel_rfl), hop0 F86 (by kernel_rfl), trivial⟩ ?_
    · intro ua uw hb hd
      have eg : ua.eval (.tmp 91) = .bool false := hd 91 (by decide)
      have e92 : ua.eval (.tmp 92) = .slice A60 (xm).length c60 := hd 92 (by decide)
      exact hop_runK (F := (StK.eq (.string (⟨(xm).toArray⟩))).F) (wanted_yes rfl rfl rfl eg) (.string (⟨(xm).toArray⟩)) (y_str _ rfl e92 ((M85.step hb).isO (k := 14) rfl)) rfl
    · intro ua uw hb hd
      have eg : ua.eval (.tmp 91) = .bool false := hd 91 (by decide)
      have e94 : ua.eval (.tmp 94) = .slice A64 (xu).length c64 := hd 94 (by decide)
      exact hop_runK (F := (StK.eq (.string (⟨(xu).toArray⟩))).F) (wanted_yes rfl rfl rfl eg) (.string (⟨(xu).toArray⟩)) (y_str _ rfl e94 ((M85.step hb).isO (k := 15) rfl)) rfl
    · intro ua uw hb hd
      have eg : ua.eval (.tmp 91) = .bool false := hd 91 (by decide)
      have e93 : ua.eval (.tmp 93) = .string (⟨(xm).toArray⟩) := hd 93 (by decide)
      have e95 : ua.eval (.tmp 95) = .string (⟨(xu).toArray⟩) := hd 95 (by decide)
      exact hop_runK (F := (StK.eq (.bool true)).F) (wanted_yes rfl rfl rfl eg) (.bool true) (y_eqS _ _ _ rfl e93 e95 (str_eq (by rw [← hm2, ← hu2, (eqM_iff _ _).1 he]))) rfl
    · intro ua uw hb hd
      have eg : ua.eval (.tmp 91) = .bool false := hd 91 (by decide)
      have e97 : ua.eval (.tmp 97) = .agg (msgA m V48) := hd 97 (by decide)
      have e98 : ua.eval (.tmp 98) = .agg (msgA u V53) := hd 98 (by decide)
      exact hop_callK (F := (StK.eq (.bool true)).F) (wanted_yes rfl rfl rfl eg) hb.size rfl #[.agg (msgA m V48), .agg (msgA u V53)] (args2 e97 e98) (enters_of Try.func21 (by kernel_rfl) rfl) (call_eqS ((msgs_is m u V48 V53 om ou true he uw ⟨((M85.step hb).isb (k := 2) rfl), ((M85.step hb).isb (k := 3) rfl), ((M85.step hb).isb (k := 4) rfl), ((M85.step hb).isb (k := 5) rfl), ((M85.step hb).isb (k := 6) rfl)⟩ ⟨((M85.step hb).isb (k := 7) rfl), ((M85.step hb).isb (k := 8) rfl), ((M85.step hb).isb (k := 9) rfl), ((M85.step hb).isb (k := 10) rfl), ((M85.step hb).isb (k := 11) rfl)⟩)))
    · intro ua uw hb hd
      have eg : ua.eval (.tmp 91) = .bool false := hd 91 (by decide)
      have e96 : ua.eval (.tmp 96) = .bool true := hd 96 (by decide)
      have e99 : ua.eval (.tmp 99) = .bool true := hd 99 (by decide)
      exact hop_runK (F := (StK.eq (.bool true)).F) (wanted_yes rfl rfl rfl eg) (.bool true) (y_eqB _ _ rfl e96 e99 rfl) rfl
    · intro ua uw hb hd
      have eg : ua.eval (.tmp 102) = .bool true := hd 102 (by decide)
      have e103 : ua.eval (.tmp 103) = .slice A81 (xr).length c81 := hd 103 (by decide)
      exact hop_runK (F := (StK.eq (.string (⟨(xr).toArray⟩))).F) (wanted_yes rfl rfl rfl eg) (.string (⟨(xr).toArray⟩)) (y_str _ rfl e103 ((M85.step hb).isO (k := 22) rfl)) rfl
    · intro ua uw hb hd
      have eg : ua.eval (.tmp 102) = .bool true := hd 102 (by decide)
      have e105 : ua.eval (.tmp 105) = .slice A85 (xt).length c85 := hd 105 (by decide)
      exact hop_runK (F := (StK.eq (.string (⟨(xt).toArray⟩))).F) (wanted_yes rfl rfl rfl eg) (.string (⟨(xt).toArray⟩)) (y_str _ rfl e105 ((M85.step hb).isO (k := 23) rfl)) rfl
    · intro ua uw hb hd
      have eg : ua.eval (.tmp 102) = .bool true := hd 102 (by decide)
      have e104 : ua.eval (.tmp 104) = .string (⟨(xr).toArray⟩) := hd 104 (by decide)
      have e106 : ua.eval (.tmp 106) = .string (⟨(xt).toArray⟩) := hd 106 (by decide)
      exact hop_runK (F := (StK.eq (.bool false)).F) (wanted_yes rfl rfl rfl eg) (.bool false) (y_eqS _ _ _ rfl e104 e106 (str_ne (fun e => Bool.false_ne_true (hf.symm.trans ((eqR_iff _ _).2 ((rec_inj or ot pr pt).1 (hr2.trans (e.trans ht2.symm)))))))) rfl
    · intro ua uw hb hd
      have eg : ua.eval (.tmp 102) = .bool true := hd 102 (by decide)
      have e108 : ua.eval (.tmp 108) = .agg (recA r V70) := hd 108 (by decide)
      have e109 : ua.eval (.tmp 109) = .agg (recA t V74) := hd 109 (by decide)
      exact hop_callK (F := (StK.eq (.bool false)).F) (wanted_yes rfl rfl rfl eg) hb.size rfl #[.agg (recA r V70), .agg (recA t V74)] (args2 e108 e109) (enters_of Try.func38 (by kernel_rfl) rfl) (call_eqS ((recs_is r t V70 V74 or ot false hf uw ⟨((M85.step hb).isb (k := 16) rfl), ((M85.step hb).isb (k := 17) rfl)⟩ ⟨((M85.step hb).isb (k := 18) rfl), ((M85.step hb).isb (k := 19) rfl)⟩)))
    · intro ua uw hb hd
      have eg : ua.eval (.tmp 102) = .bool true := hd 102 (by decide)
      have e107 : ua.eval (.tmp 107) = .bool false := hd 107 (by decide)
      have e110 : ua.eval (.tmp 110) = .bool false := hd 110 (by decide)
      exact hop_runK (F := (StK.eq (.bool true)).F) (wanted_yes rfl rfl rfl eg) (.bool true) (y_eqB _ _ rfl e107 e110 rfl) rfl
    intro p101 a101 w101 b101 G101 y101
    obtain ⟨-, -, -, -, -, -, -, -, -, -, -, -, -, -, -, -, -, -, -, -, -, -, -, -, -, -, -, -, q28, -⟩ := y101
    have r28 : p101 28 = .bool true := q28 (by decide)
    simp only [List.take_succ_cons, List.take_zero, layV, Nat.zero_add, Nat.reduceAdd, r28] at G101
    have M101 := M85.kc b101
    clear F86 M85 r28 q28
    refine hK87 _ _ (wp_ret ?_)
    try simp only [Exit.then, Exit.inBlock, Exit.jump]
    exact bodyPost_ret (res1 rfl (G101.get (t := 14) rfl)) G101.defers ⟨rfl, M101.below⟩
  cases qf
  rotate_left
  · have hD98 := (dcons (M85.blk (k := 12) rfl) (dcons (M85.blk (k := 13) rfl) (dcons (M85.blk (k := 20) rfl) (dcons (M85.blk (k := 21) rfl) dnil))))
    refine region_fx F86 (SK [.inl (.bool true), .inl (.bool false), .inl (.bool false), .inl (.bool true), .inl (.bool false), .inl (.bool false), .inl (.bool false), .inl (.slice A60 (xm).length c60), .inl (.string (⟨(xm).toArray⟩)), .inl (.slice A64 (xu).length c64), .inl (.string (⟨(xu).toArray⟩)), .inl (.bool false), .inl (.agg (msgA m V48)), .inl (.agg (msgA u V53)), .inl (.bool false), .inl (.bool true), .inl (.bool true), .inl (.bool true), .inl (.slice A81 (xr).length c81), .inl (.string (⟨(xr).toArray⟩)), .inl (.slice A85 (xt).length c85), .inl (.string (⟨(xt).toArray⟩)), .inl (.bool true), .inl (.agg (recA r V70)), .inl (.agg (recA t V74)), .inl (.bool true), .inl (.bool true), .inl (.bool true), .inl (.bool true)]) 29 rfl (by kernel_rfl) ⟨hop0 F86 (by kernel_rfl), hop0 F86 (by kernel_rfl), hop0 F86 (by kernel_rfl), hop0 F86 (by kernel_rfl), hop0 F86 (by kernel_rfl), hop0 F86 (by kernel_rfl), hop0 F86 (by kernel_rfl), hop0 F86 (by kernel_rfl), ?_, hop0 F86 (by kernel_rfl), ?_, ?_, hopP F86 hD98 0 (some g54) (by kernel_rfl), hopP F86 hD98 1 (some g55) (by kernel_rfl), ?_, ?_, hop0 F86 (by kernel_rfl), hop0 F86 (by kernel_rfl), hop0 F86 (by kernel_rfl), ?_, hop0 F86 (by kernel_rfl), ?_, ?_, hopP F86 hD98 2 (some g75) (by kernel_rfl), hopP F86 hD98 3 (some g76) (by kernel_rfl), ?_, ?_, hop0 F86 (by kernel_rfl), hop0 F86 (by kernel_rfl), trivial⟩ ?_
    · intro ua uw hb hd
      have eg : ua.eval (.tmp 91) = .bool false := hd 91 (by decide)
      have e92 : ua.eval (.tmp 92) = .slice A60 (xm).length c60 := hd 92 (by decide)
      exact hop_runK (F := (StK.eq (.string (⟨(xm).toArray⟩))).F) (wanted_yes rfl rfl rfl eg) (.string (⟨(xm).toArray⟩)) (y_str _ rfl e92 ((M85.step hb).isO (k := 14) rfl)) rfl
    · intro ua uw hb hd
      have eg : ua.eval (.tmp 91) = .bool false := hd 91 (by decide)
      have e94 : ua.eval (.tmp 94) = .slice A64 (xu).length c64 := hd 94 (by decide)
      exact hop_runK (F := (StK.eq (.string (⟨(xu).toArray⟩))).F) (wanted_yes rfl rfl rfl eg) (.string (⟨(xu).toArray⟩)) (y_str _ rfl e94 ((M85.step hb).isO (k := 15) rfl)) rfl
    · intro ua uw hb hd
      have eg : ua.eval (.tmp 91) = .bool false := hd 91 (by decide)
      have e93 : ua.eval (.tmp 93) = .string (⟨(xm).toArray⟩) := hd 93 (by decide)
      have e95 : ua.eval (.tmp 95) = .string (⟨(xu).toArray⟩) := hd 95 (by decide)
      exact hop_runK (F := (StK.eq (.bool false)).F) (wanted_yes rfl rfl rfl eg) (.bool false) (y_eqS _ _ _ rfl e93 e95 (str_ne (fun e => Bool.false_ne_true (he.symm.trans ((eqM_iff _ _).2 ((enc_inj om ou hm1 hu1).1 (hm2.trans (e.trans hu2.symm)))))))) rfl
    · intro ua uw hb hd
      have eg : ua.eval (.tmp 91) = .bool false := hd 91 (by decide)
      have e97 : ua.eval (.tmp 97) = .agg (msgA m V48) := hd 97 (by decide)
      have e98 : ua.eval (.tmp 98) = .agg (msgA u V53) := hd 98 (by decide)
      exact hop_callK (F := (StK.eq (.bool false)).F) (wanted_yes rfl rfl rfl eg) hb.size rfl #[.agg (msgA m V48), .agg (msgA u V53)] (args2 e97 e98) (enters_of Try.func21 (by kernel_rfl) rfl) (call_eqS ((msgs_is m u V48 V53 om ou false he uw ⟨((M85.step hb).isb (k := 2) rfl), ((M85.step hb).isb (k := 3) rfl), ((M85.step hb).isb (k := 4) rfl), ((M85.step hb).isb (k := 5) rfl), ((M85.step hb).isb (k := 6) rfl)⟩ ⟨((M85.step hb).isb (k := 7) rfl), ((M85.step hb).isb (k := 8) rfl), ((M85.step hb).isb (k := 9) rfl), ((M85.step hb).isb (k := 10) rfl), ((M85.step hb).isb (k := 11) rfl)⟩)))
    · intro ua uw hb hd
      have eg : ua.eval (.tmp 91) = .bool false := hd 91 (by decide)
      have e96 : ua.eval (.tmp 96) = .bool false := hd 96 (by decide)
      have e99 : ua.eval (.tmp 99) = .bool false := hd 99 (by decide)
      exact hop_runK (F := (StK.eq (.bool true)).F) (wanted_yes rfl rfl rfl eg) (.bool true) (y_eqB _ _ rfl e96 e99 rfl) rfl
    · intro ua uw hb hd
      have eg : ua.eval (.tmp 102) = .bool true := hd 102 (by decide)
      have e103 : ua.eval (.tmp 103) = .slice A81 (xr).length c81 := hd 103 (by decide)
      exact hop_runK (F := (StK.eq (.string (⟨(xr).toArray⟩))).F) (wanted_yes rfl rfl rfl eg) (.string (⟨(xr).toArray⟩)) (y_str _ rfl e103 ((M85.step hb).isO (k := 22) rfl)) rfl
    · intro ua uw hb hd
      have eg : ua.eval (.tmp 102) = .bool true := hd 102 (by decide)
      have e105 : ua.eval (.tmp 105) = .slice A85 (xt).length c85 := hd 105 (by decide)
      exact hop_runK (F := (StK.eq (.string (⟨(xt).toArray⟩))).F) (wanted_yes rfl rfl rfl eg) (.string (⟨(xt).toArray⟩)) (y_str _ rfl e105 ((M85.step hb).isO (k := 23) rfl)) rfl
    · intro ua uw hb hd
      have eg : ua.eval (.tmp 102) = .bool true := hd 102 (by decide)
      have e104 : ua.eval (.tmp 104) = .string (⟨(xr).toArray⟩) := hd 104 (by decide)
      have e106 : ua.eval (.tmp 106) = .string (⟨(xt).toArray⟩) := hd 106 (by decide)
      exact hop_runK (F := (StK.eq (.bool true)).F) (wanted_yes rfl rfl rfl eg) (.bool true) (y_eqS _ _ _ rfl e104 e106 (str_eq (by rw [← hr2, ← ht2, (eqR_iff _ _).1 hf]))) rfl
    · intro ua uw hb hd
      have eg : ua.eval (.tmp 102) = .bool true := hd 102 (by decide)
      have e108 : ua.eval (.tmp 108) = .agg (recA r V70) := hd 108 (by decide)
      have e109 : ua.eval (.tmp 109) = .agg (recA t V74) := hd 109 (by decide)
      exact hop_callK (F := (StK.eq (.bool true)).F) (wanted_yes rfl rfl rfl eg) hb.size rfl #[.agg (recA r V70), .agg (recA t V74)] (args2 e108 e109) (enters_of Try.func38 (by kernel_rfl) rfl) (call_eqS ((recs_is r t V70 V74 or ot true hf uw ⟨((M85.step hb).isb (k := 16) rfl), ((M85.step hb).isb (k := 17) rfl)⟩ ⟨((M85.step hb).isb (k := 18) rfl), ((M85.step hb).isb (k := 19) rfl)⟩)))
    · intro ua uw hb hd
      have eg : ua.eval (.tmp 102) = .bool true := hd 102 (by decide)
      have e107 : ua.eval (.tmp 107) = .bool true := hd 107 (by decide)
      have e110 : ua.eval (.tmp 110) = .bool true := hd 110 (by decide)
      exact hop_runK (F := (StK.eq (.bool true)).F) (wanted_yes rfl rfl rfl eg) (.bool true) (y_eqB _ _ rfl e107 e110 rfl) rfl
    intro p99 a99 w99 b99 G99 y99
    obtain ⟨-, -, -, -, -, -, -, -, -, -, -, -, -, -, -, -, -, -, -, -, -, -, -, -, -, -, -, -, q28, -⟩ := y99
    have r28 : p99 28 = .bool true := q28 (by decide)
    simp only [List.take_succ_cons, List.take_zero, layV, Nat.zero_add, Nat.reduceAdd, r28] at G99
    have M99 := M85.kc b99
    clear F86 M85 r28 q28
    refine hK87 _ _ (wp_ret ?_)
    try simp only [Exit.then, Exit.inBlock, Exit.jump]
    exact bodyPost_ret (res1 rfl (G99.get (t := 14) rfl)) G99.defers ⟨rfl, M99.below⟩
  have hD96 := (dcons (M85.blk (k := 12) rfl) (dcons (M85.blk (k := 13) rfl) (dcons (M85.blk (k := 20) rfl) (dcons (M85.blk (k := 21) rfl) dnil))))
  refine region_fx F86 (SK [.inl (.bool true), .inl (.bool false), .inl (.bool false), .inl (.bool true), .inl (.bool false), .inl (.bool false), .inl (.bool false), .inl (.slice A60 (xm).length c60), .inl (.string (⟨(xm).toArray⟩)), .inl (.slice A64 (xu).length c64), .inl (.string (⟨(xu).toArray⟩)), .inl (.bool false), .inl (.agg (msgA m V48)), .inl (.agg (msgA u V53)), .inl (.bool false), .inl (.bool true), .inl (.bool true), .inl (.bool true), .inl (.slice A81 (xr).length c81), .inl (.string (⟨(xr).toArray⟩)), .inl (.slice A85 (xt).length c85), .inl (.string (⟨(xt).toArray⟩)), .inl (.bool false), .inl (.agg (recA r V70)), .inl (.agg (recA t V74)), .inl (.bool false), .inl (.bool true), .inl (.bool true), .inl (.bool true)]) 29 rfl (by kernel_rfl) ⟨hop0 F86 (by kernel_rfl), hop0 F86 (by kernel_rfl), hop0 F86 (by kernel_rfl), hop0 F86 (by kernel_rfl), hop0 F86 (by kernel_rfl), hop0 F86 (by kernel_rfl), hop0 F86 (by kernel_rfl), hop0 F86 (by kernel_rfl), ?_, hop0 F86 (by kernel_rfl), ?_, ?_, hopP F86 hD96 0 (some g54) (by kernel_rfl), hopP F86 hD96 1 (some g55) (by kernel_rfl), ?_, ?_, hop0 F86 (by kernel_rfl), hop0 F86 (by kernel_rfl), hop0 F86 (by kernel_rfl), ?_, hop0 F86 (by kernel_rfl), ?_, ?_, hopP F86 hD96 2 (some g75) (by kernel_rfl), hopP F86 hD96 3 (some g76) (by kernel_rfl), ?_, ?_, hop0 F86 (by kernel_rfl), hop0 F86 (by kernel_rfl), trivial⟩ ?_
  · intro ua uw hb hd
    have eg : ua.eval (.tmp 91) = .bool false := hd 91 (by decide)
    have e92 : ua.eval (.tmp 92) = .slice A60 (xm).length c60 := hd 92 (by decide)
    exact hop_runK (F := (StK.eq (.string (⟨(xm).toArray⟩))).F) (wanted_yes rfl rfl rfl eg) (.string (⟨(xm).toArray⟩)) (y_str _ rfl e92 ((M85.step hb).isO (k := 14) rfl)) rfl
  · intro ua uw hb hd
    have eg : ua.eval (.tmp 91) = .bool false := hd 91 (by decide)
    have e94 : ua.eval (.tmp 94) = .slice A64 (xu).length c64 := hd 94 (by decide)
    exact hop_runK (F := (StK.eq (.string (⟨(xu).toArray⟩))).F) (wanted_yes rfl rfl rfl eg) (.string (⟨(xu).toArray⟩)) (y_str _ rfl e94 ((M85.step hb).isO (k := 15) rfl)) rfl
  · intro ua uw hb hd
    have eg : ua.eval (.tmp 91) = .bool false := hd 91 (by decide)
    have e93 : ua.eval (.tmp 93) = .string (⟨(xm).toArray⟩) := hd 93 (by decide)
    have e95 : ua.eval (.tmp 95) = .string (⟨(xu).toArray⟩) := hd 95 (by decide)
    exact hop_runK (F := (StK.eq (.bool false)).F) (wanted_yes rfl rfl rfl eg) (.bool false) (y_eqS _ _ _ rfl e93 e95 (str_ne (fun e => Bool.false_ne_true (he.symm.trans ((eqM_iff _ _).2 ((enc_inj om ou hm1 hu1).1 (hm2.trans (e.trans hu2.symm)))))))) rfl
  · intro ua uw hb hd
    have eg : ua.eval (.tmp 91) = .bool false := hd 91 (by decide)
    have e97 : ua.eval (.tmp 97) = .agg (msgA m V48) := hd 97 (by decide)
    have e98 : ua.eval (.tmp 98) = .agg (msgA u V53) := hd 98 (by decide)
    exact hop_callK (F := (StK.eq (.bool false)).F) (wanted_yes rfl rfl rfl eg) hb.size rfl #[.agg (msgA m V48), .agg (msgA u V53)] (args2 e97 e98) (enters_of Try.func21 (by kernel_rfl) rfl) (call_eqS ((msgs_is m u V48 V53 om ou false he uw ⟨((M85.step hb).isb (k := 2) rfl), ((M85.step hb).isb (k := 3) rfl), ((M85.step hb).isb (k := 4) rfl), ((M85.step hb).isb (k := 5) rfl), ((M85.step hb).isb (k := 6) rfl)⟩ ⟨((M85.step hb).isb (k := 7) rfl), ((M85.step hb).isb (k := 8) rfl), ((M85.step hb).isb (k := 9) rfl), ((M85.step hb).isb (k := 10) rfl), ((M85.step hb).isb (k := 11) rfl)⟩)))
  · intro ua uw hb hd
    have eg : ua.eval (.tmp 91) = .bool false := hd 91 (by decide)
    have e96 : ua.eval (.tmp 96) = .bool false := hd 96 (by decide)
    have e99 : ua.eval (.tmp 99) = .bool false := hd 99 (by decide)
    exact hop_runK (F := (StK.eq (.bool true)).F) (wanted_yes rfl rfl rfl eg) (.bool true) (y_eqB _ _ rfl e96 e99 rfl) rfl
  · intro ua uw hb hd
    have eg : ua.eval (.tmp 102) = .bool true := hd 102 (by decide)
    have e103 : ua.eval (.tmp 103) = .slice A81 (xr).length c81 := hd 103 (by decide)
    exact hop_runK (F := (StK.eq (.string (⟨(xr).toArray⟩))).F) (wanted_yes rfl rfl rfl eg) (.string (⟨(xr).toArray⟩)) (y_str _ rfl e103 ((M85.step hb).isO (k := 22) rfl)) rfl
  · intro ua uw hb hd
    have eg : ua.eval (.tmp 102) = .bool true := hd 102 (by decide)
    have e105 : ua.eval (.tmp 105) = .slice A85 (xt).length c85 := hd 105 (by decide)
    exact hop_runK (F := (StK.eq (.string (⟨(xt).toArray⟩))).F) (wanted_yes rfl rfl rfl eg) (.string (⟨(xt).toArray⟩)) (y_str _ rfl e105 ((M85.step hb).isO (k := 23) rfl)) rfl
  · intro ua uw hb hd
    have eg : ua.eval (.tmp 102) = .bool true := hd 102 (by decide)
    have e104 : ua.eval (.tmp 104) = .string (⟨(xr).toArray⟩) := hd 104 (by decide)
    have e106 : ua.eval (.tmp 106) = .string (⟨(xt).toArray⟩) := hd 106 (by decide)
    exact hop_runK (F := (StK.eq (.bool false)).F) (wanted_yes rfl rfl rfl eg) (.bool false) (y_eqS _ _ _ rfl e104 e106 (str_ne (fun e => Bool.false_ne_true (hf.symm.trans ((eqR_iff _ _).2 ((rec_inj or ot pr pt).1 (hr2.trans (e.trans ht2.symm)))))))) rfl
  · intro ua uw hb hd
    have eg : ua.eval (.tmp 102) = .bool true := hd 102 (by decide)
    have e108 : ua.eval (.tmp 108) = .agg (recA r V70) := hd 108 (by decide)
    have e109 : ua.eval (.tmp 109) = .agg (recA t V74) := hd 109 (by decide)
    exact hop_callK (F := (StK.eq (.bool false)).F) (wanted_yes rfl rfl rfl eg) hb.size rfl #[.agg (recA r V70), .agg (recA t V74)] (args2 e108 e109) (enters_of Try.func38 (by kernel_rfl) rfl) (call_eqS ((recs_is r t V70 V74 or ot false hf uw ⟨((M85.step hb).isb (k := 16) rfl), ((M85.step hb).isb (k := 17) rfl)⟩ ⟨((M85.step hb).isb (k := 18) rfl), ((M85.step hb).isb (k := 19) rfl)⟩)))
  · intro ua uw hb hd
    have eg : ua.eval (.tmp 102) = .bool true := hd 102 (by decide)
    have e107 : ua.eval (.tmp 107) = .bool false := hd 107 (by decide)
    have e110 : ua.eval (.tmp 110) = .bool false := hd 110 (by decide)
    exact hop_runK (F := (StK.eq (.bool true)).F) (wanted_yes rfl rfl rfl eg) (.bool true) (y_eqB _ _ rfl e107 e110 rfl) rfl
  intro p97 a97 w97 b97 G97 y97
  obtain ⟨-, -, -, -, -, -, -, -, -, -, -, -, -, -, -, -, -, -, -, -, -, -, -, -, -, -, -, -, q28, -⟩ := y97
  have r28 : p97 28 = .bool true := q28 (by decide)
  simp only [List.take_succ_cons, List.take_zero, layV, Nat.zero_add, Nat.reduceAdd, r28] at G97
  have M97 := M85.kc b97
  clear F86 M85 r28 q28
  refine hK87 _ _ (wp_ret ?_)
  try simp only [Exit.then, Exit.inBlock, Exit.jump]
  exact bodyPost_ret (res1 rfl (G97.get (t := 14) rfl)) G97.defers ⟨rfl, M97.below⟩
end Go.Proofs.Ytlbkogdmojlpmaa
