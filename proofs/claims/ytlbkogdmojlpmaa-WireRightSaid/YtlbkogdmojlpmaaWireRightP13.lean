/- What WireRight stands on, part 13. -/
import Derived.Test.YtlbkogdmojlpmaaWireRightP1
import Derived.Test.YtlbkogdmojlpmaaWireRightP2
import Derived.Test.YtlbkogdmojlpmaaWireRightP3
import Derived.Test.YtlbkogdmojlpmaaWireRightP4
import Derived.Test.YtlbkogdmojlpmaaWireRightP5
import Derived.Test.YtlbkogdmojlpmaaWireRightP6
import Derived.Test.YtlbkogdmojlpmaaWireRightP7
import Derived.Test.YtlbkogdmojlpmaaWireRightP8
import Derived.Test.YtlbkogdmojlpmaaWireRightP9
import Derived.Test.YtlbkogdmojlpmaaWireRightP10
import Derived.Test.YtlbkogdmojlpmaaWireRightP11
import Derived.Test.YtlbkogdmojlpmaaWireRightP12
set_option maxRecDepth 100000
set_option maxHeartbeats 8000000
set_option linter.unusedVariables false
set_option linter.unusedSimpArgs false
namespace Go.Proofs.Ytlbkogdmojlpmaa
open Go.ChangeShapes Go.WideShapes Go.ChangeAt Go.RowKit
theorem WireRight_walk (a0 : Int) (hk0 : -9223372036854775808 ≤ a0) (hl0 : a0 < 9223372036854775808)
  (a1 : Int) (hk1 : -9223372036854775808 ≤ a1) (hl1 : a1 < 9223372036854775808)
  (a2 : ByteArray) (hS2 : a2.size ≤ maxLen)
  (A3 : Option Addr) (n3 cap3 : Nat) (l3 : List UInt8) (hn3 : l3.length = n3) (hc3 : n3 ≤ cap3) (hm3 : cap3 ≤ maxLen) (hz3 : A3 = none → cap3 = 0)
  (a4 : Int) (hk4 : -9223372036854775808 ≤ a4) (hl4 : a4 < 9223372036854775808)
  (a5 : Int) (hk5 : -9223372036854775808 ≤ a5) (hl5 : a5 < 9223372036854775808)
  (a6 : ByteArray) (hS6 : a6.size ≤ maxLen) (w : World) (hr3 : Rd w A3 l3) :
  Calls Try.prog 5 #[.int .i64 a0, .int .i64 a1, .string a2, .slice A3 n3 cap3, .int .i64 a4, .int .i64 a5, .string a6] w fun e w' => e = .returned (.bool true) ∧ Below w.heap.size w w' := by
 have ib3 : IsB w l3 (.slice A3 n3 cap3) := hr3.isB' hn3 hc3 hm3 hz3
 by_cases b0 : 40 < a2.size
 ·refine zh (args := [.int .i64 a0, .int .i64 a1, .string a2, .slice A3 n3 cap3, .int .i64 a4, .int .i64 a5, .string a6]) 163 Try.func5 rfl rfl rfl ?_
  intro fa F
  have M := Mx.start w
  replace M := M.argB 0 ib3 (fun g e => by cases e)
  refine zT fun _ hK21 => ?_
  refine rm rfl F fun _ F22 => ?_
  refine hK21 _ _ (zS fun _ hK23 => ?_)
  refine zT fun _ hK24 => ?_
  refine zc (za rfl) rfl F22 rfl rfl (enters_of Try.func15 (by kernel_rfl) rfl) #[] (args0) (zf (lknown_any w)) ?_
  rintro _ w25 a25 ⟨rfl, b25⟩ F25
  have M25 := M.step b25
  refine rn rfl rfl F25 rfl (.bool false) (run_not _ _ rfl (F25.get (t := 20) rfl)) fun _ F26 => ?_
  refine hK24 _ _ (wp_cond_false (F26.get rfl) ?_)
  refine wp_skip ?_
  refine hK23 _ _ (zS fun _ hK27 => ?_)
  refine zT fun _ hK28 => ?_
  refine rm rfl F26 fun _ F29 => ?_
  refine rn rfl rfl F29 rfl (.int .i64 (a2.size : Int)) (y_lenS _ rfl (F29.get rfl) rfl) fun _ F30 => ?_
  refine rn rfl rfl F30 rfl (.bool true) (zva _ _ _ _ rfl (F30.get rfl) rfl (decide_eq_true (show (40 : Int) < (a2.size : Int) by omega))) fun _ F31 => ?_
  refine exS 10 [(0, .int .i64 a0), (1, .int .i64 a1), (2, .string a2), (3, .slice A3 n3 cap3), (4, .int .i64 a4), (5, .int .i64 a5), (6, .string a6), (14, .bool false), (34, .bool true)] [] dnil [] F31 (by kernel_rfl) fun _ F32 => ?_
  refine hK28 _ _ (wp_cond_true (F32.get rfl) ?_)
  refine zT fun _ hK33 => ?_
  refine rm rfl F32 fun _ F34 => ?_
  refine hK33 _ _ (wp_ret ?_)
  try simp only [Exit.then, Exit.inBlock, Exit.jump]
  exact bodyPost_ret (res1 rfl (F34.get rfl)) F34.defers ⟨rfl, M25.below⟩
 by_cases b1 : 130 < l3.length
 ·refine zh (args := [.int .i64 a0, .int .i64 a1, .string a2, .slice A3 n3 cap3, .int .i64 a4, .int .i64 a5, .string a6]) 163 Try.func5 rfl rfl rfl ?_
  intro fa F
  have M := Mx.start w
  replace M := M.argB 0 ib3 (fun g e => by cases e)
  refine zT fun _ hK21 => ?_
  refine rm rfl F fun _ F22 => ?_
  refine hK21 _ _ (zS fun _ hK23 => ?_)
  refine zT fun _ hK24 => ?_
  refine zc (za rfl) rfl F22 rfl rfl (enters_of Try.func15 (by kernel_rfl) rfl) #[] (args0) (zf (lknown_any w)) ?_
  rintro _ w25 a25 ⟨rfl, b25⟩ F25
  have M25 := M.step b25
  refine rn rfl rfl F25 rfl (.bool false) (run_not _ _ rfl (F25.get (t := 20) rfl)) fun _ F26 => ?_
  refine hK24 _ _ (wp_cond_false (F26.get rfl) ?_)
  refine wp_skip ?_
  refine hK23 _ _ (zS fun _ hK27 => ?_)
  refine zT fun _ hK28 => ?_
  refine rm rfl F26 fun _ F29 => ?_
  refine rn rfl rfl F29 rfl (.int .i64 (a2.size : Int)) (y_lenS _ rfl (F29.get rfl) rfl) fun _ F30 => ?_
  refine rn rfl rfl F30 rfl (.bool false) (zva _ _ _ _ rfl (F30.get rfl) rfl (decide_eq_false (show ¬ (40 : Int) < (a2.size : Int) by omega))) fun _ F31 => ?_
  refine rm rfl F31 fun _ F32 => ?_
  refine rm rfl F32 fun _ F33 => ?_
  refine zg (w' := w25) (zb rfl rfl rfl (F33.get rfl)) rfl F33 rfl (.int .i64 (l3.length : Int)) (zfa _ rfl (F33.get rfl) (M25.isb (k := 0) rfl) rfl) fun _ F34 => ?_
  refine zg (w' := w25) (zb rfl rfl rfl (F34.get rfl)) rfl F34 rfl (.bool true) (zva _ _ _ _ rfl (F34.get rfl) rfl (decide_eq_true (show (130 : Int) < (l3.length : Int) by omega))) fun _ F35 => ?_
  refine exA 6 [(29, .bool true), (30, .bool true), (31, undef), (32, undef), (33, undef), (34, .bool true)] [] dnil [] F35 (by kernel_rfl) (by kernel_rfl) fun _ F36 => ?_
  refine hK28 _ _ (wp_cond_true (F36.get rfl) ?_)
  refine zT fun _ hK37 => ?_
  refine rm rfl F36 fun _ F38 => ?_
  refine hK37 _ _ (wp_ret ?_)
  try simp only [Exit.then, Exit.inBlock, Exit.jump]
  exact bodyPost_ret (res1 rfl (F38.get rfl)) F38.defers ⟨rfl, M25.below⟩
 by_cases b2 : 40 < a6.size
 ·refine zh (args := [.int .i64 a0, .int .i64 a1, .string a2, .slice A3 n3 cap3, .int .i64 a4, .int .i64 a5, .string a6]) 163 Try.func5 rfl rfl rfl ?_
  intro fa F
  have M := Mx.start w
  replace M := M.argB 0 ib3 (fun g e => by cases e)
  refine zT fun _ hK21 => ?_
  refine rm rfl F fun _ F22 => ?_
  refine hK21 _ _ (zS fun _ hK23 => ?_)
  refine zT fun _ hK24 => ?_
  refine zc (za rfl) rfl F22 rfl rfl (enters_of Try.func15 (by kernel_rfl) rfl) #[] (args0) (zf (lknown_any w)) ?_
  rintro _ w25 a25 ⟨rfl, b25⟩ F25
  have M25 := M.step b25
  refine rn rfl rfl F25 rfl (.bool false) (run_not _ _ rfl (F25.get (t := 20) rfl)) fun _ F26 => ?_
  refine hK24 _ _ (wp_cond_false (F26.get rfl) ?_)
  refine wp_skip ?_
  refine hK23 _ _ (zS fun _ hK27 => ?_)
  refine zT fun _ hK28 => ?_
  refine rm rfl F26 fun _ F29 => ?_
  refine rn rfl rfl F29 rfl (.int .i64 (a2.size : Int)) (y_lenS _ rfl (F29.get rfl) rfl) fun _ F30 => ?_
  refine rn rfl rfl F30 rfl (.bool false) (zva _ _ _ _ rfl (F30.get rfl) rfl (decide_eq_false (show ¬ (40 : Int) < (a2.size : Int) by omega))) fun _ F31 => ?_
  refine rm rfl F31 fun _ F32 => ?_
  refine rm rfl F32 fun _ F33 => ?_
  refine zg (w' := w25) (zb rfl rfl rfl (F33.get rfl)) rfl F33 rfl (.int .i64 (l3.length : Int)) (zfa _ rfl (F33.get rfl) (M25.isb (k := 0) rfl) rfl) fun _ F34 => ?_
  refine zg (w' := w25) (zb rfl rfl rfl (F34.get rfl)) rfl F34 rfl (.bool false) (zva _ _ _ _ rfl (F34.get rfl) rfl (decide_eq_false (show ¬ (130 : Int) < (l3.length : Int) by omega))) fun _ F35 => ?_
  refine exA 3 [(29, .bool false), (30, .bool false), (31, .string a6)] [] dnil [] F35 (by kernel_rfl) (by kernel_rfl) fun _ F36 => ?_
  refine zg (w' := w25) (zb rfl rfl rfl (F36.get rfl)) rfl F36 rfl (.int .i64 (a6.size : Int)) (y_lenS _ rfl (F36.get rfl) rfl) fun _ F37 => ?_
  refine zg (w' := w25) (zb rfl rfl rfl (F37.get rfl)) rfl F37 rfl (.bool true) (zva _ _ _ _ rfl (F37.get rfl) rfl (decide_eq_true (show (40 : Int) < (a6.size : Int) by omega))) fun _ F38 => ?_
  refine rn rfl rfl F38 rfl (.bool true) (run_pick_f rfl (F38.get rfl) (F38.get rfl)) fun _ F39 => ?_
  refine hK28 _ _ (wp_cond_true (F39.get rfl) ?_)
  refine zT fun _ hK40 => ?_
  refine rm rfl F39 fun _ F41 => ?_
  refine hK40 _ _ (wp_ret ?_)
  try simp only [Exit.then, Exit.inBlock, Exit.jump]
  exact bodyPost_ret (res1 rfl (F41.get rfl)) F41.defers ⟨rfl, M25.below⟩
 have hs : a2.size ≤ 40 := by omega
 have hnm : a6.size ≤ 40 := by omega
 obtain ⟨m, em⟩ : ∃ x, mkM a0 a1 a2 l3 = x := ⟨_, rfl⟩
 obtain ⟨om, zm⟩ := mkM_ok a0 a1 a2 l3
 have rgm := mkM_right a0 a1 a2 l3
 have km := mkM_kind a0 a1 a2 l3
 rw [em] at om zm rgm km
 obtain ⟨qm, hm1⟩ : ∃ x, z8a m = x := ⟨_, rfl⟩
 obtain ⟨xm, hm2⟩ : ∃ x, encL m = x := ⟨_, rfl⟩
 have smo : m.s.size ≤ 1000 := zm
 obtain ⟨j4, hj4, bj4⟩ : ∃ j : Nat, a5 % 4 = (j : Int) ∧ j < 4 := ⟨(a5 % 4).toNat, by omega, by omega⟩
 obtain ⟨j5, hj5, bj5⟩ : ∃ j : Nat, a5 % 5 = (j : Int) ∧ j < 5 := ⟨(a5 % 5).toNat, by omega, by omega⟩
 obtain ⟨j6, hj6, bj6⟩ : ∃ j : Nat, a5 % 6 = (j : Int) ∧ j < 6 := ⟨(a5 % 6).toNat, by omega, by omega⟩
 obtain ⟨j7, hj7, bj7⟩ : ∃ j : Nat, a5 % 7 = (j : Int) ∧ j < 7 := ⟨(a5 % 7).toNat, by omega, by omega⟩
 obtain ⟨j19, hj19, bj19⟩ : ∃ j : Nat, a5 % 19 = (j : Int) ∧ j < 19 := ⟨(a5 % 19).toNat, by omega, by omega⟩
 obtain ⟨j52, hj52, bj52⟩ : ∃ j : Nat, a5 % 52 = (j : Int) ∧ j < 52 := ⟨(a5 % 52).toNat, by omega, by omega⟩
 obtain ⟨j84, hj84, bj84⟩ : ∃ j : Nat, a5 % 84 = (j : Int) ∧ j < 84 := ⟨(a5 % 84).toNat, by omega, by omega⟩
 obtain ⟨j124, hj124, bj124⟩ : ∃ j : Nat, a5 % 124 = (j : Int) ∧ j < 124 := ⟨(a5 % 124).toNat, by omega, by omega⟩
 obtain ⟨jw, hjw, bjw⟩ : ∃ j : Nat, a4 % 12 = (j : Int) ∧ j < 12 := ⟨(a4 % 12).toNat, by omega, by omega⟩
 refine zh (args := [.int .i64 a0, .int .i64 a1, .string a2, .slice A3 n3 cap3, .int .i64 a4, .int .i64 a5, .string a6]) 163 Try.func5 rfl rfl rfl ?_
 intro fa F
 have M := Mx.start w
 replace M := M.argB 0 ib3 (fun g e => by cases e)
 refine zT fun _ hK21 => ?_
 refine rm rfl F fun _ F22 => ?_
 refine hK21 _ _ (zS fun _ hK23 => ?_)
 refine zT fun _ hK24 => ?_
 refine zc (za rfl) rfl F22 rfl rfl (enters_of Try.func15 (by kernel_rfl) rfl) #[] (args0) (zf (lknown_any w)) ?_
 rintro _ w25 a25 ⟨rfl, b25⟩ F25
 have M25 := M.step b25
 refine rn rfl rfl F25 rfl (.bool false) (run_not _ _ rfl (F25.get (t := 20) rfl)) fun _ F26 => ?_
 refine hK24 _ _ (wp_cond_false (F26.get rfl) ?_)
 refine wp_skip ?_
 refine hK23 _ _ (zS fun _ hK27 => ?_)
 refine zT fun _ hK28 => ?_
 refine rm rfl F26 fun _ F29 => ?_
 refine rn rfl rfl F29 rfl (.int .i64 (a2.size : Int)) (y_lenS _ rfl (F29.get rfl) rfl) fun _ F30 => ?_
 refine rn rfl rfl F30 rfl (.bool false) (zva _ _ _ _ rfl (F30.get rfl) rfl (decide_eq_false (show ¬ (40 : Int) < (a2.size : Int) by omega))) fun _ F31 => ?_
 refine rm rfl F31 fun _ F32 => ?_
 refine rm rfl F32 fun _ F33 => ?_
 refine zg (w' := w25) (zb rfl rfl rfl (F33.get rfl)) rfl F33 rfl (.int .i64 (l3.length : Int)) (zfa _ rfl (F33.get rfl) (M25.isb (k := 0) rfl) rfl) fun _ F34 => ?_
 refine zg (w' := w25) (zb rfl rfl rfl (F34.get rfl)) rfl F34 rfl (.bool false) (zva _ _ _ _ rfl (F34.get rfl) rfl (decide_eq_false (show ¬ (130 : Int) < (l3.length : Int) by omega))) fun _ F35 => ?_
 refine exA 3 [(29, .bool false), (30, .bool false), (31, .string a6)] [] dnil [] F35 (by kernel_rfl) (by kernel_rfl) fun _ F36 => ?_
 refine zg (w' := w25) (zb rfl rfl rfl (F36.get rfl)) rfl F36 rfl (.int .i64 (a6.size : Int)) (y_lenS _ rfl (F36.get rfl) rfl) fun _ F37 => ?_
 refine zg (w' := w25) (zb rfl rfl rfl (F37.get rfl)) rfl F37 rfl (.bool false) (zva _ _ _ _ rfl (F37.get rfl) rfl (decide_eq_false (show ¬ (40 : Int) < (a6.size : Int) by omega))) fun _ F38 => ?_
 refine rn rfl rfl F38 rfl (.bool false) (run_pick_f rfl (F38.get rfl) (F38.get rfl)) fun _ F39 => ?_
 refine hK28 _ _ (wp_cond_false (F39.get rfl) ?_)
 refine wp_skip ?_
 refine hK27 _ _ (zS fun _ hK40 => ?_)
 refine zR ?_
 refine rm rfl F39 fun _ F41 => ?_
 refine rm rfl F41 fun _ F42 => ?_
 refine rm rfl F42 fun _ F43 => ?_
 refine rm rfl F43 fun _ F44 => ?_
 refine zc (za rfl) rfl F44 rfl rfl (enters_of Try.func16 (by kernel_rfl) rfl) #[.int .i64 a0, .int .i64 a1, .string a2, .slice A3 n3 cap3] (args4 (F44.get rfl) (F44.get rfl) (F44.get rfl) (F44.get rfl)) (make_is a0 a1 a2 l3 (.slice A3 n3 cap3) ⟨hk0, hl0⟩ ⟨hk1, hl1⟩ hs m em w25 (M25.isb (k := 0) rfl)) ?_
 rintro _ w45 a45 ⟨V45, rfl, is45, lo45, b45⟩ F45
 have M45 := M25.newMsg b45 is45 lo45 1 2 3 4 5
 clear M25 b45 lo45
 refine zi (za rfl) rfl F45 rfl M45 6 (t := 29) (c := msgA ⟨0, 0, 0, 0, "".toUTF8, 0, 0, [], [], [], [], []⟩ ⟨zN, zN, zN, zN, zN⟩) (by unfold execOp; kernel_rfl) ?_
 intro g46 a46 w46 F46 M46
 clear F45 M45
 refine zu (za rfl) rfl F46 M46 (k := 6) rfl _ _ _ rfl (F46.get rfl) (F46.get rfl) (msgA m V45) _ rfl (Nat.le_of_ble_eq_true rfl) (zba (w := w46) ⟨(M46.isb (k := 1) rfl), (M46.isb (k := 2) rfl), (M46.isb (k := 3) rfl), (M46.isb (k := 4) rfl), (M46.isb (k := 5) rfl)⟩) (z0 rfl) (by kernel_rfl) ?_
 intro w47 M47
 clear M46
 refine hK40 _ _ (zS fun K48 hK48 => ?_)
 have J48 : ∀ (m2 : MsgN) (V2 : MsgV) (aJ : Act) (wJ : World), (MsgOk m2 ∧ m2.s.size ≤ 1000) → Fx 163 aJ [(15, .pointer (some ⟨g46, 0, none⟩))] → Mx none w wJ [(6, blkR g46 29 (msgA m2 V2)), (900, bytR m2.l5 V2.v5), (901, bytR m2.l6 V2.v6), (902, bytR m2.l7 V2.v7), (903, bytR m2.l8 V2.v8), (904, bytR m2.l9 V2.v9)] → K48 aJ wJ := by
  clear F46 M47
  intro m2 V2 a48 w48 I48 F48 M48
  refine hK48 _ _ ?_
  obtain ⟨ho2, hz2⟩ := I48
  obtain ⟨q2, hq2⟩ : ∃ b, z8a m2 = b := ⟨_, rfl⟩
  obtain ⟨x2, hx2⟩ : ∃ l, encL m2 = l := ⟨_, rfl⟩
  obtain ⟨t2, ht2⟩ : ∃ b, zta m2 = b := ⟨_, rfl⟩
  refine zT fun _ hK49 => ?_
  refine rn rfl rfl F48 rfl _ (zoa _ _ rfl (F48.get rfl) (M48.blk (k := 6) rfl) (msgA m2 V2) (zqa rfl) Try.underlying29 rfl (by kernel_rfl)) fun _ F50 => ?_
  refine zc (za rfl) rfl F50 rfl rfl (enters_of Try.func17 (by kernel_rfl) rfl) #[.agg (msgA m2 V2)] (zn (F50.get rfl)) (enc_is m2 V2 ho2 hz2 q2 x2 hq2 hx2 w48 ⟨(M48.isb (k := 900) rfl), (M48.isb (k := 901) rfl), (M48.isb (k := 902) rfl), (M48.isb (k := 903) rfl), (M48.isb (k := 904) rfl)⟩) ?_
  rintro _ w51 a51 ⟨v51, rfl, hv51, b51⟩ F51
  have M51 := M48.newO b51 7 hv51
  clear M48 b51 hv51
  obtain ⟨A51, c51, rfl⟩ := (M51.isO (k := 7) rfl).shape
  refine exS 5 [(15, .pointer (some ⟨g46, 0, none⟩)), (16, .slice A51 (x2).length c51), (17, .bool q2)] [] dnil [] F51 (by kernel_rfl) fun _ F52 => ?_
  refine hK49 _ _ (zS fun _ hK53 => ?_)
  refine zR ?_
  refine rn rfl rfl F52 rfl _ (zoa _ _ rfl (F52.get rfl) (M51.blk (k := 6) rfl) (msgA m2 V2) (zqa rfl) Try.underlying29 rfl (by kernel_rfl)) fun _ F54 => ?_
  refine zc (za rfl) rfl F54 rfl rfl (enters_of Try.func18 (by kernel_rfl) rfl) #[.agg (msgA m2 V2)] (zn (F54.get rfl)) (renc_is m2 V2 ho2 hz2 q2 x2 hq2 hx2 w51 ⟨(M51.isb (k := 900) rfl), (M51.isb (k := 901) rfl), (M51.isb (k := 902) rfl), (M51.isb (k := 903) rfl), (M51.isb (k := 904) rfl)⟩) ?_
  rintro _ w55 a55 ⟨v55, rfl, hv55, b55⟩ F55
  have M55 := M51.newO b55 8 hv55
  clear M51 b55 hv55
  obtain ⟨A55, c55, rfl⟩ := (M55.isO (k := 8) rfl).shape
  refine exS 5 [(15, .pointer (some ⟨g46, 0, none⟩)), (16, .slice A51 (x2).length c51), (17, .bool q2), (18, .slice A55 (x2).length c55), (19, .bool q2)] [] dnil [] F55 (by kernel_rfl) fun _ F56 => ?_
  refine hK53 _ _ (zS fun _ hK57 => ?_)
  cases t2
  ·cases q2
   ·have hD58 := (zq (M55.blk (k := 6) rfl) dnil)
    refine zxa F56 (SK [.inl (.agg (msgA m2 V2)), .inl (.bool false), .inl (.agg (msgA m2 V2)), .inl (.bool false), .inl (.bool true), .inl (.bool true), .inl (.bool false), .inl (.bool false), .inl (.bool true), .inl (.bool true), .inl (.bool true), .inl (.slice A51 (x2).length c51), .inl (.string (⟨(x2).toArray⟩)), .inl (.slice A55 (x2).length c55), .inl (.string (⟨(x2).toArray⟩)), .inl (.bool true), .inl (.bool true), .inl (.bool true)]) 18 rfl (by kernel_rfl) ⟨hopP F56 hD58 0 (some g46) (by kernel_rfl), ?_, hopP F56 hD58 0 (some g46) (by kernel_rfl), ?_, ?_, hop0 F56 (by kernel_rfl), hop0 F56 (by kernel_rfl), hop0 F56 (by kernel_rfl), ?_, hop0 F56 (by kernel_rfl), hop0 F56 (by kernel_rfl), hop0 F56 (by kernel_rfl), ?_, hop0 F56 (by kernel_rfl), ?_, ?_, hop0 F56 (by kernel_rfl), hop0 F56 (by kernel_rfl), trivial⟩ ?_
    ·intro ua uw hb hd
     have e146 : ua.eval (.tmp 146) = .agg (msgA m2 V2) := hd 146 (by decide)
     exact z7 (F := (StK.eq (.bool false)).F) (za rfl) hb.size rfl #[.agg (msgA m2 V2)] (zn e146) (enters_of Try.func19 (by kernel_rfl) rfl) (zda ((right_is m2 V2 ho2 hz2 false ht2 uw ⟨((M55.step hb).isb (k := 900) rfl), ((M55.step hb).isb (k := 901) rfl), ((M55.step hb).isb (k := 902) rfl), ((M55.step hb).isb (k := 903) rfl), ((M55.step hb).isb (k := 904) rfl)⟩)))
    ·intro ua uw hb hd
     have e148 : ua.eval (.tmp 148) = .agg (msgA m2 V2) := hd 148 (by decide)
     exact z7 (F := (StK.eq (.bool false)).F) (za rfl) hb.size rfl #[.agg (msgA m2 V2)] (zn e148) (enters_of Try.func25 (by kernel_rfl) rfl) (zda ((rright_is m2 V2 ho2 hz2 false ht2 uw ⟨((M55.step hb).isb (k := 900) rfl), ((M55.step hb).isb (k := 901) rfl), ((M55.step hb).isb (k := 902) rfl), ((M55.step hb).isb (k := 903) rfl), ((M55.step hb).isb (k := 904) rfl)⟩)))
    ·intro ua uw hb hd
     have e147 : ua.eval (.tmp 147) = .bool false := hd 147 (by decide)
     have e149 : ua.eval (.tmp 149) = .bool false := hd 149 (by decide)
     exact zp (F := (StK.eq (.bool true)).F) (za rfl) (.bool true) (y_eqB _ _ rfl e147 e149 rfl) rfl
    ·intro ua uw hb hd
     have eg : ua.eval (.tmp 151) = .bool true := hd 151 (by decide)
     have e152 : ua.eval (.tmp 152) = .bool false := hd 152 (by decide)
     have e153 : ua.eval (.tmp 153) = .bool false := hd 153 (by decide)
     exact zp (F := (StK.eq (.bool true)).F) (zb rfl rfl rfl eg) (.bool true) (y_eqB _ _ rfl e152 e153 rfl) rfl
    ·intro ua uw hb hd
     have eg : ua.eval (.tmp 156) = .bool true := hd 156 (by decide)
     have e157 : ua.eval (.tmp 157) = .slice A51 (x2).length c51 := hd 157 (by decide)
     exact zp (F := (StK.eq (.string (⟨(x2).toArray⟩))).F) (zb rfl rfl rfl eg) (.string (⟨(x2).toArray⟩)) (y_str _ rfl e157 ((M55.step hb).isO (k := 7) rfl)) rfl
    ·intro ua uw hb hd
     have eg : ua.eval (.tmp 156) = .bool true := hd 156 (by decide)
     have e159 : ua.eval (.tmp 159) = .slice A55 (x2).length c55 := hd 159 (by decide)
     exact zp (F := (StK.eq (.string (⟨(x2).toArray⟩))).F) (zb rfl rfl rfl eg) (.string (⟨(x2).toArray⟩)) (y_str _ rfl e159 ((M55.step hb).isO (k := 8) rfl)) rfl
    ·intro ua uw hb hd
     have eg : ua.eval (.tmp 156) = .bool true := hd 156 (by decide)
     have e158 : ua.eval (.tmp 158) = .string (⟨(x2).toArray⟩) := hd 158 (by decide)
     have e160 : ua.eval (.tmp 160) = .string (⟨(x2).toArray⟩) := hd 160 (by decide)
     exact zp (F := (StK.eq (.bool true)).F) (zb rfl rfl rfl eg) (.bool true) (y_eqS _ _ _ rfl e158 e160 (str_eq rfl)) rfl
    intro p59 a59 w59 b59 G59 y59
    obtain ⟨-, -, -, -, -, -, -, -, -, -, -, -, -, -, -, -, -, q17, -⟩ := y59
    have r17 : p59 17 = .bool true := q17 (by decide)
    simp only [List.take_succ_cons, List.take_zero, layV, Nat.zero_add, Nat.reduceAdd, r17] at G59
    have M59 := M55.kc b59
    clear F56 M55 r17 q17
    refine hK57 _ _ (wp_ret ?_)
    try simp only [Exit.then, Exit.inBlock, Exit.jump]
    exact bodyPost_ret (res1 rfl (G59.get (t := 14) rfl)) G59.defers ⟨rfl, M59.below⟩
   ·have hD60 := (zq (M55.blk (k := 6) rfl) dnil)
    refine zxa F56 (SK [.inl (.agg (msgA m2 V2)), .inl (.bool false), .inl (.agg (msgA m2 V2)), .inl (.bool false), .inl (.bool true), .inl (.bool true), .inl (.bool true), .inl (.bool true), .inl (.bool true), .inl (.bool true), .inl (.bool true), .inl (.slice A51 (x2).length c51), .inl (.string (⟨(x2).toArray⟩)), .inl (.slice A55 (x2).length c55), .inl (.string (⟨(x2).toArray⟩)), .inl (.bool true), .inl (.bool true), .inl (.bool true)]) 18 rfl (by kernel_rfl) ⟨hopP F56 hD60 0 (some g46) (by kernel_rfl), ?_, hopP F56 hD60 0 (some g46) (by kernel_rfl), ?_, ?_, hop0 F56 (by kernel_rfl), hop0 F56 (by kernel_rfl), hop0 F56 (by kernel_rfl), ?_, hop0 F56 (by kernel_rfl), hop0 F56 (by kernel_rfl), hop0 F56 (by kernel_rfl), ?_, hop0 F56 (by kernel_rfl), ?_, ?_, hop0 F56 (by kernel_rfl), hop0 F56 (by kernel_rfl), trivial⟩ ?_
    ·intro ua uw hb hd
     have e146 : ua.eval (.tmp 146) = .agg (msgA m2 V2) := hd 146 (by decide)
     exact z7 (F := (StK.eq (.bool false)).F) (za rfl) hb.size rfl #[.agg (msgA m2 V2)] (zn e146) (enters_of Try.func19 (by kernel_rfl) rfl) (zda ((right_is m2 V2 ho2 hz2 false ht2 uw ⟨((M55.step hb).isb (k := 900) rfl), ((M55.step hb).isb (k := 901) rfl), ((M55.step hb).isb (k := 902) rfl), ((M55.step hb).isb (k := 903) rfl), ((M55.step hb).isb (k := 904) rfl)⟩)))
    ·intro ua uw hb hd
     have e148 : ua.eval (.tmp 148) = .agg (msgA m2 V2) := hd 148 (by decide)
     exact z7 (F := (StK.eq (.bool false)).F) (za rfl) hb.size rfl #[.agg (msgA m2 V2)] (zn e148) (enters_of Try.func25 (by kernel_rfl) rfl) (zda ((rright_is m2 V2 ho2 hz2 false ht2 uw ⟨((M55.step hb).isb (k := 900) rfl), ((M55.step hb).isb (k := 901) rfl), ((M55.step hb).isb (k := 902) rfl), ((M55.step hb).isb (k := 903) rfl), ((M55.step hb).isb (k := 904) rfl)⟩)))
    ·intro ua uw hb hd
     have e147 : ua.eval (.tmp 147) = .bool false := hd 147 (by decide)
     have e149 : ua.eval (.tmp 149) = .bool false := hd 149 (by decide)
     exact zp (F := (StK.eq (.bool true)).F) (za rfl) (.bool true) (y_eqB _ _ rfl e147 e149 rfl) rfl
    ·intro ua uw hb hd
     have eg : ua.eval (.tmp 151) = .bool true := hd 151 (by decide)
     have e152 : ua.eval (.tmp 152) = .bool true := hd 152 (by decide)
     have e153 : ua.eval (.tmp 153) = .bool true := hd 153 (by decide)
     exact zp (F := (StK.eq (.bool true)).F) (zb rfl rfl rfl eg) (.bool true) (y_eqB _ _ rfl e152 e153 rfl) rfl
    ·intro ua uw hb hd
     have eg : ua.eval (.tmp 156) = .bool true := hd 156 (by decide)
     have e157 : ua.eval (.tmp 157) = .slice A51 (x2).length c51 := hd 157 (by decide)
     exact zp (F := (StK.eq (.string (⟨(x2).toArray⟩))).F) (zb rfl rfl rfl eg) (.string (⟨(x2).toArray⟩)) (y_str _ rfl e157 ((M55.step hb).isO (k := 7) rfl)) rfl
    ·intro ua uw hb hd
     have eg : ua.eval (.tmp 156) = .bool true := hd 156 (by decide)
     have e159 : ua.eval (.tmp 159) = .slice A55 (x2).length c55 := hd 159 (by decide)
     exact zp (F := (StK.eq (.string (⟨(x2).toArray⟩))).F) (zb rfl rfl rfl eg) (.string (⟨(x2).toArray⟩)) (y_str _ rfl e159 ((M55.step hb).isO (k := 8) rfl)) rfl
    ·intro ua uw hb hd
     have eg : ua.eval (.tmp 156) = .bool true := hd 156 (by decide)
     have e158 : ua.eval (.tmp 158) = .string (⟨(x2).toArray⟩) := hd 158 (by decide)
     have e160 : ua.eval (.tmp 160) = .string (⟨(x2).toArray⟩) := hd 160 (by decide)
     exact zp (F := (StK.eq (.bool true)).F) (zb rfl rfl rfl eg) (.bool true) (y_eqS _ _ _ rfl e158 e160 (str_eq rfl)) rfl
    intro p61 a61 w61 b61 G61 y61
    obtain ⟨-, -, -, -, -, -, -, -, -, -, -, -, -, -, -, -, -, q17, -⟩ := y61
    have r17 : p61 17 = .bool true := q17 (by decide)
    simp only [List.take_succ_cons, List.take_zero, layV, Nat.zero_add, Nat.reduceAdd, r17] at G61
    have M61 := M55.kc b61
    clear F56 M55 r17 q17
    refine hK57 _ _ (wp_ret ?_)
    try simp only [Exit.then, Exit.inBlock, Exit.jump]
    exact bodyPost_ret (res1 rfl (G61.get (t := 14) rfl)) G61.defers ⟨rfl, M61.below⟩
  ·cases q2
   ·have hD62 := (zq (M55.blk (k := 6) rfl) dnil)
    refine zxa F56 (SK [.inl (.agg (msgA m2 V2)), .inl (.bool true), .inl (.agg (msgA m2 V2)), .inl (.bool true), .inl (.bool true), .inl (.bool true), .inl (.bool false), .inl (.bool false), .inl (.bool true), .inl (.bool true), .inl (.bool true), .inl (.slice A51 (x2).length c51), .inl (.string (⟨(x2).toArray⟩)), .inl (.slice A55 (x2).length c55), .inl (.string (⟨(x2).toArray⟩)), .inl (.bool true), .inl (.bool true), .inl (.bool true)]) 18 rfl (by kernel_rfl) ⟨hopP F56 hD62 0 (some g46) (by kernel_rfl), ?_, hopP F56 hD62 0 (some g46) (by kernel_rfl), ?_, ?_, hop0 F56 (by kernel_rfl), hop0 F56 (by kernel_rfl), hop0 F56 (by kernel_rfl), ?_, hop0 F56 (by kernel_rfl), hop0 F56 (by kernel_rfl), hop0 F56 (by kernel_rfl), ?_, hop0 F56 (by kernel_rfl), ?_, ?_, hop0 F56 (by kernel_rfl), hop0 F56 (by kernel_rfl), trivial⟩ ?_
    ·intro ua uw hb hd
     have e146 : ua.eval (.tmp 146) = .agg (msgA m2 V2) := hd 146 (by decide)
     exact z7 (F := (StK.eq (.bool true)).F) (za rfl) hb.size rfl #[.agg (msgA m2 V2)] (zn e146) (enters_of Try.func19 (by kernel_rfl) rfl) (zda ((right_is m2 V2 ho2 hz2 true ht2 uw ⟨((M55.step hb).isb (k := 900) rfl), ((M55.step hb).isb (k := 901) rfl), ((M55.step hb).isb (k := 902) rfl), ((M55.step hb).isb (k := 903) rfl), ((M55.step hb).isb (k := 904) rfl)⟩)))
    ·intro ua uw hb hd
     have e148 : ua.eval (.tmp 148) = .agg (msgA m2 V2) := hd 148 (by decide)
     exact z7 (F := (StK.eq (.bool true)).F) (za rfl) hb.size rfl #[.agg (msgA m2 V2)] (zn e148) (enters_of Try.func25 (by kernel_rfl) rfl) (zda ((rright_is m2 V2 ho2 hz2 true ht2 uw ⟨((M55.step hb).isb (k := 900) rfl), ((M55.step hb).isb (k := 901) rfl), ((M55.step hb).isb (k := 902) rfl), ((M55.step hb).isb (k := 903) rfl), ((M55.step hb).isb (k := 904) rfl)⟩)))
    ·intro ua uw hb hd
     have e147 : ua.eval (.tmp 147) = .bool true := hd 147 (by decide)
     have e149 : ua.eval (.tmp 149) = .bool true := hd 149 (by decide)
     exact zp (F := (StK.eq (.bool true)).F) (za rfl) (.bool true) (y_eqB _ _ rfl e147 e149 rfl) rfl
    ·intro ua uw hb hd
     have eg : ua.eval (.tmp 151) = .bool true := hd 151 (by decide)
     have e152 : ua.eval (.tmp 152) = .bool false := hd 152 (by decide)
     have e153 : ua.eval (.tmp 153) = .bool false := hd 153 (by decide)
     exact zp (F := (StK.eq (.bool true)).F) (zb rfl rfl rfl eg) (.bool true) (y_eqB _ _ rfl e152 e153 rfl) rfl
    ·intro ua uw hb hd
     have eg : ua.eval (.tmp 156) = .bool true := hd 156 (by decide)
     have e157 : ua.eval (.tmp 157) = .slice A51 (x2).length c51 := hd 157 (by decide)
     exact zp (F := (StK.eq (.string (⟨(x2).toArray⟩))).F) (zb rfl rfl rfl eg) (.string (⟨(x2).toArray⟩)) (y_str _ rfl e157 ((M55.step hb).isO (k := 7) rfl)) rfl
    ·intro ua uw hb hd
     have eg : ua.eval (.tmp 156) = .bool true := hd 156 (by decide)
     have e159 : ua.eval (.tmp 159) = .slice A55 (x2).length c55 := hd 159 (by decide)
     exact zp (F := (StK.eq (.string (⟨(x2).toArray⟩))).F) (zb rfl rfl rfl eg) (.string (⟨(x2).toArray⟩)) (y_str _ rfl e159 ((M55.step hb).isO (k := 8) rfl)) rfl
    ·intro ua uw hb hd
     have eg : ua.eval (.tmp 156) = .bool true := hd 156 (by decide)
     have e158 : ua.eval (.tmp 158) = .string (⟨(x2).toArray⟩) := hd 158 (by decide)
     have e160 : ua.eval (.tmp 160) = .string (⟨(x2).toArray⟩) := hd 160 (by decide)
     exact zp (F := (StK.eq (.bool true)).F) (zb rfl rfl rfl eg) (.bool true) (y_eqS _ _ _ rfl e158 e160 (str_eq rfl)) rfl
    intro p63 a63 w63 b63 G63 y63
    obtain ⟨-, -, -, -, -, -, -, -, -, -, -, -, -, -, -, -, -, q17, -⟩ := y63
    have r17 : p63 17 = .bool true := q17 (by decide)
    simp only [List.take_succ_cons, List.take_zero, layV, Nat.zero_add, Nat.reduceAdd, r17] at G63
    have M63 := M55.kc b63
    clear F56 M55 r17 q17
    refine hK57 _ _ (wp_ret ?_)
    try simp only [Exit.then, Exit.inBlock, Exit.jump]
    exact bodyPost_ret (res1 rfl (G63.get (t := 14) rfl)) G63.defers ⟨rfl, M63.below⟩
   ·have hD64 := (zq (M55.blk (k := 6) rfl) dnil)
    refine zxa F56 (SK [.inl (.agg (msgA m2 V2)), .inl (.bool true), .inl (.agg (msgA m2 V2)), .inl (.bool true), .inl (.bool true), .inl (.bool true), .inl (.bool true), .inl (.bool true), .inl (.bool true), .inl (.bool true), .inl (.bool true), .inl (.slice A51 (x2).length c51), .inl (.string (⟨(x2).toArray⟩)), .inl (.slice A55 (x2).length c55), .inl (.string (⟨(x2).toArray⟩)), .inl (.bool true), .inl (.bool true), .inl (.bool true)]) 18 rfl (by kernel_rfl) ⟨hopP F56 hD64 0 (some g46) (by kernel_rfl), ?_, hopP F56 hD64 0 (some g46) (by kernel_rfl), ?_, ?_, hop0 F56 (by kernel_rfl), hop0 F56 (by kernel_rfl), hop0 F56 (by kernel_rfl), ?_, hop0 F56 (by kernel_rfl), hop0 F56 (by kernel_rfl), hop0 F56 (by kernel_rfl), ?_, hop0 F56 (by kernel_rfl), ?_, ?_, hop0 F56 (by kernel_rfl), hop0 F56 (by kernel_rfl), trivial⟩ ?_
    ·intro ua uw hb hd
     have e146 : ua.eval (.tmp 146) = .agg (msgA m2 V2) := hd 146 (by decide)
     exact z7 (F := (StK.eq (.bool true)).F) (za rfl) hb.size rfl #[.agg (msgA m2 V2)] (zn e146) (enters_of Try.func19 (by kernel_rfl) rfl) (zda ((right_is m2 V2 ho2 hz2 true ht2 uw ⟨((M55.step hb).isb (k := 900) rfl), ((M55.step hb).isb (k := 901) rfl), ((M55.step hb).isb (k := 902) rfl), ((M55.step hb).isb (k := 903) rfl), ((M55.step hb).isb (k := 904) rfl)⟩)))
    ·intro ua uw hb hd
     have e148 : ua.eval (.tmp 148) = .agg (msgA m2 V2) := hd 148 (by decide)
     exact z7 (F := (StK.eq (.bool true)).F) (za rfl) hb.size rfl #[.agg (msgA m2 V2)] (zn e148) (enters_of Try.func25 (by kernel_rfl) rfl) (zda ((rright_is m2 V2 ho2 hz2 true ht2 uw ⟨((M55.step hb).isb (k := 900) rfl), ((M55.step hb).isb (k := 901) rfl), ((M55.step hb).isb (k := 902) rfl), ((M55.step hb).isb (k := 903) rfl), ((M55.step hb).isb (k := 904) rfl)⟩)))
    ·intro ua uw hb hd
     have e147 : ua.eval (.tmp 147) = .bool true := hd 147 (by decide)
     have e149 : ua.eval (.tmp 149) = .bool true := hd 149 (by decide)
     exact zp (F := (StK.eq (.bool true)).F) (za rfl) (.bool true) (y_eqB _ _ rfl e147 e149 rfl) rfl
    ·intro ua uw hb hd
     have eg : ua.eval (.tmp 151) = .bool true := hd 151 (by decide)
     have e152 : ua.eval (.tmp 152) = .bool true := hd 152 (by decide)
     have e153 : ua.eval (.tmp 153) = .bool true := hd 153 (by decide)
     exact zp (F := (StK.eq (.bool true)).F) (zb rfl rfl rfl eg) (.bool true) (y_eqB _ _ rfl e152 e153 rfl) rfl
    ·intro ua uw hb hd
     have eg : ua.eval (.tmp 156) = .bool true := hd 156 (by decide)
     have e157 : ua.eval (.tmp 157) = .slice A51 (x2).length c51 := hd 157 (by decide)
     exact zp (F := (StK.eq (.string (⟨(x2).toArray⟩))).F) (zb rfl rfl rfl eg) (.string (⟨(x2).toArray⟩)) (y_str _ rfl e157 ((M55.step hb).isO (k := 7) rfl)) rfl
    ·intro ua uw hb hd
     have eg : ua.eval (.tmp 156) = .bool true := hd 156 (by decide)
     have e159 : ua.eval (.tmp 159) = .slice A55 (x2).length c55 := hd 159 (by decide)
     exact zp (F := (StK.eq (.string (⟨(x2).toArray⟩))).F) (zb rfl rfl rfl eg) (.string (⟨(x2).toArray⟩)) (y_str _ rfl e159 ((M55.step hb).isO (k := 8) rfl)) rfl
    ·intro ua uw hb hd
     have eg : ua.eval (.tmp 156) = .bool true := hd 156 (by decide)
     have e158 : ua.eval (.tmp 158) = .string (⟨(x2).toArray⟩) := hd 158 (by decide)
     have e160 : ua.eval (.tmp 160) = .string (⟨(x2).toArray⟩) := hd 160 (by decide)
     exact zp (F := (StK.eq (.bool true)).F) (zb rfl rfl rfl eg) (.bool true) (y_eqS _ _ _ rfl e158 e160 (str_eq rfl)) rfl
    intro p65 a65 w65 b65 G65 y65
    obtain ⟨-, -, -, -, -, -, -, -, -, -, -, -, -, -, -, -, -, q17, -⟩ := y65
    have r17 : p65 17 = .bool true := q17 (by decide)
    simp only [List.take_succ_cons, List.take_zero, layV, Nat.zero_add, Nat.reduceAdd, r17] at G65
    have M65 := M55.kc b65
    clear F56 M55 r17 q17
    refine hK57 _ _ (wp_ret ?_)
    try simp only [Exit.then, Exit.inBlock, Exit.jump]
    exact bodyPost_ret (res1 rfl (G65.get (t := 14) rfl)) G65.defers ⟨rfl, M65.below⟩
 refine zT fun _ hK66 => ?_
 refine rm rfl F46 fun _ F67 => ?_
 refine zc (za rfl) rfl F67 rfl rfl (enters_of Try.func22 (by kernel_rfl) rfl) #[.int .i64 a4, .int .i64 12] (zaa (F67.get rfl) rfl) (zf ((hjw ▸ zj a4 12 (by omega) (by omega) (by omega) (by omega) w47))) ?_
 rintro _ w68 a68 ⟨rfl, rfl⟩ F68
 refine hK66 _ _ (wp_block ?_)
 refine zT fun _ hK69 => ?_
 by_cases h70 : (jw : Int) = 0
 ·refine rn rfl rfl F68 rfl (.bool true) (zl _ _ _ _ rfl (F68.get rfl) rfl Try.underlying3 (zga h70)) fun _ F71 => ?_
  refine rm rfl F71 fun _ F72 => ?_
  refine hK69 _ _ (wp_cond_true (F72.get rfl) ?_)
  refine zR ?_
  refine rm rfl F72 fun _ F73 => ?_
  refine zea (za rfl) rfl F73 rfl M47 7 (t := 3) (c := #[.int .i64 (-1), .int .i64 0, .int .i64 1, .int .i64 7, .int .i64 12, .int .i64 13, .int .i64 a5]) (k := 7) (m := 7) (y_litG 38 3 (s := 1) (zv := .int .i64 0) Try.underlying38 (by kernel_rfl) (by kernel_rfl) rfl (#[.int .i64 (-1), .int .i64 0, .int .i64 1, .int .i64 7, .int .i64 12, .int .i64 13, .int .i64 a5]) (by decide) (by decide) (by simp only [List.map_toArray, List.map_cons, List.map_nil, (F73.get (t := 44) rfl)]; kernel_rfl)) ?_
  intro g74 a74 w74 F74 M74
  clear F73 M47
  refine rm rfl F74 fun _ F75 => ?_
  refine zc (za rfl) rfl F75 rfl rfl (enters_of Try.func22 (by kernel_rfl) rfl) #[.int .i64 a5, .int .i64 7] (zaa (F75.get rfl) rfl) (zf ((hj7 ▸ zj a5 7 (by omega) (by omega) (by omega) (by omega) w74))) ?_
  rintro _ w76 a76 ⟨rfl, rfl⟩ F76
  refine rn rfl rfl F76 rfl (.pointer (some ⟨g74, (0 + j7 * 1), none⟩)) (y_ixG 38 (s := 1) Try.underlying38 (by kernel_rfl) _ _ rfl (F76.get rfl) (F76.get rfl) rfl bj7 rfl) fun _ F77 => ?_
  obtain ⟨z78, e78, l78, u78⟩ : ∃ z : Int, (#[.int .i64 (-1), .int .i64 0, .int .i64 1, .int .i64 7, .int .i64 12, .int .i64 13, .int .i64 a5] : Array Value)[j7]? = some (.int .i64 z) ∧ -9223372036854775808 ≤ z ∧ z < 9223372036854775808 := by
   match j7, bj7 with
   | 0, _ => exact ⟨_, rfl, by omega, by omega⟩
   | 1, _ => exact ⟨_, rfl, by omega, by omega⟩
   | 2, _ => exact ⟨_, rfl, by omega, by omega⟩
   | 3, _ => exact ⟨_, rfl, by omega, by omega⟩
   | 4, _ => exact ⟨_, rfl, by omega, by omega⟩
   | 5, _ => exact ⟨_, rfl, by omega, by omega⟩
   | 6, _ => exact ⟨_, rfl, by omega, by omega⟩
   | n + 7, h => exact absurd h (by omega)
  refine rn rfl rfl F77 rfl (.int .i64 z78) (zob _ _ rfl (F77.get rfl) (M74.blk (k := 7) rfl) (show _ from by rw [Nat.zero_add, Nat.mul_one]; exact e78) Try.underlying3 rfl) fun _ F79 => ?_
  refine rn rfl rfl F79 rfl (.pointer (some ⟨g46, 0, none⟩)) (y_fa (off := 0) rfl (F79.get rfl) (by kernel_rfl) rfl) fun _ F80 => ?_
  refine zu (za rfl) rfl F80 M74 (k := 6) rfl _ _ _ rfl (F80.get rfl) (F80.get rfl) (#[.int .i64 z78]) (msgA ⟨z78, m.p, m.c, m.e, m.s, m.a, m.b, m.l5, m.l6, m.l7, m.l8, m.l9⟩ ⟨V45.v5, V45.v6, V45.v7, V45.v8, V45.v9⟩) rfl (Nat.le_of_ble_eq_true rfl) (z2a _ _) (by kernel_rfl) (by kernel_rfl) ?_
  intro w81 M81
  clear M74
  exact J48 (⟨z78, m.p, m.c, m.e, m.s, m.a, m.b, m.l5, m.l6, m.l7, m.l8, m.l9⟩) (⟨V45.v5, V45.v6, V45.v7, V45.v8, V45.v9⟩) _ _ ⟨⟨⟨l78, u78⟩, om.p, om.c, om.e, om.s, om.a, om.b⟩, smo⟩ (F80.sub ⟨rfl, trivial⟩) (M81.re ⟨⟨6, rfl, fun _ => rfl⟩, ⟨1, rfl, fun h => by cases h⟩, ⟨2, rfl, fun h => by cases h⟩, ⟨3, rfl, fun h => by cases h⟩, ⟨4, rfl, fun h => by cases h⟩, ⟨5, rfl, fun h => by cases h⟩, trivial⟩)
 refine rn rfl rfl F68 rfl (.bool false) (zl _ _ _ _ rfl (F68.get rfl) rfl Try.underlying3 (zo h70)) fun _ F82 => ?_
 refine rm rfl F82 fun _ F83 => ?_
 refine hK69 _ _ (wp_cond_false (F83.get rfl) ?_)
 refine zT fun _ hK84 => ?_
 by_cases h85 : (jw : Int) = 1
 ·refine rn rfl rfl F83 rfl (.bool true) (zl _ _ _ _ rfl (F83.get rfl) rfl Try.underlying3 (zga h85)) fun _ F86 => ?_
  refine rm rfl F86 fun _ F87 => ?_
  refine hK84 _ _ (wp_cond_true (F87.get rfl) ?_)
  refine zR ?_
  refine rm rfl F87 fun _ F88 => ?_
  refine zea (za rfl) rfl F88 rfl M47 7 (t := 3) (c := #[.int .i64 (-1), .int .i64 0, .int .i64 1, .int .i64 2, .int .i64 3, .int .i64 a5]) (k := 6) (m := 6) (y_litG 38 3 (s := 1) (zv := .int .i64 0) Try.underlying38 (by kernel_rfl) (by kernel_rfl) rfl (#[.int .i64 (-1), .int .i64 0, .int .i64 1, .int .i64 2, .int .i64 3, .int .i64 a5]) (by decide) (by decide) (by simp only [List.map_toArray, List.map_cons, List.map_nil, (F88.get (t := 53) rfl)]; kernel_rfl)) ?_
  intro g89 a89 w89 F89 M89
  clear F88 M47
  refine rm rfl F89 fun _ F90 => ?_
  refine zc (za rfl) rfl F90 rfl rfl (enters_of Try.func22 (by kernel_rfl) rfl) #[.int .i64 a5, .int .i64 6] (zaa (F90.get rfl) rfl) (zf ((hj6 ▸ zj a5 6 (by omega) (by omega) (by omega) (by omega) w89))) ?_
  rintro _ w91 a91 ⟨rfl, rfl⟩ F91
  refine rn rfl rfl F91 rfl (.pointer (some ⟨g89, (0 + j6 * 1), none⟩)) (y_ixG 38 (s := 1) Try.underlying38 (by kernel_rfl) _ _ rfl (F91.get rfl) (F91.get rfl) rfl bj6 rfl) fun _ F92 => ?_
  obtain ⟨z93, e93, l93, u93⟩ : ∃ z : Int, (#[.int .i64 (-1), .int .i64 0, .int .i64 1, .int .i64 2, .int .i64 3, .int .i64 a5] : Array Value)[j6]? = some (.int .i64 z) ∧ -9223372036854775808 ≤ z ∧ z < 9223372036854775808 := by
   match j6, bj6 with
   | 0, _ => exact ⟨_, rfl, by omega, by omega⟩
   | 1, _ => exact ⟨_, rfl, by omega, by omega⟩
   | 2, _ => exact ⟨_, rfl, by omega, by omega⟩
   | 3, _ => exact ⟨_, rfl, by omega, by omega⟩
   | 4, _ => exact ⟨_, rfl, by omega, by omega⟩
   | 5, _ => exact ⟨_, rfl, by omega, by omega⟩
   | n + 6, h => exact absurd h (by omega)
  refine rn rfl rfl F92 rfl (.int .i64 z93) (zob _ _ rfl (F92.get rfl) (M89.blk (k := 7) rfl) (show _ from by rw [Nat.zero_add, Nat.mul_one]; exact e93) Try.underlying3 rfl) fun _ F94 => ?_
  refine rn rfl rfl F94 rfl (.pointer (some ⟨g46, 1, none⟩)) (y_fa (off := 1) rfl (F94.get rfl) (by kernel_rfl) rfl) fun _ F95 => ?_
  refine zu (za rfl) rfl F95 M89 (k := 6) rfl _ _ _ rfl (F95.get rfl) (F95.get rfl) (#[.int .i64 z93]) (msgA ⟨m.k, z93, m.c, m.e, m.s, m.a, m.b, m.l5, m.l6, m.l7, m.l8, m.l9⟩ ⟨V45.v5, V45.v6, V45.v7, V45.v8, V45.v9⟩) rfl (Nat.le_of_ble_eq_true rfl) (z2a _ _) (by kernel_rfl) (by kernel_rfl) ?_
  intro w96 M96
  clear M89
  exact J48 (⟨m.k, z93, m.c, m.e, m.s, m.a, m.b, m.l5, m.l6, m.l7, m.l8, m.l9⟩) (⟨V45.v5, V45.v6, V45.v7, V45.v8, V45.v9⟩) _ _ ⟨⟨om.k, ⟨l93, u93⟩, om.c, om.e, om.s, om.a, om.b⟩, smo⟩ (F95.sub ⟨rfl, trivial⟩) (M96.re ⟨⟨6, rfl, fun _ => rfl⟩, ⟨1, rfl, fun h => by cases h⟩, ⟨2, rfl, fun h => by cases h⟩, ⟨3, rfl, fun h => by cases h⟩, ⟨4, rfl, fun h => by cases h⟩, ⟨5, rfl, fun h => by cases h⟩, trivial⟩)
 refine rn rfl rfl F83 rfl (.bool false) (zl _ _ _ _ rfl (F83.get rfl) rfl Try.underlying3 (zo h85)) fun _ F97 => ?_
 refine rm rfl F97 fun _ F98 => ?_
 refine hK84 _ _ (wp_cond_false (F98.get rfl) ?_)
 refine zT fun _ hK99 => ?_
 by_cases h100 : (jw : Int) = 2
 ·refine rn rfl rfl F98 rfl (.bool true) (zl _ _ _ _ rfl (F98.get rfl) rfl Try.underlying3 (zga h100)) fun _ F101 => ?_
  refine rm rfl F101 fun _ F102 => ?_
  refine hK99 _ _ (wp_cond_true (F102.get rfl) ?_)
  refine zR ?_
  refine rm rfl F102 fun _ F103 => ?_
  refine rn rfl rfl F103 rfl (.pointer (some ⟨g46, 4, none⟩)) (y_fa (off := 4) rfl (F103.get rfl) (by kernel_rfl) rfl) fun _ F104 => ?_
  refine zu (za rfl) rfl F104 M47 (k := 6) rfl _ _ _ rfl (F104.get rfl) (F104.get rfl) (#[.string a6]) (msgA ⟨m.k, m.p, m.c, m.e, a6, m.a, m.b, m.l5, m.l6, m.l7, m.l8, m.l9⟩ ⟨V45.v5, V45.v6, V45.v7, V45.v8, V45.v9⟩) rfl (Nat.le_of_ble_eq_true rfl) (one_str _) (by kernel_rfl) (by kernel_rfl) ?_
  intro w105 M105
  clear M47
  exact J48 (⟨m.k, m.p, m.c, m.e, a6, m.a, m.b, m.l5, m.l6, m.l7, m.l8, m.l9⟩) (⟨V45.v5, V45.v6, V45.v7, V45.v8, V45.v9⟩) _ _ ⟨⟨om.k, om.p, om.c, om.e, (Nat.le_trans hnm (by decide)), om.a, om.b⟩, (Nat.le_trans hnm (by decide))⟩ (F104.sub ⟨rfl, trivial⟩) (M105.re ⟨⟨6, rfl, fun _ => rfl⟩, ⟨1, rfl, fun h => by cases h⟩, ⟨2, rfl, fun h => by cases h⟩, ⟨3, rfl, fun h => by cases h⟩, ⟨4, rfl, fun h => by cases h⟩, ⟨5, rfl, fun h => by cases h⟩, trivial⟩)
 refine rn rfl rfl F98 rfl (.bool false) (zl _ _ _ _ rfl (F98.get rfl) rfl Try.underlying3 (zo h100)) fun _ F106 => ?_
 refine rm rfl F106 fun _ F107 => ?_
 refine hK99 _ _ (wp_cond_false (F107.get rfl) ?_)
 refine zT fun _ hK108 => ?_
 by_cases h109 : (jw : Int) = 3
 ·refine rn rfl rfl F107 rfl (.bool true) (zl _ _ _ _ rfl (F107.get rfl) rfl Try.underlying3 (zga h109)) fun _ F110 => ?_
  refine rm rfl F110 fun _ F111 => ?_
  refine hK108 _ _ (wp_cond_true (F111.get rfl) ?_)
  refine zR ?_
  refine rn rfl rfl F111 rfl (numV 0) (y_zbuild rfl) fun _ F112 => ?_
  refine zc (za rfl) rfl F112 rfl rfl (enters_of Try.func24 (by kernel_rfl) rfl) #[.int .i64 4294967295] (zn rfl) (zf ((zla 4294967295 (by decide) (by decide) w47))) ?_
  rintro _ w113 a113 ⟨rfl, b113⟩ F113
  have M113 := M47.step b113
  refine zc (za rfl) rfl F113 rfl rfl (enters_of Try.func24 (by kernel_rfl) rfl) #[.int .i64 4294967296] (zn rfl) (zf ((zla 4294967296 (by decide) (by decide) w113))) ?_
  rintro _ w114 a114 ⟨rfl, b114⟩ F114
  have M114 := M113.step b114
  refine rn rfl rfl F114 rfl (numV (4294967296 ^ 7)) (by unfold execOp; simp only [List.map_toArray, List.map_cons, List.map_nil]; kernel_rfl) fun _ F115 => ?_
  refine zea (za rfl) rfl F115 rfl M114 7 (t := 27) (c := #[numF 0 0, numF 0 1, numF 0 2, numF 0 3, numF 0 4, numF 0 5, numF 0 6, numF 0 7, numF ((4294967295 : Int).toNat) 0, numF ((4294967295 : Int).toNat) 1, numF ((4294967295 : Int).toNat) 2, numF ((4294967295 : Int).toNat) 3, numF ((4294967295 : Int).toNat) 4, numF ((4294967295 : Int).toNat) 5, numF ((4294967295 : Int).toNat) 6, numF ((4294967295 : Int).toNat) 7, numF ((4294967296 : Int).toNat) 0, numF ((4294967296 : Int).toNat) 1, numF ((4294967296 : Int).toNat) 2, numF ((4294967296 : Int).toNat) 3, numF ((4294967296 : Int).toNat) 4, numF ((4294967296 : Int).toNat) 5, numF ((4294967296 : Int).toNat) 6, numF ((4294967296 : Int).toNat) 7, numF (4294967296 ^ 7) 0, numF (4294967296 ^ 7) 1, numF (4294967296 ^ 7) 2, numF (4294967296 ^ 7) 3, numF (4294967296 ^ 7) 4, numF (4294967296 ^ 7) 5, numF (4294967296 ^ 7) 6, numF (4294967296 ^ 7) 7]) (k := 4) (m := 4) (y_litG 44 27 (s := 8) (zv := .agg #[.int .u32 0, .int .u32 0, .int .u32 0, .int .u32 0, .int .u32 0, .int .u32 0, .int .u32 0, .int .u32 0]) Try.underlying44 (by kernel_rfl) (by kernel_rfl) rfl (#[numF 0 0, numF 0 1, numF 0 2, numF 0 3, numF 0 4, numF 0 5, numF 0 6, numF 0 7, numF ((4294967295 : Int).toNat) 0, numF ((4294967295 : Int).toNat) 1, numF ((4294967295 : Int).toNat) 2, numF ((4294967295 : Int).toNat) 3, numF ((4294967295 : Int).toNat) 4, numF ((4294967295 : Int).toNat) 5, numF ((4294967295 : Int).toNat) 6, numF ((4294967295 : Int).toNat) 7, numF ((4294967296 : Int).toNat) 0, numF ((4294967296 : Int).toNat) 1, numF ((4294967296 : Int).toNat) 2, numF ((4294967296 : Int).toNat) 3, numF ((4294967296 : Int).toNat) 4, numF ((4294967296 : Int).toNat) 5, numF ((4294967296 : Int).toNat) 6, numF ((4294967296 : Int).toNat) 7, numF (4294967296 ^ 7) 0, numF (4294967296 ^ 7) 1, numF (4294967296 ^ 7) 2, numF (4294967296 ^ 7) 3, numF (4294967296 ^ 7) 4, numF (4294967296 ^ 7) 5, numF (4294967296 ^ 7) 6, numF (4294967296 ^ 7) 7]) (by decide) (by decide) (by simp only [List.map_toArray, List.map_cons, List.map_nil, (F115.get (t := 66) rfl), (F115.get (t := 67) rfl), (F115.get (t := 68) rfl), (F115.get (t := 69) rfl)]; kernel_rfl)) ?_
  intro g116 a116 w116 F116 M116
  clear F115 M114
  refine rm rfl F116 fun _ F117 => ?_
  refine zc (za rfl) rfl F117 rfl rfl (enters_of Try.func22 (by kernel_rfl) rfl) #[.int .i64 a5, .int .i64 4] (zaa (F117.get rfl) rfl) (zf ((hj4 ▸ zj a5 4 (by omega) (by omega) (by omega) (by omega) w116))) ?_
  rintro _ w118 a118 ⟨rfl, rfl⟩ F118
  refine rn rfl rfl F118 rfl (.pointer (some ⟨g116, (0 + j4 * 8), none⟩)) (y_ixG 44 (s := 8) Try.underlying44 (by kernel_rfl) _ _ rfl (F118.get rfl) (F118.get rfl) rfl bj4 rfl) fun _ F119 => ?_
  obtain ⟨N120, b120, e120⟩ : ∃ N : Nat, N < 4294967296 ^ 8 ∧ ∀ (i : Nat) (v : Value), (numA N)[i]? = some v → (#[numF 0 0, numF 0 1, numF 0 2, numF 0 3, numF 0 4, numF 0 5, numF 0 6, numF 0 7, numF ((4294967295 : Int).toNat) 0, numF ((4294967295 : Int).toNat) 1, numF ((4294967295 : Int).toNat) 2, numF ((4294967295 : Int).toNat) 3, numF ((4294967295 : Int).toNat) 4, numF ((4294967295 : Int).toNat) 5, numF ((4294967295 : Int).toNat) 6, numF ((4294967295 : Int).toNat) 7, numF ((4294967296 : Int).toNat) 0, numF ((4294967296 : Int).toNat) 1, numF ((4294967296 : Int).toNat) 2, numF ((4294967296 : Int).toNat) 3, numF ((4294967296 : Int).toNat) 4, numF ((4294967296 : Int).toNat) 5, numF ((4294967296 : Int).toNat) 6, numF ((4294967296 : Int).toNat) 7, numF (4294967296 ^ 7) 0, numF (4294967296 ^ 7) 1, numF (4294967296 ^ 7) 2, numF (4294967296 ^ 7) 3, numF (4294967296 ^ 7) 4, numF (4294967296 ^ 7) 5, numF (4294967296 ^ 7) 6, numF (4294967296 ^ 7) 7] : Array Value)[0 + j4 * 8 + i]? = some v := by
   match j4, bj4 with
   | 0, _ => exact ⟨0, by decide, y_part8 (by kernel_rfl) (by kernel_rfl) (by kernel_rfl) (by kernel_rfl) (by kernel_rfl) (by kernel_rfl) (by kernel_rfl) (by kernel_rfl)⟩
   | 1, _ => exact ⟨((4294967295 : Int).toNat), by decide, y_part8 (by kernel_rfl) (by kernel_rfl) (by kernel_rfl) (by kernel_rfl) (by kernel_rfl) (by kernel_rfl) (by kernel_rfl) (by kernel_rfl)⟩
   | 2, _ => exact ⟨((4294967296 : Int).toNat), by decide, y_part8 (by kernel_rfl) (by kernel_rfl) (by kernel_rfl) (by kernel_rfl) (by kernel_rfl) (by kernel_rfl) (by kernel_rfl) (by kernel_rfl)⟩
   | 3, _ => exact ⟨(4294967296 ^ 7), by decide, y_part8 (by kernel_rfl) (by kernel_rfl) (by kernel_rfl) (by kernel_rfl) (by kernel_rfl) (by kernel_rfl) (by kernel_rfl) (by kernel_rfl)⟩
   | n + 4, h => exact absurd h (by omega)
  refine rn rfl rfl F119 rfl (numV N120) (zoa _ _ rfl (F119.get rfl) (M116.blk (k := 7) rfl) (numA N120) e120 Try.underlying27 rfl z9) fun _ F121 => ?_
  refine rn rfl rfl F121 rfl (.pointer (some ⟨g46, 5, none⟩)) (y_fa (off := 5) rfl (F121.get rfl) (by kernel_rfl) rfl) fun _ F122 => ?_
  refine zu (za rfl) rfl F122 M116 (k := 6) rfl _ _ _ rfl (F122.get rfl) (F122.get rfl) (numA N120) (msgA ⟨m.k, m.p, m.c, m.e, m.s, N120, m.b, m.l5, m.l6, m.l7, m.l8, m.l9⟩ ⟨V45.v5, V45.v6, V45.v7, V45.v8, V45.v9⟩) rfl (Nat.le_of_ble_eq_true rfl) (zca _) (by kernel_rfl) z9 ?_
  intro w123 M123
  clear M116
  exact J48 (⟨m.k, m.p, m.c, m.e, m.s, N120, m.b, m.l5, m.l6, m.l7, m.l8, m.l9⟩) (⟨V45.v5, V45.v6, V45.v7, V45.v8, V45.v9⟩) _ _ ⟨⟨om.k, om.p, om.c, om.e, om.s, b120, om.b⟩, smo⟩ (F122.sub ⟨rfl, trivial⟩) (M123.re ⟨⟨6, rfl, fun _ => rfl⟩, ⟨1, rfl, fun h => by cases h⟩, ⟨2, rfl, fun h => by cases h⟩, ⟨3, rfl, fun h => by cases h⟩, ⟨4, rfl, fun h => by cases h⟩, ⟨5, rfl, fun h => by cases h⟩, trivial⟩)
 refine rn rfl rfl F107 rfl (.bool false) (zl _ _ _ _ rfl (F107.get rfl) rfl Try.underlying3 (zo h109)) fun _ F124 => ?_
 refine rm rfl F124 fun _ F125 => ?_
 refine hK108 _ _ (wp_cond_false (F125.get rfl) ?_)
 refine zT fun _ hK126 => ?_
 by_cases h127 : (jw : Int) = 4
 ·refine rn rfl rfl F125 rfl (.bool true) (zl _ _ _ _ rfl (F125.get rfl) rfl Try.underlying3 (zga h127)) fun _ F128 => ?_
  refine rm rfl F128 fun _ F129 => ?_
  refine hK126 _ _ (wp_cond_true (F129.get rfl) ?_)
  refine zR ?_
  refine rn rfl rfl F129 rfl (numV 0) (y_zbuild rfl) fun _ F130 => ?_
  refine zc (za rfl) rfl F130 rfl rfl (enters_of Try.func24 (by kernel_rfl) rfl) #[.int .i64 4294967295] (zn rfl) (zf ((zla 4294967295 (by decide) (by decide) w47))) ?_
  rintro _ w131 a131 ⟨rfl, b131⟩ F131
  have M131 := M47.step b131
  refine zc (za rfl) rfl F131 rfl rfl (enters_of Try.func24 (by kernel_rfl) rfl) #[.int .i64 4294967296] (zn rfl) (zf ((zla 4294967296 (by decide) (by decide) w131))) ?_
  rintro _ w132 a132 ⟨rfl, b132⟩ F132
  have M132 := M131.step b132
  refine rn rfl rfl F132 rfl (numV (4294967296 ^ 4)) (by unfold execOp; simp only [List.map_toArray, List.map_cons, List.map_nil]; kernel_rfl) fun _ F133 => ?_
  refine zea (za rfl) rfl F133 rfl M132 7 (t := 27) (c := #[numF 0 0, numF 0 1, numF 0 2, numF 0 3, numF 0 4, numF 0 5, numF 0 6, numF 0 7, numF ((4294967295 : Int).toNat) 0, numF ((4294967295 : Int).toNat) 1, numF ((4294967295 : Int).toNat) 2, numF ((4294967295 : Int).toNat) 3, numF ((4294967295 : Int).toNat) 4, numF ((4294967295 : Int).toNat) 5, numF ((4294967295 : Int).toNat) 6, numF ((4294967295 : Int).toNat) 7, numF ((4294967296 : Int).toNat) 0, numF ((4294967296 : Int).toNat) 1, numF ((4294967296 : Int).toNat) 2, numF ((4294967296 : Int).toNat) 3, numF ((4294967296 : Int).toNat) 4, numF ((4294967296 : Int).toNat) 5, numF ((4294967296 : Int).toNat) 6, numF ((4294967296 : Int).toNat) 7, numF (4294967296 ^ 4) 0, numF (4294967296 ^ 4) 1, numF (4294967296 ^ 4) 2, numF (4294967296 ^ 4) 3, numF (4294967296 ^ 4) 4, numF (4294967296 ^ 4) 5, numF (4294967296 ^ 4) 6, numF (4294967296 ^ 4) 7]) (k := 4) (m := 4) (y_litG 44 27 (s := 8) (zv := .agg #[.int .u32 0, .int .u32 0, .int .u32 0, .int .u32 0, .int .u32 0, .int .u32 0, .int .u32 0, .int .u32 0]) Try.underlying44 (by kernel_rfl) (by kernel_rfl) rfl (#[numF 0 0, numF 0 1, numF 0 2, numF 0 3, numF 0 4, numF 0 5, numF 0 6, numF 0 7, numF ((4294967295 : Int).toNat) 0, numF ((4294967295 : Int).toNat) 1, numF ((4294967295 : Int).toNat) 2, numF ((4294967295 : Int).toNat) 3, numF ((4294967295 : Int).toNat) 4, numF ((4294967295 : Int).toNat) 5, numF ((4294967295 : Int).toNat) 6, numF ((4294967295 : Int).toNat) 7, numF ((4294967296 : Int).toNat) 0, numF ((4294967296 : Int).toNat) 1, numF ((4294967296 : Int).toNat) 2, numF ((4294967296 : Int).toNat) 3, numF ((4294967296 : Int).toNat) 4, numF ((4294967296 : Int).toNat) 5, numF ((4294967296 : Int).toNat) 6, numF ((4294967296 : Int).toNat) 7, numF (4294967296 ^ 4) 0, numF (4294967296 ^ 4) 1, numF (4294967296 ^ 4) 2, numF (4294967296 ^ 4) 3, numF (4294967296 ^ 4) 4, numF (4294967296 ^ 4) 5, numF (4294967296 ^ 4) 6, numF (4294967296 ^ 4) 7]) (by decide) (by decide) (by simp only [List.map_toArray, List.map_cons, List.map_nil, (F133.get (t := 78) rfl), (F133.get (t := 79) rfl), (F133.get (t := 80) rfl), (F133.get (t := 81) rfl)]; kernel_rfl)) ?_
  intro g134 a134 w134 F134 M134
  clear F133 M132
  refine rm rfl F134 fun _ F135 => ?_
  refine zc (za rfl) rfl F135 rfl rfl (enters_of Try.func22 (by kernel_rfl) rfl) #[.int .i64 a5, .int .i64 4] (zaa (F135.get rfl) rfl) (zf ((hj4 ▸ zj a5 4 (by omega) (by omega) (by omega) (by omega) w134))) ?_
  rintro _ w136 a136 ⟨rfl, rfl⟩ F136
  refine rn rfl rfl F136 rfl (.pointer (some ⟨g134, (0 + j4 * 8), none⟩)) (y_ixG 44 (s := 8) Try.underlying44 (by kernel_rfl) _ _ rfl (F136.get rfl) (F136.get rfl) rfl bj4 rfl) fun _ F137 => ?_
  obtain ⟨N138, b138, e138⟩ : ∃ N : Nat, N < 4294967296 ^ 8 ∧ ∀ (i : Nat) (v : Value), (numA N)[i]? = some v → (#[numF 0 0, numF 0 1, numF 0 2, numF 0 3, numF 0 4, numF 0 5, numF 0 6, numF 0 7, numF ((4294967295 : Int).toNat) 0, numF ((4294967295 : Int).toNat) 1, numF ((4294967295 : Int).toNat) 2, numF ((4294967295 : Int).toNat) 3, numF ((4294967295 : Int).toNat) 4, numF ((4294967295 : Int).toNat) 5, numF ((4294967295 : Int).toNat) 6, numF ((4294967295 : Int).toNat) 7, numF ((4294967296 : Int).toNat) 0, numF ((4294967296 : Int).toNat) 1, numF ((4294967296 : Int).toNat) 2, numF ((4294967296 : Int).toNat) 3, numF ((4294967296 : Int).toNat) 4, numF ((4294967296 : Int).toNat) 5, numF ((4294967296 : Int).toNat) 6, numF ((4294967296 : Int).toNat) 7, numF (4294967296 ^ 4) 0, numF (4294967296 ^ 4) 1, numF (4294967296 ^ 4) 2, numF (4294967296 ^ 4) 3, numF (4294967296 ^ 4) 4, numF (4294967296 ^ 4) 5, numF (4294967296 ^ 4) 6, numF (4294967296 ^ 4) 7] : Array Value)[0 + j4 * 8 + i]? = some v := by
   match j4, bj4 with
   | 0, _ => exact ⟨0, by decide, y_part8 (by kernel_rfl) (by kernel_rfl) (by kernel_rfl) (by kernel_rfl) (by kernel_rfl) (by kernel_rfl) (by kernel_rfl) (by kernel_rfl)⟩
   | 1, _ => exact ⟨((4294967295 : Int).toNat), by decide, y_part8 (by kernel_rfl) (by kernel_rfl) (by kernel_rfl) (by kernel_rfl) (by kernel_rfl) (by kernel_rfl) (by kernel_rfl) (by kernel_rfl)⟩
   | 2, _ => exact ⟨((4294967296 : Int).toNat), by decide, y_part8 (by kernel_rfl) (by kernel_rfl) (by kernel_rfl) (by kernel_rfl) (by kernel_rfl) (by kernel_rfl) (by kernel_rfl) (by kernel_rfl)⟩
   | 3, _ => exact ⟨(4294967296 ^ 4), by decide, y_part8 (by kernel_rfl) (by kernel_rfl) (by kernel_rfl) (by kernel_rfl) (by kernel_rfl) (by kernel_rfl) (by kernel_rfl) (by kernel_rfl)⟩
   | n + 4, h => exact absurd h (by omega)
  refine rn rfl rfl F137 rfl (numV N138) (zoa _ _ rfl (F137.get rfl) (M134.blk (k := 7) rfl) (numA N138) e138 Try.underlying27 rfl z9) fun _ F139 => ?_
  refine rn rfl rfl F139 rfl (.pointer (some ⟨g46, 13, none⟩)) (y_fa (off := 13) rfl (F139.get rfl) (by kernel_rfl) rfl) fun _ F140 => ?_
  refine zu (za rfl) rfl F140 M134 (k := 6) rfl _ _ _ rfl (F140.get rfl) (F140.get rfl) (numA N138) (msgA ⟨m.k, m.p, m.c, m.e, m.s, m.a, N138, m.l5, m.l6, m.l7, m.l8, m.l9⟩ ⟨V45.v5, V45.v6, V45.v7, V45.v8, V45.v9⟩) rfl (Nat.le_of_ble_eq_true rfl) (zca _) (by kernel_rfl) z9 ?_
  intro w141 M141
  clear M134
  exact J48 (⟨m.k, m.p, m.c, m.e, m.s, m.a, N138, m.l5, m.l6, m.l7, m.l8, m.l9⟩) (⟨V45.v5, V45.v6, V45.v7, V45.v8, V45.v9⟩) _ _ ⟨⟨om.k, om.p, om.c, om.e, om.s, om.a, b138⟩, smo⟩ (F140.sub ⟨rfl, trivial⟩) (M141.re ⟨⟨6, rfl, fun _ => rfl⟩, ⟨1, rfl, fun h => by cases h⟩, ⟨2, rfl, fun h => by cases h⟩, ⟨3, rfl, fun h => by cases h⟩, ⟨4, rfl, fun h => by cases h⟩, ⟨5, rfl, fun h => by cases h⟩, trivial⟩)
 refine rn rfl rfl F125 rfl (.bool false) (zl _ _ _ _ rfl (F125.get rfl) rfl Try.underlying3 (zo h127)) fun _ F142 => ?_
 refine rm rfl F142 fun _ F143 => ?_
 refine hK126 _ _ (wp_cond_false (F143.get rfl) ?_)
 refine zT fun _ hK144 => ?_
 by_cases h145 : (jw : Int) = 5
 ·refine rn rfl rfl F143 rfl (.bool true) (zl _ _ _ _ rfl (F143.get rfl) rfl Try.underlying3 (zga h145)) fun _ F146 => ?_
  refine rm rfl F146 fun _ F147 => ?_
  refine hK144 _ _ (wp_cond_true (F147.get rfl) ?_)
  refine zR ?_
  refine rm rfl F147 fun _ F148 => ?_
  refine zc (za rfl) rfl F148 rfl rfl (enters_of Try.func22 (by kernel_rfl) rfl) #[.int .i64 a5, .int .i64 19] (zaa (F148.get rfl) rfl) (zf ((hj19 ▸ zj a5 19 (by omega) (by omega) (by omega) (by omega) w47))) ?_
  rintro _ w149 a149 ⟨rfl, rfl⟩ F149
  refine zka (za rfl) rfl F149 rfl (run_makeO M47 7 _ _ rfl j19 (F149.get rfl) (F149.get rfl) rfl (by omega)) ?_
  intro v150 a150 w150 F150 M150
  clear F149 M47
  obtain ⟨A150, c150, rfl⟩ := (M150.isO (k := 7) rfl).shape
  refine rn rfl rfl F150 rfl (.pointer (some ⟨g46, 21, none⟩)) (y_fa (off := 21) rfl (F150.get rfl) (by kernel_rfl) rfl) fun _ F151 => ?_
  refine zu (za rfl) rfl F151 M150 (k := 6) rfl _ _ _ rfl (F151.get rfl) (F151.get rfl) (#[.slice A150 ((List.replicate j19 (0 : UInt8))).length c150]) (msgA ⟨m.k, m.p, m.c, m.e, m.s, m.a, m.b, (List.replicate j19 (0 : UInt8)), m.l6, m.l7, m.l8, m.l9⟩ ⟨.slice A150 ((List.replicate j19 (0 : UInt8))).length c150, V45.v6, V45.v7, V45.v8, V45.v9⟩) rfl (Nat.le_of_ble_eq_true rfl) (zcb (M150.isO (k := 7) rfl)) (by kernel_rfl) (by kernel_rfl) ?_
  intro w152 M152
  clear M150
  have M153 := M152.tame (k := 7) rfl
  clear M152
  exact J48 (⟨m.k, m.p, m.c, m.e, m.s, m.a, m.b, (List.replicate j19 (0 : UInt8)), m.l6, m.l7, m.l8, m.l9⟩) (⟨.slice A150 ((List.replicate j19 (0 : UInt8))).length c150, V45.v6, V45.v7, V45.v8, V45.v9⟩) _ _ ⟨⟨om.k, om.p, om.c, om.e, om.s, om.a, om.b⟩, smo⟩ (F151.sub ⟨rfl, trivial⟩) (M153.re ⟨⟨6, rfl, fun _ => rfl⟩, ⟨7, rfl, fun h => by cases h⟩, ⟨2, rfl, fun h => by cases h⟩, ⟨3, rfl, fun h => by cases h⟩, ⟨4, rfl, fun h => by cases h⟩, ⟨5, rfl, fun h => by cases h⟩, trivial⟩)
 refine rn rfl rfl F143 rfl (.bool false) (zl _ _ _ _ rfl (F143.get rfl) rfl Try.underlying3 (zo h145)) fun _ F154 => ?_
 refine rm rfl F154 fun _ F155 => ?_
 refine hK144 _ _ (wp_cond_false (F155.get rfl) ?_)
 refine zT fun _ hK156 => ?_
 by_cases h157 : (jw : Int) = 6
 ·refine rn rfl rfl F155 rfl (.bool true) (zl _ _ _ _ rfl (F155.get rfl) rfl Try.underlying3 (zga h157)) fun _ F158 => ?_
  refine rm rfl F158 fun _ F159 => ?_
  refine hK156 _ _ (wp_cond_true (F159.get rfl) ?_)
  refine zR ?_
  refine rm rfl F159 fun _ F160 => ?_
  refine zc (za rfl) rfl F160 rfl rfl (enters_of Try.func22 (by kernel_rfl) rfl) #[.int .i64 a5, .int .i64 52] (zaa (F160.get rfl) rfl) (zf ((hj52 ▸ zj a5 52 (by omega) (by omega) (by omega) (by omega) w47))) ?_
  rintro _ w161 a161 ⟨rfl, rfl⟩ F161
  refine zka (za rfl) rfl F161 rfl (run_makeO M47 7 _ _ rfl j52 (F161.get rfl) (F161.get rfl) rfl (by omega)) ?_
  intro v162 a162 w162 F162 M162
  clear F161 M47
  obtain ⟨A162, c162, rfl⟩ := (M162.isO (k := 7) rfl).shape
  refine rn rfl rfl F162 rfl (.pointer (some ⟨g46, 22, none⟩)) (y_fa (off := 22) rfl (F162.get rfl) (by kernel_rfl) rfl) fun _ F163 => ?_
  refine zu (za rfl) rfl F163 M162 (k := 6) rfl _ _ _ rfl (F163.get rfl) (F163.get rfl) (#[.slice A162 ((List.replicate j52 (0 : UInt8))).length c162]) (msgA ⟨m.k, m.p, m.c, m.e, m.s, m.a, m.b, m.l5, (List.replicate j52 (0 : UInt8)), m.l7, m.l8, m.l9⟩ ⟨V45.v5, .slice A162 ((List.replicate j52 (0 : UInt8))).length c162, V45.v7, V45.v8, V45.v9⟩) rfl (Nat.le_of_ble_eq_true rfl) (zcb (M162.isO (k := 7) rfl)) (by kernel_rfl) (by kernel_rfl) ?_
  intro w164 M164
  clear M162
  have M165 := M164.tame (k := 7) rfl
  clear M164
  exact J48 (⟨m.k, m.p, m.c, m.e, m.s, m.a, m.b, m.l5, (List.replicate j52 (0 : UInt8)), m.l7, m.l8, m.l9⟩) (⟨V45.v5, .slice A162 ((List.replicate j52 (0 : UInt8))).length c162, V45.v7, V45.v8, V45.v9⟩) _ _ ⟨⟨om.k, om.p, om.c, om.e, om.s, om.a, om.b⟩, smo⟩ (F163.sub ⟨rfl, trivial⟩) (M165.re ⟨⟨6, rfl, fun _ => rfl⟩, ⟨1, rfl, fun h => by cases h⟩, ⟨7, rfl, fun h => by cases h⟩, ⟨3, rfl, fun h => by cases h⟩, ⟨4, rfl, fun h => by cases h⟩, ⟨5, rfl, fun h => by cases h⟩, trivial⟩)
 refine rn rfl rfl F155 rfl (.bool false) (zl _ _ _ _ rfl (F155.get rfl) rfl Try.underlying3 (zo h157)) fun _ F166 => ?_
 refine rm rfl F166 fun _ F167 => ?_
 refine hK156 _ _ (wp_cond_false (F167.get rfl) ?_)
 refine zT fun _ hK168 => ?_
 by_cases h169 : (jw : Int) = 7
 ·refine rn rfl rfl F167 rfl (.bool true) (zl _ _ _ _ rfl (F167.get rfl) rfl Try.underlying3 (zga h169)) fun _ F170 => ?_
  refine rm rfl F170 fun _ F171 => ?_
  refine hK168 _ _ (wp_cond_true (F171.get rfl) ?_)
  refine zR ?_
  refine rm rfl F171 fun _ F172 => ?_
  refine zc (za rfl) rfl F172 rfl rfl (enters_of Try.func22 (by kernel_rfl) rfl) #[.int .i64 a5, .int .i64 19] (zaa (F172.get rfl) rfl) (zf ((hj19 ▸ zj a5 19 (by omega) (by omega) (by omega) (by omega) w47))) ?_
  rintro _ w173 a173 ⟨rfl, rfl⟩ F173
  refine zka (za rfl) rfl F173 rfl (run_makeO M47 7 _ _ rfl j19 (F173.get rfl) (F173.get rfl) rfl (by omega)) ?_
  intro v174 a174 w174 F174 M174
  clear F173 M47
  obtain ⟨A174, c174, rfl⟩ := (M174.isO (k := 7) rfl).shape
  refine rn rfl rfl F174 rfl (.pointer (some ⟨g46, 23, none⟩)) (y_fa (off := 23) rfl (F174.get rfl) (by kernel_rfl) rfl) fun _ F175 => ?_
  refine zu (za rfl) rfl F175 M174 (k := 6) rfl _ _ _ rfl (F175.get rfl) (F175.get rfl) (#[.slice A174 ((List.replicate j19 (0 : UInt8))).length c174]) (msgA ⟨m.k, m.p, m.c, m.e, m.s, m.a, m.b, m.l5, m.l6, (List.replicate j19 (0 : UInt8)), m.l8, m.l9⟩ ⟨V45.v5, V45.v6, .slice A174 ((List.replicate j19 (0 : UInt8))).length c174, V45.v8, V45.v9⟩) rfl (Nat.le_of_ble_eq_true rfl) (zcb (M174.isO (k := 7) rfl)) (by kernel_rfl) (by kernel_rfl) ?_
  intro w176 M176
  clear M174
  have M177 := M176.tame (k := 7) rfl
  clear M176
  exact J48 (⟨m.k, m.p, m.c, m.e, m.s, m.a, m.b, m.l5, m.l6, (List.replicate j19 (0 : UInt8)), m.l8, m.l9⟩) (⟨V45.v5, V45.v6, .slice A174 ((List.replicate j19 (0 : UInt8))).length c174, V45.v8, V45.v9⟩) _ _ ⟨⟨om.k, om.p, om.c, om.e, om.s, om.a, om.b⟩, smo⟩ (F175.sub ⟨rfl, trivial⟩) (M177.re ⟨⟨6, rfl, fun _ => rfl⟩, ⟨1, rfl, fun h => by cases h⟩, ⟨2, rfl, fun h => by cases h⟩, ⟨7, rfl, fun h => by cases h⟩, ⟨4, rfl, fun h => by cases h⟩, ⟨5, rfl, fun h => by cases h⟩, trivial⟩)
 refine rn rfl rfl F167 rfl (.bool false) (zl _ _ _ _ rfl (F167.get rfl) rfl Try.underlying3 (zo h169)) fun _ F178 => ?_
 refine rm rfl F178 fun _ F179 => ?_
 refine hK168 _ _ (wp_cond_false (F179.get rfl) ?_)
 refine zT fun _ hK180 => ?_
 by_cases h181 : (jw : Int) = 8
 ·refine rn rfl rfl F179 rfl (.bool true) (zl _ _ _ _ rfl (F179.get rfl) rfl Try.underlying3 (zga h181)) fun _ F182 => ?_
  refine rm rfl F182 fun _ F183 => ?_
  refine hK180 _ _ (wp_cond_true (F183.get rfl) ?_)
  refine zR ?_
  refine rm rfl F183 fun _ F184 => ?_
  refine zc (za rfl) rfl F184 rfl rfl (enters_of Try.func22 (by kernel_rfl) rfl) #[.int .i64 a5, .int .i64 84] (zaa (F184.get rfl) rfl) (zf ((hj84 ▸ zj a5 84 (by omega) (by omega) (by omega) (by omega) w47))) ?_
  rintro _ w185 a185 ⟨rfl, rfl⟩ F185
  refine zka (za rfl) rfl F185 rfl (run_makeO M47 7 _ _ rfl j84 (F185.get rfl) (F185.get rfl) rfl (by omega)) ?_
  intro v186 a186 w186 F186 M186
  clear F185 M47
  obtain ⟨A186, c186, rfl⟩ := (M186.isO (k := 7) rfl).shape
  refine rn rfl rfl F186 rfl (.pointer (some ⟨g46, 24, none⟩)) (y_fa (off := 24) rfl (F186.get rfl) (by kernel_rfl) rfl) fun _ F187 => ?_
  refine zu (za rfl) rfl F187 M186 (k := 6) rfl _ _ _ rfl (F187.get rfl) (F187.get rfl) (#[.slice A186 ((List.replicate j84 (0 : UInt8))).length c186]) (msgA ⟨m.k, m.p, m.c, m.e, m.s, m.a, m.b, m.l5, m.l6, m.l7, (List.replicate j84 (0 : UInt8)), m.l9⟩ ⟨V45.v5, V45.v6, V45.v7, .slice A186 ((List.replicate j84 (0 : UInt8))).length c186, V45.v9⟩) rfl (Nat.le_of_ble_eq_true rfl) (zcb (M186.isO (k := 7) rfl)) (by kernel_rfl) (by kernel_rfl) ?_
  intro w188 M188
  clear M186
  have M189 := M188.tame (k := 7) rfl
  clear M188
  exact J48 (⟨m.k, m.p, m.c, m.e, m.s, m.a, m.b, m.l5, m.l6, m.l7, (List.replicate j84 (0 : UInt8)), m.l9⟩) (⟨V45.v5, V45.v6, V45.v7, .slice A186 ((List.replicate j84 (0 : UInt8))).length c186, V45.v9⟩) _ _ ⟨⟨om.k, om.p, om.c, om.e, om.s, om.a, om.b⟩, smo⟩ (F187.sub ⟨rfl, trivial⟩) (M189.re ⟨⟨6, rfl, fun _ => rfl⟩, ⟨1, rfl, fun h => by cases h⟩, ⟨2, rfl, fun h => by cases h⟩, ⟨3, rfl, fun h => by cases h⟩, ⟨7, rfl, fun h => by cases h⟩, ⟨5, rfl, fun h => by cases h⟩, trivial⟩)
 refine rn rfl rfl F179 rfl (.bool false) (zl _ _ _ _ rfl (F179.get rfl) rfl Try.underlying3 (zo h181)) fun _ F190 => ?_
 refine rm rfl F190 fun _ F191 => ?_
 refine hK180 _ _ (wp_cond_false (F191.get rfl) ?_)
 refine zT fun _ hK192 => ?_
 by_cases h193 : (jw : Int) = 9
 ·refine rn rfl rfl F191 rfl (.bool true) (zl _ _ _ _ rfl (F191.get rfl) rfl Try.underlying3 (zga h193)) fun _ F194 => ?_
  refine rm rfl F194 fun _ F195 => ?_
  refine hK192 _ _ (wp_cond_true (F195.get rfl) ?_)
  refine zR ?_
  refine rm rfl F195 fun _ F196 => ?_
  refine zc (za rfl) rfl F196 rfl rfl (enters_of Try.func22 (by kernel_rfl) rfl) #[.int .i64 a5, .int .i64 124] (zaa (F196.get rfl) rfl) (zf ((hj124 ▸ zj a5 124 (by omega) (by omega) (by omega) (by omega) w47))) ?_
  rintro _ w197 a197 ⟨rfl, rfl⟩ F197
  refine zka (za rfl) rfl F197 rfl (run_makeO M47 7 _ _ rfl j124 (F197.get rfl) (F197.get rfl) rfl (by omega)) ?_
  intro v198 a198 w198 F198 M198
  clear F197 M47
  obtain ⟨A198, c198, rfl⟩ := (M198.isO (k := 7) rfl).shape
  refine rn rfl rfl F198 rfl (.pointer (some ⟨g46, 25, none⟩)) (y_fa (off := 25) rfl (F198.get rfl) (by kernel_rfl) rfl) fun _ F199 => ?_
  refine zu (za rfl) rfl F199 M198 (k := 6) rfl _ _ _ rfl (F199.get rfl) (F199.get rfl) (#[.slice A198 ((List.replicate j124 (0 : UInt8))).length c198]) (msgA ⟨m.k, m.p, m.c, m.e, m.s, m.a, m.b, m.l5, m.l6, m.l7, m.l8, (List.replicate j124 (0 : UInt8))⟩ ⟨V45.v5, V45.v6, V45.v7, V45.v8, .slice A198 ((List.replicate j124 (0 : UInt8))).length c198⟩) rfl (Nat.le_of_ble_eq_true rfl) (zcb (M198.isO (k := 7) rfl)) (by kernel_rfl) (by kernel_rfl) ?_
  intro w200 M200
  clear M198
  have M201 := M200.tame (k := 7) rfl
  clear M200
  exact J48 (⟨m.k, m.p, m.c, m.e, m.s, m.a, m.b, m.l5, m.l6, m.l7, m.l8, (List.replicate j124 (0 : UInt8))⟩) (⟨V45.v5, V45.v6, V45.v7, V45.v8, .slice A198 ((List.replicate j124 (0 : UInt8))).length c198⟩) _ _ ⟨⟨om.k, om.p, om.c, om.e, om.s, om.a, om.b⟩, smo⟩ (F199.sub ⟨rfl, trivial⟩) (M201.re ⟨⟨6, rfl, fun _ => rfl⟩, ⟨1, rfl, fun h => by cases h⟩, ⟨2, rfl, fun h => by cases h⟩, ⟨3, rfl, fun h => by cases h⟩, ⟨4, rfl, fun h => by cases h⟩, ⟨7, rfl, fun h => by cases h⟩, trivial⟩)
 refine rn rfl rfl F191 rfl (.bool false) (zl _ _ _ _ rfl (F191.get rfl) rfl Try.underlying3 (zo h193)) fun _ F202 => ?_
 refine rm rfl F202 fun _ F203 => ?_
 refine hK192 _ _ (wp_cond_false (F203.get rfl) ?_)
 refine zT fun _ hK204 => ?_
 by_cases h205 : (jw : Int) = 10
 ·refine rn rfl rfl F203 rfl (.bool true) (zl _ _ _ _ rfl (F203.get rfl) rfl Try.underlying3 (zga h205)) fun _ F206 => ?_
  refine rm rfl F206 fun _ F207 => ?_
  refine hK204 _ _ (wp_cond_true (F207.get rfl) ?_)
  refine zR ?_
  refine rm rfl F207 fun _ F208 => ?_
  refine zea (za rfl) rfl F208 rfl M47 7 (t := 3) (c := #[.int .i64 0, .int .i64 1, .int .i64 (-1), .int .i64 9223372036854775807, .int .i64 a5]) (k := 5) (m := 5) (y_litG 38 3 (s := 1) (zv := .int .i64 0) Try.underlying38 (by kernel_rfl) (by kernel_rfl) rfl (#[.int .i64 0, .int .i64 1, .int .i64 (-1), .int .i64 9223372036854775807, .int .i64 a5]) (by decide) (by decide) (by simp only [List.map_toArray, List.map_cons, List.map_nil, (F208.get (t := 120) rfl)]; kernel_rfl)) ?_
  intro g209 a209 w209 F209 M209
  clear F208 M47
  refine rm rfl F209 fun _ F210 => ?_
  refine zc (za rfl) rfl F210 rfl rfl (enters_of Try.func22 (by kernel_rfl) rfl) #[.int .i64 a5, .int .i64 5] (zaa (F210.get rfl) rfl) (zf ((hj5 ▸ zj a5 5 (by omega) (by omega) (by omega) (by omega) w209))) ?_
  rintro _ w211 a211 ⟨rfl, rfl⟩ F211
  refine rn rfl rfl F211 rfl (.pointer (some ⟨g209, (0 + j5 * 1), none⟩)) (y_ixG 38 (s := 1) Try.underlying38 (by kernel_rfl) _ _ rfl (F211.get rfl) (F211.get rfl) rfl bj5 rfl) fun _ F212 => ?_
  obtain ⟨z213, e213, l213, u213⟩ : ∃ z : Int, (#[.int .i64 0, .int .i64 1, .int .i64 (-1), .int .i64 9223372036854775807, .int .i64 a5] : Array Value)[j5]? = some (.int .i64 z) ∧ -9223372036854775808 ≤ z ∧ z < 9223372036854775808 := by
   match j5, bj5 with
   | 0, _ => exact ⟨_, rfl, by omega, by omega⟩
   | 1, _ => exact ⟨_, rfl, by omega, by omega⟩
   | 2, _ => exact ⟨_, rfl, by omega, by omega⟩
   | 3, _ => exact ⟨_, rfl, by omega, by omega⟩
   | 4, _ => exact ⟨_, rfl, by omega, by omega⟩
   | n + 5, h => exact absurd h (by omega)
  refine rn rfl rfl F212 rfl (.int .i64 z213) (zob _ _ rfl (F212.get rfl) (M209.blk (k := 7) rfl) (show _ from by rw [Nat.zero_add, Nat.mul_one]; exact e213) Try.underlying3 rfl) fun _ F214 => ?_
  refine rn rfl rfl F214 rfl (.pointer (some ⟨g46, 2, none⟩)) (y_fa (off := 2) rfl (F214.get rfl) (by kernel_rfl) rfl) fun _ F215 => ?_
  refine zu (za rfl) rfl F215 M209 (k := 6) rfl _ _ _ rfl (F215.get rfl) (F215.get rfl) (#[.int .i64 z213]) (msgA ⟨m.k, m.p, z213, m.e, m.s, m.a, m.b, m.l5, m.l6, m.l7, m.l8, m.l9⟩ ⟨V45.v5, V45.v6, V45.v7, V45.v8, V45.v9⟩) rfl (Nat.le_of_ble_eq_true rfl) (z2a _ _) (by kernel_rfl) (by kernel_rfl) ?_
  intro w216 M216
  clear M209
  exact J48 (⟨m.k, m.p, z213, m.e, m.s, m.a, m.b, m.l5, m.l6, m.l7, m.l8, m.l9⟩) (⟨V45.v5, V45.v6, V45.v7, V45.v8, V45.v9⟩) _ _ ⟨⟨om.k, om.p, ⟨l213, u213⟩, om.e, om.s, om.a, om.b⟩, smo⟩ (F215.sub ⟨rfl, trivial⟩) (M216.re ⟨⟨6, rfl, fun _ => rfl⟩, ⟨1, rfl, fun h => by cases h⟩, ⟨2, rfl, fun h => by cases h⟩, ⟨3, rfl, fun h => by cases h⟩, ⟨4, rfl, fun h => by cases h⟩, ⟨5, rfl, fun h => by cases h⟩, trivial⟩)
 refine rn rfl rfl F203 rfl (.bool false) (zl _ _ _ _ rfl (F203.get rfl) rfl Try.underlying3 (zo h205)) fun _ F217 => ?_
 refine rm rfl F217 fun _ F218 => ?_
 refine hK204 _ _ (wp_cond_false (F218.get rfl) ?_)
 refine zT fun _ hK219 => ?_
 by_cases h220 : (jw : Int) = 11
 rotate_left
 ·refine rn rfl rfl F218 rfl (.bool false) (zl _ _ _ _ rfl (F218.get rfl) rfl Try.underlying3 (zo h220)) fun _ F232 => ?_
  refine rm rfl F232 fun _ F233 => ?_
  refine hK219 _ _ (wp_cond_false (F233.get rfl) ?_)
  refine wp_skip ?_
  exact J48 (⟨m.k, m.p, m.c, m.e, m.s, m.a, m.b, m.l5, m.l6, m.l7, m.l8, m.l9⟩) (⟨V45.v5, V45.v6, V45.v7, V45.v8, V45.v9⟩) _ _ ⟨⟨om.k, om.p, om.c, om.e, om.s, om.a, om.b⟩, smo⟩ (F233.sub ⟨rfl, trivial⟩) (M47.re ⟨⟨6, rfl, fun _ => rfl⟩, ⟨1, rfl, fun h => by cases h⟩, ⟨2, rfl, fun h => by cases h⟩, ⟨3, rfl, fun h => by cases h⟩, ⟨4, rfl, fun h => by cases h⟩, ⟨5, rfl, fun h => by cases h⟩, trivial⟩)
 refine rn rfl rfl F218 rfl (.bool true) (zl _ _ _ _ rfl (F218.get rfl) rfl Try.underlying3 (zga h220)) fun _ F221 => ?_
 refine rm rfl F221 fun _ F222 => ?_
 refine hK219 _ _ (wp_cond_true (F222.get rfl) ?_)
 refine zR ?_
 refine rm rfl F222 fun _ F223 => ?_
 refine zea (za rfl) rfl F223 rfl M47 7 (t := 3) (c := #[.int .i64 (-1), .int .i64 0, .int .i64 1, .int .i64 11, .int .i64 12, .int .i64 a5]) (k := 6) (m := 6) (y_litG 38 3 (s := 1) (zv := .int .i64 0) Try.underlying38 (by kernel_rfl) (by kernel_rfl) rfl (#[.int .i64 (-1), .int .i64 0, .int .i64 1, .int .i64 11, .int .i64 12, .int .i64 a5]) (by decide) (by decide) (by simp only [List.map_toArray, List.map_cons, List.map_nil, (F223.get (t := 129) rfl)]; kernel_rfl)) ?_
 intro g224 a224 w224 F224 M224
 clear F223 M47
 refine rm rfl F224 fun _ F225 => ?_
 refine zc (za rfl) rfl F225 rfl rfl (enters_of Try.func22 (by kernel_rfl) rfl) #[.int .i64 a5, .int .i64 6] (zaa (F225.get rfl) rfl) (zf ((hj6 ▸ zj a5 6 (by omega) (by omega) (by omega) (by omega) w224))) ?_
 rintro _ w226 a226 ⟨rfl, rfl⟩ F226
 refine rn rfl rfl F226 rfl (.pointer (some ⟨g224, (0 + j6 * 1), none⟩)) (y_ixG 38 (s := 1) Try.underlying38 (by kernel_rfl) _ _ rfl (F226.get rfl) (F226.get rfl) rfl bj6 rfl) fun _ F227 => ?_
 obtain ⟨z228, e228, l228, u228⟩ : ∃ z : Int, (#[.int .i64 (-1), .int .i64 0, .int .i64 1, .int .i64 11, .int .i64 12, .int .i64 a5] : Array Value)[j6]? = some (.int .i64 z) ∧ -9223372036854775808 ≤ z ∧ z < 9223372036854775808 := by
  match j6, bj6 with
  | 0, _ => exact ⟨_, rfl, by omega, by omega⟩
  | 1, _ => exact ⟨_, rfl, by omega, by omega⟩
  | 2, _ => exact ⟨_, rfl, by omega, by omega⟩
  | 3, _ => exact ⟨_, rfl, by omega, by omega⟩
  | 4, _ => exact ⟨_, rfl, by omega, by omega⟩
  | 5, _ => exact ⟨_, rfl, by omega, by omega⟩
  | n + 6, h => exact absurd h (by omega)
 refine rn rfl rfl F227 rfl (.int .i64 z228) (zob _ _ rfl (F227.get rfl) (M224.blk (k := 7) rfl) (show _ from by rw [Nat.zero_add, Nat.mul_one]; exact e228) Try.underlying3 rfl) fun _ F229 => ?_
 refine rn rfl rfl F229 rfl (.pointer (some ⟨g46, 3, none⟩)) (y_fa (off := 3) rfl (F229.get rfl) (by kernel_rfl) rfl) fun _ F230 => ?_
 refine zu (za rfl) rfl F230 M224 (k := 6) rfl _ _ _ rfl (F230.get rfl) (F230.get rfl) (#[.int .i64 z228]) (msgA ⟨m.k, m.p, m.c, z228, m.s, m.a, m.b, m.l5, m.l6, m.l7, m.l8, m.l9⟩ ⟨V45.v5, V45.v6, V45.v7, V45.v8, V45.v9⟩) rfl (Nat.le_of_ble_eq_true rfl) (z2a _ _) (by kernel_rfl) (by kernel_rfl) ?_
 intro w231 M231
 clear M224
 exact J48 (⟨m.k, m.p, m.c, z228, m.s, m.a, m.b, m.l5, m.l6, m.l7, m.l8, m.l9⟩) (⟨V45.v5, V45.v6, V45.v7, V45.v8, V45.v9⟩) _ _ ⟨⟨om.k, om.p, om.c, ⟨l228, u228⟩, om.s, om.a, om.b⟩, smo⟩ (F230.sub ⟨rfl, trivial⟩) (M231.re ⟨⟨6, rfl, fun _ => rfl⟩, ⟨1, rfl, fun h => by cases h⟩, ⟨2, rfl, fun h => by cases h⟩, ⟨3, rfl, fun h => by cases h⟩, ⟨4, rfl, fun h => by cases h⟩, ⟨5, rfl, fun h => by cases h⟩, trivial⟩)
end Go.Proofs.Ytlbkogdmojlpmaa
