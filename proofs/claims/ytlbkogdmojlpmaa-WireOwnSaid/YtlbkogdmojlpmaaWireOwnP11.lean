/- What WireOwn stands on, part 11. -/
import Derived.Test.YtlbkogdmojlpmaaWireOwnP1
import Derived.Test.YtlbkogdmojlpmaaWireOwnP2
import Derived.Test.YtlbkogdmojlpmaaWireOwnP3
import Derived.Test.YtlbkogdmojlpmaaWireOwnP4
import Derived.Test.YtlbkogdmojlpmaaWireOwnP5
import Derived.Test.YtlbkogdmojlpmaaWireOwnP6
import Derived.Test.YtlbkogdmojlpmaaWireOwnP7
import Derived.Test.YtlbkogdmojlpmaaWireOwnP8
import Derived.Test.YtlbkogdmojlpmaaWireOwnP9
import Derived.Test.YtlbkogdmojlpmaaWireOwnP10
set_option maxRecDepth 100000
set_option maxHeartbeats 8000000
set_option linter.unusedVariables false
set_option linter.unusedSimpArgs false
namespace Go.Proofs.Ytlbkogdmojlpmaa
open Go.ChangeShapes Go.WideShapes Go.ChangeAt Go.RowKit
theorem readrecW_any (b : List UInt8) (bv : Value) (hl : b.length ≤ 100000) (w : World) (hb : IsB w b bv) :
  Calls Try.prog 37 #[bv] w fun e w' => ∃ V, e = .returned (.tuple #[.agg (recA (rdR b) V), .bool (rdOk b)]) ∧ RecIs w' (rdR b) V ∧ (∀ q, bfp V.v2 q ∨ bfp V.v5 q → w.heap.size ≤ q) ∧ unfz (bfp V.v2) w' ∧ Below w.heap.size w w' := by
 obtain ⟨A0, c0, rfl⟩ := hb.shape
 refine zi (args := [.slice A0 b.length c0]) 32 Try.func37 rfl rfl rfl ?_
 intro fa F
 have M := Mx.start w
 replace M := M.argB 0 hb (fun g e => by cases e)
 refine zT fun _ hK1 => ?_
 refine zg (za rfl) rfl F rfl M 1 (t := 54) (c := recA ⟨0, "".toUTF8, [], 0, 0, [], 0, 0, 0⟩ ⟨zN, zN⟩) (by unfold execOp; kernel_rfl) ?_
 intro g2 a2 w2 F2 M2
 clear F M
 refine rm rfl F2 fun _ F3 => ?_
 refine hK1 _ _ (zS fun _ hK4 => ?_)
 refine zR ?_
 refine rm rfl F3 fun _ F5 => ?_
 refine rn rfl rfl F5 rfl (.agg (#[.slice A0 b.length c0])) (by unfold execOp; simp only [List.map_toArray, List.map_cons, List.map_nil, (F5.get (t := 6) rfl)]; kernel_rfl) fun _ F6 => ?_
 refine zg (za rfl) rfl F6 rfl M2 2 (t := 83) (c := #[zN]) (by unfold execOp; kernel_rfl) ?_
 intro g7 a7 w7 F7 M7
 clear F6 M2
 refine zl (za rfl) rfl F7 M7 (k := 2) rfl _ _ _ rfl (F7.get rfl) (F7.get rfl) (#[.slice A0 b.length c0]) _ rfl (Nat.le_of_ble_eq_true rfl) (by first | rfl | simp [Value.oneCell']) (zu rfl) (by kernel_rfl) ?_
 intro w8 M8
 clear M7
 refine hK4 _ _ (zS fun _ hK9 => ?_)
 refine zR ?_
 refine zg (za rfl) rfl F7 rfl M8 3 (t := 54) (c := recA ⟨0, "".toUTF8, [], 0, 0, [], 0, 0, 0⟩ ⟨zN, zN⟩) (by unfold execOp; kernel_rfl) ?_
 intro g10 a10 w10 F10 M10
 clear F7 M8
 refine hK9 _ _ (zS fun _ hK11 => ?_)
 refine zR ?_
 refine zd (za rfl) rfl F10 rfl rfl (zE Try.func53 rfl) #[.pointer (some ⟨g7, 0, none⟩)] (zw (F10.get rfl)) (zhb g7 b (.slice A0 b.length c0) hl w10 (M10.blk (k := 2) rfl) (M10.isb (k := 0) rfl) (fun hb => M10.dis 2 0 _ _ rfl rfl (by decide) rfl g7 rfl hb)) ?_
 rintro _ w12 a12 ⟨rfl, u12, hu12, hs12, hc12, hg12⟩ F12
 have M12 := M10.took0 (k := 2) (ku := 0) rfl hg12 hc12 4 hu12 hs12 rfl
 clear M10 hg12 hc12
 obtain ⟨A12u, c12u, rfl⟩ := hu12.shape
 clear hu12
 refine rn rfl rfl F12 rfl (.pointer (some ⟨g10, 0, none⟩)) (y_fa (off := 0) rfl (F12.get rfl) (by kernel_rfl) rfl) fun _ F13 => ?_
 refine zl (za rfl) rfl F13 M12 (k := 3) rfl _ _ _ rfl (F13.get rfl) (F13.get rfl) (#[.int .i64 ((zh (b.take 1) : Nat) : Int)]) (recA ⟨((zh (b.take 1) : Nat) : Int), "".toUTF8, [], 0, 0, [], 0, 0, 0⟩ ⟨zN, zN⟩) rfl (Nat.le_of_ble_eq_true rfl) (zsa _ _) (by kernel_rfl) (by kernel_rfl) ?_
 intro w14 M14
 clear M12
 refine hK11 _ _ (zS fun _ hK15 => ?_)
 refine zR ?_
 refine zd (za rfl) rfl F13 rfl rfl (zE Try.func55 rfl) #[.pointer (some ⟨g7, 0, none⟩)] (zw (F13.get rfl)) (rcounted_ex g7 (b.drop 1) (.slice A12u ((b.drop 1)).length c12u) (Nat.le_trans (z9 _ _) hl) w14 (M14.blk (k := 2) rfl) (M14.isb (k := 4) rfl) (fun hb => M14.dis 2 4 _ _ rfl rfl (by decide) rfl g7 rfl hb)) ?_
 rintro v16 w16 a16 ⟨u16, hv16, hu16, hs16, hc16, hg16⟩ F16
 have M16 := M14.took (k := 2) (ku := 4) rfl hg16 hc16 6 5 hv16 hu16 hs16 rfl rfl
 clear M14 hg16 hc16
 obtain ⟨A16u, c16u, rfl⟩ := hu16.shape
 clear hu16
 clear hv16
 obtain ⟨A16, c16, rfl⟩ := (M16.isO (k := 6) rfl).shape
 refine rn rfl rfl F16 rfl (.string (⟨((cV (b.drop 1))).toArray⟩)) (y_str _ rfl (F16.get rfl) (M16.isO (k := 6) rfl)) fun _ F17 => ?_
 refine rn rfl rfl F17 rfl (.pointer (some ⟨g10, 1, none⟩)) (y_fa (off := 1) rfl (F17.get rfl) (by kernel_rfl) rfl) fun _ F18 => ?_
 refine zl (za rfl) rfl F18 M16 (k := 3) rfl _ _ _ rfl (F18.get rfl) (F18.get rfl) (#[.string (⟨((cV (b.drop 1))).toArray⟩)]) (recA ⟨((zh (b.take 1) : Nat) : Int), ⟨((cV (b.drop 1))).toArray⟩, [], 0, 0, [], 0, 0, 0⟩ ⟨zN, zN⟩) rfl (Nat.le_of_ble_eq_true rfl) (one_str _) (by kernel_rfl) (by kernel_rfl) ?_
 intro w19 M19
 clear M16
 refine hK15 _ _ (zS fun _ hK20 => ?_)
 refine zR ?_
 refine zd (za rfl) rfl F18 rfl rfl (zE Try.func55 rfl) #[.pointer (some ⟨g7, 0, none⟩)] (zw (F18.get rfl)) (rcounted_ex g7 (cR (b.drop 1)) (.slice A16u ((cR (b.drop 1))).length c16u) (Nat.le_trans (zoa _) (Nat.le_trans (z9 _ _) hl)) w19 (M19.blk (k := 2) rfl) (M19.isb (k := 5) rfl) (fun hb => M19.dis 2 5 _ _ rfl rfl (by decide) rfl g7 rfl hb)) ?_
 rintro v21 w21 a21 ⟨u21, hv21, hu21, hs21, hc21, hg21⟩ F21
 have M21 := M19.took (k := 2) (ku := 5) rfl hg21 hc21 8 7 hv21 hu21 hs21 rfl rfl
 clear M19 hg21 hc21
 obtain ⟨A21u, c21u, rfl⟩ := hu21.shape
 clear hu21
 clear hv21
 obtain ⟨A21, c21, rfl⟩ := (M21.isO (k := 8) rfl).shape
 refine rn rfl rfl F21 rfl (.pointer (some ⟨g10, 2, none⟩)) (y_fa (off := 2) rfl (F21.get rfl) (by kernel_rfl) rfl) fun _ F22 => ?_
 refine zl (za rfl) rfl F22 M21 (k := 3) rfl _ _ _ rfl (F22.get rfl) (F22.get rfl) (#[.slice A21 ((cV (cR (b.drop 1)))).length c21]) (recA ⟨((zh (b.take 1) : Nat) : Int), ⟨((cV (b.drop 1))).toArray⟩, (cV (cR (b.drop 1))), 0, 0, [], 0, 0, 0⟩ ⟨.slice A21 ((cV (cR (b.drop 1)))).length c21, zN⟩) rfl (Nat.le_of_ble_eq_true rfl) (zcb rfl) (by kernel_rfl) (by kernel_rfl) ?_
 intro w23 M23
 clear M21
 refine hK20 _ _ (zS fun _ hK24 => ?_)
 refine zR ?_
 refine zd (za rfl) rfl F22 rfl rfl (zE Try.func55 rfl) #[.pointer (some ⟨g7, 0, none⟩)] (zw (F22.get rfl)) (rcounted_ex g7 (cR (cR (b.drop 1))) (.slice A21u ((cR (cR (b.drop 1)))).length c21u) (Nat.le_trans (zoa _) (Nat.le_trans (zoa _) (Nat.le_trans (z9 _ _) hl))) w23 (M23.blk (k := 2) rfl) (M23.isb (k := 7) rfl) (fun hb => M23.dis 2 7 _ _ rfl rfl (by decide) rfl g7 rfl hb)) ?_
 rintro v25 w25 a25 ⟨u25, hv25, hu25, hs25, hc25, hg25⟩ F25
 have M25 := M23.took (k := 2) (ku := 7) rfl hg25 hc25 10 9 hv25 hu25 hs25 rfl rfl
 clear M23 hg25 hc25
 obtain ⟨A25u, c25u, rfl⟩ := hu25.shape
 clear hu25
 clear hv25
 obtain ⟨A25, c25, rfl⟩ := (M25.isO (k := 10) rfl).shape
 refine rn rfl rfl F25 rfl (.pointer (some ⟨g10, 19, none⟩)) (y_fa (off := 19) rfl (F25.get rfl) (by kernel_rfl) rfl) fun _ F26 => ?_
 refine zl (za rfl) rfl F26 M25 (k := 3) rfl _ _ _ rfl (F26.get rfl) (F26.get rfl) (#[.slice A25 ((cV (cR (cR (b.drop 1))))).length c25]) (recA ⟨((zh (b.take 1) : Nat) : Int), ⟨((cV (b.drop 1))).toArray⟩, (cV (cR (b.drop 1))), 0, 0, (cV (cR (cR (b.drop 1)))), 0, 0, 0⟩ ⟨.slice A21 ((cV (cR (b.drop 1)))).length c21, .slice A25 ((cV (cR (cR (b.drop 1))))).length c25⟩) rfl (Nat.le_of_ble_eq_true rfl) (zcb rfl) (by kernel_rfl) (by kernel_rfl) ?_
 intro w27 M27
 clear M25
 refine hK24 _ _ (zS fun _ hK28 => ?_)
 refine zR ?_
 refine zd (za rfl) rfl F26 rfl rfl (zE Try.func67 rfl) #[.pointer (some ⟨g7, 0, none⟩)] (zw (F26.get rfl)) (rfour_any g7 (cR (cR (cR (b.drop 1)))) (.slice A25u ((cR (cR (cR (b.drop 1))))).length c25u) (Nat.le_trans (zoa _) (Nat.le_trans (zoa _) (Nat.le_trans (zoa _) (Nat.le_trans (z9 _ _) hl)))) w27 (M27.blk (k := 2) rfl) (M27.isb (k := 9) rfl) (fun hb => M27.dis 2 9 _ _ rfl rfl (by decide) rfl g7 rfl hb)) ?_
 rintro _ w29 a29 ⟨rfl, u29, hu29, hs29, hc29, hg29⟩ F29
 have M29 := M27.took0 (k := 2) (ku := 9) rfl hg29 hc29 11 hu29 hs29 rfl
 clear M27 hg29 hc29
 obtain ⟨A29u, c29u, rfl⟩ := hu29.shape
 clear hu29
 refine rn rfl rfl F29 rfl (.pointer (some ⟨g10, 3, none⟩)) (y_fa (off := 3) rfl (F29.get rfl) (by kernel_rfl) rfl) fun _ F30 => ?_
 refine zl (za rfl) rfl F30 M29 (k := 3) rfl _ _ _ rfl (F30.get rfl) (F30.get rfl) (numA (zia ((cR (cR (cR (b.drop 1)))).take 4))) (recA ⟨((zh (b.take 1) : Nat) : Int), ⟨((cV (b.drop 1))).toArray⟩, (cV (cR (b.drop 1))), (zia ((cR (cR (cR (b.drop 1)))).take 4)), 0, (cV (cR (cR (b.drop 1)))), 0, 0, 0⟩ ⟨.slice A21 ((cV (cR (b.drop 1)))).length c21, .slice A25 ((cV (cR (cR (b.drop 1))))).length c25⟩) rfl (Nat.le_of_ble_eq_true rfl) (z6 _) (by kernel_rfl) z5 ?_
 intro w31 M31
 clear M29
 refine hK28 _ _ (zS fun _ hK32 => ?_)
 refine zR ?_
 refine zd (za rfl) rfl F30 rfl rfl (zE Try.func67 rfl) #[.pointer (some ⟨g7, 0, none⟩)] (zw (F30.get rfl)) (rfour_any g7 ((cR (cR (cR (b.drop 1)))).drop 4) (.slice A29u (((cR (cR (cR (b.drop 1)))).drop 4)).length c29u) (Nat.le_trans (z9 _ _) (Nat.le_trans (zoa _) (Nat.le_trans (zoa _) (Nat.le_trans (zoa _) (Nat.le_trans (z9 _ _) hl))))) w31 (M31.blk (k := 2) rfl) (M31.isb (k := 11) rfl) (fun hb => M31.dis 2 11 _ _ rfl rfl (by decide) rfl g7 rfl hb)) ?_
 rintro _ w33 a33 ⟨rfl, u33, hu33, hs33, hc33, hg33⟩ F33
 have M33 := M31.took0 (k := 2) (ku := 11) rfl hg33 hc33 12 hu33 hs33 rfl
 clear M31 hg33 hc33
 obtain ⟨A33u, c33u, rfl⟩ := hu33.shape
 clear hu33
 refine rn rfl rfl F33 rfl (.pointer (some ⟨g10, 11, none⟩)) (y_fa (off := 11) rfl (F33.get rfl) (by kernel_rfl) rfl) fun _ F34 => ?_
 refine zl (za rfl) rfl F34 M33 (k := 3) rfl _ _ _ rfl (F34.get rfl) (F34.get rfl) (numA (zia (((cR (cR (cR (b.drop 1)))).drop 4).take 4))) (recA ⟨((zh (b.take 1) : Nat) : Int), ⟨((cV (b.drop 1))).toArray⟩, (cV (cR (b.drop 1))), (zia ((cR (cR (cR (b.drop 1)))).take 4)), (zia (((cR (cR (cR (b.drop 1)))).drop 4).take 4)), (cV (cR (cR (b.drop 1)))), 0, 0, 0⟩ ⟨.slice A21 ((cV (cR (b.drop 1)))).length c21, .slice A25 ((cV (cR (cR (b.drop 1))))).length c25⟩) rfl (Nat.le_of_ble_eq_true rfl) (z6 _) (by kernel_rfl) z5 ?_
 intro w35 M35
 clear M33
 refine hK32 _ _ (zS fun _ hK36 => ?_)
 refine zR ?_
 refine zd (za rfl) rfl F34 rfl rfl (zE Try.func53 rfl) #[.pointer (some ⟨g7, 0, none⟩)] (zw (F34.get rfl)) (zhb g7 (((cR (cR (cR (b.drop 1)))).drop 4).drop 4) (.slice A33u ((((cR (cR (cR (b.drop 1)))).drop 4).drop 4)).length c33u) (Nat.le_trans (z9 _ _) (Nat.le_trans (z9 _ _) (Nat.le_trans (zoa _) (Nat.le_trans (zoa _) (Nat.le_trans (zoa _) (Nat.le_trans (z9 _ _) hl)))))) w35 (M35.blk (k := 2) rfl) (M35.isb (k := 12) rfl) (fun hb => M35.dis 2 12 _ _ rfl rfl (by decide) rfl g7 rfl hb)) ?_
 rintro _ w37 a37 ⟨rfl, u37, hu37, hs37, hc37, hg37⟩ F37
 have M37 := M35.took0 (k := 2) (ku := 12) rfl hg37 hc37 13 hu37 hs37 rfl
 clear M35 hg37 hc37
 obtain ⟨A37u, c37u, rfl⟩ := hu37.shape
 clear hu37
 refine rn rfl rfl F37 rfl (.pointer (some ⟨g10, 20, none⟩)) (y_fa (off := 20) rfl (F37.get rfl) (by kernel_rfl) rfl) fun _ F38 => ?_
 refine zl (za rfl) rfl F38 M37 (k := 3) rfl _ _ _ rfl (F38.get rfl) (F38.get rfl) (#[.int .i64 ((zh ((((cR (cR (cR (b.drop 1)))).drop 4).drop 4).take 1) : Nat) : Int)]) (recA ⟨((zh (b.take 1) : Nat) : Int), ⟨((cV (b.drop 1))).toArray⟩, (cV (cR (b.drop 1))), (zia ((cR (cR (cR (b.drop 1)))).take 4)), (zia (((cR (cR (cR (b.drop 1)))).drop 4).take 4)), (cV (cR (cR (b.drop 1)))), ((zh ((((cR (cR (cR (b.drop 1)))).drop 4).drop 4).take 1) : Nat) : Int), 0, 0⟩ ⟨.slice A21 ((cV (cR (b.drop 1)))).length c21, .slice A25 ((cV (cR (cR (b.drop 1))))).length c25⟩) rfl (Nat.le_of_ble_eq_true rfl) (zsa _ _) (by kernel_rfl) (by kernel_rfl) ?_
 intro w39 M39
 clear M37
 refine hK36 _ _ (zS fun _ hK40 => ?_)
 refine zR ?_
 refine zd (za rfl) rfl F38 rfl rfl (zE Try.func68 rfl) #[.pointer (some ⟨g7, 0, none⟩), .int .i64 8] (z4 (F38.get rfl) rfl) (rnumber_any g7 ((((cR (cR (cR (b.drop 1)))).drop 4).drop 4).drop 1) (.slice A37u (((((cR (cR (cR (b.drop 1)))).drop 4).drop 4).drop 1)).length c37u) 8 (Nat.le_trans (z9 _ _) (Nat.le_trans (z9 _ _) (Nat.le_trans (z9 _ _) (Nat.le_trans (zoa _) (Nat.le_trans (zoa _) (Nat.le_trans (zoa _) (Nat.le_trans (z9 _ _) hl))))))) (by omega) w39 (M39.blk (k := 2) rfl) (M39.isb (k := 13) rfl) (fun hb => M39.dis 2 13 _ _ rfl rfl (by decide) rfl g7 rfl hb)) ?_
 rintro _ w41 a41 ⟨rfl, u41, hu41, hs41, hc41, hg41⟩ F41
 have M41 := M39.took0 (k := 2) (ku := 13) rfl hg41 hc41 14 hu41 hs41 rfl
 clear M39 hg41 hc41
 obtain ⟨A41u, c41u, rfl⟩ := hu41.shape
 clear hu41
 refine rn rfl rfl F41 rfl (.pointer (some ⟨g10, 21, none⟩)) (y_fa (off := 21) rfl (F41.get rfl) (by kernel_rfl) rfl) fun _ F42 => ?_
 refine zl (za rfl) rfl F42 M41 (k := 3) rfl _ _ _ rfl (F42.get rfl) (F42.get rfl) (#[.int .i64 (numI (((((cR (cR (cR (b.drop 1)))).drop 4).drop 4).drop 1).take 8))]) (recA ⟨((zh (b.take 1) : Nat) : Int), ⟨((cV (b.drop 1))).toArray⟩, (cV (cR (b.drop 1))), (zia ((cR (cR (cR (b.drop 1)))).take 4)), (zia (((cR (cR (cR (b.drop 1)))).drop 4).take 4)), (cV (cR (cR (b.drop 1)))), ((zh ((((cR (cR (cR (b.drop 1)))).drop 4).drop 4).take 1) : Nat) : Int), (numI (((((cR (cR (cR (b.drop 1)))).drop 4).drop 4).drop 1).take 8)), 0⟩ ⟨.slice A21 ((cV (cR (b.drop 1)))).length c21, .slice A25 ((cV (cR (cR (b.drop 1))))).length c25⟩) rfl (Nat.le_of_ble_eq_true rfl) (zsa _ _) (by kernel_rfl) (by kernel_rfl) ?_
 intro w43 M43
 clear M41
 refine hK40 _ _ (zS fun _ hK44 => ?_)
 refine zR ?_
 refine zd (za rfl) rfl F42 rfl rfl (zE Try.func68 rfl) #[.pointer (some ⟨g7, 0, none⟩), .int .i64 8] (z4 (F42.get rfl) rfl) (rnumber_any g7 (((((cR (cR (cR (b.drop 1)))).drop 4).drop 4).drop 1).drop 8) (.slice A41u ((((((cR (cR (cR (b.drop 1)))).drop 4).drop 4).drop 1).drop 8)).length c41u) 8 (Nat.le_trans (z9 _ _) (Nat.le_trans (z9 _ _) (Nat.le_trans (z9 _ _) (Nat.le_trans (z9 _ _) (Nat.le_trans (zoa _) (Nat.le_trans (zoa _) (Nat.le_trans (zoa _) (Nat.le_trans (z9 _ _) hl)))))))) (by omega) w43 (M43.blk (k := 2) rfl) (M43.isb (k := 14) rfl) (fun hb => M43.dis 2 14 _ _ rfl rfl (by decide) rfl g7 rfl hb)) ?_
 rintro _ w45 a45 ⟨rfl, u45, hu45, hs45, hc45, hg45⟩ F45
 have M45 := M43.took0 (k := 2) (ku := 14) rfl hg45 hc45 15 hu45 hs45 rfl
 clear M43 hg45 hc45
 obtain ⟨A45u, c45u, rfl⟩ := hu45.shape
 clear hu45
 refine rn rfl rfl F45 rfl (.pointer (some ⟨g10, 22, none⟩)) (y_fa (off := 22) rfl (F45.get rfl) (by kernel_rfl) rfl) fun _ F46 => ?_
 refine zl (za rfl) rfl F46 M45 (k := 3) rfl _ _ _ rfl (F46.get rfl) (F46.get rfl) (#[.int .i64 (numI ((((((cR (cR (cR (b.drop 1)))).drop 4).drop 4).drop 1).drop 8).take 8))]) (recA ⟨((zh (b.take 1) : Nat) : Int), ⟨((cV (b.drop 1))).toArray⟩, (cV (cR (b.drop 1))), (zia ((cR (cR (cR (b.drop 1)))).take 4)), (zia (((cR (cR (cR (b.drop 1)))).drop 4).take 4)), (cV (cR (cR (b.drop 1)))), ((zh ((((cR (cR (cR (b.drop 1)))).drop 4).drop 4).take 1) : Nat) : Int), (numI (((((cR (cR (cR (b.drop 1)))).drop 4).drop 4).drop 1).take 8)), (numI ((((((cR (cR (cR (b.drop 1)))).drop 4).drop 4).drop 1).drop 8).take 8))⟩ ⟨.slice A21 ((cV (cR (b.drop 1)))).length c21, .slice A25 ((cV (cR (cR (b.drop 1))))).length c25⟩) rfl (Nat.le_of_ble_eq_true rfl) (zsa _ _) (by kernel_rfl) (by kernel_rfl) ?_
 intro w47 M47
 clear M45
 refine hK44 _ _ (zS fun _ hK48 => ?_)
 refine zR ?_
 refine rn rfl rfl F46 rfl _ (zja _ _ rfl (F46.get rfl) (M47.blk (k := 3) rfl) (recA ⟨((zh (b.take 1) : Nat) : Int), ⟨((cV (b.drop 1))).toArray⟩, (cV (cR (b.drop 1))), (zia ((cR (cR (cR (b.drop 1)))).take 4)), (zia (((cR (cR (cR (b.drop 1)))).drop 4).take 4)), (cV (cR (cR (b.drop 1)))), ((zh ((((cR (cR (cR (b.drop 1)))).drop 4).drop 4).take 1) : Nat) : Int), (numI (((((cR (cR (cR (b.drop 1)))).drop 4).drop 4).drop 1).take 8)), (numI ((((((cR (cR (cR (b.drop 1)))).drop 4).drop 4).drop 1).drop 8).take 8))⟩ ⟨.slice A21 ((cV (cR (b.drop 1)))).length c21, .slice A25 ((cV (cR (cR (b.drop 1))))).length c25⟩) (zla rfl) Try.underlying54 rfl (by kernel_rfl)) fun _ F49 => ?_
 refine rm rfl F49 fun _ F50 => ?_
 have og2 := M47.owns (k := 8) rfl
 have og5 := M47.owns (k := 10) rfl
 have MT1 := ((M47.uz0 (fp := fun _ => False) 16 (fun _ h => h)).uzTame (i := 16) (k := 8) (fp' := bfp (.slice A21 ((cV (cR (b.drop 1)))).length c21)) rfl rfl (fun _ h => .inr h)).tame (k := 10) rfl
 clear M47
 refine zd (za rfl) rfl F50 rfl rfl (zE Try.func69 rfl) #[.agg (recA ⟨((zh (b.take 1) : Nat) : Int), ⟨((cV (b.drop 1))).toArray⟩, (cV (cR (b.drop 1))), (zia ((cR (cR (cR (b.drop 1)))).take 4)), (zia (((cR (cR (cR (b.drop 1)))).drop 4).take 4)), (cV (cR (cR (b.drop 1)))), ((zh ((((cR (cR (cR (b.drop 1)))).drop 4).drop 4).take 1) : Nat) : Int), (numI (((((cR (cR (cR (b.drop 1)))).drop 4).drop 4).drop 1).take 8)), (numI ((((((cR (cR (cR (b.drop 1)))).drop 4).drop 4).drop 1).drop 8).take 8))⟩ ⟨.slice A21 ((cV (cR (b.drop 1)))).length c21, .slice A25 ((cV (cR (cR (b.drop 1))))).length c25⟩), .func (.func 35) #[] #[], .slice A0 b.length c0] (args3 (F50.get rfl) rfl (F50.get rfl)) (provenR_any (rdM b) ⟨.slice A21 ((cV (cR (b.drop 1)))).length c21, .slice A25 ((cV (cR (cR (b.drop 1))))).length c25⟩ b (.slice A0 b.length c0) (rdM_ok b) w47 ⟨MT1.isb (k := 8) rfl, MT1.isb (k := 10) rfl⟩ (MT1.isb (k := 0) rfl)) ?_
 rintro _ w51 a51 ⟨V51, rfl, is51, lo51, b51⟩ F51
 have M51 := MT1.step b51
 replace M51 := M51.part 17 _ is51.h2 zga rfl (k := 8) rfl rfl (fun g => (lo51 g).1)
 replace M51 := M51.part 18 _ is51.h5 zga rfl (k := 10) rfl rfl (fun g => (lo51 g).2)
 refine zB 2 [(2, .pointer (some ⟨g2, 0, none⟩)), (3, .bool false), (30, .agg (recA (rdR b) V51)), (31, .bool (rdOk b))] [] dnil [] F51 fun _ F52 => ?_
 refine zl (za rfl) rfl F52 M51 (k := 1) rfl _ _ _ rfl (F52.get rfl) (F52.get rfl) (recA (rdR b) V51) _ rfl (Nat.le_of_ble_eq_true rfl) (zmb is51) (zu rfl) (by kernel_rfl) ?_
 intro w53 M53
 clear M51
 refine rm rfl F52 fun _ F54 => ?_
 refine hK48 _ _ (wp_ret ?_)
 try simp only [Exit.then, Exit.inBlock, Exit.jump]
 exact bodyPost_ret (resCT rfl (F54.get rfl) (M53.blk (k := 1) rfl) (F54.get rfl) Try.underlying54 rfl (by kernel_rfl)) F54.defers ⟨V51, rfl, ⟨M53.isb (k := 17) rfl, M53.isb (k := 18) rfl⟩, (fun q h => h.elim (fun h => og2 q (zfa ((lo51 q).1 h))) (fun h => og5 q (zfa ((lo51 q).2 h)))), (fun g h => M53.uzF (k := 16) rfl g ((lo51 g).1 h)), M53.below⟩
end Go.Proofs.Ytlbkogdmojlpmaa
namespace Go.Proofs.Ytlbkogdmojlpmaa
open Go.ChangeShapes Go.WideShapes Go.ChangeAt Go.RowKit
def recvR (r : RecN) (v : Value) : Res := ⟨false, fun g => ∃ V, v = .agg (recA r V) ∧ (bfp V.v2 g ∨ bfp V.v5 g), fun w => ∃ V, v = .agg (recA r V) ∧ RecIs w r V⟩
theorem recA_inj {r : RecN} {V V' : RecV} (h : recA r V = recA r V') : V = V' := by
  obtain ⟨a, b⟩ := V
  obtain ⟨c, d⟩ := V'
  have h2 : (recA r ⟨a, b⟩)[2]? = (recA r ⟨c, d⟩)[2]? := by rw [h]
  have h19 : (recA r ⟨a, b⟩)[19]? = (recA r ⟨c, d⟩)[19]? := by rw [h]
  have e2 : a = c := Option.some.inj h2
  have e5 : b = d := Option.some.inj h19
  subst e2 e5; rfl
theorem recv_dep {r : RecN} {v : Value} : ∀ u u', Same (recvR r v).fp u u' → (recvR r v).F u → (recvR r v).F u' := fun u u' hs ⟨V, e, h⟩ =>
  ⟨V, e, ⟨h.h2.same ⟨fun g o hg ho => hs.at_ g o ⟨V, e, .inl hg⟩ ho, hs.size⟩, h.h5.same ⟨fun g o hg ho => hs.at_ g o ⟨V, e, .inr hg⟩ ho, hs.size⟩⟩⟩
theorem Mx.newRecv {G : Option Nat} {w0 w w' : World} {R : List (Nat × Res)} (M : Mx G w0 w R) (h : Below w.heap.size w w') {r : RecN} {V : RecV} (hm : RecIs w' r V) (hlo : ∀ q, bfp V.v2 q ∨ bfp V.v5 q → w.heap.size ≤ q) (i : Nat) : Mx G w0 w' ((i, recvR r (.agg (recA r V))) :: R) :=
  M.fresh h i _ ⟨V, rfl, hm⟩ recv_dep fun g ⟨V', e, hg⟩ => by
    have e2 : V = V' := recA_inj (by injection e)
    subst e2
    refine ⟨hlo g hg, ?_⟩
    rcases hg with hg | hg
    · exact hm.h2.lt hg
    · exact hm.h5.lt hg
theorem decw_is (b : List UInt8) (bv : Value) (hl : b.length ≤ 100000) (ok : Bool) (m : MsgN) (h1 : decOk b = ok) (h2 : decR b = m) (w : World) (hb : IsB w b bv) : Calls Try.prog 20 #[bv] w fun e w' => ∃ t, e = .returned t ∧ ∃ V, t = .tuple #[.agg (msgA m V), .bool ok] ∧ MsgIs w' m V ∧ (∀ q, zna V q → w.heap.size ≤ q) ∧ unfz (zna V) w' ∧ Below w.heap.size w w' := by
  subst h1 h2; exact (decodeW_any b bv hl w hb).mono fun e w' ⟨V, k1, k2, k3, k4, k5⟩ => ⟨_, k1, V, rfl, k2, k3, k4, k5⟩
theorem rdw_is (b : List UInt8) (bv : Value) (hl : b.length ≤ 100000) (ok : Bool) (r : RecN) (h1 : rdOk b = ok) (h2 : rdR b = r) (w : World) (hb : IsB w b bv) : Calls Try.prog 37 #[bv] w fun e w' => ∃ t, e = .returned t ∧ ∃ V, t = .tuple #[.agg (recA r V), .bool ok] ∧ RecIs w' r V ∧ (∀ q, bfp V.v2 q ∨ bfp V.v5 q → w.heap.size ≤ q) ∧ unfz (bfp V.v2) w' ∧ Below w.heap.size w w' := by
  subst h1 h2; exact (readrecW_any b bv hl w hb).mono fun e w' ⟨V, k1, k2, k3, k4, k5⟩ => ⟨_, k1, V, rfl, k2, k3, k4, k5⟩
theorem y_addU8 {a : Act} {w : World} {o : Oper} (ty tz : TypeId) (x y : Operand) {p q : Int} (ho : o.op = .binOp .add ty x y tz) (hx : a.eval x = .int .u8 p) (hy : a.eval y = .int .u8 q) : (execOp a.eval o).run Try.prog w = .ok (.value (.int .u8 (((zx (p + q)).toNat : Nat) : Int))) w := by
  unfold execOp; simp only [ho, hx, hy]; simp [go_sem, z7a]
theorem keep_top {r : RecN} (h : zqa r = true) : topI r.a 8 ≤ 32 := by
  unfold zqa at h
  simp only [Bool.and_eq_true, decide_eq_true_eq] at h
  exact h.1.1.1.1.1.2
theorem encL_le (m : MsgN) : (encL m).length ≤ 202 := by
  cases h : encOk m with
  | false => rw [show encL m = [] from if_neg (by rw [h]; exact Bool.false_ne_true)]; simp
  | true =>
    rw [encL_ok h, encF_len, encRk_len]
    unfold encOk at h
    simp only [Bool.and_eq_true, decide_eq_true_eq] at h
    omega
theorem encOk_len {m : MsgN} (h : encOk m = true) : m.l5.length ≤ 120 ∧ m.l6.length ≤ 120 ∧ m.l7.length ≤ 120 ∧ m.l8.length ≤ 120 ∧ m.l9.length ≤ 120 := by
  unfold encOk zza at h
  simp only [Bool.and_eq_true] at h
  have f := cont_len h.1.2
  exact ⟨f 5, f 6, f 7, f 8, f 9⟩
theorem recE_le {r : RecN} (h : zqa r = true) : (recE r).length ≤ 200 := by
  unfold recE
  rw [if_pos h, recL_is]
  obtain ⟨h1, h2, h3⟩ := keep_len h
  have ha : (fourL r.a).length = 4 := fourL_len _
  have hb : (fourL r.b).length = 4 := fourL_len _
  have hc : (zeb r.c).length = 8 := zab _
  have hd : (zeb r.z).length = 8 := zab _
  simp only [List.length_cons, List.length_append]
  omega
theorem WireOwn_walk (a0 : Int) (hk0 : -9223372036854775808 ≤ a0) (hl0 : a0 < 9223372036854775808)
  (a1 : Int) (hk1 : -9223372036854775808 ≤ a1) (hl1 : a1 < 9223372036854775808)
  (a2 : ByteArray) (hS2 : a2.size ≤ maxLen)
  (A3 : Option Addr) (n3 cap3 : Nat) (l3 : List UInt8) (hn3 : l3.length = n3) (hc3 : n3 ≤ cap3) (hm3 : cap3 ≤ maxLen) (hz3 : A3 = none → cap3 = 0) (w : World) (hr3 : Rd w A3 l3) :
  Calls Try.prog 14 #[.int .i64 a0, .int .i64 a1, .string a2, .slice A3 n3 cap3] w fun e w' => e = .returned (.bool true) ∧ Below w.heap.size w w' := by
 have ib3 : IsB w l3 (.slice A3 n3 cap3) := hr3.isB' hn3 hc3 hm3 hz3
 by_cases b0 : 40 < a2.size
 ·refine zi (args := [.int .i64 a0, .int .i64 a1, .string a2, .slice A3 n3 cap3]) 161 Try.func14 rfl rfl rfl ?_
  intro fa F
  have M := Mx.start w
  replace M := M.argB 0 ib3 (fun g e => by cases e)
  refine zT fun _ hK21 => ?_
  refine rm rfl F fun _ F22 => ?_
  refine hK21 _ _ (zS fun _ hK23 => ?_)
  refine zT fun _ hK24 => ?_
  refine zd (za rfl) rfl F22 rfl rfl (zE Try.func15 rfl) #[] (args0) (zf (lknown_any w)) ?_
  rintro _ w25 a25 ⟨rfl, b25⟩ F25
  have M25 := M.step b25
  refine rn rfl rfl F25 rfl (.bool false) (run_not _ _ rfl (F25.get (t := 28) rfl)) fun _ F26 => ?_
  refine hK24 _ _ (wp_cond_false (F26.get rfl) ?_)
  refine wp_skip ?_
  refine hK23 _ _ (zS fun _ hK27 => ?_)
  refine zT fun _ hK28 => ?_
  refine rm rfl F26 fun _ F29 => ?_
  refine rn rfl rfl F29 rfl (.int .i64 (a2.size : Int)) (y_lenS _ rfl (F29.get rfl) rfl) fun _ F30 => ?_
  refine rn rfl rfl F30 rfl (.bool true) (y_gtr _ _ _ _ rfl (F30.get rfl) rfl (decide_eq_true (show (40 : Int) < (a2.size : Int) by omega))) fun _ F31 => ?_
  refine zB 5 [(0, .int .i64 a0), (1, .int .i64 a1), (2, .string a2), (3, .slice A3 n3 cap3), (8, .bool false), (37, .bool true)] [] dnil [] F31 fun _ F32 => ?_
  refine hK28 _ _ (wp_cond_true (F32.get rfl) ?_)
  refine zT fun _ hK33 => ?_
  refine rm rfl F32 fun _ F34 => ?_
  refine hK33 _ _ (wp_ret ?_)
  try simp only [Exit.then, Exit.inBlock, Exit.jump]
  exact bodyPost_ret (res1 rfl (F34.get rfl)) F34.defers ⟨rfl, M25.below⟩
 by_cases b1 : 100 < l3.length
 ·refine zi (args := [.int .i64 a0, .int .i64 a1, .string a2, .slice A3 n3 cap3]) 161 Try.func14 rfl rfl rfl ?_
  intro fa F
  have M := Mx.start w
  replace M := M.argB 0 ib3 (fun g e => by cases e)
  refine zT fun _ hK21 => ?_
  refine rm rfl F fun _ F22 => ?_
  refine hK21 _ _ (zS fun _ hK23 => ?_)
  refine zT fun _ hK24 => ?_
  refine zd (za rfl) rfl F22 rfl rfl (zE Try.func15 rfl) #[] (args0) (zf (lknown_any w)) ?_
  rintro _ w25 a25 ⟨rfl, b25⟩ F25
  have M25 := M.step b25
  refine rn rfl rfl F25 rfl (.bool false) (run_not _ _ rfl (F25.get (t := 28) rfl)) fun _ F26 => ?_
  refine hK24 _ _ (wp_cond_false (F26.get rfl) ?_)
  refine wp_skip ?_
  refine hK23 _ _ (zS fun _ hK27 => ?_)
  refine zT fun _ hK28 => ?_
  refine rm rfl F26 fun _ F29 => ?_
  refine rn rfl rfl F29 rfl (.int .i64 (a2.size : Int)) (y_lenS _ rfl (F29.get rfl) rfl) fun _ F30 => ?_
  refine rn rfl rfl F30 rfl (.bool false) (y_gtr _ _ _ _ rfl (F30.get rfl) rfl (decide_eq_false (show ¬ (40 : Int) < (a2.size : Int) by omega))) fun _ F31 => ?_
  refine rm rfl F31 fun _ F32 => ?_
  refine rm rfl F32 fun _ F33 => ?_
  refine ze (w' := w25) (zb rfl rfl rfl (F33.get rfl)) rfl F33 rfl (.int .i64 (l3.length : Int)) (zda _ rfl (F33.get rfl) (M25.isb (k := 0) rfl) rfl) fun _ F34 => ?_
  refine ze (w' := w25) (zb rfl rfl rfl (F34.get rfl)) rfl F34 rfl (.bool true) (y_gtr _ _ _ _ rfl (F34.get rfl) rfl (decide_eq_true (show (100 : Int) < (l3.length : Int) by omega))) fun _ F35 => ?_
  refine rn rfl rfl F35 rfl (.bool true) (run_pick_f rfl (F35.get rfl) (F35.get rfl)) fun _ F36 => ?_
  refine hK28 _ _ (wp_cond_true (F36.get rfl) ?_)
  refine zT fun _ hK37 => ?_
  refine rm rfl F36 fun _ F38 => ?_
  refine hK37 _ _ (wp_ret ?_)
  try simp only [Exit.then, Exit.inBlock, Exit.jump]
  exact bodyPost_ret (res1 rfl (F38.get rfl)) F38.defers ⟨rfl, M25.below⟩
 have hs : a2.size ≤ 40 := by omega
 obtain ⟨m, em⟩ : ∃ x, mkM a0 a1 a2 l3 = x := ⟨_, rfl⟩
 obtain ⟨om, zm⟩ := mkM_ok a0 a1 a2 l3
 rw [em] at om zm
 obtain ⟨qm, hm1⟩ : ∃ x, encOk m = x := ⟨_, rfl⟩
 obtain ⟨xm, hm2⟩ : ∃ x, encL m = x := ⟨_, rfl⟩
 obtain ⟨r, er⟩ : ∃ x, mkR a1 a2 l3 = x := ⟨_, rfl⟩
 have or := mkR_ok a1 a2 l3
 have pr := mkR_keep a1 a2 l3
 rw [er] at or pr
 obtain ⟨xr, hr2⟩ : ∃ x, recE r = x := ⟨_, rfl⟩
 have hxl : xm.length ≤ 202 := by rw [← hm2]; exact encL_le m
 have hrl : xr.length ≤ 200 := by rw [← hr2]; exact recE_le pr
 obtain ⟨y1, y2⟩ := rd_rec or pr
 rw [hr2] at y1 y2
 have hkt := keep_top pr
 have hkl := keep_len pr
 skip
 refine zi (args := [.int .i64 a0, .int .i64 a1, .string a2, .slice A3 n3 cap3]) 161 Try.func14 rfl rfl rfl ?_
 intro fa F
 have M := Mx.start w
 replace M := M.argB 0 ib3 (fun g e => by cases e)
 refine zT fun _ hK21 => ?_
 refine rm rfl F fun _ F22 => ?_
 refine hK21 _ _ (zS fun _ hK23 => ?_)
 refine zT fun _ hK24 => ?_
 refine zd (za rfl) rfl F22 rfl rfl (zE Try.func15 rfl) #[] (args0) (zf (lknown_any w)) ?_
 rintro _ w25 a25 ⟨rfl, b25⟩ F25
 have M25 := M.step b25
 refine rn rfl rfl F25 rfl (.bool false) (run_not _ _ rfl (F25.get (t := 28) rfl)) fun _ F26 => ?_
 refine hK24 _ _ (wp_cond_false (F26.get rfl) ?_)
 refine wp_skip ?_
 refine hK23 _ _ (zS fun _ hK27 => ?_)
 refine zT fun _ hK28 => ?_
 refine rm rfl F26 fun _ F29 => ?_
 refine rn rfl rfl F29 rfl (.int .i64 (a2.size : Int)) (y_lenS _ rfl (F29.get rfl) rfl) fun _ F30 => ?_
 refine rn rfl rfl F30 rfl (.bool false) (y_gtr _ _ _ _ rfl (F30.get rfl) rfl (decide_eq_false (show ¬ (40 : Int) < (a2.size : Int) by omega))) fun _ F31 => ?_
 refine rm rfl F31 fun _ F32 => ?_
 refine rm rfl F32 fun _ F33 => ?_
 refine ze (w' := w25) (zb rfl rfl rfl (F33.get rfl)) rfl F33 rfl (.int .i64 (l3.length : Int)) (zda _ rfl (F33.get rfl) (M25.isb (k := 0) rfl) rfl) fun _ F34 => ?_
 refine ze (w' := w25) (zb rfl rfl rfl (F34.get rfl)) rfl F34 rfl (.bool false) (y_gtr _ _ _ _ rfl (F34.get rfl) rfl (decide_eq_false (show ¬ (100 : Int) < (l3.length : Int) by omega))) fun _ F35 => ?_
 refine rn rfl rfl F35 rfl (.bool false) (run_pick_f rfl (F35.get rfl) (F35.get rfl)) fun _ F36 => ?_
 refine hK28 _ _ (wp_cond_false (F36.get rfl) ?_)
 refine wp_skip ?_
 refine hK27 _ _ (zS fun _ hK37 => ?_)
 refine zR ?_
 refine rm rfl F36 fun _ F38 => ?_
 refine rm rfl F38 fun _ F39 => ?_
 refine rm rfl F39 fun _ F40 => ?_
 refine rm rfl F40 fun _ F41 => ?_
 refine zd (za rfl) rfl F41 rfl rfl (zE Try.func16 rfl) #[.int .i64 a0, .int .i64 a1, .string a2, .slice A3 n3 cap3] (args4 (F41.get rfl) (F41.get rfl) (F41.get rfl) (F41.get rfl)) (make_is a0 a1 a2 l3 (.slice A3 n3 cap3) ⟨hk0, hl0⟩ ⟨hk1, hl1⟩ hs m em w25 (M25.isb (k := 0) rfl)) ?_
 rintro _ w42 a42 ⟨V42, rfl, is42, lo42, b42⟩ F42
 have M42 := M25.newMsg b42 is42 lo42 1 2 3 4 5
 clear M25 b42 lo42
 refine rm rfl F42 fun _ F43 => ?_
 refine rm rfl F43 fun _ F44 => ?_
 refine rm rfl F44 fun _ F45 => ?_
 refine rm rfl F45 fun _ F46 => ?_
 refine zd (za rfl) rfl F46 rfl rfl (zE Try.func16 rfl) #[.int .i64 a0, .int .i64 a1, .string a2, .slice A3 n3 cap3] (args4 (F46.get rfl) (F46.get rfl) (F46.get rfl) (F46.get rfl)) (make_is a0 a1 a2 l3 (.slice A3 n3 cap3) ⟨hk0, hl0⟩ ⟨hk1, hl1⟩ hs m em w42 (M42.isb (k := 0) rfl)) ?_
 rintro _ w47 a47 ⟨V47, rfl, is47, lo47, b47⟩ F47
 have M47 := M42.newMsg b47 is47 lo47 6 7 8 9 10
 clear M42 b47 lo47
 refine zg (za rfl) rfl F47 rfl M47 11 (t := 29) (c := msgA ⟨0, 0, 0, 0, "".toUTF8, 0, 0, [], [], [], [], []⟩ ⟨zN, zN, zN, zN, zN⟩) (by unfold execOp; kernel_rfl) ?_
 intro g48 a48 w48 F48 M48
 clear F47 M47
 refine zg (za rfl) rfl F48 rfl M48 12 (t := 29) (c := msgA ⟨0, 0, 0, 0, "".toUTF8, 0, 0, [], [], [], [], []⟩ ⟨zN, zN, zN, zN, zN⟩) (by unfold execOp; kernel_rfl) ?_
 intro g49 a49 w49 F49 M49
 clear F48 M48
 refine zl (za rfl) rfl F49 M49 (k := 11) rfl _ _ _ rfl (F49.get rfl) (F49.get rfl) (msgA m V42) _ rfl (Nat.le_of_ble_eq_true rfl) (z0 (w := w49) ⟨(M49.isb (k := 1) rfl), (M49.isb (k := 2) rfl), (M49.isb (k := 3) rfl), (M49.isb (k := 4) rfl), (M49.isb (k := 5) rfl)⟩) (zu rfl) (by kernel_rfl) ?_
 intro w50 M50
 clear M49
 refine zl (za rfl) rfl F49 M50 (k := 12) rfl _ _ _ rfl (F49.get rfl) (F49.get rfl) (msgA m V47) _ rfl (Nat.le_of_ble_eq_true rfl) (z0 (w := w50) ⟨(M50.isb (k := 6) rfl), (M50.isb (k := 7) rfl), (M50.isb (k := 8) rfl), (M50.isb (k := 9) rfl), (M50.isb (k := 10) rfl)⟩) (zu rfl) (by kernel_rfl) ?_
 intro w51 M51
 clear M50
 refine hK37 _ _ (zS fun _ hK52 => ?_)
 refine zR ?_
 refine rn rfl rfl F49 rfl _ (zja _ _ rfl (F49.get rfl) (M51.blk (k := 11) rfl) (msgA m V42) (zla rfl) Try.underlying29 rfl (by kernel_rfl)) fun _ F53 => ?_
 refine zd (za rfl) rfl F53 rfl rfl (zE Try.func17 rfl) #[.agg (msgA m V42)] (zw (F53.get rfl)) (enc_is m V42 om zm qm xm hm1 hm2 w51 ⟨(M51.isb (k := 1) rfl), (M51.isb (k := 2) rfl), (M51.isb (k := 3) rfl), (M51.isb (k := 4) rfl), (M51.isb (k := 5) rfl)⟩) ?_
 rintro _ w54 a54 ⟨v54, rfl, hv54, b54⟩ F54
 have M54 := M51.newO b54 13 hv54
 clear M51 b54 hv54
 obtain ⟨A54, c54, rfl⟩ := (M54.isO (k := 13) rfl).shape
 refine zB 5 [(1, .int .i64 a1), (2, .string a2), (3, .slice A3 n3 cap3), (8, .bool false), (9, .pointer (some ⟨g48, 0, none⟩)), (10, .pointer (some ⟨g49, 0, none⟩)), (11, .slice A54 (xm).length c54), (12, .bool qm)] [] dnil [] F54 fun _ F55 => ?_
 refine hK52 _ _ (zS fun _ hK56 => ?_)
 refine zT fun _ hK57 => ?_
 refine rm rfl F55 fun _ F58 => ?_
 cases qm
 ·refine rn rfl rfl F58 rfl (.bool true) (run_not _ _ rfl (F58.get (t := 53) rfl)) fun _ F59 => ?_
  refine hK57 _ _ (wp_cond_true (F59.get rfl) ?_)
  refine zT fun _ hK60 => ?_
  refine rm rfl F59 fun _ F61 => ?_
  refine hK60 _ _ (wp_ret ?_)
  try simp only [Exit.then, Exit.inBlock, Exit.jump]
  exact bodyPost_ret (res1 rfl (F61.get rfl)) F61.defers ⟨rfl, M54.below⟩
 obtain ⟨d1, d2⟩ := decOk_enc om hm1
 rw [hm2] at d1 d2
 have hln := encOk_len hm1
 refine rn rfl rfl F58 rfl (.bool false) (run_not _ _ rfl (F58.get (t := 53) rfl)) fun _ F62 => ?_
 refine hK57 _ _ (wp_cond_false (F62.get rfl) ?_)
 refine wp_skip ?_
 refine hK56 _ _ (zS fun _ hK63 => ?_)
 refine zR ?_
 refine rm rfl F62 fun _ F64 => ?_
 refine zd (za rfl) rfl F64 rfl rfl (zE Try.func20 rfl) #[.slice A54 (xm).length c54] (zw (F64.get rfl)) (decw_is xm (.slice A54 (xm).length c54) (by omega) true m d1 d2 w54 (M54.isO (k := 13) rfl)) ?_
 rintro _ w65 a65 ⟨V65, rfl, is65, lo65, uz65, b65⟩ F65
 obtain ⟨va, vb, vc, vd, ve⟩ := V65
 obtain ⟨Aa, ca, rfl⟩ := (show IsB _ m.l5 va from is65.h5).shape
 obtain ⟨Ab, cb, rfl⟩ := (show IsB _ m.l6 vb from is65.h6).shape
 obtain ⟨Ac, cc, rfl⟩ := (show IsB _ m.l7 vc from is65.h7).shape
 obtain ⟨Ad, cd, rfl⟩ := (show IsB _ m.l8 vd from is65.h8).shape
 obtain ⟨Ae, ce, rfl⟩ := (show IsB _ m.l9 ve from is65.h9).shape
 have M65 := M54.blob b65 14 (fp := zna (MsgV.mk (.slice Aa m.l5.length ca) (.slice Ab m.l6.length cb) (.slice Ac m.l7.length cc) (.slice Ad m.l8.length cd) (.slice Ae m.l9.length ce))) (Vs := [(.slice Aa m.l5.length ca, m.l5.length), (.slice Ab m.l6.length cb, m.l6.length), (.slice Ac m.l7.length cc, m.l7.length), (.slice Ad m.l8.length cd, m.l8.length), (.slice Ae m.l9.length ce, m.l9.length)]) uz65 (by
  intro p hp
  simp only [List.mem_cons, List.not_mem_nil, or_false] at hp
  rcases hp with rfl | rfl | rfl | rfl | rfl
  ·exact ⟨fun g h => .inl h, m.l5, rfl, is65.h5⟩
  ·exact ⟨fun g h => .inr (.inl h), m.l6, rfl, is65.h6⟩
  ·exact ⟨fun g h => .inr (.inr (.inl h)), m.l7, rfl, is65.h7⟩
  ·exact ⟨fun g h => .inr (.inr (.inr (.inl h))), m.l8, rfl, is65.h8⟩
  ·exact ⟨fun g h => .inr (.inr (.inr (.inr h))), m.l9, rfl, is65.h9⟩) lo65
 clear M54 b65 lo65
 refine rm rfl F65 fun _ F66 => ?_
 refine rn rfl rfl F66 rfl (.agg (msgA m (MsgV.mk (.slice Aa m.l5.length ca) (.slice Ab m.l6.length cb) (.slice Ac m.l7.length cc) (.slice Ad m.l8.length cd) (.slice Ae m.l9.length ce)))) (y_ext _ _ rfl (F66.get rfl) rfl) fun _ F67 => ?_
 refine rn rfl rfl F67 rfl (.bool true) (y_ext _ _ rfl (F67.get rfl) rfl) fun _ F68 => ?_
 refine zg (za rfl) rfl F68 rfl M65 15 (t := 29) (c := msgA ⟨0, 0, 0, 0, "".toUTF8, 0, 0, [], [], [], [], []⟩ ⟨zN, zN, zN, zN, zN⟩) (by unfold execOp; kernel_rfl) ?_
 intro g69 a69 w69 F69 M69
 clear F68 M65
 refine zl (za rfl) rfl F69 M69 (k := 15) rfl _ _ _ rfl (F69.get rfl) (F69.get rfl) (msgA m (MsgV.mk (.slice Aa m.l5.length ca) (.slice Ab m.l6.length cb) (.slice Ac m.l7.length cc) (.slice Ad m.l8.length cd) (.slice Ae m.l9.length ce))) _ rfl (Nat.le_of_ble_eq_true rfl) (z0 is65) (zu rfl) (by kernel_rfl) ?_
 intro w70 M70
 clear M69
 refine rm rfl F69 fun _ F71 => ?_
 refine hK63 _ _ (zS fun _ hK72 => ?_)
 refine zR ?_
 refine zB 10 [(1, .int .i64 a1), (2, .string a2), (3, .slice A3 n3 cap3), (8, .bool false), (9, .pointer (some ⟨g48, 0, none⟩)), (10, .pointer (some ⟨g49, 0, none⟩)), (11, .slice A54 (xm).length c54), (61, .slice Aa m.l5.length ca), (63, .slice Ab m.l6.length cb), (65, .slice Ac m.l7.length cc), (67, .slice Ad m.l8.length cd), (69, .slice Ae m.l9.length ce)] [0, 0, 0, 0, 0] (zk (M70.blk (k := 15) rfl) dnil) [g69, g69, g69, g69, g69] F71 fun _ F73 => ?_
 refine zya (za rfl) rfl F73 rfl M70 16 (t := 22) (c := #[.slice Aa m.l5.length ca, .slice Ab m.l6.length cb, .slice Ac m.l7.length cc, .slice Ad m.l8.length cd, .slice Ae m.l9.length ce]) (k := 5) (m := 5) (y_litG 41 22 (s := 1) (zv := zN) Try.underlying41 (by kernel_rfl) (by kernel_rfl) rfl (#[.slice Aa m.l5.length ca, .slice Ab m.l6.length cb, .slice Ac m.l7.length cc, .slice Ad m.l8.length cd, .slice Ae m.l9.length ce]) (by decide) (by decide) (by simp only [List.map_toArray, List.map_cons, List.map_nil, (F73.get (t := 61) rfl), (F73.get (t := 63) rfl), (F73.get (t := 65) rfl), (F73.get (t := 67) rfl), (F73.get (t := 69) rfl)]; kernel_rfl)) ?_
 intro g74 a74 w74 F74 M74
 clear F73 M70
 refine rm rfl F74 fun _ F75 => ?_
 refine hK72 _ _ (zS fun _ hK76 => ?_)
 refine zT fun _ hK77 => ?_
 refine rm rfl F75 fun _ F78 => ?_
 refine hK77 _ _ (wp_block ?_)
 refine loop_fx (α := Nat) (n := 161) (G := none) (w0 := w) (fun x => [(1, .int .i64 a1), (2, .string a2), (3, .slice A3 n3 cap3), (9, .pointer (some ⟨g48, 0, none⟩)), (10, .pointer (some ⟨g49, 0, none⟩)), (11, .slice A54 (xm).length c54), (15, .slice (some ⟨g74, 0, none⟩) 5 5), (16, .int .i64 (x : Int))]) (fun x => [(0, bytR l3 (.slice A3 n3 cap3)), (1, bytR m.l5 V42.v5), (2, bytR m.l6 V42.v6), (3, bytR m.l7 V42.v7), (4, bytR m.l8 V42.v8), (5, bytR m.l9 V42.v9), (6, bytR m.l5 V47.v5), (7, bytR m.l6 V47.v6), (8, bytR m.l7 V47.v7), (9, bytR m.l8 V47.v8), (10, bytR m.l9 V47.v9), (11, blkR g48 29 (msgA m V42)), (12, blkR g49 29 (msgA m V47)), (13, ownR xm (.slice A54 (xm).length c54)), (14, blobR (zna (MsgV.mk (.slice Aa m.l5.length ca) (.slice Ab m.l6.length cb) (.slice Ac m.l7.length cc) (.slice Ad m.l8.length cd) (.slice Ae m.l9.length ce))) [(.slice Aa m.l5.length ca, m.l5.length), (.slice Ab m.l6.length cb, m.l6.length), (.slice Ac m.l7.length cc, m.l7.length), (.slice Ad m.l8.length cd, m.l8.length), (.slice Ae m.l9.length ce, m.l9.length)]), (15, blkR g69 29 (msgA m (MsgV.mk (.slice Aa m.l5.length ca) (.slice Ab m.l6.length cb) (.slice Ac m.l7.length cc) (.slice Ad m.l8.length cd) (.slice Ae m.l9.length ce)))), (16, blkR g74 22 (#[.slice Aa m.l5.length ca, .slice Ab m.l6.length cb, .slice Ac m.l7.length cc, .slice Ad m.l8.length cd, .slice Ae m.l9.length ce]))]) (fun k x => k = (5 - x) ∧ (x ≤ 5)) _ 0 ⟨rfl, (by decide)⟩ (F78.sub ⟨rfl, rfl, rfl, rfl, rfl, rfl, rfl, rfl, trivial⟩) (M74.sub ⟨rfl, rfl, rfl, rfl, rfl, rfl, rfl, rfl, rfl, rfl, rfl, rfl, rfl, rfl, rfl, rfl, rfl, trivial⟩) ?_
 clear F78 M74
 rintro k79 jn a79 w79 K79 ⟨ek79, I79⟩ F79 M79 hK79
 replace F79 : Fx 161 a79 [(1, .int .i64 a1), (2, .string a2), (3, .slice A3 n3 cap3), (9, .pointer (some ⟨g48, 0, none⟩)), (10, .pointer (some ⟨g49, 0, none⟩)), (11, .slice A54 (xm).length c54), (15, .slice (some ⟨g74, 0, none⟩) 5 5), (16, .int .i64 (jn : Int))] := F79
 replace M79 : Mx _ _ w79 [(0, bytR l3 (.slice A3 n3 cap3)), (1, bytR m.l5 V42.v5), (2, bytR m.l6 V42.v6), (3, bytR m.l7 V42.v7), (4, bytR m.l8 V42.v8), (5, bytR m.l9 V42.v9), (6, bytR m.l5 V47.v5), (7, bytR m.l6 V47.v6), (8, bytR m.l7 V47.v7), (9, bytR m.l8 V47.v8), (10, bytR m.l9 V47.v9), (11, blkR g48 29 (msgA m V42)), (12, blkR g49 29 (msgA m V47)), (13, ownR xm (.slice A54 (xm).length c54)), (14, blobR (zna (MsgV.mk (.slice Aa m.l5.length ca) (.slice Ab m.l6.length cb) (.slice Ac m.l7.length cc) (.slice Ad m.l8.length cd) (.slice Ae m.l9.length ce))) [(.slice Aa m.l5.length ca, m.l5.length), (.slice Ab m.l6.length cb, m.l6.length), (.slice Ac m.l7.length cc, m.l7.length), (.slice Ad m.l8.length cd, m.l8.length), (.slice Ae m.l9.length ce, m.l9.length)]), (15, blkR g69 29 (msgA m (MsgV.mk (.slice Aa m.l5.length ca) (.slice Ab m.l6.length cb) (.slice Ac m.l7.length cc) (.slice Ad m.l8.length cd) (.slice Ae m.l9.length ce)))), (16, blkR g74 22 (#[.slice Aa m.l5.length ca, .slice Ab m.l6.length cb, .slice Ac m.l7.length cc, .slice Ad m.l8.length cd, .slice Ae m.l9.length ce]))] := M79
 replace I79 : jn ≤ 5 := I79
 replace ek79 : k79 = (5 - jn) := ek79
 refine zS fun _ hK80 => zS fun _ hK81 => ?_
 refine zR ?_
 refine rm rfl F79 fun _ F82 => ?_
 refine rm rfl F82 fun _ F83 => ?_
 refine rn rfl rfl F83 rfl (.int .i64 5) (y_lnG 41 Try.underlying41 _ rfl (F83.get rfl) rfl) fun _ F84 => ?_
 by_cases h85 : (jn : Int) < 5
 ·have hj5 : jn < 5 := by omega
  obtain ⟨bv, nb, hbv, hmem⟩ : ∃ (bv : Value) (nb : Nat), (#[.slice Aa m.l5.length ca, .slice Ab m.l6.length cb, .slice Ac m.l7.length cc, .slice Ad m.l8.length cd, .slice Ae m.l9.length ce] : Array Value)[jn]? = some bv ∧ (bv, nb) ∈ ([(.slice Aa m.l5.length ca, m.l5.length), (.slice Ab m.l6.length cb, m.l6.length), (.slice Ac m.l7.length cc, m.l7.length), (.slice Ad m.l8.length cd, m.l8.length), (.slice Ae m.l9.length ce, m.l9.length)] : List (Value × Nat)) := by
   match jn, hj5 with
   | 0, _ => exact ⟨_, _, rfl, (List.Mem.head _)⟩
   | 1, _ => exact ⟨_, _, rfl, (List.Mem.tail _ (List.Mem.head _))⟩
   | 2, _ => exact ⟨_, _, rfl, (List.Mem.tail _ (List.Mem.tail _ (List.Mem.head _)))⟩
   | 3, _ => exact ⟨_, _, rfl, (List.Mem.tail _ (List.Mem.tail _ (List.Mem.tail _ (List.Mem.head _))))⟩
   | 4, _ => exact ⟨_, _, rfl, (List.Mem.tail _ (List.Mem.tail _ (List.Mem.tail _ (List.Mem.tail _ (List.Mem.head _)))))⟩
   | n + 5, h => exact absurd h (by omega)
  obtain ⟨Abv, cbv, rfl⟩ : ∃ A c, bv = .slice A nb c := by
   obtain ⟨l, hl, hB⟩ := M79.blobAt (k := 14) rfl hmem
   obtain ⟨A, c, e⟩ := hB.shape
   have hl : l.length = nb := hl
   rw [hl] at e
   exact ⟨A, c, e⟩
  have hnb : nb ≤ 1000000 := by
   simp only [List.mem_cons, List.not_mem_nil, or_false, Prod.mk.injEq] at hmem
   rcases hmem with ⟨-, e⟩ | ⟨-, e⟩ | ⟨-, e⟩ | ⟨-, e⟩ | ⟨-, e⟩ <;> (subst e; omega)
  refine rn rfl rfl F84 rfl (.bool true) (z2a _ _ _ _ rfl (F84.get rfl) (F84.get rfl) (decide_eq_true h85)) fun _ F86 => ?_
  refine hK81 _ _ (wp_cond_true (F86.get rfl) ?_)
  refine wp_skip ?_
  refine hK80 _ _ (zS fun _ hK87 => ?_)
  refine wp_block ?_
  refine zT fun _ hK88 => ?_
  refine rm rfl F86 fun _ F89 => ?_
  refine hK88 _ _ (wp_block ?_)
  refine loop_fx (α := Nat) (n := 161) (G := none) (w0 := w) (fun x => [(1, .int .i64 a1), (2, .string a2), (3, .slice A3 n3 cap3), (9, .pointer (some ⟨g48, 0, none⟩)), (10, .pointer (some ⟨g49, 0, none⟩)), (11, .slice A54 (xm).length c54), (15, .slice (some ⟨g74, 0, none⟩) 5 5), (16, .int .i64 (jn : Int)), (17, .int .i64 (x : Int))]) (fun x => [(0, bytR l3 (.slice A3 n3 cap3)), (1, bytR m.l5 V42.v5), (2, bytR m.l6 V42.v6), (3, bytR m.l7 V42.v7), (4, bytR m.l8 V42.v8), (5, bytR m.l9 V42.v9), (6, bytR m.l5 V47.v5), (7, bytR m.l6 V47.v6), (8, bytR m.l7 V47.v7), (9, bytR m.l8 V47.v8), (10, bytR m.l9 V47.v9), (11, blkR g48 29 (msgA m V42)), (12, blkR g49 29 (msgA m V47)), (13, ownR xm (.slice A54 (xm).length c54)), (14, blobR (zna (MsgV.mk (.slice Aa m.l5.length ca) (.slice Ab m.l6.length cb) (.slice Ac m.l7.length cc) (.slice Ad m.l8.length cd) (.slice Ae m.l9.length ce))) [(.slice Aa m.l5.length ca, m.l5.length), (.slice Ab m.l6.length cb, m.l6.length), (.slice Ac m.l7.length cc, m.l7.length), (.slice Ad m.l8.length cd, m.l8.length), (.slice Ae m.l9.length ce, m.l9.length)]), (15, blkR g69 29 (msgA m (MsgV.mk (.slice Aa m.l5.length ca) (.slice Ab m.l6.length cb) (.slice Ac m.l7.length cc) (.slice Ad m.l8.length cd) (.slice Ae m.l9.length ce)))), (16, blkR g74 22 (#[.slice Aa m.l5.length ca, .slice Ab m.l6.length cb, .slice Ac m.l7.length cc, .slice Ad m.l8.length cd, .slice Ae m.l9.length ce]))]) (fun k x => k = (nb - x) ∧ (x ≤ nb)) _ 0 ⟨rfl, (Nat.zero_le _)⟩ (F89.sub ⟨rfl, rfl, rfl, rfl, rfl, rfl, rfl, rfl, rfl, trivial⟩) (M79.sub ⟨rfl, rfl, rfl, rfl, rfl, rfl, rfl, rfl, rfl, rfl, rfl, rfl, rfl, rfl, rfl, rfl, rfl, trivial⟩) ?_
  clear F89 M79
  rintro k90 kn a90 w90 K90 ⟨ek90, I90⟩ F90 M90 hK90
  replace F90 : Fx 161 a90 [(1, .int .i64 a1), (2, .string a2), (3, .slice A3 n3 cap3), (9, .pointer (some ⟨g48, 0, none⟩)), (10, .pointer (some ⟨g49, 0, none⟩)), (11, .slice A54 (xm).length c54), (15, .slice (some ⟨g74, 0, none⟩) 5 5), (16, .int .i64 (jn : Int)), (17, .int .i64 (kn : Int))] := F90
  replace M90 : Mx _ _ w90 [(0, bytR l3 (.slice A3 n3 cap3)), (1, bytR m.l5 V42.v5), (2, bytR m.l6 V42.v6), (3, bytR m.l7 V42.v7), (4, bytR m.l8 V42.v8), (5, bytR m.l9 V42.v9), (6, bytR m.l5 V47.v5), (7, bytR m.l6 V47.v6), (8, bytR m.l7 V47.v7), (9, bytR m.l8 V47.v8), (10, bytR m.l9 V47.v9), (11, blkR g48 29 (msgA m V42)), (12, blkR g49 29 (msgA m V47)), (13, ownR xm (.slice A54 (xm).length c54)), (14, blobR (zna (MsgV.mk (.slice Aa m.l5.length ca) (.slice Ab m.l6.length cb) (.slice Ac m.l7.length cc) (.slice Ad m.l8.length cd) (.slice Ae m.l9.length ce))) [(.slice Aa m.l5.length ca, m.l5.length), (.slice Ab m.l6.length cb, m.l6.length), (.slice Ac m.l7.length cc, m.l7.length), (.slice Ad m.l8.length cd, m.l8.length), (.slice Ae m.l9.length ce, m.l9.length)]), (15, blkR g69 29 (msgA m (MsgV.mk (.slice Aa m.l5.length ca) (.slice Ab m.l6.length cb) (.slice Ac m.l7.length cc) (.slice Ad m.l8.length cd) (.slice Ae m.l9.length ce)))), (16, blkR g74 22 (#[.slice Aa m.l5.length ca, .slice Ab m.l6.length cb, .slice Ac m.l7.length cc, .slice Ad m.l8.length cd, .slice Ae m.l9.length ce]))] := M90
  replace I90 : kn ≤ nb := I90
  replace ek90 : k90 = (nb - kn) := ek90
  have hkn := I90
  obtain ⟨lv, hlv, hB⟩ := M90.blobAt (k := 14) rfl hmem
  have hlv : lv.length = nb := hlv
  by_cases hlt : kn < nb
  rotate_left
  ·refine zS fun _ hK114 => ?_
   refine zT fun _ hK115 => ?_
   refine rm rfl F90 fun _ F116 => ?_
   refine rm rfl F116 fun _ F117 => ?_
   refine rm rfl F117 fun _ F118 => ?_
   refine rn rfl rfl F118 rfl (.pointer (some ⟨g74, (0 + jn * 1), none⟩)) (y_ixG 41 (s := 1) Try.underlying41 (by kernel_rfl) _ _ rfl (F118.get rfl) (F118.get rfl) rfl (by omega) rfl) fun _ F119 => ?_
   refine rn rfl rfl F119 rfl ((.slice Abv nb cbv)) (y_ld1 _ _ rfl (F119.get rfl) (M90.blk (k := 16) rfl) (show _ from by rw [Nat.zero_add, Nat.mul_one]; exact hbv) Try.underlying22 rfl) fun _ F120 => ?_
   refine rn rfl rfl F120 rfl (.int .i64 (nb : Int)) (zda _ rfl (F120.get rfl) hB (show ((lv.length : Nat) : Int) = (nb : Int) by omega)) fun _ F121 => ?_
   refine rn rfl rfl F121 rfl (.bool false) (z2a _ _ _ _ rfl (F121.get rfl) (F121.get rfl) (decide_eq_false (show ¬ (kn : Int) < (nb : Int) by omega))) fun _ F122 => ?_
   refine hK115 _ _ (wp_cond_false (F122.get rfl) ?_)
   refine wp_exit ?_
   simp only [Exit.then, Exit.inBlock, ↓reduceIte, Nat.reduceEqDiff]
   refine hK87 _ _ (zR ?_)
   refine rm rfl F122 fun _ F123 => ?_
   refine rn rfl rfl F123 rfl (.int .i64 ((jn + 1 : Nat) : Int)) (zy _ _ _ _ rfl (F123.get rfl) rfl (by omega) (by omega)) fun _ F124 => ?_
   refine rm rfl F124 fun _ F125 => ?_
   subst ek79
   exact hK79 _ (jn + 1) _ _ (by omega) ⟨rfl, (by omega)⟩ (F125.sub ⟨rfl, rfl, rfl, rfl, rfl, rfl, rfl, rfl, trivial⟩) (M90.sub ⟨rfl, rfl, rfl, rfl, rfl, rfl, rfl, rfl, rfl, rfl, rfl, rfl, rfl, rfl, rfl, rfl, rfl, trivial⟩)
  obtain ⟨bb, hbb⟩ : ∃ b, lv[kn]? = some b := ⟨_, List.getElem?_eq_getElem (by omega)⟩
  refine zS fun _ hK91 => zS fun _ hK92 => ?_
  refine zR ?_
  refine rm rfl F90 fun _ F93 => ?_
  refine rm rfl F93 fun _ F94 => ?_
  refine rm rfl F94 fun _ F95 => ?_
  refine rn rfl rfl F95 rfl (.pointer (some ⟨g74, (0 + jn * 1), none⟩)) (y_ixG 41 (s := 1) Try.underlying41 (by kernel_rfl) _ _ rfl (F95.get rfl) (F95.get rfl) rfl (by omega) rfl) fun _ F96 => ?_
  refine rn rfl rfl F96 rfl ((.slice Abv nb cbv)) (y_ld1 _ _ rfl (F96.get rfl) (M90.blk (k := 16) rfl) (show _ from by rw [Nat.zero_add, Nat.mul_one]; exact hbv) Try.underlying22 rfl) fun _ F97 => ?_
  refine rn rfl rfl F97 rfl (.int .i64 (nb : Int)) (zda _ rfl (F97.get rfl) hB (show ((lv.length : Nat) : Int) = (nb : Int) by omega)) fun _ F98 => ?_
  refine rn rfl rfl F98 rfl (.bool true) (z2a _ _ _ _ rfl (F98.get rfl) (F98.get rfl) (decide_eq_true (show (kn : Int) < (nb : Int) by omega))) fun _ F99 => ?_
  refine hK92 _ _ (wp_cond_true (F99.get rfl) ?_)
  refine wp_skip ?_
  refine hK91 _ _ (zS fun _ hK100 => ?_)
  refine wp_block ?_
  refine zR ?_
  refine rm rfl F99 fun _ F101 => ?_
  refine rm rfl F101 fun _ F102 => ?_
  refine rn rfl rfl F102 rfl (.pointer (some ⟨g74, (0 + jn * 1), none⟩)) (y_ixG 41 (s := 1) Try.underlying41 (by kernel_rfl) _ _ rfl (F102.get rfl) (F102.get rfl) rfl (by omega) rfl) fun _ F103 => ?_
  refine rn rfl rfl F103 rfl ((.slice Abv nb cbv)) (y_ld1 _ _ rfl (F103.get rfl) (M90.blk (k := 16) rfl) (show _ from by rw [Nat.zero_add, Nat.mul_one]; exact hbv) Try.underlying22 rfl) fun _ F104 => ?_
  refine rm rfl F104 fun _ F105 => ?_
  refine rn rfl rfl F105 rfl ((ixV ((.slice Abv nb cbv)) kn)) (y_ixB _ _ rfl (F105.get rfl) hB (F105.get rfl) rfl (by omega)) fun _ F106 => ?_
  refine rn rfl rfl F106 rfl (.int .u8 ((bb.toNat : Nat) : Int)) (y_ldB _ rfl (F106.get rfl) hB hbb rfl) fun _ F107 => ?_
  refine rn rfl rfl F107 rfl (.int .u8 (((zx (((bb.toNat : Nat) : Int) + 1)).toNat : Nat) : Int)) (y_addU8 _ _ _ _ rfl (F107.get rfl) rfl) fun _ F108 => ?_
  refine rn rfl rfl F108 rfl ((ixV ((.slice Abv nb cbv)) kn)) (y_ixB _ _ rfl (F108.get rfl) hB (F108.get rfl) rfl (by omega)) fun _ F109 => ?_
  refine wl_doM (za rfl) rfl F109 (run_setW M90 (k := 14) rfl hmem _ _ rfl (F109.get rfl) (zx (((bb.toNat : Nat) : Int) + 1)) (F109.get rfl) rfl (by dsimp only; omega)) ?_
  intro w110 M110
  clear M90
  refine hK100 _ _ (zR ?_)
  refine rm rfl F109 fun _ F111 => ?_
  refine rn rfl rfl F111 rfl (.int .i64 ((kn + 1 : Nat) : Int)) (zy _ _ _ _ rfl (F111.get rfl) rfl (by omega) (by omega)) fun _ F112 => ?_
  refine rm rfl F112 fun _ F113 => ?_
  subst ek90
  exact hK90 _ (kn + 1) _ _ (by omega) ⟨rfl, (by omega)⟩ (F113.sub ⟨rfl, rfl, rfl, rfl, rfl, rfl, rfl, rfl, rfl, trivial⟩) (M110.sub ⟨rfl, rfl, rfl, rfl, rfl, rfl, rfl, rfl, rfl, rfl, rfl, rfl, rfl, rfl, rfl, rfl, rfl, trivial⟩)
 refine rn rfl rfl F84 rfl (.bool false) (z2a _ _ _ _ rfl (F84.get rfl) (F84.get rfl) (decide_eq_false h85)) fun _ F126 => ?_
 refine hK81 _ _ (wp_cond_false (F126.get rfl) ?_)
 refine wp_exit ?_
 simp only [Exit.then, Exit.inBlock, ↓reduceIte, Nat.reduceEqDiff]
 refine hK76 _ _ (zS fun _ hK127 => ?_)
 refine zR ?_
 refine rm rfl F126 fun _ F128 => ?_
 refine zd (za rfl) rfl F128 rfl rfl (zE Try.func20 rfl) #[.slice A54 (xm).length c54] (zw (F128.get rfl)) (dec_is xm (.slice A54 (xm).length c54) (by omega) true m d1 d2 w79 (M79.isO (k := 13) rfl)) ?_
 rintro _ w129 a129 ⟨V129, rfl, is129, lo129, b129⟩ F129
 have M129 := M79.newMsg b129 is129 lo129 17 18 19 20 21
 clear M79 b129 lo129
 refine zA 3 [(95, .tuple #[.agg (msgA m V129), .bool true]), (98, .agg (msgA m V129)), (99, .bool true)] [] dnil [] F129 fun _ F130 => ?_
 refine zg (za rfl) rfl F130 rfl M129 22 (t := 29) (c := msgA ⟨0, 0, 0, 0, "".toUTF8, 0, 0, [], [], [], [], []⟩ ⟨zN, zN, zN, zN, zN⟩) (by unfold execOp; kernel_rfl) ?_
 intro g131 a131 w131 F131 M131
 clear F130 M129
 refine zl (za rfl) rfl F131 M131 (k := 22) rfl _ _ _ rfl (F131.get rfl) (F131.get rfl) (msgA m V129) _ rfl (Nat.le_of_ble_eq_true rfl) (z0 (w := w131) ⟨(M131.isb (k := 17) rfl), (M131.isb (k := 18) rfl), (M131.isb (k := 19) rfl), (M131.isb (k := 20) rfl), (M131.isb (k := 21) rfl)⟩) (zu rfl) (by kernel_rfl) ?_
 intro w132 M132
 clear M131
 refine rm rfl F131 fun _ F133 => ?_
 refine hK127 _ _ (zS fun _ hK134 => ?_)
 refine zR ?_
 refine rm rfl F133 fun _ F135 => ?_
 refine rm rfl F135 fun _ F136 => ?_
 refine rm rfl F136 fun _ F137 => ?_
 refine zd (za rfl) rfl F137 rfl rfl (zE Try.func34 rfl) #[.int .i64 a1, .string a2, .slice A3 n3 cap3] (args3 (F137.get rfl) (F137.get rfl) (F137.get rfl)) (maker_is a1 a2 l3 (.slice A3 n3 cap3) ⟨hk1, hl1⟩ hs (by omega) r er w132 (M132.isb (k := 0) rfl)) ?_
 rintro _ w138 a138 ⟨V138, rfl, is138, lo138, b138⟩ F138
 have M138 := M132.newRec b138 is138 lo138 23 24
 clear M132 b138 lo138
 refine zg (za rfl) rfl F138 rfl M138 25 (t := 54) (c := recA ⟨0, "".toUTF8, [], 0, 0, [], 0, 0, 0⟩ ⟨zN, zN⟩) (by unfold execOp; kernel_rfl) ?_
 intro g139 a139 w139 F139 M139
 clear F138 M138
 refine zl (za rfl) rfl F139 M139 (k := 25) rfl _ _ _ rfl (F139.get rfl) (F139.get rfl) (recA r V138) _ rfl (Nat.le_of_ble_eq_true rfl) (zmb (w := w139) ⟨(M139.isb (k := 23) rfl), (M139.isb (k := 24) rfl)⟩) (zu rfl) (by kernel_rfl) ?_
 intro w140 M140
 clear M139
 refine hK134 _ _ (zS fun _ hK141 => ?_)
 refine zR ?_
 refine rn rfl rfl F139 rfl _ (zja _ _ rfl (F139.get rfl) (M140.blk (k := 25) rfl) (recA r V138) (zla rfl) Try.underlying54 rfl (by kernel_rfl)) fun _ F142 => ?_
 refine zd (za rfl) rfl F142 rfl rfl (zE Try.func35 rfl) #[.agg (recA r V138)] (zw (F142.get rfl)) (rec_is r V138 or true xr pr hr2 w140 ⟨(M140.isb (k := 23) rfl), (M140.isb (k := 24) rfl)⟩) ?_
 rintro _ w143 a143 ⟨v143, rfl, hv143, b143⟩ F143
 have M143 := M140.newO b143 26 hv143
 clear M140 b143 hv143
 obtain ⟨A143, c143, rfl⟩ := (M143.isO (k := 26) rfl).shape
 refine zA 5 [(104, .tuple #[.slice A143 (xr).length c143, .bool true]), (107, .slice A143 (xr).length c143), (108, .bool true), (21, .slice A143 (xr).length c143), (22, .bool true)] [] dnil [] F143 fun _ F144 => ?_
 refine hK141 _ _ (zS fun _ hK145 => ?_)
 refine zR ?_
 refine rm rfl F144 fun _ F146 => ?_
 refine zd (za rfl) rfl F146 rfl rfl (zE Try.func37 rfl) #[.slice A143 (xr).length c143] (zw (F146.get rfl)) (rdw_is xr (.slice A143 (xr).length c143) (by omega) true r y1 y2 w143 (M143.isO (k := 26) rfl)) ?_
 rintro _ w147 a147 ⟨V147, rfl, is147, lo147, uz147, b147⟩ F147
 obtain ⟨vs2, vs5⟩ := V147
 obtain ⟨As, cs, rfl⟩ := (show IsB _ r.l2 vs2 from is147.h2).shape
 have M147 := M143.blob b147 27 (fp := bfp (.slice As r.l2.length cs)) (Vs := [(.slice As r.l2.length cs, r.l2.length)]) uz147 (by
  intro p hp
  obtain rfl := List.mem_singleton.1 hp
  exact ⟨fun g h => h, r.l2, rfl, is147.h2⟩) (fun g h => lo147 g (.inl h))
 clear M143 b147 lo147
 refine zA 3 [(109, .tuple #[.agg (recA r ⟨.slice As r.l2.length cs, vs5⟩), .bool true]), (112, .agg (recA r ⟨.slice As r.l2.length cs, vs5⟩)), (113, .bool true)] [] dnil [] F147 fun _ F148 => ?_
 refine zg (za rfl) rfl F148 rfl M147 28 (t := 54) (c := recA ⟨0, "".toUTF8, [], 0, 0, [], 0, 0, 0⟩ ⟨zN, zN⟩) (by unfold execOp; kernel_rfl) ?_
 intro g149 a149 w149 F149 M149
 clear F148 M147
 refine zl (za rfl) rfl F149 M149 (k := 28) rfl _ _ _ rfl (F149.get rfl) (F149.get rfl) (recA r ⟨.slice As r.l2.length cs, vs5⟩) _ rfl (Nat.le_of_ble_eq_true rfl) (zmb is147) (zu rfl) (by kernel_rfl) ?_
 intro w150 M150
 clear M149
 refine rm rfl F149 fun _ F151 => ?_
 refine hK145 _ _ (zS fun _ hK152 => ?_)
 refine zT fun _ hK153 => ?_
 refine rm rfl F151 fun _ F154 => ?_
 refine hK153 _ _ (wp_block ?_)
 refine loop_fx (α := Nat) (n := 161) (G := none) (w0 := w) (fun x => [(1, .int .i64 a1), (2, .string a2), (3, .slice A3 n3 cap3), (9, .pointer (some ⟨g48, 0, none⟩)), (10, .pointer (some ⟨g49, 0, none⟩)), (18, .pointer (some ⟨g131, 0, none⟩)), (19, .bool true), (20, .pointer (some ⟨g139, 0, none⟩)), (21, .slice A143 (xr).length c143), (23, .pointer (some ⟨g149, 0, none⟩)), (25, .int .i64 (x : Int))]) (fun x => [(0, bytR l3 (.slice A3 n3 cap3)), (1, bytR m.l5 V42.v5), (2, bytR m.l6 V42.v6), (3, bytR m.l7 V42.v7), (4, bytR m.l8 V42.v8), (5, bytR m.l9 V42.v9), (6, bytR m.l5 V47.v5), (7, bytR m.l6 V47.v6), (8, bytR m.l7 V47.v7), (9, bytR m.l8 V47.v8), (10, bytR m.l9 V47.v9), (11, blkR g48 29 (msgA m V42)), (12, blkR g49 29 (msgA m V47)), (13, ownR xm (.slice A54 (xm).length c54)), (14, blobR (zna (MsgV.mk (.slice Aa m.l5.length ca) (.slice Ab m.l6.length cb) (.slice Ac m.l7.length cc) (.slice Ad m.l8.length cd) (.slice Ae m.l9.length ce))) [(.slice Aa m.l5.length ca, m.l5.length), (.slice Ab m.l6.length cb, m.l6.length), (.slice Ac m.l7.length cc, m.l7.length), (.slice Ad m.l8.length cd, m.l8.length), (.slice Ae m.l9.length ce, m.l9.length)]), (15, blkR g69 29 (msgA m (MsgV.mk (.slice Aa m.l5.length ca) (.slice Ab m.l6.length cb) (.slice Ac m.l7.length cc) (.slice Ad m.l8.length cd) (.slice Ae m.l9.length ce)))), (16, blkR g74 22 (#[.slice Aa m.l5.length ca, .slice Ab m.l6.length cb, .slice Ac m.l7.length cc, .slice Ad m.l8.length cd, .slice Ae m.l9.length ce])), (17, bytR m.l5 V129.v5), (18, bytR m.l6 V129.v6), (19, bytR m.l7 V129.v7), (20, bytR m.l8 V129.v8), (21, bytR m.l9 V129.v9), (22, blkR g131 29 (msgA m V129)), (23, bytR r.l2 V138.v2), (24, bytR r.l5 V138.v5), (25, blkR g139 54 (recA r V138)), (26, ownR xr (.slice A143 (xr).length c143)), (27, blobR (bfp (.slice As r.l2.length cs)) [(.slice As r.l2.length cs, r.l2.length)]), (28, blkR g149 54 (recA r ⟨.slice As r.l2.length cs, vs5⟩))]) (fun k x => k = (r.l2.length - x) ∧ (x ≤ r.l2.length)) _ 0 ⟨rfl, (Nat.zero_le _)⟩ (F154.sub ⟨rfl, rfl, rfl, rfl, rfl, rfl, rfl, rfl, rfl, rfl, rfl, trivial⟩) (M150.sub ⟨rfl, rfl, rfl, rfl, rfl, rfl, rfl, rfl, rfl, rfl, rfl, rfl, rfl, rfl, rfl, rfl, rfl, rfl, rfl, rfl, rfl, rfl, rfl, rfl, rfl, rfl, rfl, rfl, rfl, trivial⟩) ?_
 clear F154 M150
 rintro k155 jn a155 w155 K155 ⟨ek155, I155⟩ F155 M155 hK155
 replace F155 : Fx 161 a155 [(1, .int .i64 a1), (2, .string a2), (3, .slice A3 n3 cap3), (9, .pointer (some ⟨g48, 0, none⟩)), (10, .pointer (some ⟨g49, 0, none⟩)), (18, .pointer (some ⟨g131, 0, none⟩)), (19, .bool true), (20, .pointer (some ⟨g139, 0, none⟩)), (21, .slice A143 (xr).length c143), (23, .pointer (some ⟨g149, 0, none⟩)), (25, .int .i64 (jn : Int))] := F155
 replace M155 : Mx _ _ w155 [(0, bytR l3 (.slice A3 n3 cap3)), (1, bytR m.l5 V42.v5), (2, bytR m.l6 V42.v6), (3, bytR m.l7 V42.v7), (4, bytR m.l8 V42.v8), (5, bytR m.l9 V42.v9), (6, bytR m.l5 V47.v5), (7, bytR m.l6 V47.v6), (8, bytR m.l7 V47.v7), (9, bytR m.l8 V47.v8), (10, bytR m.l9 V47.v9), (11, blkR g48 29 (msgA m V42)), (12, blkR g49 29 (msgA m V47)), (13, ownR xm (.slice A54 (xm).length c54)), (14, blobR (zna (MsgV.mk (.slice Aa m.l5.length ca) (.slice Ab m.l6.length cb) (.slice Ac m.l7.length cc) (.slice Ad m.l8.length cd) (.slice Ae m.l9.length ce))) [(.slice Aa m.l5.length ca, m.l5.length), (.slice Ab m.l6.length cb, m.l6.length), (.slice Ac m.l7.length cc, m.l7.length), (.slice Ad m.l8.length cd, m.l8.length), (.slice Ae m.l9.length ce, m.l9.length)]), (15, blkR g69 29 (msgA m (MsgV.mk (.slice Aa m.l5.length ca) (.slice Ab m.l6.length cb) (.slice Ac m.l7.length cc) (.slice Ad m.l8.length cd) (.slice Ae m.l9.length ce)))), (16, blkR g74 22 (#[.slice Aa m.l5.length ca, .slice Ab m.l6.length cb, .slice Ac m.l7.length cc, .slice Ad m.l8.length cd, .slice Ae m.l9.length ce])), (17, bytR m.l5 V129.v5), (18, bytR m.l6 V129.v6), (19, bytR m.l7 V129.v7), (20, bytR m.l8 V129.v8), (21, bytR m.l9 V129.v9), (22, blkR g131 29 (msgA m V129)), (23, bytR r.l2 V138.v2), (24, bytR r.l5 V138.v5), (25, blkR g139 54 (recA r V138)), (26, ownR xr (.slice A143 (xr).length c143)), (27, blobR (bfp (.slice As r.l2.length cs)) [(.slice As r.l2.length cs, r.l2.length)]), (28, blkR g149 54 (recA r ⟨.slice As r.l2.length cs, vs5⟩))] := M155
 replace I155 : jn ≤ r.l2.length := I155
 replace ek155 : k155 = (r.l2.length - jn) := ek155
 have hkn := I155
 obtain ⟨lv2, hlv2, hB2⟩ := M155.blobAt (k := 27) rfl (List.mem_singleton.2 rfl)
 have hlv2 : lv2.length = r.l2.length := hlv2
 by_cases hlt : jn < r.l2.length
 ·obtain ⟨bb, hbb⟩ : ∃ b, lv2[jn]? = some b := ⟨_, List.getElem?_eq_getElem (by omega)⟩
  refine zS fun _ hK156 => zS fun _ hK157 => ?_
  refine zR ?_
  refine zA 3 [(114, .int .i64 (jn : Int)), (115, .pointer (some ⟨g149, 2, none⟩)), (116, .slice As r.l2.length cs)] [0] (zk (M155.blk (k := 28) rfl) dnil) [g149] F155 fun _ F158 => ?_
  refine rn rfl rfl F158 rfl (.int .i64 (r.l2.length : Int)) (zda _ rfl (F158.get rfl) hB2 (show ((lv2.length : Nat) : Int) = (r.l2.length : Int) by omega)) fun _ F159 => ?_
  refine rn rfl rfl F159 rfl (.bool true) (z2a _ _ _ _ rfl (F159.get rfl) (F159.get rfl) (decide_eq_true (show (jn : Int) < (r.l2.length : Int) by omega))) fun _ F160 => ?_
  refine hK157 _ _ (wp_cond_true (F160.get rfl) ?_)
  refine wp_skip ?_
  refine hK156 _ _ (zS fun _ hK161 => ?_)
  refine wp_block ?_
  refine zR ?_
  refine zA 3 [(121, .pointer (some ⟨g149, 2, none⟩)), (122, .slice As r.l2.length cs), (123, .int .i64 (jn : Int))] [0] (zk (M155.blk (k := 28) rfl) dnil) [g149] F160 fun _ F162 => ?_
  refine rn rfl rfl F162 rfl ((ixV (.slice As r.l2.length cs) jn)) (y_ixB _ _ rfl (F162.get rfl) hB2 (F162.get rfl) rfl (by omega)) fun _ F163 => ?_
  refine rn rfl rfl F163 rfl (.int .u8 ((bb.toNat : Nat) : Int)) (y_ldB _ rfl (F163.get rfl) hB2 hbb rfl) fun _ F164 => ?_
  refine rn rfl rfl F164 rfl (.int .u8 (((zx (((bb.toNat : Nat) : Int) + 1)).toNat : Nat) : Int)) (y_addU8 _ _ _ _ rfl (F164.get rfl) rfl) fun _ F165 => ?_
  refine rn rfl rfl F165 rfl ((ixV (.slice As r.l2.length cs) jn)) (y_ixB _ _ rfl (F165.get rfl) hB2 (F165.get rfl) rfl (by omega)) fun _ F166 => ?_
  refine wl_doM (za rfl) rfl F166 (run_setW M155 (k := 27) rfl (List.mem_singleton.2 rfl) _ _ rfl (F166.get rfl) (zx (((bb.toNat : Nat) : Int) + 1)) (F166.get rfl) rfl (by dsimp only; omega)) ?_
  intro w167 M167
  clear M155
  refine hK161 _ _ (zR ?_)
  refine rm rfl F166 fun _ F168 => ?_
  refine rn rfl rfl F168 rfl (.int .i64 ((jn + 1 : Nat) : Int)) (zy _ _ _ _ rfl (F168.get rfl) rfl (by omega) (by omega)) fun _ F169 => ?_
  refine rm rfl F169 fun _ F170 => ?_
  subst ek155
  exact hK155 _ (jn + 1) _ _ (by omega) ⟨rfl, (by omega)⟩ (F170.sub ⟨rfl, rfl, rfl, rfl, rfl, rfl, rfl, rfl, rfl, rfl, rfl, trivial⟩) (M167.sub ⟨rfl, rfl, rfl, rfl, rfl, rfl, rfl, rfl, rfl, rfl, rfl, rfl, rfl, rfl, rfl, rfl, rfl, rfl, rfl, rfl, rfl, rfl, rfl, rfl, rfl, rfl, rfl, rfl, rfl, trivial⟩)
 refine zS fun _ hK171 => zS fun _ hK172 => ?_
 refine zR ?_
 refine zA 3 [(114, .int .i64 (jn : Int)), (115, .pointer (some ⟨g149, 2, none⟩)), (116, .slice As r.l2.length cs)] [0] (zk (M155.blk (k := 28) rfl) dnil) [g149] F155 fun _ F173 => ?_
 refine rn rfl rfl F173 rfl (.int .i64 (r.l2.length : Int)) (zda _ rfl (F173.get rfl) hB2 (show ((lv2.length : Nat) : Int) = (r.l2.length : Int) by omega)) fun _ F174 => ?_
 refine rn rfl rfl F174 rfl (.bool false) (z2a _ _ _ _ rfl (F174.get rfl) (F174.get rfl) (decide_eq_false (show ¬ (jn : Int) < (r.l2.length : Int) by omega))) fun _ F175 => ?_
 refine hK172 _ _ (wp_cond_false (F175.get rfl) ?_)
 refine wp_exit ?_
 simp only [Exit.then, Exit.inBlock, ↓reduceIte, Nat.reduceEqDiff]
 refine hK152 _ _ (zS fun _ hK176 => ?_)
 refine zR ?_
 refine rm rfl F175 fun _ F177 => ?_
 refine zd (za rfl) rfl F177 rfl rfl (zE Try.func37 rfl) #[.slice A143 (xr).length c143] (zw (F177.get rfl)) (rd_is xr (.slice A143 (xr).length c143) (by omega) true r y1 y2 w155 (M155.isO (k := 26) rfl)) ?_
 rintro _ w178 a178 ⟨V178, rfl, is178, lo178, b178⟩ F178
 have M178 := M155.newRec b178 is178 lo178 29 30
 clear M155 b178 lo178
 refine zA 3 [(128, .tuple #[.agg (recA r V178), .bool true]), (131, .agg (recA r V178)), (132, .bool true)] [] dnil [] F178 fun _ F179 => ?_
 refine zg (za rfl) rfl F179 rfl M178 31 (t := 54) (c := recA ⟨0, "".toUTF8, [], 0, 0, [], 0, 0, 0⟩ ⟨zN, zN⟩) (by unfold execOp; kernel_rfl) ?_
 intro g180 a180 w180 F180 M180
 clear F179 M178
 refine zl (za rfl) rfl F180 M180 (k := 31) rfl _ _ _ rfl (F180.get rfl) (F180.get rfl) (recA r V178) _ rfl (Nat.le_of_ble_eq_true rfl) (zmb (w := w180) ⟨(M180.isb (k := 29) rfl), (M180.isb (k := 30) rfl)⟩) (zu rfl) (by kernel_rfl) ?_
 intro w181 M181
 clear M180
 refine rm rfl F180 fun _ F182 => ?_
 refine hK176 _ _ (zS fun _ hK183 => ?_)
 refine z9a F182 [fun vE => vE = .agg (msgA m V42), fun vE => vE = .agg (msgA m V47), fun vE => vE = .bool true, fun vE => vE = .bool true, fun vE => vE = .bool true, fun vE => vE = .bool true, fun vE => vE = .bool true, fun vE => vE = .agg (msgA m V129), fun vE => vE = .agg (msgA m V47), fun vE => vE = .bool true, fun vE => vE = .bool true, fun vE => vE = .bool true, fun vE => vE = .bool true, fun vE => vE = .bool true, fun vE => vE = .bool true, fun vE => vE = .agg (recA r V178), fun vE => vE = .int .i64 a1, fun vE => vE = .string a2, fun vE => vE = .slice A3 n3 cap3, fun vE => ∃ V, vE = .agg (recA r V), fun vE => vE = .bool true, fun vE => vE = .bool true, fun vE => vE = .bool true, fun vE => vE = .pointer (some ⟨g139, 3, none⟩), fun vE => vE = numV r.a, fun vE => vE = .int .i64 (topI r.a 8), fun vE => vE = .bool true, fun vE => vE = .bool true, fun vE => vE = .bool true] (JM none w fun SV pV => [(0, bytR l3 (.slice A3 n3 cap3)), (1, bytR m.l5 V42.v5), (2, bytR m.l6 V42.v6), (3, bytR m.l7 V42.v7), (4, bytR m.l8 V42.v8), (5, bytR m.l9 V42.v9), (6, bytR m.l5 V47.v5), (7, bytR m.l6 V47.v6), (8, bytR m.l7 V47.v7), (9, bytR m.l8 V47.v8), (10, bytR m.l9 V47.v9), (11, blkR g48 29 (msgA m V42)), (12, blkR g49 29 (msgA m V47)), (13, ownR xm (.slice A54 (xm).length c54)), (14, blobR (zna (MsgV.mk (.slice Aa m.l5.length ca) (.slice Ab m.l6.length cb) (.slice Ac m.l7.length cc) (.slice Ad m.l8.length cd) (.slice Ae m.l9.length ce))) [(.slice Aa m.l5.length ca, m.l5.length), (.slice Ab m.l6.length cb, m.l6.length), (.slice Ac m.l7.length cc, m.l7.length), (.slice Ad m.l8.length cd, m.l8.length), (.slice Ae m.l9.length ce, m.l9.length)]), (15, blkR g69 29 (msgA m (MsgV.mk (.slice Aa m.l5.length ca) (.slice Ab m.l6.length cb) (.slice Ac m.l7.length cc) (.slice Ad m.l8.length cd) (.slice Ae m.l9.length ce)))), (16, blkR g74 22 (#[.slice Aa m.l5.length ca, .slice Ab m.l6.length cb, .slice Ac m.l7.length cc, .slice Ad m.l8.length cd, .slice Ae m.l9.length ce])), (17, bytR m.l5 V129.v5), (18, bytR m.l6 V129.v6), (19, bytR m.l7 V129.v7), (20, bytR m.l8 V129.v8), (21, bytR m.l9 V129.v9), (22, blkR g131 29 (msgA m V129)), (23, bytR r.l2 V138.v2), (24, bytR r.l5 V138.v5), (25, blkR g139 54 (recA r V138)), (26, ownR xr (.slice A143 (xr).length c143)), (27, blobR (bfp (.slice As r.l2.length cs)) [(.slice As r.l2.length cs, r.l2.length)]), (28, blkR g149 54 (recA r ⟨.slice As r.l2.length cs, vs5⟩)), (29, bytR r.l2 V178.v2), (30, bytR r.l5 V178.v5), (31, blkR g180 54 (recA r V178)), (32, condR (SV 19) (recvR r (pV 19)))]) 29 rfl (by kernel_rfl) rfl ⟨trivial, trivial, trivial, trivial, trivial, trivial, trivial, trivial, trivial, trivial, trivial, trivial, trivial, trivial, trivial, trivial, trivial, trivial, trivial, trivial, trivial, trivial, trivial, trivial, trivial, trivial, trivial, trivial, trivial, trivial⟩ (fun p => ((M181.step (zva _)).triv 32).sub ⟨rfl, rfl, rfl, rfl, rfl, rfl, rfl, rfl, rfl, rfl, rfl, rfl, rfl, rfl, rfl, rfl, rfl, rfl, rfl, rfl, rfl, rfl, rfl, rfl, rfl, rfl, rfl, rfl, rfl, rfl, rfl, rfl, rfl, trivial⟩) ⟨?_, ?_, ?_, ?_, ?_, ?_, ?_, ?_, ?_, ?_, ?_, ?_, ?_, ?_, ?_, ?_, ?_, ?_, ?_, ?_, ?_, ?_, ?_, ?_, ?_, ?_, ?_, ?_, ?_, trivial⟩ ?_
 ·intro ua uw SV pV M0 hk hn hd
  have M : Mx none w uw _ := M0
  clear M0
  have e9 : ua.eval (.tmp 9) = .pointer (some ⟨g48, 0, none⟩) := (show ua.eval (.tmp 9) = _ from hd 9 (by decide)).trans (F182.get (t := 9) rfl)
  exact zn (za rfl) _ (zja _ _ rfl e9 (M.blk (k := 11) rfl) (msgA m V42) (zla rfl) Try.underlying29 rfl (by kernel_rfl)) rfl (M.sub ⟨rfl, rfl, rfl, rfl, rfl, rfl, rfl, rfl, rfl, rfl, rfl, rfl, rfl, rfl, rfl, rfl, rfl, rfl, rfl, rfl, rfl, rfl, rfl, rfl, rfl, rfl, rfl, rfl, rfl, rfl, rfl, rfl, rfl, trivial⟩)
 ·intro ua uw SV pV M0 hk hn hd
  have M : Mx none w uw _ := M0
  clear M0
  have e10 : ua.eval (.tmp 10) = .pointer (some ⟨g49, 0, none⟩) := (show ua.eval (.tmp 10) = _ from hd 10 (by decide)).trans (F182.get (t := 10) rfl)
  exact zn (za rfl) _ (zja _ _ rfl e10 (M.blk (k := 12) rfl) (msgA m V47) (zla rfl) Try.underlying29 rfl (by kernel_rfl)) rfl (M.sub ⟨rfl, rfl, rfl, rfl, rfl, rfl, rfl, rfl, rfl, rfl, rfl, rfl, rfl, rfl, rfl, rfl, rfl, rfl, rfl, rfl, rfl, rfl, rfl, rfl, rfl, rfl, rfl, rfl, rfl, rfl, rfl, rfl, rfl, trivial⟩)
 ·intro ua uw SV pV M0 hk hn hd
  have M : Mx none w uw _ := M0
  clear M0
  obtain ⟨s0, f133, q133⟩ := (show SV 0 = true ∧ ua.eval (.tmp 133) = pV 0 ∧ stE _ 0 (pV 0) from hd 133 (by decide))
  have e133 : ua.eval (.tmp 133) = .agg (msgA m V42) := f133.trans q133
  obtain ⟨s1, f134, q134⟩ := (show SV 1 = true ∧ ua.eval (.tmp 134) = pV 1 ∧ stE _ 1 (pV 1) from hd 134 (by decide))
  have e134 : ua.eval (.tmp 134) = .agg (msgA m V47) := f134.trans q134
  exact z3a (za rfl) rfl #[.agg (msgA m V42), .agg (msgA m V47)] (z4 e133 e134) (zE Try.func21 rfl) (((msgs_is m m V42 V47 om om true (eqM_self m) uw ⟨(M.isb (k := 1) rfl), (M.isb (k := 2) rfl), (M.isb (k := 3) rfl), (M.isb (k := 4) rfl), (M.isb (k := 5) rfl)⟩ ⟨(M.isb (k := 6) rfl), (M.isb (k := 7) rfl), (M.isb (k := 8) rfl), (M.isb (k := 9) rfl), (M.isb (k := 10) rfl)⟩)).mono fun e w2 h => ⟨_, h.1, rfl, (M.step h.2).sub ⟨rfl, rfl, rfl, rfl, rfl, rfl, rfl, rfl, rfl, rfl, rfl, rfl, rfl, rfl, rfl, rfl, rfl, rfl, rfl, rfl, rfl, rfl, rfl, rfl, rfl, rfl, rfl, rfl, rfl, rfl, rfl, rfl, rfl, trivial⟩⟩)
 ·intro ua uw SV pV M0 hk hn hd
  have M : Mx none w uw _ := M0
  clear M0
  obtain ⟨s2, f135, q135⟩ := (show SV 2 = true ∧ ua.eval (.tmp 135) = pV 2 ∧ stE _ 2 (pV 2) from hd 135 (by decide))
  have e135 : ua.eval (.tmp 135) = .bool true := f135.trans q135
  exact zn (za rfl) (.bool true) (zka _ (.inl rfl) e135) rfl (M.sub ⟨rfl, rfl, rfl, rfl, rfl, rfl, rfl, rfl, rfl, rfl, rfl, rfl, rfl, rfl, rfl, rfl, rfl, rfl, rfl, rfl, rfl, rfl, rfl, rfl, rfl, rfl, rfl, rfl, rfl, rfl, rfl, rfl, rfl, trivial⟩)
 ·intro ua uw SV pV M0 hk hn hd
  have M : Mx none w uw _ := M0
  clear M0
  obtain ⟨s3, f136, q136⟩ := (show SV 3 = true ∧ ua.eval (.tmp 136) = pV 3 ∧ stE _ 3 (pV 3) from hd 136 (by decide))
  have e136 : ua.eval (.tmp 136) = .bool true := f136.trans q136
  have e19 : ua.eval (.tmp 19) = .bool true := (show ua.eval (.tmp 19) = _ from hd 19 (by decide)).trans (F182.get (t := 19) rfl)
  exact zn (zb rfl rfl rfl e136) (.bool true) (zka _ (.inl rfl) e19) rfl (M.sub ⟨rfl, rfl, rfl, rfl, rfl, rfl, rfl, rfl, rfl, rfl, rfl, rfl, rfl, rfl, rfl, rfl, rfl, rfl, rfl, rfl, rfl, rfl, rfl, rfl, rfl, rfl, rfl, rfl, rfl, rfl, rfl, rfl, rfl, trivial⟩)
 ·intro ua uw SV pV M0 hk hn hd
  have M : Mx none w uw _ := M0
  clear M0
  obtain ⟨s3, f136, q136⟩ := (show SV 3 = true ∧ ua.eval (.tmp 136) = pV 3 ∧ stE _ 3 (pV 3) from hd 136 (by decide))
  have e136 : ua.eval (.tmp 136) = .bool true := f136.trans q136
  obtain ⟨s4, f137, q137⟩ := (show SV 4 = true ∧ ua.eval (.tmp 137) = pV 4 ∧ stE _ 4 (pV 4) from hd 137 (by decide))
  have e137 : ua.eval (.tmp 137) = .bool true := f137.trans q137
  exact zn (za rfl) (.bool true) (znb rfl e136 e137) rfl (M.sub ⟨rfl, rfl, rfl, rfl, rfl, rfl, rfl, rfl, rfl, rfl, rfl, rfl, rfl, rfl, rfl, rfl, rfl, rfl, rfl, rfl, rfl, rfl, rfl, rfl, rfl, rfl, rfl, rfl, rfl, rfl, rfl, rfl, rfl, trivial⟩)
 ·intro ua uw SV pV M0 hk hn hd
  have M : Mx none w uw _ := M0
  clear M0
  obtain ⟨s5, f138, q138⟩ := (show SV 5 = true ∧ ua.eval (.tmp 138) = pV 5 ∧ stE _ 5 (pV 5) from hd 138 (by decide))
  have e138 : ua.eval (.tmp 138) = .bool true := f138.trans q138
  exact zn (za rfl) (.bool true) (zka _ (.inl rfl) e138) rfl (M.sub ⟨rfl, rfl, rfl, rfl, rfl, rfl, rfl, rfl, rfl, rfl, rfl, rfl, rfl, rfl, rfl, rfl, rfl, rfl, rfl, rfl, rfl, rfl, rfl, rfl, rfl, rfl, rfl, rfl, rfl, rfl, rfl, rfl, rfl, trivial⟩)
 ·intro ua uw SV pV M0 hk hn hd
  have M : Mx none w uw _ := M0
  clear M0
  obtain ⟨s6, f139, q139⟩ := (show SV 6 = true ∧ ua.eval (.tmp 139) = pV 6 ∧ stE _ 6 (pV 6) from hd 139 (by decide))
  have e139 : ua.eval (.tmp 139) = .bool true := f139.trans q139
  have e18 : ua.eval (.tmp 18) = .pointer (some ⟨g131, 0, none⟩) := (show ua.eval (.tmp 18) = _ from hd 18 (by decide)).trans (F182.get (t := 18) rfl)
  exact zn (zb rfl rfl rfl e139) _ (zja _ _ rfl e18 (M.blk (k := 22) rfl) (msgA m V129) (zla rfl) Try.underlying29 rfl (by kernel_rfl)) rfl (M.sub ⟨rfl, rfl, rfl, rfl, rfl, rfl, rfl, rfl, rfl, rfl, rfl, rfl, rfl, rfl, rfl, rfl, rfl, rfl, rfl, rfl, rfl, rfl, rfl, rfl, rfl, rfl, rfl, rfl, rfl, rfl, rfl, rfl, rfl, trivial⟩)
 ·intro ua uw SV pV M0 hk hn hd
  have M : Mx none w uw _ := M0
  clear M0
  obtain ⟨s6, f139, q139⟩ := (show SV 6 = true ∧ ua.eval (.tmp 139) = pV 6 ∧ stE _ 6 (pV 6) from hd 139 (by decide))
  have e139 : ua.eval (.tmp 139) = .bool true := f139.trans q139
  have e10 : ua.eval (.tmp 10) = .pointer (some ⟨g49, 0, none⟩) := (show ua.eval (.tmp 10) = _ from hd 10 (by decide)).trans (F182.get (t := 10) rfl)
  exact zn (zb rfl rfl rfl e139) _ (zja _ _ rfl e10 (M.blk (k := 12) rfl) (msgA m V47) (zla rfl) Try.underlying29 rfl (by kernel_rfl)) rfl (M.sub ⟨rfl, rfl, rfl, rfl, rfl, rfl, rfl, rfl, rfl, rfl, rfl, rfl, rfl, rfl, rfl, rfl, rfl, rfl, rfl, rfl, rfl, rfl, rfl, rfl, rfl, rfl, rfl, rfl, rfl, rfl, rfl, rfl, rfl, trivial⟩)
 ·intro ua uw SV pV M0 hk hn hd
  have M : Mx none w uw _ := M0
  clear M0
  obtain ⟨s6, f139, q139⟩ := (show SV 6 = true ∧ ua.eval (.tmp 139) = pV 6 ∧ stE _ 6 (pV 6) from hd 139 (by decide))
  have e139 : ua.eval (.tmp 139) = .bool true := f139.trans q139
  obtain ⟨s7, f140, q140⟩ := (show SV 7 = true ∧ ua.eval (.tmp 140) = pV 7 ∧ stE _ 7 (pV 7) from hd 140 (by decide))
  have e140 : ua.eval (.tmp 140) = .agg (msgA m V129) := f140.trans q140
  obtain ⟨s8, f141, q141⟩ := (show SV 8 = true ∧ ua.eval (.tmp 141) = pV 8 ∧ stE _ 8 (pV 8) from hd 141 (by decide))
  have e141 : ua.eval (.tmp 141) = .agg (msgA m V47) := f141.trans q141
  exact z3a (zb rfl rfl rfl e139) rfl #[.agg (msgA m V129), .agg (msgA m V47)] (z4 e140 e141) (zE Try.func21 rfl) (((msgs_is m m V129 V47 om om true (eqM_self m) uw ⟨(M.isb (k := 17) rfl), (M.isb (k := 18) rfl), (M.isb (k := 19) rfl), (M.isb (k := 20) rfl), (M.isb (k := 21) rfl)⟩ ⟨(M.isb (k := 6) rfl), (M.isb (k := 7) rfl), (M.isb (k := 8) rfl), (M.isb (k := 9) rfl), (M.isb (k := 10) rfl)⟩)).mono fun e w2 h => ⟨_, h.1, rfl, (M.step h.2).sub ⟨rfl, rfl, rfl, rfl, rfl, rfl, rfl, rfl, rfl, rfl, rfl, rfl, rfl, rfl, rfl, rfl, rfl, rfl, rfl, rfl, rfl, rfl, rfl, rfl, rfl, rfl, rfl, rfl, rfl, rfl, rfl, rfl, rfl, trivial⟩⟩)
 ·intro ua uw SV pV M0 hk hn hd
  have M : Mx none w uw _ := M0
  clear M0
  obtain ⟨s6, f139, q139⟩ := (show SV 6 = true ∧ ua.eval (.tmp 139) = pV 6 ∧ stE _ 6 (pV 6) from hd 139 (by decide))
  have e139 : ua.eval (.tmp 139) = .bool true := f139.trans q139
  obtain ⟨s9, f142, q142⟩ := (show SV 9 = true ∧ ua.eval (.tmp 142) = pV 9 ∧ stE _ 9 (pV 9) from hd 142 (by decide))
  have e142 : ua.eval (.tmp 142) = .bool true := f142.trans q142
  exact zn (za rfl) (.bool true) (znb rfl e139 e142) rfl (M.sub ⟨rfl, rfl, rfl, rfl, rfl, rfl, rfl, rfl, rfl, rfl, rfl, rfl, rfl, rfl, rfl, rfl, rfl, rfl, rfl, rfl, rfl, rfl, rfl, rfl, rfl, rfl, rfl, rfl, rfl, rfl, rfl, rfl, rfl, trivial⟩)
 ·intro ua uw SV pV M0 hk hn hd
  have M : Mx none w uw _ := M0
  clear M0
  obtain ⟨s10, f143, q143⟩ := (show SV 10 = true ∧ ua.eval (.tmp 143) = pV 10 ∧ stE _ 10 (pV 10) from hd 143 (by decide))
  have e143 : ua.eval (.tmp 143) = .bool true := f143.trans q143
  exact zn (za rfl) (.bool true) (zka _ (.inl rfl) e143) rfl (M.sub ⟨rfl, rfl, rfl, rfl, rfl, rfl, rfl, rfl, rfl, rfl, rfl, rfl, rfl, rfl, rfl, rfl, rfl, rfl, rfl, rfl, rfl, rfl, rfl, rfl, rfl, rfl, rfl, rfl, rfl, rfl, rfl, rfl, rfl, trivial⟩)
 ·intro ua uw SV pV M0 hk hn hd
  have M : Mx none w uw _ := M0
  clear M0
  obtain ⟨s11, f144, q144⟩ := (show SV 11 = true ∧ ua.eval (.tmp 144) = pV 11 ∧ stE _ 11 (pV 11) from hd 144 (by decide))
  have e144 : ua.eval (.tmp 144) = .bool true := f144.trans q144
  have e27 : ua.eval (.tmp 27) = .bool true := (show ua.eval (.tmp 27) = _ from hd 27 (by decide)).trans (F182.get (t := 27) rfl)
  exact zn (zb rfl rfl rfl e144) (.bool true) (zka _ (.inl rfl) e27) rfl (M.sub ⟨rfl, rfl, rfl, rfl, rfl, rfl, rfl, rfl, rfl, rfl, rfl, rfl, rfl, rfl, rfl, rfl, rfl, rfl, rfl, rfl, rfl, rfl, rfl, rfl, rfl, rfl, rfl, rfl, rfl, rfl, rfl, rfl, rfl, trivial⟩)
 ·intro ua uw SV pV M0 hk hn hd
  have M : Mx none w uw _ := M0
  clear M0
  obtain ⟨s11, f144, q144⟩ := (show SV 11 = true ∧ ua.eval (.tmp 144) = pV 11 ∧ stE _ 11 (pV 11) from hd 144 (by decide))
  have e144 : ua.eval (.tmp 144) = .bool true := f144.trans q144
  obtain ⟨s12, f145, q145⟩ := (show SV 12 = true ∧ ua.eval (.tmp 145) = pV 12 ∧ stE _ 12 (pV 12) from hd 145 (by decide))
  have e145 : ua.eval (.tmp 145) = .bool true := f145.trans q145
  exact zn (za rfl) (.bool true) (znb rfl e144 e145) rfl (M.sub ⟨rfl, rfl, rfl, rfl, rfl, rfl, rfl, rfl, rfl, rfl, rfl, rfl, rfl, rfl, rfl, rfl, rfl, rfl, rfl, rfl, rfl, rfl, rfl, rfl, rfl, rfl, rfl, rfl, rfl, rfl, rfl, rfl, rfl, trivial⟩)
 ·intro ua uw SV pV M0 hk hn hd
  have M : Mx none w uw _ := M0
  clear M0
  obtain ⟨s13, f146, q146⟩ := (show SV 13 = true ∧ ua.eval (.tmp 146) = pV 13 ∧ stE _ 13 (pV 13) from hd 146 (by decide))
  have e146 : ua.eval (.tmp 146) = .bool true := f146.trans q146
  exact zn (za rfl) (.bool true) (zka _ (.inl rfl) e146) rfl (M.sub ⟨rfl, rfl, rfl, rfl, rfl, rfl, rfl, rfl, rfl, rfl, rfl, rfl, rfl, rfl, rfl, rfl, rfl, rfl, rfl, rfl, rfl, rfl, rfl, rfl, rfl, rfl, rfl, rfl, rfl, rfl, rfl, rfl, rfl, trivial⟩)
 ·intro ua uw SV pV M0 hk hn hd
  have M : Mx none w uw _ := M0
  clear M0
  obtain ⟨s14, f147, q147⟩ := (show SV 14 = true ∧ ua.eval (.tmp 147) = pV 14 ∧ stE _ 14 (pV 14) from hd 147 (by decide))
  have e147 : ua.eval (.tmp 147) = .bool true := f147.trans q147
  have e26 : ua.eval (.tmp 26) = .pointer (some ⟨g180, 0, none⟩) := (show ua.eval (.tmp 26) = _ from hd 26 (by decide)).trans (F182.get (t := 26) rfl)
  exact zn (zb rfl rfl rfl e147) _ (zja _ _ rfl e26 (M.blk (k := 31) rfl) (recA r V178) (zla rfl) Try.underlying54 rfl (by kernel_rfl)) rfl (M.sub ⟨rfl, rfl, rfl, rfl, rfl, rfl, rfl, rfl, rfl, rfl, rfl, rfl, rfl, rfl, rfl, rfl, rfl, rfl, rfl, rfl, rfl, rfl, rfl, rfl, rfl, rfl, rfl, rfl, rfl, rfl, rfl, rfl, rfl, trivial⟩)
 ·intro ua uw SV pV M0 hk hn hd
  have M : Mx none w uw _ := M0
  clear M0
  obtain ⟨s14, f147, q147⟩ := (show SV 14 = true ∧ ua.eval (.tmp 147) = pV 14 ∧ stE _ 14 (pV 14) from hd 147 (by decide))
  have e147 : ua.eval (.tmp 147) = .bool true := f147.trans q147
  have e1 : ua.eval (.tmp 1) = .int .i64 a1 := (show ua.eval (.tmp 1) = _ from hd 1 (by decide)).trans (F182.get (t := 1) rfl)
  exact zn (zb rfl rfl rfl e147) (.int .i64 a1) (zka _ (.inl rfl) e1) rfl (M.sub ⟨rfl, rfl, rfl, rfl, rfl, rfl, rfl, rfl, rfl, rfl, rfl, rfl, rfl, rfl, rfl, rfl, rfl, rfl, rfl, rfl, rfl, rfl, rfl, rfl, rfl, rfl, rfl, rfl, rfl, rfl, rfl, rfl, rfl, trivial⟩)
 ·intro ua uw SV pV M0 hk hn hd
  have M : Mx none w uw _ := M0
  clear M0
  obtain ⟨s14, f147, q147⟩ := (show SV 14 = true ∧ ua.eval (.tmp 147) = pV 14 ∧ stE _ 14 (pV 14) from hd 147 (by decide))
  have e147 : ua.eval (.tmp 147) = .bool true := f147.trans q147
  have e2 : ua.eval (.tmp 2) = .string a2 := (show ua.eval (.tmp 2) = _ from hd 2 (by decide)).trans (F182.get (t := 2) rfl)
  exact zn (zb rfl rfl rfl e147) (.string a2) (zka _ (.inl rfl) e2) rfl (M.sub ⟨rfl, rfl, rfl, rfl, rfl, rfl, rfl, rfl, rfl, rfl, rfl, rfl, rfl, rfl, rfl, rfl, rfl, rfl, rfl, rfl, rfl, rfl, rfl, rfl, rfl, rfl, rfl, rfl, rfl, rfl, rfl, rfl, rfl, trivial⟩)
 ·intro ua uw SV pV M0 hk hn hd
  have M : Mx none w uw _ := M0
  clear M0
  obtain ⟨s14, f147, q147⟩ := (show SV 14 = true ∧ ua.eval (.tmp 147) = pV 14 ∧ stE _ 14 (pV 14) from hd 147 (by decide))
  have e147 : ua.eval (.tmp 147) = .bool true := f147.trans q147
  have e3 : ua.eval (.tmp 3) = .slice A3 n3 cap3 := (show ua.eval (.tmp 3) = _ from hd 3 (by decide)).trans (F182.get (t := 3) rfl)
  exact zn (zb rfl rfl rfl e147) (.slice A3 n3 cap3) (zka _ (.inl rfl) e3) rfl (M.sub ⟨rfl, rfl, rfl, rfl, rfl, rfl, rfl, rfl, rfl, rfl, rfl, rfl, rfl, rfl, rfl, rfl, rfl, rfl, rfl, rfl, rfl, rfl, rfl, rfl, rfl, rfl, rfl, rfl, rfl, rfl, rfl, rfl, rfl, trivial⟩)
 ·intro ua uw SV pV M0 hk hn hd
  have M : Mx none w uw _ := M0
  clear M0
  obtain ⟨s14, f147, q147⟩ := (show SV 14 = true ∧ ua.eval (.tmp 147) = pV 14 ∧ stE _ 14 (pV 14) from hd 147 (by decide))
  have e147 : ua.eval (.tmp 147) = .bool true := f147.trans q147
  obtain ⟨s16, f149, q149⟩ := (show SV 16 = true ∧ ua.eval (.tmp 149) = pV 16 ∧ stE _ 16 (pV 16) from hd 149 (by decide))
  have e149 : ua.eval (.tmp 149) = .int .i64 a1 := f149.trans q149
  obtain ⟨s17, f150, q150⟩ := (show SV 17 = true ∧ ua.eval (.tmp 150) = pV 17 ∧ stE _ 17 (pV 17) from hd 150 (by decide))
  have e150 : ua.eval (.tmp 150) = .string a2 := f150.trans q150
  obtain ⟨s18, f151, q151⟩ := (show SV 18 = true ∧ ua.eval (.tmp 151) = pV 18 ∧ stE _ 18 (pV 18) from hd 151 (by decide))
  have e151 : ua.eval (.tmp 151) = .slice A3 n3 cap3 := f151.trans q151
  exact z3a (zb rfl rfl rfl e147) rfl #[.int .i64 a1, .string a2, .slice A3 n3 cap3] (args3 e149 e150 e151) (zE Try.func34 rfl) ((maker_is a1 a2 l3 (.slice A3 n3 cap3) ⟨hk1, hl1⟩ hs (by omega) r er uw (M.isb (k := 0) rfl)).mono fun e w2 h => (by obtain ⟨t, h1, V, ht, hI, hlo, hb⟩ := h; subst ht; exact ⟨_, h1, ⟨V, rfl⟩, (M.newRecv hb hI hlo 32).sub ⟨rfl, rfl, rfl, rfl, rfl, rfl, rfl, rfl, rfl, rfl, rfl, rfl, rfl, rfl, rfl, rfl, rfl, rfl, rfl, rfl, rfl, rfl, rfl, rfl, rfl, rfl, rfl, rfl, rfl, rfl, rfl, rfl, rfl, trivial⟩⟩))
 ·intro ua uw SV pV M0 hk hn hd
  have M : Mx none w uw _ := M0
  clear M0
  obtain ⟨s14, f147, q147⟩ := (show SV 14 = true ∧ ua.eval (.tmp 147) = pV 14 ∧ stE _ 14 (pV 14) from hd 147 (by decide))
  have e147 : ua.eval (.tmp 147) = .bool true := f147.trans q147
  obtain ⟨s15, f148, q148⟩ := (show SV 15 = true ∧ ua.eval (.tmp 148) = pV 15 ∧ stE _ 15 (pV 15) from hd 148 (by decide))
  have e148 : ua.eval (.tmp 148) = .agg (recA r V178) := f148.trans q148
  obtain ⟨s19, f152, q152⟩ := (show SV 19 = true ∧ ua.eval (.tmp 152) = pV 19 ∧ stE _ 19 (pV 19) from hd 152 (by decide))
  have e152 : ua.eval (.tmp 152) = (pV 19) := f152
  obtain ⟨V19, eV, iV⟩ := (show ∃ V, pV 19 = .agg (recA r V) ∧ RecIs uw r V from M.at_ 32 _ (condR_look s19 rfl))
  have hc : Calls Try.prog 38 #[.agg (recA r V178), (pV 19)] uw (fun e w2 => e = .returned (.bool true) ∧ Below uw.heap.size uw w2) := by rw [eV]; exact recs_is r r V178 V19 or or true (eqR_self r) uw ⟨(M.isb (k := 29) rfl), (M.isb (k := 30) rfl)⟩ iV
  exact z3a (zb rfl rfl rfl e147) rfl #[.agg (recA r V178), (pV 19)] (z4 e148 e152) (zE Try.func38 rfl) (hc.mono fun e w2 h => ⟨_, h.1, rfl, (M.step h.2).sub ⟨rfl, rfl, rfl, rfl, rfl, rfl, rfl, rfl, rfl, rfl, rfl, rfl, rfl, rfl, rfl, rfl, rfl, rfl, rfl, rfl, rfl, rfl, rfl, rfl, rfl, rfl, rfl, rfl, rfl, rfl, rfl, rfl, rfl, trivial⟩⟩)
 ·intro ua uw SV pV M0 hk hn hd
  have M : Mx none w uw _ := M0
  clear M0
  obtain ⟨s14, f147, q147⟩ := (show SV 14 = true ∧ ua.eval (.tmp 147) = pV 14 ∧ stE _ 14 (pV 14) from hd 147 (by decide))
  have e147 : ua.eval (.tmp 147) = .bool true := f147.trans q147
  obtain ⟨s20, f153, q153⟩ := (show SV 20 = true ∧ ua.eval (.tmp 153) = pV 20 ∧ stE _ 20 (pV 20) from hd 153 (by decide))
  have e153 : ua.eval (.tmp 153) = .bool true := f153.trans q153
  exact zn (za rfl) (.bool true) (znb rfl e147 e153) rfl (M.sub ⟨rfl, rfl, rfl, rfl, rfl, rfl, rfl, rfl, rfl, rfl, rfl, rfl, rfl, rfl, rfl, rfl, rfl, rfl, rfl, rfl, rfl, rfl, rfl, rfl, rfl, rfl, rfl, rfl, rfl, rfl, rfl, rfl, rfl, trivial⟩)
 ·intro ua uw SV pV M0 hk hn hd
  have M : Mx none w uw _ := M0
  clear M0
  obtain ⟨s21, f154, q154⟩ := (show SV 21 = true ∧ ua.eval (.tmp 154) = pV 21 ∧ stE _ 21 (pV 21) from hd 154 (by decide))
  have e154 : ua.eval (.tmp 154) = .bool true := f154.trans q154
  exact zn (za rfl) (.bool true) (zka _ (.inl rfl) e154) rfl (M.sub ⟨rfl, rfl, rfl, rfl, rfl, rfl, rfl, rfl, rfl, rfl, rfl, rfl, rfl, rfl, rfl, rfl, rfl, rfl, rfl, rfl, rfl, rfl, rfl, rfl, rfl, rfl, rfl, rfl, rfl, rfl, rfl, rfl, rfl, trivial⟩)
 ·intro ua uw SV pV M0 hk hn hd
  have M : Mx none w uw _ := M0
  clear M0
  obtain ⟨s22, f155, q155⟩ := (show SV 22 = true ∧ ua.eval (.tmp 155) = pV 22 ∧ stE _ 22 (pV 22) from hd 155 (by decide))
  have e155 : ua.eval (.tmp 155) = .bool true := f155.trans q155
  have e20 : ua.eval (.tmp 20) = .pointer (some ⟨g139, 0, none⟩) := (show ua.eval (.tmp 20) = _ from hd 20 (by decide)).trans (F182.get (t := 20) rfl)
  exact zn (zb rfl rfl rfl e155) (.pointer (some ⟨g139, 3, none⟩)) (y_fa (off := 3) rfl e20 (by kernel_rfl) rfl) rfl (M.sub ⟨rfl, rfl, rfl, rfl, rfl, rfl, rfl, rfl, rfl, rfl, rfl, rfl, rfl, rfl, rfl, rfl, rfl, rfl, rfl, rfl, rfl, rfl, rfl, rfl, rfl, rfl, rfl, rfl, rfl, rfl, rfl, rfl, rfl, trivial⟩)
 ·intro ua uw SV pV M0 hk hn hd
  have M : Mx none w uw _ := M0
  clear M0
  obtain ⟨s22, f155, q155⟩ := (show SV 22 = true ∧ ua.eval (.tmp 155) = pV 22 ∧ stE _ 22 (pV 22) from hd 155 (by decide))
  have e155 : ua.eval (.tmp 155) = .bool true := f155.trans q155
  obtain ⟨s23, f156, q156⟩ := (show SV 23 = true ∧ ua.eval (.tmp 156) = pV 23 ∧ stE _ 23 (pV 23) from hd 156 (by decide))
  have e156 : ua.eval (.tmp 156) = .pointer (some ⟨g139, 3, none⟩) := f156.trans q156
  exact zn (zb rfl rfl rfl e155) (numV r.a) (zja _ _ rfl e156 (M.blk (k := 25) rfl) (numA r.a) (y_part8 rfl rfl rfl rfl rfl rfl rfl rfl) Try.underlying27 rfl z5) rfl (M.sub ⟨rfl, rfl, rfl, rfl, rfl, rfl, rfl, rfl, rfl, rfl, rfl, rfl, rfl, rfl, rfl, rfl, rfl, rfl, rfl, rfl, rfl, rfl, rfl, rfl, rfl, rfl, rfl, rfl, rfl, rfl, rfl, rfl, rfl, trivial⟩)
 ·intro ua uw SV pV M0 hk hn hd
  have M : Mx none w uw _ := M0
  clear M0
  obtain ⟨s22, f155, q155⟩ := (show SV 22 = true ∧ ua.eval (.tmp 155) = pV 22 ∧ stE _ 22 (pV 22) from hd 155 (by decide))
  have e155 : ua.eval (.tmp 155) = .bool true := f155.trans q155
  obtain ⟨s24, f157, q157⟩ := (show SV 24 = true ∧ ua.eval (.tmp 157) = pV 24 ∧ stE _ 24 (pV 24) from hd 157 (by decide))
  have e157 : ua.eval (.tmp 157) = numV r.a := f157.trans q157
  exact z3a (zb rfl rfl rfl e155) rfl #[numV r.a] (zw e157) (zE Try.func41 rfl) (((rbits_any r.a or.a uw)).mono fun e w2 h => ⟨_, h.1, rfl, (M.step h.2).sub ⟨rfl, rfl, rfl, rfl, rfl, rfl, rfl, rfl, rfl, rfl, rfl, rfl, rfl, rfl, rfl, rfl, rfl, rfl, rfl, rfl, rfl, rfl, rfl, rfl, rfl, rfl, rfl, rfl, rfl, rfl, rfl, rfl, rfl, trivial⟩⟩)
 ·intro ua uw SV pV M0 hk hn hd
  have M : Mx none w uw _ := M0
  clear M0
  obtain ⟨s22, f155, q155⟩ := (show SV 22 = true ∧ ua.eval (.tmp 155) = pV 22 ∧ stE _ 22 (pV 22) from hd 155 (by decide))
  have e155 : ua.eval (.tmp 155) = .bool true := f155.trans q155
  obtain ⟨s25, f158, q158⟩ := (show SV 25 = true ∧ ua.eval (.tmp 158) = pV 25 ∧ stE _ 25 (pV 25) from hd 158 (by decide))
  have e158 : ua.eval (.tmp 158) = .int .i64 (topI r.a 8) := f158.trans q158
  exact zn (zb rfl rfl rfl e155) (.bool true) (z8 _ _ _ _ rfl e158 rfl (decide_eq_true hkt)) rfl (M.sub ⟨rfl, rfl, rfl, rfl, rfl, rfl, rfl, rfl, rfl, rfl, rfl, rfl, rfl, rfl, rfl, rfl, rfl, rfl, rfl, rfl, rfl, rfl, rfl, rfl, rfl, rfl, rfl, rfl, rfl, rfl, rfl, rfl, rfl, trivial⟩)
 ·intro ua uw SV pV M0 hk hn hd
  have M : Mx none w uw _ := M0
  clear M0
  obtain ⟨s22, f155, q155⟩ := (show SV 22 = true ∧ ua.eval (.tmp 155) = pV 22 ∧ stE _ 22 (pV 22) from hd 155 (by decide))
  have e155 : ua.eval (.tmp 155) = .bool true := f155.trans q155
  obtain ⟨s26, f159, q159⟩ := (show SV 26 = true ∧ ua.eval (.tmp 159) = pV 26 ∧ stE _ 26 (pV 26) from hd 159 (by decide))
  have e159 : ua.eval (.tmp 159) = .bool true := f159.trans q159
  exact zn (za rfl) (.bool true) (znb rfl e155 e159) rfl (M.sub ⟨rfl, rfl, rfl, rfl, rfl, rfl, rfl, rfl, rfl, rfl, rfl, rfl, rfl, rfl, rfl, rfl, rfl, rfl, rfl, rfl, rfl, rfl, rfl, rfl, rfl, rfl, rfl, rfl, rfl, rfl, rfl, rfl, rfl, trivial⟩)
 ·intro ua uw SV pV M0 hk hn hd
  have M : Mx none w uw _ := M0
  clear M0
  obtain ⟨s27, f160, q160⟩ := (show SV 27 = true ∧ ua.eval (.tmp 160) = pV 27 ∧ stE _ 27 (pV 27) from hd 160 (by decide))
  have e160 : ua.eval (.tmp 160) = .bool true := f160.trans q160
  exact zn (za rfl) (.bool true) (zka _ (.inr rfl) e160) rfl (M.sub ⟨rfl, rfl, rfl, rfl, rfl, rfl, rfl, rfl, rfl, rfl, rfl, rfl, rfl, rfl, rfl, rfl, rfl, rfl, rfl, rfl, rfl, rfl, rfl, rfl, rfl, rfl, rfl, rfl, rfl, rfl, rfl, rfl, rfl, trivial⟩)
 intro p184 a184 w184 M184 G184 y184
 obtain ⟨-, -, -, -, -, -, -, -, -, -, -, -, -, -, -, -, -, -, -, -, -, -, -, -, -, -, -, -, q28, -⟩ := y184
 have r28 : p184 28 = .bool true := q28
 replace M184 : Mx _ _ w184 [(0, bytR l3 (.slice A3 n3 cap3)), (1, bytR m.l5 V42.v5), (2, bytR m.l6 V42.v6), (3, bytR m.l7 V42.v7), (4, bytR m.l8 V42.v8), (5, bytR m.l9 V42.v9), (6, bytR m.l5 V47.v5), (7, bytR m.l6 V47.v6), (8, bytR m.l7 V47.v7), (9, bytR m.l8 V47.v8), (10, bytR m.l9 V47.v9), (11, blkR g48 29 (msgA m V42)), (12, blkR g49 29 (msgA m V47)), (13, ownR xm (.slice A54 (xm).length c54)), (14, blobR (zna (MsgV.mk (.slice Aa m.l5.length ca) (.slice Ab m.l6.length cb) (.slice Ac m.l7.length cc) (.slice Ad m.l8.length cd) (.slice Ae m.l9.length ce))) [(.slice Aa m.l5.length ca, m.l5.length), (.slice Ab m.l6.length cb, m.l6.length), (.slice Ac m.l7.length cc, m.l7.length), (.slice Ad m.l8.length cd, m.l8.length), (.slice Ae m.l9.length ce, m.l9.length)]), (15, blkR g69 29 (msgA m (MsgV.mk (.slice Aa m.l5.length ca) (.slice Ab m.l6.length cb) (.slice Ac m.l7.length cc) (.slice Ad m.l8.length cd) (.slice Ae m.l9.length ce)))), (16, blkR g74 22 (#[.slice Aa m.l5.length ca, .slice Ab m.l6.length cb, .slice Ac m.l7.length cc, .slice Ad m.l8.length cd, .slice Ae m.l9.length ce])), (17, bytR m.l5 V129.v5), (18, bytR m.l6 V129.v6), (19, bytR m.l7 V129.v7), (20, bytR m.l8 V129.v8), (21, bytR m.l9 V129.v9), (22, blkR g131 29 (msgA m V129)), (23, bytR r.l2 V138.v2), (24, bytR r.l5 V138.v5), (25, blkR g139 54 (recA r V138)), (26, ownR xr (.slice A143 (xr).length c143)), (27, blobR (bfp (.slice As r.l2.length cs)) [(.slice As r.l2.length cs, r.l2.length)]), (28, blkR g149 54 (recA r ⟨.slice As r.l2.length cs, vs5⟩)), (29, bytR r.l2 V178.v2), (30, bytR r.l5 V178.v5), (31, blkR g180 54 (recA r V178)), (32, condR true (recvR r (p184 19)))] := M184
 simp only [List.take_succ_cons, List.take_zero, layV, Nat.zero_add, Nat.reduceAdd, r28] at G184
 refine hK183 _ _ (wp_ret ?_)
 try simp only [Exit.then, Exit.inBlock, Exit.jump]
 exact bodyPost_ret (res1 rfl (G184.get (t := 8) rfl)) G184.defers ⟨rfl, M184.below⟩
end Go.Proofs.Ytlbkogdmojlpmaa
