/- What WireStreams stands on, part 7. -/
import Derived.Deep.AppendSrc
import Derived.Test.YtlbkogdmojlpmaaWireStreamsP1
import Derived.Test.YtlbkogdmojlpmaaWireStreamsP2
import Derived.Test.YtlbkogdmojlpmaaWireStreamsP3
import Derived.Test.YtlbkogdmojlpmaaWireStreamsP4
import Derived.Test.YtlbkogdmojlpmaaWireStreamsP5
import Derived.Test.YtlbkogdmojlpmaaWireStreamsP6
set_option maxRecDepth 100000
set_option maxHeartbeats 8000000
set_option linter.unusedVariables false
set_option linter.unusedSimpArgs false
namespace Go.Proofs.Ytlbkogdmojlpmaa
open Go.ChangeShapes Go.WideShapes Go.ChangeAt Go.RowKit
def cV (l : List UInt8) : List UInt8 := (l.drop 1).take (zi (l.take 1))
def cR (l : List UInt8) : List UInt8 := (l.drop 1).drop (zi (l.take 1))
theorem cR_len (l : List UInt8) : (cR l).length ≤ l.length := by simp only [cR, List.length_drop]; omega
theorem cV_len (l : List UInt8) : (cV l).length ≤ 255 := by
  have := readN_one l
  simp only [cV, List.length_take]; omega
theorem zjb (l : List UInt8) (n : Nat) : (l.drop n).length ≤ l.length := by simp only [List.length_drop]; omega
theorem rcounted_ex (g : Nat) (l : List UInt8) (u : Value) (hl : l.length ≤ 100000) (w : World) (hg : w.heap[g]? = some (.cells #[u] 83 (0, 0))) (hu : IsB w l u) (hd : ¬ bfp u g) :
    Calls Try.prog 55 #[.pointer (some ⟨g, 0, none⟩)] w fun e w' => ∃ v, e = .returned v ∧ ∃ u', Byt w' w.heap.size v (cV l) ∧ IsB w' (cR l) u' ∧ (∀ b, bfp u' b → bfp u b) ∧ w'.heap[g]? = some (.cells #[u'] 83 (0, 0)) ∧ w.grownBy w' (some g) := rcounted_any g l u hl w hg hu hd
def rdM (b : List UInt8) : RecN :=
  ⟨((zi (b.take 1) : Nat) : Int), ⟨(cV (b.drop 1)).toArray⟩, cV (cR (b.drop 1)), z7a ((cR (cR (cR (b.drop 1)))).take 4), z7a (((cR (cR (cR (b.drop 1)))).drop 4).take 4), cV (cR (cR (b.drop 1))),
    ((zi ((((cR (cR (cR (b.drop 1)))).drop 4).drop 4).take 1) : Nat) : Int), numI (((((cR (cR (cR (b.drop 1)))).drop 4).drop 4).drop 1).take 8), numI ((((((cR (cR (cR (b.drop 1)))).drop 4).drop 4).drop 1).drop 8).take 8)⟩
theorem recOk_mk {p t : Nat} {s : ByteArray} {l2 l5 x y c z : List UInt8} (hp : p < 256) (ht : t < 256) (hs : s.size ≤ 1000) : RecOk ⟨(p : Int), s, l2, z7a x, z7a y, l5, (t : Int), numI c, numI z⟩ :=
  ⟨(show (-9223372036854775808 : Int) ≤ (p : Int) ∧ (p : Int) < 9223372036854775808 by omega), (show (-9223372036854775808 : Int) ≤ (t : Int) ∧ (t : Int) < 9223372036854775808 by omega), numI_in c, numI_in z, hs, readO_lt x, readO_lt y⟩
theorem rdM_ok (b : List UInt8) : RecOk (rdM b) := by
  have h3 := cV_len (b.drop 1)
  have e : (⟨(cV (b.drop 1)).toArray⟩ : ByteArray).size = (cV (b.drop 1)).length := by simp [ByteArray.size]
  unfold rdM
  exact recOk_mk (readN_one b) (readN_one _) (by omega)
noncomputable def rdOk (b : List UInt8) : Bool := zyb (rdM b) b
noncomputable def rdR (b : List UInt8) : RecN := provR (rdM b) b
theorem readrec_any (b : List UInt8) (bv : Value) (hl : b.length ≤ 100000) (w : World) (hb : IsB w b bv) :
  Calls Try.prog 37 #[bv] w fun e w' => ∃ V, e = .returned (.tuple #[.agg (recA (rdR b) V), .bool (rdOk b)]) ∧ RecIs w' (rdR b) V ∧ (∀ q, bfp V.v2 q ∨ bfp V.v5 q → w.heap.size ≤ q) ∧ Below w.heap.size w w' := by
 obtain ⟨A0, c0, rfl⟩ := hb.shape
 refine zg (args := [.slice A0 b.length c0]) 32 Try.func37 rfl rfl rfl ?_
 intro fa F
 have M := Mx.start w
 replace M := M.argB 0 hb (fun g e => by cases e)
 refine zT fun _ hK1 => ?_
 refine zf (za rfl) rfl F rfl M 1 (t := 54) (c := recA ⟨0, "".toUTF8, [], 0, 0, [], 0, 0, 0⟩ ⟨zN, zN⟩) (by unfold execOp; kernel_rfl) ?_
 intro g2 a2 w2 F2 M2
 clear F M
 refine rm rfl F2 fun _ F3 => ?_
 refine hK1 _ _ (zS fun _ hK4 => ?_)
 refine zR ?_
 refine rm rfl F3 fun _ F5 => ?_
 refine rn rfl rfl F5 rfl (.agg (#[.slice A0 b.length c0])) (by unfold execOp; simp only [List.map_toArray, List.map_cons, List.map_nil, (F5.get (t := 6) rfl)]; kernel_rfl) fun _ F6 => ?_
 refine zf (za rfl) rfl F6 rfl M2 2 (t := 83) (c := #[zN]) (by unfold execOp; kernel_rfl) ?_
 intro g7 a7 w7 F7 M7
 clear F6 M2
 refine zn (za rfl) rfl F7 M7 (k := 2) rfl _ _ _ rfl (F7.get rfl) (F7.get rfl) (#[.slice A0 b.length c0]) _ rfl (zL rfl) (by first | rfl | simp [Value.oneCell']) (zt rfl) (by kernel_rfl) ?_
 intro w8 M8
 clear M7
 refine hK4 _ _ (zS fun _ hK9 => ?_)
 refine zR ?_
 refine zf (za rfl) rfl F7 rfl M8 3 (t := 54) (c := recA ⟨0, "".toUTF8, [], 0, 0, [], 0, 0, 0⟩ ⟨zN, zN⟩) (by unfold execOp; kernel_rfl) ?_
 intro g10 a10 w10 F10 M10
 clear F7 M8
 refine hK9 _ _ (zS fun _ hK11 => ?_)
 refine zR ?_
 refine zd (za rfl) rfl F10 rfl rfl (zE Try.func53 rfl) #[.pointer (some ⟨g7, 0, none⟩)] (zp (F10.get rfl)) (roctet_any g7 b (.slice A0 b.length c0) hl w10 (M10.blk (k := 2) rfl) (M10.isb (k := 0) rfl) (fun hb => M10.dis 2 0 _ _ rfl rfl (by decide) rfl g7 rfl hb)) ?_
 rintro _ w12 a12 ⟨rfl, u12, hu12, hs12, hc12, hg12⟩ F12
 have M12 := M10.took0 (k := 2) (ku := 0) rfl hg12 hc12 4 hu12 hs12 rfl
 clear M10 hg12 hc12
 obtain ⟨A12u, c12u, rfl⟩ := hu12.shape
 clear hu12
 refine rn rfl rfl F12 rfl (.pointer (some ⟨g10, 0, none⟩)) (y_fa (off := 0) rfl (F12.get rfl) (by kernel_rfl) rfl) fun _ F13 => ?_
 refine zn (za rfl) rfl F13 M12 (k := 3) rfl _ _ _ rfl (F13.get rfl) (F13.get rfl) (#[.int .i64 ((zi (b.take 1) : Nat) : Int)]) (recA ⟨((zi (b.take 1) : Nat) : Int), "".toUTF8, [], 0, 0, [], 0, 0, 0⟩ ⟨zN, zN⟩) rfl (zL rfl) (zeb _ _) (by kernel_rfl) (by kernel_rfl) ?_
 intro w14 M14
 clear M12
 refine hK11 _ _ (zS fun _ hK15 => ?_)
 refine zR ?_
 refine zd (za rfl) rfl F13 rfl rfl (zE Try.func55 rfl) #[.pointer (some ⟨g7, 0, none⟩)] (zp (F13.get rfl)) (rcounted_ex g7 (b.drop 1) (.slice A12u ((b.drop 1)).length c12u) (Nat.le_trans (zjb _ _) hl) w14 (M14.blk (k := 2) rfl) (M14.isb (k := 4) rfl) (fun hb => M14.dis 2 4 _ _ rfl rfl (by decide) rfl g7 rfl hb)) ?_
 rintro v16 w16 a16 ⟨u16, hv16, hu16, hs16, hc16, hg16⟩ F16
 have M16 := M14.took (k := 2) (ku := 4) rfl hg16 hc16 6 5 hv16 hu16 hs16 rfl rfl
 clear M14 hg16 hc16
 obtain ⟨A16u, c16u, rfl⟩ := hu16.shape
 clear hu16
 clear hv16
 obtain ⟨A16, c16, rfl⟩ := (M16.isO (k := 6) rfl).shape
 refine rn rfl rfl F16 rfl (.string (⟨((cV (b.drop 1))).toArray⟩)) (y_str _ rfl (F16.get rfl) (M16.isO (k := 6) rfl)) fun _ F17 => ?_
 refine rn rfl rfl F17 rfl (.pointer (some ⟨g10, 1, none⟩)) (y_fa (off := 1) rfl (F17.get rfl) (by kernel_rfl) rfl) fun _ F18 => ?_
 refine zn (za rfl) rfl F18 M16 (k := 3) rfl _ _ _ rfl (F18.get rfl) (F18.get rfl) (#[.string (⟨((cV (b.drop 1))).toArray⟩)]) (recA ⟨((zi (b.take 1) : Nat) : Int), ⟨((cV (b.drop 1))).toArray⟩, [], 0, 0, [], 0, 0, 0⟩ ⟨zN, zN⟩) rfl (zL rfl) (one_str _) (by kernel_rfl) (by kernel_rfl) ?_
 intro w19 M19
 clear M16
 refine hK15 _ _ (zS fun _ hK20 => ?_)
 refine zR ?_
 refine zd (za rfl) rfl F18 rfl rfl (zE Try.func55 rfl) #[.pointer (some ⟨g7, 0, none⟩)] (zp (F18.get rfl)) (rcounted_ex g7 (cR (b.drop 1)) (.slice A16u ((cR (b.drop 1))).length c16u) (Nat.le_trans (cR_len _) (Nat.le_trans (zjb _ _) hl)) w19 (M19.blk (k := 2) rfl) (M19.isb (k := 5) rfl) (fun hb => M19.dis 2 5 _ _ rfl rfl (by decide) rfl g7 rfl hb)) ?_
 rintro v21 w21 a21 ⟨u21, hv21, hu21, hs21, hc21, hg21⟩ F21
 have M21 := M19.took (k := 2) (ku := 5) rfl hg21 hc21 8 7 hv21 hu21 hs21 rfl rfl
 clear M19 hg21 hc21
 obtain ⟨A21u, c21u, rfl⟩ := hu21.shape
 clear hu21
 clear hv21
 obtain ⟨A21, c21, rfl⟩ := (M21.isO (k := 8) rfl).shape
 refine rn rfl rfl F21 rfl (.pointer (some ⟨g10, 2, none⟩)) (y_fa (off := 2) rfl (F21.get rfl) (by kernel_rfl) rfl) fun _ F22 => ?_
 refine zn (za rfl) rfl F22 M21 (k := 3) rfl _ _ _ rfl (F22.get rfl) (F22.get rfl) (#[.slice A21 ((cV (cR (b.drop 1)))).length c21]) (recA ⟨((zi (b.take 1) : Nat) : Int), ⟨((cV (b.drop 1))).toArray⟩, (cV (cR (b.drop 1))), 0, 0, [], 0, 0, 0⟩ ⟨.slice A21 ((cV (cR (b.drop 1)))).length c21, zN⟩) rfl (zL rfl) (zmb rfl) (by kernel_rfl) (by kernel_rfl) ?_
 intro w23 M23
 clear M21
 refine hK20 _ _ (zS fun _ hK24 => ?_)
 refine zR ?_
 refine zd (za rfl) rfl F22 rfl rfl (zE Try.func55 rfl) #[.pointer (some ⟨g7, 0, none⟩)] (zp (F22.get rfl)) (rcounted_ex g7 (cR (cR (b.drop 1))) (.slice A21u ((cR (cR (b.drop 1)))).length c21u) (Nat.le_trans (cR_len _) (Nat.le_trans (cR_len _) (Nat.le_trans (zjb _ _) hl))) w23 (M23.blk (k := 2) rfl) (M23.isb (k := 7) rfl) (fun hb => M23.dis 2 7 _ _ rfl rfl (by decide) rfl g7 rfl hb)) ?_
 rintro v25 w25 a25 ⟨u25, hv25, hu25, hs25, hc25, hg25⟩ F25
 have M25 := M23.took (k := 2) (ku := 7) rfl hg25 hc25 10 9 hv25 hu25 hs25 rfl rfl
 clear M23 hg25 hc25
 obtain ⟨A25u, c25u, rfl⟩ := hu25.shape
 clear hu25
 clear hv25
 obtain ⟨A25, c25, rfl⟩ := (M25.isO (k := 10) rfl).shape
 refine rn rfl rfl F25 rfl (.pointer (some ⟨g10, 19, none⟩)) (y_fa (off := 19) rfl (F25.get rfl) (by kernel_rfl) rfl) fun _ F26 => ?_
 refine zn (za rfl) rfl F26 M25 (k := 3) rfl _ _ _ rfl (F26.get rfl) (F26.get rfl) (#[.slice A25 ((cV (cR (cR (b.drop 1))))).length c25]) (recA ⟨((zi (b.take 1) : Nat) : Int), ⟨((cV (b.drop 1))).toArray⟩, (cV (cR (b.drop 1))), 0, 0, (cV (cR (cR (b.drop 1)))), 0, 0, 0⟩ ⟨.slice A21 ((cV (cR (b.drop 1)))).length c21, .slice A25 ((cV (cR (cR (b.drop 1))))).length c25⟩) rfl (zL rfl) (zmb rfl) (by kernel_rfl) (by kernel_rfl) ?_
 intro w27 M27
 clear M25
 refine hK24 _ _ (zS fun _ hK28 => ?_)
 refine zR ?_
 refine zd (za rfl) rfl F26 rfl rfl (zE Try.func67 rfl) #[.pointer (some ⟨g7, 0, none⟩)] (zp (F26.get rfl)) (rfour_any g7 (cR (cR (cR (b.drop 1)))) (.slice A25u ((cR (cR (cR (b.drop 1))))).length c25u) (Nat.le_trans (cR_len _) (Nat.le_trans (cR_len _) (Nat.le_trans (cR_len _) (Nat.le_trans (zjb _ _) hl)))) w27 (M27.blk (k := 2) rfl) (M27.isb (k := 9) rfl) (fun hb => M27.dis 2 9 _ _ rfl rfl (by decide) rfl g7 rfl hb)) ?_
 rintro _ w29 a29 ⟨rfl, u29, hu29, hs29, hc29, hg29⟩ F29
 have M29 := M27.took0 (k := 2) (ku := 9) rfl hg29 hc29 11 hu29 hs29 rfl
 clear M27 hg29 hc29
 obtain ⟨A29u, c29u, rfl⟩ := hu29.shape
 clear hu29
 refine rn rfl rfl F29 rfl (.pointer (some ⟨g10, 3, none⟩)) (y_fa (off := 3) rfl (F29.get rfl) (by kernel_rfl) rfl) fun _ F30 => ?_
 refine zn (za rfl) rfl F30 M29 (k := 3) rfl _ _ _ rfl (F30.get rfl) (F30.get rfl) (numA (z7a ((cR (cR (cR (b.drop 1)))).take 4))) (recA ⟨((zi (b.take 1) : Nat) : Int), ⟨((cV (b.drop 1))).toArray⟩, (cV (cR (b.drop 1))), (z7a ((cR (cR (cR (b.drop 1)))).take 4)), 0, (cV (cR (cR (b.drop 1)))), 0, 0, 0⟩ ⟨.slice A21 ((cV (cR (b.drop 1)))).length c21, .slice A25 ((cV (cR (cR (b.drop 1))))).length c25⟩) rfl (zL rfl) (zaa _) (by kernel_rfl) z7 ?_
 intro w31 M31
 clear M29
 refine hK28 _ _ (zS fun _ hK32 => ?_)
 refine zR ?_
 refine zd (za rfl) rfl F30 rfl rfl (zE Try.func67 rfl) #[.pointer (some ⟨g7, 0, none⟩)] (zp (F30.get rfl)) (rfour_any g7 ((cR (cR (cR (b.drop 1)))).drop 4) (.slice A29u (((cR (cR (cR (b.drop 1)))).drop 4)).length c29u) (Nat.le_trans (zjb _ _) (Nat.le_trans (cR_len _) (Nat.le_trans (cR_len _) (Nat.le_trans (cR_len _) (Nat.le_trans (zjb _ _) hl))))) w31 (M31.blk (k := 2) rfl) (M31.isb (k := 11) rfl) (fun hb => M31.dis 2 11 _ _ rfl rfl (by decide) rfl g7 rfl hb)) ?_
 rintro _ w33 a33 ⟨rfl, u33, hu33, hs33, hc33, hg33⟩ F33
 have M33 := M31.took0 (k := 2) (ku := 11) rfl hg33 hc33 12 hu33 hs33 rfl
 clear M31 hg33 hc33
 obtain ⟨A33u, c33u, rfl⟩ := hu33.shape
 clear hu33
 refine rn rfl rfl F33 rfl (.pointer (some ⟨g10, 11, none⟩)) (y_fa (off := 11) rfl (F33.get rfl) (by kernel_rfl) rfl) fun _ F34 => ?_
 refine zn (za rfl) rfl F34 M33 (k := 3) rfl _ _ _ rfl (F34.get rfl) (F34.get rfl) (numA (z7a (((cR (cR (cR (b.drop 1)))).drop 4).take 4))) (recA ⟨((zi (b.take 1) : Nat) : Int), ⟨((cV (b.drop 1))).toArray⟩, (cV (cR (b.drop 1))), (z7a ((cR (cR (cR (b.drop 1)))).take 4)), (z7a (((cR (cR (cR (b.drop 1)))).drop 4).take 4)), (cV (cR (cR (b.drop 1)))), 0, 0, 0⟩ ⟨.slice A21 ((cV (cR (b.drop 1)))).length c21, .slice A25 ((cV (cR (cR (b.drop 1))))).length c25⟩) rfl (zL rfl) (zaa _) (by kernel_rfl) z7 ?_
 intro w35 M35
 clear M33
 refine hK32 _ _ (zS fun _ hK36 => ?_)
 refine zR ?_
 refine zd (za rfl) rfl F34 rfl rfl (zE Try.func53 rfl) #[.pointer (some ⟨g7, 0, none⟩)] (zp (F34.get rfl)) (roctet_any g7 (((cR (cR (cR (b.drop 1)))).drop 4).drop 4) (.slice A33u ((((cR (cR (cR (b.drop 1)))).drop 4).drop 4)).length c33u) (Nat.le_trans (zjb _ _) (Nat.le_trans (zjb _ _) (Nat.le_trans (cR_len _) (Nat.le_trans (cR_len _) (Nat.le_trans (cR_len _) (Nat.le_trans (zjb _ _) hl)))))) w35 (M35.blk (k := 2) rfl) (M35.isb (k := 12) rfl) (fun hb => M35.dis 2 12 _ _ rfl rfl (by decide) rfl g7 rfl hb)) ?_
 rintro _ w37 a37 ⟨rfl, u37, hu37, hs37, hc37, hg37⟩ F37
 have M37 := M35.took0 (k := 2) (ku := 12) rfl hg37 hc37 13 hu37 hs37 rfl
 clear M35 hg37 hc37
 obtain ⟨A37u, c37u, rfl⟩ := hu37.shape
 clear hu37
 refine rn rfl rfl F37 rfl (.pointer (some ⟨g10, 20, none⟩)) (y_fa (off := 20) rfl (F37.get rfl) (by kernel_rfl) rfl) fun _ F38 => ?_
 refine zn (za rfl) rfl F38 M37 (k := 3) rfl _ _ _ rfl (F38.get rfl) (F38.get rfl) (#[.int .i64 ((zi ((((cR (cR (cR (b.drop 1)))).drop 4).drop 4).take 1) : Nat) : Int)]) (recA ⟨((zi (b.take 1) : Nat) : Int), ⟨((cV (b.drop 1))).toArray⟩, (cV (cR (b.drop 1))), (z7a ((cR (cR (cR (b.drop 1)))).take 4)), (z7a (((cR (cR (cR (b.drop 1)))).drop 4).take 4)), (cV (cR (cR (b.drop 1)))), ((zi ((((cR (cR (cR (b.drop 1)))).drop 4).drop 4).take 1) : Nat) : Int), 0, 0⟩ ⟨.slice A21 ((cV (cR (b.drop 1)))).length c21, .slice A25 ((cV (cR (cR (b.drop 1))))).length c25⟩) rfl (zL rfl) (zeb _ _) (by kernel_rfl) (by kernel_rfl) ?_
 intro w39 M39
 clear M37
 refine hK36 _ _ (zS fun _ hK40 => ?_)
 refine zR ?_
 refine zd (za rfl) rfl F38 rfl rfl (zE Try.func68 rfl) #[.pointer (some ⟨g7, 0, none⟩), .int .i64 8] (zea (F38.get rfl) rfl) (rnumber_any g7 ((((cR (cR (cR (b.drop 1)))).drop 4).drop 4).drop 1) (.slice A37u (((((cR (cR (cR (b.drop 1)))).drop 4).drop 4).drop 1)).length c37u) 8 (Nat.le_trans (zjb _ _) (Nat.le_trans (zjb _ _) (Nat.le_trans (zjb _ _) (Nat.le_trans (cR_len _) (Nat.le_trans (cR_len _) (Nat.le_trans (cR_len _) (Nat.le_trans (zjb _ _) hl))))))) (by omega) w39 (M39.blk (k := 2) rfl) (M39.isb (k := 13) rfl) (fun hb => M39.dis 2 13 _ _ rfl rfl (by decide) rfl g7 rfl hb)) ?_
 rintro _ w41 a41 ⟨rfl, u41, hu41, hs41, hc41, hg41⟩ F41
 have M41 := M39.took0 (k := 2) (ku := 13) rfl hg41 hc41 14 hu41 hs41 rfl
 clear M39 hg41 hc41
 obtain ⟨A41u, c41u, rfl⟩ := hu41.shape
 clear hu41
 refine rn rfl rfl F41 rfl (.pointer (some ⟨g10, 21, none⟩)) (y_fa (off := 21) rfl (F41.get rfl) (by kernel_rfl) rfl) fun _ F42 => ?_
 refine zn (za rfl) rfl F42 M41 (k := 3) rfl _ _ _ rfl (F42.get rfl) (F42.get rfl) (#[.int .i64 (numI (((((cR (cR (cR (b.drop 1)))).drop 4).drop 4).drop 1).take 8))]) (recA ⟨((zi (b.take 1) : Nat) : Int), ⟨((cV (b.drop 1))).toArray⟩, (cV (cR (b.drop 1))), (z7a ((cR (cR (cR (b.drop 1)))).take 4)), (z7a (((cR (cR (cR (b.drop 1)))).drop 4).take 4)), (cV (cR (cR (b.drop 1)))), ((zi ((((cR (cR (cR (b.drop 1)))).drop 4).drop 4).take 1) : Nat) : Int), (numI (((((cR (cR (cR (b.drop 1)))).drop 4).drop 4).drop 1).take 8)), 0⟩ ⟨.slice A21 ((cV (cR (b.drop 1)))).length c21, .slice A25 ((cV (cR (cR (b.drop 1))))).length c25⟩) rfl (zL rfl) (zeb _ _) (by kernel_rfl) (by kernel_rfl) ?_
 intro w43 M43
 clear M41
 refine hK40 _ _ (zS fun _ hK44 => ?_)
 refine zR ?_
 refine zd (za rfl) rfl F42 rfl rfl (zE Try.func68 rfl) #[.pointer (some ⟨g7, 0, none⟩), .int .i64 8] (zea (F42.get rfl) rfl) (rnumber_any g7 (((((cR (cR (cR (b.drop 1)))).drop 4).drop 4).drop 1).drop 8) (.slice A41u ((((((cR (cR (cR (b.drop 1)))).drop 4).drop 4).drop 1).drop 8)).length c41u) 8 (Nat.le_trans (zjb _ _) (Nat.le_trans (zjb _ _) (Nat.le_trans (zjb _ _) (Nat.le_trans (zjb _ _) (Nat.le_trans (cR_len _) (Nat.le_trans (cR_len _) (Nat.le_trans (cR_len _) (Nat.le_trans (zjb _ _) hl)))))))) (by omega) w43 (M43.blk (k := 2) rfl) (M43.isb (k := 14) rfl) (fun hb => M43.dis 2 14 _ _ rfl rfl (by decide) rfl g7 rfl hb)) ?_
 rintro _ w45 a45 ⟨rfl, u45, hu45, hs45, hc45, hg45⟩ F45
 have M45 := M43.took0 (k := 2) (ku := 14) rfl hg45 hc45 15 hu45 hs45 rfl
 clear M43 hg45 hc45
 obtain ⟨A45u, c45u, rfl⟩ := hu45.shape
 clear hu45
 refine rn rfl rfl F45 rfl (.pointer (some ⟨g10, 22, none⟩)) (y_fa (off := 22) rfl (F45.get rfl) (by kernel_rfl) rfl) fun _ F46 => ?_
 refine zn (za rfl) rfl F46 M45 (k := 3) rfl _ _ _ rfl (F46.get rfl) (F46.get rfl) (#[.int .i64 (numI ((((((cR (cR (cR (b.drop 1)))).drop 4).drop 4).drop 1).drop 8).take 8))]) (recA ⟨((zi (b.take 1) : Nat) : Int), ⟨((cV (b.drop 1))).toArray⟩, (cV (cR (b.drop 1))), (z7a ((cR (cR (cR (b.drop 1)))).take 4)), (z7a (((cR (cR (cR (b.drop 1)))).drop 4).take 4)), (cV (cR (cR (b.drop 1)))), ((zi ((((cR (cR (cR (b.drop 1)))).drop 4).drop 4).take 1) : Nat) : Int), (numI (((((cR (cR (cR (b.drop 1)))).drop 4).drop 4).drop 1).take 8)), (numI ((((((cR (cR (cR (b.drop 1)))).drop 4).drop 4).drop 1).drop 8).take 8))⟩ ⟨.slice A21 ((cV (cR (b.drop 1)))).length c21, .slice A25 ((cV (cR (cR (b.drop 1))))).length c25⟩) rfl (zL rfl) (zeb _ _) (by kernel_rfl) (by kernel_rfl) ?_
 intro w47 M47
 clear M45
 refine hK44 _ _ (zS fun _ hK48 => ?_)
 refine zR ?_
 refine rn rfl rfl F46 rfl _ (zja _ _ rfl (F46.get rfl) (M47.blk (k := 3) rfl) (recA ⟨((zi (b.take 1) : Nat) : Int), ⟨((cV (b.drop 1))).toArray⟩, (cV (cR (b.drop 1))), (z7a ((cR (cR (cR (b.drop 1)))).take 4)), (z7a (((cR (cR (cR (b.drop 1)))).drop 4).take 4)), (cV (cR (cR (b.drop 1)))), ((zi ((((cR (cR (cR (b.drop 1)))).drop 4).drop 4).take 1) : Nat) : Int), (numI (((((cR (cR (cR (b.drop 1)))).drop 4).drop 4).drop 1).take 8)), (numI ((((((cR (cR (cR (b.drop 1)))).drop 4).drop 4).drop 1).drop 8).take 8))⟩ ⟨.slice A21 ((cV (cR (b.drop 1)))).length c21, .slice A25 ((cV (cR (cR (b.drop 1))))).length c25⟩) (zma rfl) Try.underlying54 rfl (by kernel_rfl)) fun _ F49 => ?_
 refine rm rfl F49 fun _ F50 => ?_
 have og2 := M47.owns (k := 8) rfl
 have og5 := M47.owns (k := 10) rfl
 have MT1 := (M47.tame (k := 8) rfl).tame (k := 10) rfl
 clear M47
 refine zd (za rfl) rfl F50 rfl rfl (zE Try.func69 rfl) #[.agg (recA ⟨((zi (b.take 1) : Nat) : Int), ⟨((cV (b.drop 1))).toArray⟩, (cV (cR (b.drop 1))), (z7a ((cR (cR (cR (b.drop 1)))).take 4)), (z7a (((cR (cR (cR (b.drop 1)))).drop 4).take 4)), (cV (cR (cR (b.drop 1)))), ((zi ((((cR (cR (cR (b.drop 1)))).drop 4).drop 4).take 1) : Nat) : Int), (numI (((((cR (cR (cR (b.drop 1)))).drop 4).drop 4).drop 1).take 8)), (numI ((((((cR (cR (cR (b.drop 1)))).drop 4).drop 4).drop 1).drop 8).take 8))⟩ ⟨.slice A21 ((cV (cR (b.drop 1)))).length c21, .slice A25 ((cV (cR (cR (b.drop 1))))).length c25⟩), .func (.func 35) #[] #[], .slice A0 b.length c0] (args3 (F50.get rfl) rfl (F50.get rfl)) (provenR_any (rdM b) ⟨.slice A21 ((cV (cR (b.drop 1)))).length c21, .slice A25 ((cV (cR (cR (b.drop 1))))).length c25⟩ b (.slice A0 b.length c0) (rdM_ok b) w47 ⟨MT1.isb (k := 8) rfl, MT1.isb (k := 10) rfl⟩ (MT1.isb (k := 0) rfl)) ?_
 rintro _ w51 a51 ⟨V51, rfl, is51, lo51, b51⟩ F51
 have M51 := MT1.step b51
 replace M51 := M51.part 16 _ is51.h2 z0a rfl (k := 8) rfl rfl (fun g => (lo51 g).1)
 replace M51 := M51.part 17 _ is51.h5 z0a rfl (k := 10) rfl rfl (fun g => (lo51 g).2)
 refine zB 2 [(2, .pointer (some ⟨g2, 0, none⟩)), (3, .bool false), (30, .agg (recA (rdR b) V51)), (31, .bool (rdOk b))] [] dnil [] F51 fun _ F52 => ?_
 refine zn (za rfl) rfl F52 M51 (k := 1) rfl _ _ _ rfl (F52.get rfl) (F52.get rfl) (recA (rdR b) V51) _ rfl (zL rfl) (recA_one is51) (zt rfl) (by kernel_rfl) ?_
 intro w53 M53
 clear M51
 refine rm rfl F52 fun _ F54 => ?_
 refine hK48 _ _ (wp_ret ?_)
 try simp only [Exit.then, Exit.inBlock, Exit.jump]
 exact bodyPost_ret (resCT rfl (F54.get rfl) (M53.blk (k := 1) rfl) (F54.get rfl) Try.underlying54 rfl (by kernel_rfl)) F54.defers ⟨V51, rfl, ⟨M53.isb (k := 16) rfl, M53.isb (k := 17) rfl⟩, (fun q h => h.elim (fun h => og2 q (zva ((lo51 q).1 h))) (fun h => og5 q (zva ((lo51 q).2 h)))), M53.below⟩
end Go.Proofs.Ytlbkogdmojlpmaa
namespace Go.Proofs.Ytlbkogdmojlpmaa
open Go.ChangeShapes Go.WideShapes Go.ChangeAt Go.RowKit Go.Shelf
theorem setCell_heap {w : World} {g o : Nat} {v : Value} {c : Array Value} {t : TypeId} {fr : Nat × Nat} (h : w.heap[g]? = some (.cells c t fr)) : (w.setCell ⟨g, o, none⟩ v).heap[g]? = some (.cells (c.setIfInBounds o v) t fr) := by
  obtain ⟨hlt, e⟩ := Array.getElem?_eq_some_iff.1 h
  unfold World.setCell
  simp [hlt]
  rw [Array.getElem_modify_self, e]
theorem grown_setCells (g : Nat) : ∀ (vs : List Value) (o : Nat) (w : World), w.grownBy (w.setCells g o vs) (some g)
  | [], _, w => World.grownBy.refl _ _
  | v :: r, o, w => by
    have h := grown_setCells g r (o + 1) (w.setCell ⟨g, o, none⟩ v)
    refine World.grownBy.trans ?_ h
    exact ⟨rfl, rfl, rfl, by simp [World.setCell], fun k hk hn => Below.heap_setCell w ⟨g, o, none⟩ v k (fun e => hn (by rw [e]))⟩
theorem heap_setCells (g : Nat) : ∀ (vs : List Value) (o : Nat) (w : World) (c : Array Value) (t : TypeId) (fr : Nat × Nat), w.heap[g]? = some (.cells c t fr) → ∃ c', (w.setCells g o vs).heap[g]? = some (.cells c' t fr) ∧ c'.size = c.size ∧
    (∀ j, j < vs.length → o + j < c.size → c'[o + j]? = vs[j]?) ∧ ∀ k, (k < o ∨ o + vs.length ≤ k) → c'[k]? = c[k]?
  | [], o, w, c, t, fr, h => ⟨c, h, rfl, fun j hj => absurd hj (Nat.not_lt_zero _), fun _ _ => rfl⟩
  | v :: r, o, w, c, t, fr, h => by
    obtain ⟨c', h1, h2, h3, h4⟩ := heap_setCells g r (o + 1) (w.setCell ⟨g, o, none⟩ v) _ t fr (setCell_heap h)
    refine ⟨c', h1, by rw [h2]; simp, fun j hj hlt => ?_, fun k hk => ?_⟩
    · cases j with
      | zero =>
        rw [Nat.add_zero, h4 o (.inl (by omega)), Array.getElem?_setIfInBounds_self]
        simp at hlt
        simp [hlt]
      | succ j =>
        have := h3 j (by simpa using hj) (by simp; omega)
        rw [show o + (j + 1) = o + 1 + j by omega, this]
        simp
    · rw [h4 k (by simp at hk; omega), Array.getElem?_setIfInBounds_ne (by simp at hk; omega)]
def Tl (w : World) (v : Value) (l : List UInt8) : Prop := (v = zN ∧ l = []) ∨
  ∃ g o c cur, v = .slice (some ⟨g, o, none⟩) l.length c ∧ w.heap[g]? = some (.cells cur 5 (0, 0)) ∧ l.length ≤ c ∧ c ≤ maxLen ∧ o + c ≤ cur.size ∧ ∀ j b, l[j]? = some b → cur[o + j]? = some (bv b)
def tlR (l : List UInt8) (v : Value) : Res := ⟨true, ofp v, fun w => Tl w v l⟩
theorem Tl.same {l : List UInt8} {v : Value} {u u' : World} (hs : Same (ofp v) u u') (h : Tl u v l) : Tl u' v l := by
  rcases h with h | ⟨g, o, c, cur, e, h1, h2⟩
  · exact .inl h
  · exact .inr ⟨g, o, c, cur, e, hs g _ (by rw [ofp, e]; rfl) h1, h2⟩
theorem tlR_dep {l : List UInt8} {v : Value} : ∀ u u', Same (tlR l v).fp u u' → (tlR l v).F u → (tlR l v).F u' := fun _ _ hs h => Tl.same hs h
theorem Tl.isb {w : World} {v : Value} {l : List UInt8} (h : Tl w v l) : IsB w l v := by
  rcases h with ⟨rfl, rfl⟩ | ⟨g, o, c, cur, rfl, h1, h2, h3, h4, h5⟩
  · exact zc w
  · refine ⟨_, _, rfl, h2, h3, fun e => (by cases e), fun _ => ⟨_, rfl, (Array.getElem?_eq_some_iff.1 h1).1, fun j b hb => ?_⟩⟩
    rw [zdb]
    exact y_cell h1 (h5 j b hb)
theorem Tl.lt {w : World} {v : Value} {l : List UInt8} (h : Tl w v l) : ∀ g, ofp v g → g < w.heap.size := fun g hg => by
  rcases h with ⟨rfl, _⟩ | ⟨g', o, c, cur, rfl, h1, _⟩
  · cases hg
  · cases hg; exact (Array.getElem?_eq_some_iff.1 h1).1
section
variable {G : Option Nat} {w0 w : World} {R : List (Nat × Res)} {a : Act} {o : Oper}
theorem src_of {w : World} {r : List UInt8} {u : Value} (hu : IsB w r u) {i : TypeInfo} (hi : i.size = 1) : Go.Src Try.prog i.size 22 u r.length (r.map bv) w := by
  obtain ⟨A, c, rfl, h1, h2, h3, h4⟩ := hu
  cases A with
  | none =>
    have := h3 rfl
    have hr : r = [] := List.eq_nil_of_length_eq_zero (by omega)
    subst hr
    exact Go.Src.ofNil w Try.underlying22 c
  | some ad =>
    refine Go.Src.ofSlice w Try.underlying22 ad r.length c (r.map bv) (by rw [hi]; simp) (fun j x hj => ?_) (fun x hx => by obtain ⟨b, _, rfl⟩ := List.mem_map.1 hx; rfl)
    rw [List.getElem?_map] at hj
    cases hb : r[j]? with
    | none => rw [hb] at hj; cases hj
    | some b =>
      rw [hb] at hj
      cases hj
      obtain ⟨ad', e, _, hcl⟩ := h4 (List.length_pos_iff.2 (fun e => by rw [e] at hb; cases hb))
      cases e
      exact hcl j b hb
theorem run_appT (M : Mx G w0 w R) {k : Nat} {l r : List UInt8} {v u : Value} (hk : look R k = some (tlR l v)) (s x : Operand)
    (ho : o.op = .call { callee := .builtin .append, args := #[s, x], argTypes := #[22, 22] }) (hs : a.eval s = v) (hx : a.eval x = u) (hu : IsB w r u) (hle : l.length + r.length ≤ 1000000) :
    ∃ v' w', (execOp a.eval o).run Try.prog w = .ok (.value v') w' ∧ Mx G w0 w' ((k, tlR (l ++ r) v') :: R) := by
  have hown : Tl w v l := M.at_ k _ hk
  obtain ⟨v', w', hrun, hM⟩ : ∃ v' w', (Builtin.append_ #[22, 22] o.type #[v, u]).run Try.prog w = .ok v' w' ∧ Mx G w0 w' ((k, tlR (l ++ r) v') :: R) := by
    obtain ⟨i, hi1, hi2, hi3, hi4⟩ := info_u8
    have hsrc := src_of hu (i := i) hi3
    obtain ⟨A, n, c, e, hnl, hlc, hcm, hA⟩ : ∃ A n c, v = .slice A n c ∧ n = l.length ∧ n ≤ c ∧ c ≤ maxLen ∧ (A = none → c = 0) := by
      obtain ⟨A, c, e, h1, h2, h3, _⟩ := hown.isb
      exact ⟨A, _, c, e, rfl, h1, h2, h3⟩
    subst hnl
    by_cases hfit : l.length + r.length ≤ c
    · rcases hown with ⟨e2, rfl⟩ | ⟨g, o', c', cur, e2, h1, h2, h3, h4, h5⟩
      · rw [e] at e2; cases e2
        obtain rfl : r = [] := List.eq_nil_of_length_eq_zero (by simpa using hfit)
        refine ⟨zN, w, ?_, M.drop fun j t ht => ?_⟩
        · subst e
          exact run_append_nothing (P := Try.prog) w 22 22 o.type 5 i Try.underlying22 hi1 none 0 0 (Nat.le_refl _) u hsrc
        · rw [look_cons] at ht; split at ht
          · rename_i hkj; cases ht; rw [← hkj, hk, e]; rfl
          · exact ht
      · rw [e] at e2; cases e2
        have hcl : ∀ j, j < (r.map bv).length → w.cell? ⟨g, o' + l.length * i.size + j, none⟩ = cur[o' + l.length + j]? := fun j hj => by
          simp [World.cell?, h1, hi3]
        have hrun := run_append_room_src (P := Try.prog) w 22 22 o.type 5 i Try.underlying22 hi1 g o' l.length c u r.length (r.map bv) hsrc hfit
          (fun j hj => by rw [hcl j hj]; simp at hj; rw [Array.getElem?_eq_getElem (by omega)]; rfl) (fun j hj => by simp [World.frozen?, h1])
        obtain ⟨c2, q1, q2, q3, q4⟩ := heap_setCells g (r.map bv) (o' + l.length * i.size) w cur _ _ h1
        rw [hi3, Nat.mul_one] at q1 q3 q4 hrun
        refine ⟨_, _, by rw [e]; exact hrun, M.write hk rfl (grown_setCells g _ _ w) (fun b hb => by cases hb; show ofp v g; rw [ofp, e]; rfl) _ (.inr ⟨g, o', c, c2, by rw [List.length_append], q1, by rw [List.length_append]; exact hfit, hcm, by omega, fun j b hb => ?_⟩) tlR_dep fun b hb => ?_⟩
        · by_cases hj : j < l.length
          · rw [List.getElem?_append_left hj] at hb
            rw [q4 _ (.inl (by omega))]
            exact h5 j b hb
          · rw [List.getElem?_append_right (by omega)] at hb
            have hjr := (List.getElem?_eq_some_iff.1 hb).1
            have := q3 (j - l.length) (by simpa using hjr) (by omega)
            rw [show o' + l.length + (j - l.length) = o' + j by omega, List.getElem?_map, hb] at this
            exact this
        · have hb' : b = g := by have : ofp (.slice (some ⟨g, o', none⟩) (l.length + r.length) c) b := hb; rw [ofp] at this; injection this with this; exact this.symm
          subst hb'
          exact ⟨(Array.getElem?_eq_some_iff.1 q1).1, .inl (by show ofp v b; rw [ofp, e]; rfl)⟩
    · have hold : (Builtin.firstCells i.size l.length (.slice A l.length c)).run Try.prog w.drew = .ok (l.map bv).toArray w.drew := by
        have := (src_of (i := i) hown.isb hi3).cellsD
        rw [e] at this
        exact this
      have hrun := run_append_grow_src (P := Try.prog) w 22 22 o.type 5 i (.int .u8 0) Try.underlying22 hi1 hi2 A l.length c (l.map bv) hold u r.length (r.map bv) hsrc (by omega) (by omega) (growslice_fits (by omega) (by rw [hi4]; omega))
      have hge := grownCap_ge w (l.length + r.length) c 5
      have hcm2 := grownCap_le_maxLen w (l.length + r.length) c 5 (by unfold maxLen; omega)
      refine ⟨_, _, by rw [e]; exact hrun, M.write hk rfl (row := none) ?_ (fun b hb => by cases hb) _ (.inr ⟨w.heap.size, 0, _, _, by rw [List.length_append], heap_alloc_new w.drew _, by rw [List.length_append]; exact hge, hcm2, ?_, fun j b hb => ?_⟩) tlR_dep fun b hb => ?_⟩
      · have hb := zub w.drew (.cells ((l.map bv ++ r.map bv).toArray ++ Builtin.zeroCells (Value.int .u8 0).cells (grownCap w (l.length + r.length) c 5 - (l.length + r.length))) 5)
        exact ⟨hb.os, hb.tape, hb.output, hb.size, fun k hk _ => hb.block k hk⟩
      · rw [Nat.zero_add, Array.size_append, List.size_toArray, size_zeroCells, show (Value.int .u8 0).cells.size = 1 from rfl, Nat.mul_one, List.length_append, List.length_map, List.length_map]
        omega
      · rw [Nat.zero_add, Array.getElem?_append_left (by have := (List.getElem?_eq_some_iff.1 hb).1; simp at this ⊢; omega), List.getElem?_toArray, ← List.map_append, List.getElem?_map, hb]
        rfl
      · have hb' : b = w.heap.size := by have : some w.heap.size = some b := hb; injection this with this; exact this.symm
        subst hb'
        exact ⟨by simp, .inr (Nat.le_refl _)⟩
  refine ⟨v', w', ?_, hM⟩
  unfold execOp
  simp only [ho, resolve, invoke, builtin, Sem.run_bind, Sem.run_pure, Result.andThen_ok, List.map_toArray, List.map_cons, List.map_nil, hs, hx, hrun]
theorem run_slT (M : Mx G w0 w R) {k : Nat} {l : List UInt8} {v : Value} (hk : look R k = some (tlR l v)) (x lo : Operand) (ho : o.op = .slice 22 x (some lo) none none) (hx : a.eval x = v) {z : Int} {i : Nat} (hlo : a.eval lo = .int .i64 z) (hz : z = (i : Int)) (hi : i ≤ l.length) :
    ∃ v' w', (execOp a.eval o).run Try.prog w = .ok (.value v') w' ∧ Mx G w0 w' ((k, tlR (l.drop i) v') :: R) := by
  have hT : Tl w v l := M.at_ k _ hk
  obtain ⟨A, n, c, e, hn, hc⟩ : ∃ A n c, v = .slice A n c ∧ n = l.length ∧ n ≤ c := by
    obtain ⟨A, c, e, h1, _⟩ := hT.isb
    exact ⟨A, _, c, e, rfl, h1⟩
  have hrun : (execOp a.eval o).run Try.prog w = .ok (.value (slV A c i (n - i))) w := by
    subst hz
    unfold execOp
    simp only [ho, hx, e]
    simp only [Option.map_some, Option.map_none, hlo]
    rw [Sem.run_bind, run_sliceAt_slice _ _ _ _ _ _ under_byt, run_slice_l _ _ _ _ _ under_byt .i64 i (by omega) (by omega), elem_byt, size_byt]
    simp only [Result.andThen_ok, sliced, Int.toNat_natCast, Nat.mul_one, slV, Sem.run_pure]
  have key : Tl w (slV A c i (n - i)) (l.drop i) ∧ ∀ g, ofp (slV A c i (n - i)) g → ofp v g := by
    subst hn
    rcases hT with ⟨e2, rfl⟩ | ⟨g, o', c', cur, e2, h1, h2, h3, h4, h5⟩
    · rw [e] at e2; cases e2
      have : i = 0 := by simpa using hi
      subst this
      exact ⟨.inl ⟨by unfold slV; rfl, by simp⟩, fun g hg => by unfold slV at hg; simp [ofp, Value.ownBlock] at hg⟩
    · rw [e] at e2; cases e2
      unfold slV
      by_cases hci : c = i
      · subst hci
        rw [if_pos rfl]
        refine ⟨.inr ⟨g, o', 0, cur, by simp, h1, by simp; omega, by unfold maxLen; omega, by omega, fun j b hb => ?_⟩, fun b hb => by rw [e]; exact hb⟩
        rw [List.getElem?_drop] at hb
        have := (List.getElem?_eq_some_iff.1 hb).1
        omega
      · rw [if_neg hci]
        have e3 : (some (⟨g, o', none⟩ : Addr)).map (·.add i) = some ⟨g, o' + i, none⟩ := by simp [zdb]
        refine ⟨.inr ⟨g, o' + i, c - i, cur, by rw [e3]; simp, h1, by simp; omega, by omega, by omega, fun j b hb => ?_⟩, fun b hb => ?_⟩
        · rw [List.getElem?_drop] at hb
          rw [Nat.add_assoc]; exact h5 _ _ hb
        · rw [e3] at hb; rw [e]; exact hb
  exact ⟨_, w, hrun, M.write hk rfl (row := none) (World.grownBy.refl _ _) (fun g e => by cases e) _ key.1 tlR_dep fun g hg => ⟨M.lt k _ hk g (key.2 g hg), .inl (key.2 g hg)⟩⟩
end
end Go.Proofs.Ytlbkogdmojlpmaa
namespace Go.Proofs.Ytlbkogdmojlpmaa
open Go.ChangeShapes Go.WideShapes Go.ChangeAt Go.RowKit Go.Shelf
def away (k q : Nat) : List (Nat × Res) → List (Nat × Res)
  | [] => []
  | p :: L => if p.1 = k ∨ p.1 = q then away k q L else (p.1 + 10, p.2) :: away k q L
theorem look_away_lt {k q : Nat} : ∀ (R : List (Nat × Res)) (j : Nat), j < 10 → look (away k q R) j = none
  | [], _, _ => rfl
  | p :: L, j, hj => by
    unfold away
    split
    · exact look_away_lt L j hj
    · rw [look_cons, if_neg (by omega)]; exact look_away_lt L j hj
theorem z4b {k q : Nat} : ∀ (R : List (Nat × Res)) (j : Nat), ¬ (j = k ∨ j = q) → look (away k q R) (j + 10) = look R j
  | [], _, _ => rfl
  | p :: L, j, hj => by
    obtain ⟨i, x⟩ := p
    unfold away
    split
    · rename_i h
      rw [look_cons, if_neg (by intro e; subst e; exact hj h)]
      exact z4b L j hj
    · rw [look_cons, look_cons]
      by_cases e : i = j
      · rw [if_pos e, if_pos (by omega)]
      · rw [if_neg e, if_neg (by omega)]; exact z4b L j hj
theorem look_away_no {k q : Nat} : ∀ (R : List (Nat × Res)) (j : Nat), (j = k ∨ j = q) → look (away k q R) (j + 10) = none
  | [], _, _ => rfl
  | p :: L, j, hj => by
    obtain ⟨i, x⟩ := p
    unfold away
    split
    · exact look_away_no L j hj
    · rename_i h
      rw [look_cons, if_neg (by intro e; have : i = j := by omega
                                subst this; exact h hj)]
      exact look_away_no L j hj
section
variable {G : Option Nat} {w0 w : World} {R R' : List (Nat × Res)}
theorem Mx.ren (M : Mx G w0 w R) (f : Nat → Nat) (h : ∀ i r, look R' i = some r → look R (f i) = some r) (inj : ∀ i j r s, look R' i = some r → look R' j = some s → i ≠ j → f i ≠ f j) : Mx G w0 w R' :=
  ⟨M.grown, fun i r e => M.at_ _ r (h i r e), fun i r e => M.dep _ r (h i r e), fun i r e => M.lt _ r (h i r e), fun i r e => M.own _ r (h i r e), fun i j r s e1 e2 hij hw => M.dis _ _ r s (h i r e1) (h j s e2) (inj i j r s e1 e2 hij) hw⟩
theorem Mx.open2 (M : Mx G w0 w R) {k q : Nat} {r s : Res} (hk : look R k = some r) (hq : look R q = some s) (hne : k ≠ q) : Mx G w0 w ((0, r) :: (1, s) :: away k q R) := by
  have key : ∀ i x, look ((0, r) :: (1, s) :: away k q R) i = some x → i = 0 ∧ x = r ∨ i = 1 ∧ x = s ∨ ∃ j, i = j + 10 ∧ j ≠ k ∧ j ≠ q ∧ look R j = some x := fun i x e => by
    rw [look_cons] at e
    split at e
    · cases e; exact .inl ⟨by omega, rfl⟩
    · rw [look_cons] at e
      split at e
      · cases e; exact .inr (.inl ⟨by omega, rfl⟩)
      · by_cases hi : i < 10
        · rw [look_away_lt R i hi] at e; cases e
        · obtain ⟨j, rfl⟩ : ∃ j, i = j + 10 := ⟨i - 10, by omega⟩
          by_cases hj : j = k ∨ j = q
          · rw [look_away_no R j hj] at e; cases e
          · rw [z4b R j hj] at e
            exact .inr (.inr ⟨j, rfl, fun e => hj (.inl e), fun e => hj (.inr e), e⟩)
  refine M.ren (fun i => if i = 0 then k else if i = 1 then q else i - 10) (fun i x e => ?_) fun i j x y e1 e2 hij => ?_
  · rcases key i x e with ⟨rfl, rfl⟩ | ⟨rfl, rfl⟩ | ⟨j, rfl, h1, h2, h3⟩
    · exact hk
    · exact hq
    · simp only [show ¬ j + 10 = 0 by omega, show ¬ j + 10 = 1 by omega, if_false, Nat.add_sub_cancel]; exact h3
  · rcases key i x e1 with ⟨rfl, rfl⟩ | ⟨rfl, rfl⟩ | ⟨a, rfl, h1, h2, h3⟩ <;> rcases key j y e2 with ⟨rfl, rfl⟩ | ⟨rfl, rfl⟩ | ⟨b, rfl, k1, k2, k3⟩ <;> simp <;> omega
theorem Mx.close2 {k q : Nat} {r s : Res} {L : List (Nat × Res)} (M : Mx G w0 w L) (h0 : look L 0 = some r) (h1 : look L 1 = some s) (hT : ∀ j, look L (j + 10) = look (away k q R) (j + 10)) (hne : k ≠ q) : Mx G w0 w ((k, r) :: (q, s) :: R) := by
  refine M.ren (fun i => if i = k then 0 else if i = q then 1 else i + 10) (fun i x e => ?_) fun i j x y e1 e2 hij => ?_
  · rw [look_cons] at e
    by_cases hi : i = k
    · rw [if_pos hi.symm] at e; cases e; simp only [if_pos hi]; exact h0
    · rw [if_neg (fun e => hi e.symm), look_cons] at e
      by_cases hi2 : i = q
      · rw [if_pos hi2.symm] at e; cases e; simp only [if_neg hi, if_pos hi2]; exact h1
      · rw [if_neg (fun e => hi2 e.symm)] at e
        simp only [if_neg hi, if_neg hi2]
        rw [hT, z4b R i (fun h => h.elim hi hi2)]
        exact e
  · show (if i = k then 0 else if i = q then 1 else i + 10) ≠ (if j = k then 0 else if j = q then 1 else j + 10)
    repeat' split
    all_goals omega
theorem Mx.tlCut (M : Mx G w0 w R) {k : Nat} {l l' : List UInt8} {v v' : Value} (hk : look R k = some (tlR l v)) (hv : Tl w v' l') (hsub : ∀ g, ofp v' g → ofp v g) : Mx G w0 w ((k, tlR l' v') :: R) :=
  M.write hk rfl (row := none) (World.grownBy.refl _ _) (fun g e => by cases e) _ hv tlR_dep fun g hg => ⟨M.lt k _ hk g (hsub g hg), .inl (hsub g hg)⟩
end
end Go.Proofs.Ytlbkogdmojlpmaa
namespace Go.Proofs.Ytlbkogdmojlpmaa
open Go.ChangeShapes Go.WideShapes Go.ChangeAt Go.RowKit
theorem spoil_any (g : Nat) (u : Value) (n : Int) (b : Bool) (w : World) (hg : w.heap[g]? = some (.cells #[u, .int .i64 n, .bool b] 94 (0, 0))) :
  Calls Try.prog 61 #[.pointer (some ⟨g, 0, none⟩)] w fun e w' => ∃ t, e = .returned t ∧ w'.heap[g]? = some (.cells #[zN, .int .i64 n, .bool true] 94 (0, 0)) ∧ w.grownBy w' (some g) := by
 refine zg (args := [.pointer (some ⟨g, 0, none⟩)]) 8 Try.func61 rfl rfl rfl ?_
 intro fa F
 have M := Mx.theG hg 0
 refine zT fun _ hK1 => ?_
 refine zB 3 [(0, .pointer (some ⟨g, 0, none⟩)), (4, .pointer (some ⟨g, 2, none⟩))] [] dnil [] F fun _ F2 => ?_
 refine zn (za rfl) rfl F2 M (k := 0) rfl _ _ _ rfl (F2.get rfl) rfl (#[.bool true]) (#[u, .int .i64 n, .bool true]) rfl (zL rfl) (by simp [Value.oneCell']) (by kernel_rfl) (by kernel_rfl) ?_
 intro w3 M3
 clear M
 refine hK1 _ _ (zR ?_)
 refine zB 3 [(7, .pointer (some ⟨g, 0, none⟩))] [] dnil [] F2 fun _ F4 => ?_
 refine zn (za rfl) rfl F4 M3 (k := 0) rfl _ _ _ rfl (F4.get rfl) rfl (#[zN]) (#[zN, .int .i64 n, .bool true]) rfl (zL rfl) (zmb rfl) (by kernel_rfl) (by kernel_rfl) ?_
 intro w5 M5
 clear M3
 refine wpList_nil ?_
 try simp only [Exit.then, Exit.inBlock, Exit.jump]
 exact bodyPost_end (res0 rfl) F4.defers ⟨_, rfl, M5.blk (k := 0) rfl, M5.grown⟩
theorem bad_any (g : Nat) (u : Value) (n : Int) (b : Bool) (w : World) (hg : w.heap[g]? = some (.cells #[u, .int .i64 n, .bool b] 94 (0, 0))) :
  Calls Try.prog 32 #[.pointer (some ⟨g, 0, none⟩)] w fun e w' => e = .returned (.bool b) ∧ Below w.heap.size w w' := by
 refine zg (args := [.pointer (some ⟨g, 0, none⟩)]) 7 Try.func32 rfl rfl rfl ?_
 intro fa F
 have M := Mx.start w
 replace M := M.argO 0 hg (fun b e => by cases e)
 refine zT fun _ hK1 => ?_
 refine rm rfl F fun _ F2 => ?_
 refine hK1 _ _ (zS fun _ hK3 => ?_)
 refine zR ?_
 refine zB 5 [(2, .bool b)] [0] (zj (M.roB (k := 0) rfl) dnil) [g] F2 fun _ F4 => ?_
 refine hK3 _ _ (wp_ret ?_)
 try simp only [Exit.then, Exit.inBlock, Exit.jump]
 exact bodyPost_ret (res1 rfl (F4.get rfl)) F4.defers ⟨rfl, M.below⟩
theorem swrite_ok {G : Option Nat} {w0 w : World} {R : List (Nat × Res)} (M0 : Mx G w0 w R) (k q kb g : Nat) (l c : List UInt8) (u v : Value) (n : Int) (hk : look R k = some (blkR g 94 #[u, .int .i64 n, .bool false])) (hq : look R q = some (tlR l u)) (hb : look R kb = some (bytR c v)) (hne : k ≠ q) (hnb : ¬ (kb = k ∨ kb = q))
  (hl : l.length + c.length ≤ 1000000) (hnn : 0 ≤ n ∧ n ≤ 1000000) (hn : ¬ 100000 ≤ n) :
  Calls Try.prog 28 #[.pointer (some ⟨g, 0, none⟩), v] w fun e w' => ∃ t, e = .returned t ∧ ∃ u', Mx G w0 w' ((k, blkR g 94 #[u', .int .i64 (n + (c.length : Int)), .bool false]) :: (q, tlR (l ++ c) u') :: R) ∧ t = .bool true := by
 refine zg (args := [.pointer (some ⟨g, 0, none⟩), v]) 36 Try.func28 rfl rfl rfl ?_
 intro fa F
 have M := ((M0.open2 hk hq hne).part 2 (bytR c v) (M0.isb hb) z0a rfl (k := kb + 10) ((z4b R kb hnb).symm ▸ hb) rfl (fun _ h => h))
 refine zT fun _ hK1 => ?_
 refine rm rfl F fun _ F2 => ?_
 refine hK1 _ _ (zS fun _ hK3 => ?_)
 refine zT fun _ hK4 => ?_
 refine zB 9 [(0, .pointer (some ⟨g, 0, none⟩)), (1, v), (4, .bool false), (9, .bool false), (13, .int .i64 n)] [0, 0] (zj (M.blk (k := 0) rfl) dnil) [g, g] F2 fun _ F5 => ?_
 refine ze (w' := w) (zb rfl rfl rfl (F5.get rfl)) rfl F5 rfl (.bool false) (zob _ _ _ _ rfl (F5.get rfl) rfl (decide_eq_false hn)) fun _ F6 => ?_
 refine rn rfl rfl F6 rfl (.bool false) (zqa rfl (F6.get rfl) (F6.get rfl)) fun _ F7 => ?_
 refine hK4 _ _ (wp_cond_false (F7.get rfl) ?_)
 refine wp_skip ?_
 refine hK3 _ _ (zS fun _ hK8 => ?_)
 refine zR ?_
 refine zB 6 [(0, .pointer (some ⟨g, 0, none⟩)), (1, v), (4, .bool false), (18, .pointer (some ⟨g, 0, none⟩)), (22, u), (23, v)] [0] (zj (M.blk (k := 0) rfl) dnil) [g] F7 fun _ F9 => ?_
 refine zba (za rfl) rfl F9 rfl (run_appT M (k := 1) rfl _ _ rfl (F9.get rfl) (F9.get rfl) (M.isb (k := 2) rfl) hl) ?_
 intro v10 a10 w10 F10 M10
 clear F9 M
 obtain ⟨A10, c10, rfl⟩ := (Tl.isb (M10.at_ 1 _ rfl)).shape
 refine zA 2 [(25, .pointer (some ⟨g, 0, none⟩)), (26, .pointer (some ⟨g, 0, none⟩))] [] dnil [] F10 fun _ F11 => ?_
 refine zn (za rfl) rfl F11 M10 (k := 0) rfl _ _ _ rfl (F11.get rfl) (F11.get rfl) (#[.slice A10 ((l ++ c)).length c10]) (#[.slice A10 ((l ++ c)).length c10, .int .i64 n, .bool false]) rfl (zL rfl) (zmb rfl) (by kernel_rfl) (by kernel_rfl) ?_
 intro w12 M12
 clear M10
 refine hK8 _ _ (zS fun _ hK13 => ?_)
 refine zR ?_
 refine zB 5 [(4, .bool false), (27, .pointer (some ⟨g, 0, none⟩)), (30, .int .i64 n), (31, v)] [0] (zj (M12.blk (k := 0) rfl) dnil) [g] F11 fun _ F14 => ?_
 refine rn rfl rfl F14 rfl (.int .i64 (c.length : Int)) (z9 _ rfl (F14.get rfl) (M12.isb (k := 2) rfl) rfl) fun _ F15 => ?_
 refine rn rfl rfl F15 rfl (.int .i64 (n + (c.length : Int))) (zz _ _ _ _ rfl (F15.get rfl) (F15.get rfl) rfl (by omega)) fun _ F16 => ?_
 refine zB 2 [(4, .bool false), (33, .int .i64 (n + (c.length : Int))), (35, .pointer (some ⟨g, 1, none⟩))] [] dnil [] F16 fun _ F17 => ?_
 refine zn (za rfl) rfl F17 M12 (k := 0) rfl _ _ _ rfl (F17.get rfl) (F17.get rfl) (#[.int .i64 (n + (c.length : Int))]) (#[.slice A10 ((l ++ c)).length c10, .int .i64 (n + (c.length : Int)), .bool false]) rfl (zL rfl) (zeb _ _) (by kernel_rfl) (by kernel_rfl) ?_
 intro w18 M18
 clear M12
 refine hK13 _ _ (zS fun _ hK19 => ?_)
 refine zR ?_
 refine rm rfl F17 fun _ F20 => ?_
 refine hK19 _ _ (wp_ret ?_)
 try simp only [Exit.then, Exit.inBlock, Exit.jump]
 exact bodyPost_ret (res1 rfl (F20.get rfl)) F20.defers ⟨_, rfl, .slice A10 ((l ++ c)).length c10, M18.close2 (k := k) (q := q) (R := R) rfl rfl (fun _ => rfl) hne, rfl⟩
theorem swrite_big {G : Option Nat} {w0 w : World} {R : List (Nat × Res)} (M0 : Mx G w0 w R) (k q kb g : Nat) (l c : List UInt8) (u v : Value) (n : Int) (hk : look R k = some (blkR g 94 #[u, .int .i64 n, .bool false])) (hq : look R q = some (tlR l u)) (hb : look R kb = some (bytR c v)) (hne : k ≠ q) (hnb : ¬ (kb = k ∨ kb = q))
  (hl : l.length + c.length ≤ 1000000) (hnn : 0 ≤ n ∧ n ≤ 1000000) (hn : 100000 ≤ n) :
  Calls Try.prog 28 #[.pointer (some ⟨g, 0, none⟩), v] w fun e w' => ∃ t, e = .returned t ∧ ∃ u', Mx G w0 w' ((k, blkR g 94 #[u', .int .i64 n, .bool true]) :: (q, tlR [] u') :: R) ∧ t = .bool false := by
 refine zg (args := [.pointer (some ⟨g, 0, none⟩), v]) 36 Try.func28 rfl rfl rfl ?_
 intro fa F
 have M := ((M0.open2 hk hq hne).part 2 (bytR c v) (M0.isb hb) z0a rfl (k := kb + 10) ((z4b R kb hnb).symm ▸ hb) rfl (fun _ h => h))
 refine zT fun _ hK1 => ?_
 refine rm rfl F fun _ F2 => ?_
 refine hK1 _ _ (zS fun _ hK3 => ?_)
 refine zT fun _ hK4 => ?_
 refine zB 9 [(0, .pointer (some ⟨g, 0, none⟩)), (1, v), (4, .bool false), (9, .bool false), (13, .int .i64 n)] [0, 0] (zj (M.blk (k := 0) rfl) dnil) [g, g] F2 fun _ F5 => ?_
 refine ze (w' := w) (zb rfl rfl rfl (F5.get rfl)) rfl F5 rfl (.bool true) (zob _ _ _ _ rfl (F5.get rfl) rfl (decide_eq_true hn)) fun _ F6 => ?_
 refine rn rfl rfl F6 rfl (.bool true) (zqa rfl (F6.get rfl) (F6.get rfl)) fun _ F7 => ?_
 refine hK4 _ _ (wp_cond_true (F7.get rfl) ?_)
 refine zT fun _ hK8 => ?_
 refine rm rfl F7 fun _ F9 => ?_
 refine zd (za rfl) rfl F9 rfl rfl (zE Try.func61 rfl) #[.pointer (some ⟨g, 0, none⟩)] (zp (F9.get rfl)) (spoil_any g u n false w (M.blk (k := 0) rfl)) ?_
 rintro _ w10 a10 ⟨hc10, hg10⟩ F10
 have M10 := (M.put (k := 0) rfl hg10 hc10).tlCut (k := 1) rfl (.inl ⟨rfl, rfl⟩) (fun g e => by cases e)
 clear M hg10 hc10
 refine hK8 _ _ (zS fun _ hK11 => ?_)
 refine zR ?_
 refine rm rfl F10 fun _ F12 => ?_
 refine hK11 _ _ (wp_ret ?_)
 try simp only [Exit.then, Exit.inBlock, Exit.jump]
 exact bodyPost_ret (res1 rfl (F12.get rfl)) F12.defers ⟨_, rfl, (zN), M10.close2 (k := k) (q := q) (R := R) rfl rfl (fun _ => rfl) hne, rfl⟩
theorem swrite_bad {G : Option Nat} {w0 w : World} {R : List (Nat × Res)} (M0 : Mx G w0 w R) (k q kb g : Nat) (l c : List UInt8) (u v : Value) (n : Int) (hk : look R k = some (blkR g 94 #[u, .int .i64 n, .bool true])) (hq : look R q = some (tlR l u)) (hb : look R kb = some (bytR c v)) (hne : k ≠ q) (hnb : ¬ (kb = k ∨ kb = q))
  (hl : l.length + c.length ≤ 1000000) (hnn : 0 ≤ n ∧ n ≤ 1000000) :
  Calls Try.prog 28 #[.pointer (some ⟨g, 0, none⟩), v] w fun e w' => ∃ t, e = .returned t ∧ ∃ u', Mx G w0 w' ((k, blkR g 94 #[u', .int .i64 n, .bool true]) :: (q, tlR [] u') :: R) ∧ t = .bool false := by
 refine zg (args := [.pointer (some ⟨g, 0, none⟩), v]) 36 Try.func28 rfl rfl rfl ?_
 intro fa F
 have M := ((M0.open2 hk hq hne).part 2 (bytR c v) (M0.isb hb) z0a rfl (k := kb + 10) ((z4b R kb hnb).symm ▸ hb) rfl (fun _ h => h))
 refine zT fun _ hK1 => ?_
 refine rm rfl F fun _ F2 => ?_
 refine hK1 _ _ (zS fun _ hK3 => ?_)
 refine zT fun _ hK4 => ?_
 refine zB 11 [(0, .pointer (some ⟨g, 0, none⟩)), (1, v), (4, .bool false), (15, .bool true)] [0] (zj (M.blk (k := 0) rfl) dnil) [g] F2 fun _ F5 => ?_
 refine hK4 _ _ (wp_cond_true (F5.get rfl) ?_)
 refine zT fun _ hK6 => ?_
 refine rm rfl F5 fun _ F7 => ?_
 refine zd (za rfl) rfl F7 rfl rfl (zE Try.func61 rfl) #[.pointer (some ⟨g, 0, none⟩)] (zp (F7.get rfl)) (spoil_any g u n true w (M.blk (k := 0) rfl)) ?_
 rintro _ w8 a8 ⟨hc8, hg8⟩ F8
 have M8 := (M.put (k := 0) rfl hg8 hc8).tlCut (k := 1) rfl (.inl ⟨rfl, rfl⟩) (fun g e => by cases e)
 clear M hg8 hc8
 refine hK6 _ _ (zS fun _ hK9 => ?_)
 refine zR ?_
 refine rm rfl F8 fun _ F10 => ?_
 refine hK9 _ _ (wp_ret ?_)
 try simp only [Exit.then, Exit.inBlock, Exit.jump]
 exact bodyPost_ret (res1 rfl (F10.get rfl)) F10.defers ⟨_, rfl, (zN), M8.close2 (k := k) (q := q) (R := R) rfl rfl (fun _ => rfl) hne, rfl⟩
end Go.Proofs.Ytlbkogdmojlpmaa
namespace Go.Proofs.Ytlbkogdmojlpmaa
open Go.ChangeShapes Go.WideShapes Go.ChangeAt Go.RowKit
theorem decode_ex (b : List UInt8) (bv : Value) (hl : b.length ≤ 100000) (w : World) (hb : IsB w b bv) : Calls Try.prog 20 #[bv] w fun e w' => ∃ t, e = .returned t ∧ ∃ V, t = .tuple #[.agg (msgA (decR b) V), .bool (decOk b)] ∧ MsgIs w' (decR b) V ∧ (∀ q, z6a V q → w.heap.size ≤ q) ∧ Below w.heap.size w w' :=
  (decode_any b bv hl w hb).mono fun e w' ⟨V, h1, h2, h3, h4⟩ => ⟨_, h1, V, rfl, h2, h3, h4⟩
def wrLt (R : List (Nat × Res)) (N : Nat) : Prop := ∀ k s, look R k = some s → s.wr = true → ∀ g, s.fp g → g < N
theorem Mx.roB2 {G : Option Nat} {w0 w : World} {R : List (Nat × Res)} {N : Nat} (M : Mx G w0 w R) (hN : wrLt R N) (i : Nat) {l : List UInt8} {v : Value} (hv : IsB w l v) (hlo : ∀ g, bfp v g → N ≤ g) : Mx G w0 w ((i, bytR l v) :: R) ∧ wrLt ((i, bytR l v) :: R) N :=
  ⟨M.cons i _ hv z0a (fun g hg => hv.lt hg) (fun e => by cases e) fun k s e _ hh g hg hs => by
    rcases hh with hh | hh
    · cases hh
    · have h1 := hN k s e hh g hs
      have h2 := hlo g hg
      omega, fun k s e hw g hg => by
    rw [look_cons] at e; split at e
    · cases e; cases hw
    · exact hN k s e hw g hg⟩
theorem inj_step {c n i j a b : Nat} (hn : n < 10) (hij : i ≠ j) (h : a ≠ b ∧ (a < n ∨ 10 ≤ a) ∧ (b < n ∨ 10 ≤ b)) : (if i = c then n else a) ≠ (if j = c then n else b) ∧ ((if i = c then n else a) < n + 1 ∨ 10 ≤ (if i = c then n else a)) ∧ ((if j = c then n else b) < n + 1 ∨ 10 ≤ (if j = c then n else b)) := by
  obtain ⟨h1, h2, h3⟩ := h
  by_cases e1 : i = c
  · rw [if_pos e1, if_neg (fun e => hij (e1.trans e.symm))]
    exact ⟨by omega, .inl (by omega), by omega⟩
  · by_cases e2 : j = c
    · rw [if_neg e1, if_pos e2]
      exact ⟨by omega, by omega, .inl (by omega)⟩
    · rw [if_neg e1, if_neg e2]
      exact ⟨h1, by omega, by omega⟩
theorem inj_step2 {c n i j a b : Nat} (hn : n < 10) (hij : i ≠ j) (h : a ≠ b) (ha : a ≠ n) (hb : b ≠ n) : (if i = c then n else a) ≠ (if j = c then n else b) := by
  by_cases e1 : i = c
  · rw [if_pos e1, if_neg (fun e => hij (e1.trans e.symm))]; exact fun e => hb e.symm
  · by_cases e2 : j = c
    · rw [if_neg e1, if_pos e2]; exact ha
    · rw [if_neg e1, if_neg e2]; exact h
theorem val_ne {i c n a m : Nat} (h1 : n ≠ m) (h2 : a ≠ m) : (if i = c then n else a) ≠ m := by
  by_cases e : i = c
  · rw [if_pos e]; exact h1
  · rw [if_neg e]; exact h2
theorem val_le {i k q : Nat} : (if i = k then 0 else if i = q then 1 else i + 10) < 3 ∨ 10 ≤ (if i = k then 0 else if i = q then 1 else i + 10) := by
  by_cases e : i = k
  · rw [if_pos e]; exact .inl (by omega)
  · rw [if_neg e]
    by_cases e2 : i = q
    · rw [if_pos e2]; exact .inl (by omega)
    · rw [if_neg e2]; exact .inr (by omega)
theorem Mx.close7 {G : Option Nat} {w0 w : World} {R : List (Nat × Res)} {k q : Nat} {r s r5 r6 r7 r8 r9 : Res} {L : List (Nat × Res)} (M : Mx G w0 w L) (k5 k6 k7 k8 k9 : Nat) (h0 : look L 0 = some r) (h1 : look L 1 = some s) (h5 : look L 3 = some r5) (h6 : look L 4 = some r6) (h7 : look L 5 = some r7) (h8 : look L 6 = some r8) (h9 : look L 7 = some r9)
    (hT : ∀ j, look L (j + 10) = look (away k q R) (j + 10)) : Mx G w0 w ((k9, r9) :: (k8, r8) :: (k7, r7) :: (k6, r6) :: (k5, r5) :: (k, r) :: (q, s) :: R) := by
  refine M.ren (fun i => if i = k9 then 7 else if i = k8 then 6 else if i = k7 then 5 else if i = k6 then 4 else if i = k5 then 3 else if i = k then 0 else if i = q then 1 else i + 10) (fun i x e => ?_) fun i j x y e1 e2 hij => ?_
  · have step : ∀ (c : Nat) (y : Res) (T : List (Nat × Res)) (n m : Nat), look L n = some y → (look T i = some x → look L m = some x) → look ((c, y) :: T) i = some x → look L (if i = c then n else m) = some x := fun c y T n m hn hm e => by
      rw [look_cons] at e
      by_cases hi : i = c
      · rw [if_pos hi.symm] at e; cases e; rw [if_pos hi]; exact hn
      · rw [if_neg (fun e => hi e.symm)] at e; rw [if_neg hi]; exact hm e
    refine step k9 r9 _ 7 _ h9 (step k8 r8 _ 6 _ h8 (step k7 r7 _ 5 _ h7 (step k6 r6 _ 4 _ h6 (step k5 r5 _ 3 _ h5 ?_)))) e
    intro e
    rw [look_cons] at e
    by_cases hi : i = k
    · rw [if_pos hi.symm] at e; cases e; rw [if_pos hi]; exact h0
    · rw [if_neg (fun e => hi e.symm), look_cons] at e
      rw [if_neg hi]
      by_cases hi2 : i = q
      · rw [if_pos hi2.symm] at e; cases e; rw [if_pos hi2]; exact h1
      · rw [if_neg (fun e => hi2 e.symm)] at e
        rw [if_neg hi2, hT, z4b R i (fun h => h.elim hi hi2)]
        exact e
  · have h0 : i + 10 ≠ j + 10 ∧ (i + 10 < 0 ∨ 10 ≤ i + 10) ∧ (j + 10 < 0 ∨ 10 ≤ j + 10) := ⟨by omega, .inr (by omega), .inr (by omega)⟩
    have s1 := inj_step (c := q) (n := 1) (by omega) hij ⟨h0.1, .inr (by omega), .inr (by omega)⟩
    have s0 := inj_step2 (c := k) (n := 0) (by omega) hij s1.1 (val_ne (by omega) (by omega)) (val_ne (by omega) (by omega))
    exact (inj_step (c := k9) (n := 7) (by omega) hij (inj_step (c := k8) (n := 6) (by omega) hij (inj_step (c := k7) (n := 5) (by omega) hij (inj_step (c := k6) (n := 4) (by omega) hij (inj_step (c := k5) (n := 3) (by omega) hij ⟨s0, val_le, val_le⟩))))).1
theorem Mx.newMsg {G : Option Nat} {w0 w w' : World} {R : List (Nat × Res)} (M : Mx G w0 w R) (h : Below w.heap.size w w') {m : MsgN} {V : MsgV} (hm : MsgIs w' m V) (hlo : ∀ q, z6a V q → w.heap.size ≤ q) (a b c d e : Nat) :
    Mx G w0 w' ((e, bytR m.l9 V.v9) :: (d, bytR m.l8 V.v8) :: (c, bytR m.l7 V.v7) :: (b, bytR m.l6 V.v6) :: (a, bytR m.l5 V.v5) :: R) := by
  obtain ⟨M1, n1⟩ := (M.step h).roB2 (N := w.heap.size) (fun k s e _ g hg => M.lt k s e g hg) a hm.h5 (fun g hg => hlo g (.inl hg))
  obtain ⟨M2, n2⟩ := M1.roB2 n1 b hm.h6 (fun g hg => hlo g (.inr (.inl hg)))
  obtain ⟨M3, n3⟩ := M2.roB2 n2 c hm.h7 (fun g hg => hlo g (.inr (.inr (.inl hg))))
  obtain ⟨M4, n4⟩ := M3.roB2 n3 d hm.h8 (fun g hg => hlo g (.inr (.inr (.inr (.inl hg)))))
  exact (M4.roB2 n4 e hm.h9 (fun g hg => hlo g (.inr (.inr (.inr (.inr hg)))))).1
theorem next_short {G : Option Nat} {w0 w : World} {R : List (Nat × Res)} (M0 : Mx G w0 w R) (k q g : Nat) (l : List UInt8) (u : Value) (n : Int) (b : Bool) (hk : look R k = some (blkR g 94 #[u, .int .i64 n, .bool b])) (hq : look R q = some (tlR l u)) (hne : k ≠ q) (hl : l.length ≤ 1000000) (h2 : l.length < 2) :
  Calls Try.prog 30 #[.pointer (some ⟨g, 0, none⟩)] w fun e w' => ∃ t, e = .returned t ∧ ∃ u', Mx G w0 w' ((k, blkR g 94 #[u', .int .i64 n, .bool b]) :: (q, tlR l u') :: R) ∧ t = .tuple #[.agg (msgA mZero vZero), .bool false] := by
 refine zg (args := [.pointer (some ⟨g, 0, none⟩)]) 69 Try.func30 rfl rfl rfl ?_
 intro fa F
 have M := (M0.open2 hk hq hne)
 refine zT fun _ hK1 => ?_
 refine zf (za rfl) rfl F rfl M 2 (t := 29) (c := msgA ⟨0, 0, 0, 0, "".toUTF8, 0, 0, [], [], [], [], []⟩ ⟨zN, zN, zN, zN, zN⟩) (by unfold execOp; kernel_rfl) ?_
 intro g2 a2 w2 F2 M2
 clear F M
 refine rm rfl F2 fun _ F3 => ?_
 refine hK1 _ _ (zS fun _ hK4 => ?_)
 refine zT fun _ hK5 => ?_
 refine zB 4 [(0, .pointer (some ⟨g, 0, none⟩)), (2, .pointer (some ⟨g2, 0, none⟩)), (3, .bool false), (9, u)] [0] (zj (M2.blk (k := 0) rfl) dnil) [g] F3 fun _ F6 => ?_
 refine rn rfl rfl F6 rfl (.int .i64 (l.length : Int)) (z9 _ rfl (F6.get rfl) (Tl.isb (M2.at_ 1 _ rfl)) rfl) fun _ F7 => ?_
 refine rn rfl rfl F7 rfl (.bool true) (zoa _ _ _ _ rfl (F7.get rfl) rfl (decide_eq_true (by omega))) fun _ F8 => ?_
 refine hK5 _ _ (wp_cond_true (F8.get rfl) ?_)
 refine zT fun _ hK9 => ?_
 refine rn rfl rfl F8 rfl (.agg (msgA ⟨0, 0, 0, 0, "".toUTF8, 0, 0, [], [], [], [], []⟩ ⟨zN, zN, zN, zN, zN⟩)) (by unfold execOp; kernel_rfl) fun _ F10 => ?_
 refine zn (za rfl) rfl F10 M2 (k := 2) rfl _ _ _ rfl (F10.get rfl) (F10.get rfl) (msgA ⟨0, 0, 0, 0, "".toUTF8, 0, 0, [], [], [], [], []⟩ ⟨zN, zN, zN, zN, zN⟩) _ rfl (zL rfl) (zy (w := w) ⟨zc _, zc _, zc _, zc _, zc _⟩) (zt rfl) (by kernel_rfl) ?_
 intro w11 M11
 clear M2
 refine rm rfl F10 fun _ F12 => ?_
 refine hK9 _ _ (wp_ret ?_)
 try simp only [Exit.then, Exit.inBlock, Exit.jump]
 exact bodyPost_ret (resCT rfl (F12.get rfl) (M11.blk (k := 2) rfl) (F12.get rfl) Try.underlying29 rfl (by kernel_rfl)) F12.defers ⟨_, rfl, u, M11.close2 (k := k) (q := q) (R := R) rfl rfl (fun _ => rfl) hne, rfl⟩
theorem next_over {G : Option Nat} {w0 w : World} {R : List (Nat × Res)} (M0 : Mx G w0 w R) (k q g : Nat) (l : List UInt8) (u : Value) (n : Int) (b : Bool) (hk : look R k = some (blkR g 94 #[u, .int .i64 n, .bool b])) (hq : look R q = some (tlR l u)) (hne : k ≠ q) (hl : l.length ≤ 1000000) (x0 x1 : UInt8) (h0 : l[0]? = some x0) (h1 : l[1]? = some x1) (F : Nat) (hF : x0.toNat * 256 + x1.toNat = F) (h2 : 2 ≤ l.length) (hf : 200 < F) :
  Calls Try.prog 30 #[.pointer (some ⟨g, 0, none⟩)] w fun e w' => ∃ t, e = .returned t ∧ ∃ u', Mx G w0 w' ((k, blkR g 94 #[u', .int .i64 n, .bool true]) :: (q, tlR [] u') :: R) ∧ t = .tuple #[.agg (msgA mZero vZero), .bool false] := by
 have hx0 := x0.toNat_lt
 have hx1 := x1.toNat_lt
 refine zg (args := [.pointer (some ⟨g, 0, none⟩)]) 69 Try.func30 rfl rfl rfl ?_
 intro fa F
 have M := (M0.open2 hk hq hne)
 refine zT fun _ hK1 => ?_
 refine zf (za rfl) rfl F rfl M 2 (t := 29) (c := msgA ⟨0, 0, 0, 0, "".toUTF8, 0, 0, [], [], [], [], []⟩ ⟨zN, zN, zN, zN, zN⟩) (by unfold execOp; kernel_rfl) ?_
 intro g2 a2 w2 F2 M2
 clear F M
 refine rm rfl F2 fun _ F3 => ?_
 refine hK1 _ _ (zS fun _ hK4 => ?_)
 refine zT fun _ hK5 => ?_
 refine zB 4 [(0, .pointer (some ⟨g, 0, none⟩)), (2, .pointer (some ⟨g2, 0, none⟩)), (3, .bool false), (9, u)] [0] (zj (M2.blk (k := 0) rfl) dnil) [g] F3 fun _ F6 => ?_
 refine rn rfl rfl F6 rfl (.int .i64 (l.length : Int)) (z9 _ rfl (F6.get rfl) (Tl.isb (M2.at_ 1 _ rfl)) rfl) fun _ F7 => ?_
 refine rn rfl rfl F7 rfl (.bool false) (zoa _ _ _ _ rfl (F7.get rfl) rfl (decide_eq_false (by omega))) fun _ F8 => ?_
 refine hK5 _ _ (wp_cond_false (F8.get rfl) ?_)
 refine wp_skip ?_
 refine hK4 _ _ (zS fun _ hK9 => ?_)
 have hD10 := (zj (M2.blk (k := 0) rfl) dnil)
 refine z5a F8 (SK [.inl (.pointer (some ⟨g, 0, none⟩)), .inl (.pointer (some ⟨g, 0, none⟩)), .inl (.pointer (some ⟨g, 0, none⟩)), .inl (u), .inl ((ixV (u) 0)), .inl (.int .u8 ((x0.toNat : Nat) : Int)), .inl (.int .i64 ((x0.toNat : Nat) : Int)), .inl (.int .i64 (((x0.toNat : Nat) : Int) * 256)), .inl (.pointer (some ⟨g, 0, none⟩)), .inl (.pointer (some ⟨g, 0, none⟩)), .inl (.pointer (some ⟨g, 0, none⟩)), .inl (u), .inl ((ixV (u) 1)), .inl (.int .u8 ((x1.toNat : Nat) : Int)), .inl (.int .i64 ((x1.toNat : Nat) : Int)), .inl (.int .i64 (F : Int)), .inl (.int .i64 (F : Int))]) 17 rfl (by kernel_rfl) ⟨hop0 F8 (by kernel_rfl), hop0 F8 (by kernel_rfl), hop0 F8 (by kernel_rfl), hopP F8 hD10 0 (some g) (by kernel_rfl), ?_, ?_, ?_, ?_, hop0 F8 (by kernel_rfl), hop0 F8 (by kernel_rfl), hop0 F8 (by kernel_rfl), hopP F8 hD10 0 (some g) (by kernel_rfl), ?_, ?_, ?_, ?_, hop0 F8 (by kernel_rfl), trivial⟩ ?_
 ·intro ua uw hb hd
  have e16 : ua.eval (.tmp 16) = u := hd 16 (by decide)
  exact zk (F := (StK.eq ((ixV (u) 0))).F) (za rfl) ((ixV (u) 0)) (zgb _ _ rfl e16 (Tl.isb ((M2.step hb).at_ 1 _ rfl)) rfl rfl (by omega)) rfl
 ·intro ua uw hb hd
  have e17 : ua.eval (.tmp 17) = (ixV (u) 0) := hd 17 (by decide)
  exact zk (F := (StK.eq (.int .u8 ((x0.toNat : Nat) : Int))).F) (za rfl) (.int .u8 ((x0.toNat : Nat) : Int)) (zvb _ rfl e17 (Tl.isb ((M2.step hb).at_ 1 _ rfl)) h0 rfl) rfl
 ·intro ua uw hb hd
  have e18 : ua.eval (.tmp 18) = .int .u8 ((x0.toNat : Nat) : Int) := hd 18 (by decide)
  exact zk (F := (StK.eq (.int .i64 ((x0.toNat : Nat) : Int))).F) (za rfl) (.int .i64 ((x0.toNat : Nat) : Int)) (zxa _ _ _ rfl e18 Try.underlying5 Try.underlying3 (zta _)) rfl
 ·intro ua uw hb hd
  have e19 : ua.eval (.tmp 19) = .int .i64 ((x0.toNat : Nat) : Int) := hd 19 (by decide)
  exact zk (F := (StK.eq (.int .i64 (((x0.toNat : Nat) : Int) * 256))).F) (za rfl) (.int .i64 (((x0.toNat : Nat) : Int) * 256)) (y_shlI _ _ _ _ rfl e19 rfl (by decide) (shl8 (by omega))) rfl
 ·intro ua uw hb hd
  have e24 : ua.eval (.tmp 24) = u := hd 24 (by decide)
  exact zk (F := (StK.eq ((ixV (u) 1))).F) (za rfl) ((ixV (u) 1)) (zgb _ _ rfl e24 (Tl.isb ((M2.step hb).at_ 1 _ rfl)) rfl rfl (by omega)) rfl
 ·intro ua uw hb hd
  have e25 : ua.eval (.tmp 25) = (ixV (u) 1) := hd 25 (by decide)
  exact zk (F := (StK.eq (.int .u8 ((x1.toNat : Nat) : Int))).F) (za rfl) (.int .u8 ((x1.toNat : Nat) : Int)) (zvb _ rfl e25 (Tl.isb ((M2.step hb).at_ 1 _ rfl)) h1 rfl) rfl
 ·intro ua uw hb hd
  have e26 : ua.eval (.tmp 26) = .int .u8 ((x1.toNat : Nat) : Int) := hd 26 (by decide)
  exact zk (F := (StK.eq (.int .i64 ((x1.toNat : Nat) : Int))).F) (za rfl) (.int .i64 ((x1.toNat : Nat) : Int)) (zxa _ _ _ rfl e26 Try.underlying5 Try.underlying3 (zta _)) rfl
 ·intro ua uw hb hd
  have e20 : ua.eval (.tmp 20) = .int .i64 (((x0.toNat : Nat) : Int) * 256) := hd 20 (by decide)
  have e27 : ua.eval (.tmp 27) = .int .i64 ((x1.toNat : Nat) : Int) := hd 27 (by decide)
  exact zk (F := (StK.eq (.int .i64 (F : Int))).F) (za rfl) (.int .i64 (F : Int)) (y_orU _ _ _ _ rfl e20 e27 (by rw [or_i64 _ _ (by omega) hx1, hF])) rfl
 intro p11 a11 w11 b11 G11 y11
 obtain ⟨-, -, -, -, -, -, -, -, -, -, -, -, -, -, -, -, q16, -⟩ := y11
 have r16 : p11 16 = .int .i64 (F : Int) := q16 (by decide)
 simp only [List.take, layV, Nat.zero_add, Nat.reduceAdd, r16] at G11
 have M11 := M2.kc b11
 clear F8 M2 r16 q16
 refine hK9 _ _ (zS fun _ hK12 => ?_)
 refine zT fun _ hK13 => ?_
 refine rm rfl G11 fun _ F14 => ?_
 refine rn rfl rfl F14 rfl (.bool true) (zya _ _ _ _ rfl (F14.get rfl) rfl (decide_eq_true (by omega))) fun _ F15 => ?_
 refine hK13 _ _ (wp_cond_true (F15.get rfl) ?_)
 refine zT fun _ hK16 => ?_
 refine rm rfl F15 fun _ F17 => ?_
 refine zd (za rfl) rfl F17 rfl rfl (zE Try.func61 rfl) #[.pointer (some ⟨g, 0, none⟩)] (zp (F17.get rfl)) (spoil_any g u n b w11 (M11.blk (k := 0) rfl)) ?_
 rintro _ w18 a18 ⟨hc18, hg18⟩ F18
 have M18 := (M11.put (k := 0) rfl hg18 hc18).tlCut (k := 1) rfl (.inl ⟨rfl, rfl⟩) (fun g e => by cases e)
 clear M11 hg18 hc18
 refine hK16 _ _ (zS fun _ hK19 => ?_)
 refine zR ?_
 refine rn rfl rfl F18 rfl (.agg (msgA ⟨0, 0, 0, 0, "".toUTF8, 0, 0, [], [], [], [], []⟩ ⟨zN, zN, zN, zN, zN⟩)) (by unfold execOp; kernel_rfl) fun _ F20 => ?_
 refine zn (za rfl) rfl F20 M18 (k := 2) rfl _ _ _ rfl (F20.get rfl) (F20.get rfl) (msgA ⟨0, 0, 0, 0, "".toUTF8, 0, 0, [], [], [], [], []⟩ ⟨zN, zN, zN, zN, zN⟩) _ rfl (zL rfl) (zy (w := w) ⟨zc _, zc _, zc _, zc _, zc _⟩) (zt rfl) (by kernel_rfl) ?_
 intro w21 M21
 clear M18
 refine rm rfl F20 fun _ F22 => ?_
 refine hK19 _ _ (wp_ret ?_)
 try simp only [Exit.then, Exit.inBlock, Exit.jump]
 exact bodyPost_ret (resCT rfl (F22.get rfl) (M21.blk (k := 2) rfl) (F22.get rfl) Try.underlying29 rfl (by kernel_rfl)) F22.defers ⟨_, rfl, (zN), M21.close2 (k := k) (q := q) (R := R) rfl rfl (fun _ => rfl) hne, rfl⟩
theorem next_wait {G : Option Nat} {w0 w : World} {R : List (Nat × Res)} (M0 : Mx G w0 w R) (k q g : Nat) (l : List UInt8) (u : Value) (n : Int) (b : Bool) (hk : look R k = some (blkR g 94 #[u, .int .i64 n, .bool b])) (hq : look R q = some (tlR l u)) (hne : k ≠ q) (hl : l.length ≤ 1000000) (x0 x1 : UInt8) (h0 : l[0]? = some x0) (h1 : l[1]? = some x1) (F : Nat) (hF : x0.toNat * 256 + x1.toNat = F) (h2 : 2 ≤ l.length) (hf : F ≤ 200) (hw : l.length < 2 + F) :
  Calls Try.prog 30 #[.pointer (some ⟨g, 0, none⟩)] w fun e w' => ∃ t, e = .returned t ∧ ∃ u', Mx G w0 w' ((k, blkR g 94 #[u', .int .i64 n, .bool b]) :: (q, tlR l u') :: R) ∧ t = .tuple #[.agg (msgA mZero vZero), .bool false] := by
 have hx0 := x0.toNat_lt
 have hx1 := x1.toNat_lt
 refine zg (args := [.pointer (some ⟨g, 0, none⟩)]) 69 Try.func30 rfl rfl rfl ?_
 intro fa F
 have M := (M0.open2 hk hq hne)
 refine zT fun _ hK1 => ?_
 refine zf (za rfl) rfl F rfl M 2 (t := 29) (c := msgA ⟨0, 0, 0, 0, "".toUTF8, 0, 0, [], [], [], [], []⟩ ⟨zN, zN, zN, zN, zN⟩) (by unfold execOp; kernel_rfl) ?_
 intro g2 a2 w2 F2 M2
 clear F M
 refine rm rfl F2 fun _ F3 => ?_
 refine hK1 _ _ (zS fun _ hK4 => ?_)
 refine zT fun _ hK5 => ?_
 refine zB 4 [(0, .pointer (some ⟨g, 0, none⟩)), (2, .pointer (some ⟨g2, 0, none⟩)), (3, .bool false), (9, u)] [0] (zj (M2.blk (k := 0) rfl) dnil) [g] F3 fun _ F6 => ?_
 refine rn rfl rfl F6 rfl (.int .i64 (l.length : Int)) (z9 _ rfl (F6.get rfl) (Tl.isb (M2.at_ 1 _ rfl)) rfl) fun _ F7 => ?_
 refine rn rfl rfl F7 rfl (.bool false) (zoa _ _ _ _ rfl (F7.get rfl) rfl (decide_eq_false (by omega))) fun _ F8 => ?_
 refine hK5 _ _ (wp_cond_false (F8.get rfl) ?_)
 refine wp_skip ?_
 refine hK4 _ _ (zS fun _ hK9 => ?_)
 have hD10 := (zj (M2.blk (k := 0) rfl) dnil)
 refine z5a F8 (SK [.inl (.pointer (some ⟨g, 0, none⟩)), .inl (.pointer (some ⟨g, 0, none⟩)), .inl (.pointer (some ⟨g, 0, none⟩)), .inl (u), .inl ((ixV (u) 0)), .inl (.int .u8 ((x0.toNat : Nat) : Int)), .inl (.int .i64 ((x0.toNat : Nat) : Int)), .inl (.int .i64 (((x0.toNat : Nat) : Int) * 256)), .inl (.pointer (some ⟨g, 0, none⟩)), .inl (.pointer (some ⟨g, 0, none⟩)), .inl (.pointer (some ⟨g, 0, none⟩)), .inl (u), .inl ((ixV (u) 1)), .inl (.int .u8 ((x1.toNat : Nat) : Int)), .inl (.int .i64 ((x1.toNat : Nat) : Int)), .inl (.int .i64 (F : Int)), .inl (.int .i64 (F : Int))]) 17 rfl (by kernel_rfl) ⟨hop0 F8 (by kernel_rfl), hop0 F8 (by kernel_rfl), hop0 F8 (by kernel_rfl), hopP F8 hD10 0 (some g) (by kernel_rfl), ?_, ?_, ?_, ?_, hop0 F8 (by kernel_rfl), hop0 F8 (by kernel_rfl), hop0 F8 (by kernel_rfl), hopP F8 hD10 0 (some g) (by kernel_rfl), ?_, ?_, ?_, ?_, hop0 F8 (by kernel_rfl), trivial⟩ ?_
 ·intro ua uw hb hd
  have e16 : ua.eval (.tmp 16) = u := hd 16 (by decide)
  exact zk (F := (StK.eq ((ixV (u) 0))).F) (za rfl) ((ixV (u) 0)) (zgb _ _ rfl e16 (Tl.isb ((M2.step hb).at_ 1 _ rfl)) rfl rfl (by omega)) rfl
 ·intro ua uw hb hd
  have e17 : ua.eval (.tmp 17) = (ixV (u) 0) := hd 17 (by decide)
  exact zk (F := (StK.eq (.int .u8 ((x0.toNat : Nat) : Int))).F) (za rfl) (.int .u8 ((x0.toNat : Nat) : Int)) (zvb _ rfl e17 (Tl.isb ((M2.step hb).at_ 1 _ rfl)) h0 rfl) rfl
 ·intro ua uw hb hd
  have e18 : ua.eval (.tmp 18) = .int .u8 ((x0.toNat : Nat) : Int) := hd 18 (by decide)
  exact zk (F := (StK.eq (.int .i64 ((x0.toNat : Nat) : Int))).F) (za rfl) (.int .i64 ((x0.toNat : Nat) : Int)) (zxa _ _ _ rfl e18 Try.underlying5 Try.underlying3 (zta _)) rfl
 ·intro ua uw hb hd
  have e19 : ua.eval (.tmp 19) = .int .i64 ((x0.toNat : Nat) : Int) := hd 19 (by decide)
  exact zk (F := (StK.eq (.int .i64 (((x0.toNat : Nat) : Int) * 256))).F) (za rfl) (.int .i64 (((x0.toNat : Nat) : Int) * 256)) (y_shlI _ _ _ _ rfl e19 rfl (by decide) (shl8 (by omega))) rfl
 ·intro ua uw hb hd
  have e24 : ua.eval (.tmp 24) = u := hd 24 (by decide)
  exact zk (F := (StK.eq ((ixV (u) 1))).F) (za rfl) ((ixV (u) 1)) (zgb _ _ rfl e24 (Tl.isb ((M2.step hb).at_ 1 _ rfl)) rfl rfl (by omega)) rfl
 ·intro ua uw hb hd
  have e25 : ua.eval (.tmp 25) = (ixV (u) 1) := hd 25 (by decide)
  exact zk (F := (StK.eq (.int .u8 ((x1.toNat : Nat) : Int))).F) (za rfl) (.int .u8 ((x1.toNat : Nat) : Int)) (zvb _ rfl e25 (Tl.isb ((M2.step hb).at_ 1 _ rfl)) h1 rfl) rfl
 ·intro ua uw hb hd
  have e26 : ua.eval (.tmp 26) = .int .u8 ((x1.toNat : Nat) : Int) := hd 26 (by decide)
  exact zk (F := (StK.eq (.int .i64 ((x1.toNat : Nat) : Int))).F) (za rfl) (.int .i64 ((x1.toNat : Nat) : Int)) (zxa _ _ _ rfl e26 Try.underlying5 Try.underlying3 (zta _)) rfl
 ·intro ua uw hb hd
  have e20 : ua.eval (.tmp 20) = .int .i64 (((x0.toNat : Nat) : Int) * 256) := hd 20 (by decide)
  have e27 : ua.eval (.tmp 27) = .int .i64 ((x1.toNat : Nat) : Int) := hd 27 (by decide)
  exact zk (F := (StK.eq (.int .i64 (F : Int))).F) (za rfl) (.int .i64 (F : Int)) (y_orU _ _ _ _ rfl e20 e27 (by rw [or_i64 _ _ (by omega) hx1, hF])) rfl
 intro p11 a11 w11 b11 G11 y11
 obtain ⟨-, -, -, -, -, -, -, -, -, -, -, -, -, -, -, -, q16, -⟩ := y11
 have r16 : p11 16 = .int .i64 (F : Int) := q16 (by decide)
 simp only [List.take, layV, Nat.zero_add, Nat.reduceAdd, r16] at G11
 have M11 := M2.kc b11
 clear F8 M2 r16 q16
 refine hK9 _ _ (zS fun _ hK12 => ?_)
 refine zT fun _ hK13 => ?_
 refine rm rfl G11 fun _ F14 => ?_
 refine rn rfl rfl F14 rfl (.bool false) (zya _ _ _ _ rfl (F14.get rfl) rfl (decide_eq_false (by omega))) fun _ F15 => ?_
 refine hK13 _ _ (wp_cond_false (F15.get rfl) ?_)
 refine wp_skip ?_
 refine hK12 _ _ (zS fun _ hK16 => ?_)
 refine zR ?_
 refine rm rfl F15 fun _ F17 => ?_
 refine rn rfl rfl F17 rfl (.int .i64 ((2 + F : Nat) : Int)) (zz _ _ _ _ rfl rfl (F17.get rfl) (by omega) (by omega)) fun _ F18 => ?_
 refine rm rfl F18 fun _ F19 => ?_
 refine hK16 _ _ (zS fun _ hK20 => ?_)
 refine zT fun _ hK21 => ?_
 refine zB 4 [(0, .pointer (some ⟨g, 0, none⟩)), (2, .pointer (some ⟨g2, 0, none⟩)), (3, .bool false), (5, .int .i64 ((2 + F : Nat) : Int)), (39, u)] [0] (zj (M11.blk (k := 0) rfl) dnil) [g] F19 fun _ F22 => ?_
 refine rn rfl rfl F22 rfl (.int .i64 (l.length : Int)) (z9 _ rfl (F22.get rfl) (Tl.isb (M11.at_ 1 _ rfl)) rfl) fun _ F23 => ?_
 refine rm rfl F23 fun _ F24 => ?_
 refine rn rfl rfl F24 rfl (.bool true) (zoa _ _ _ _ rfl (F24.get rfl) (F24.get rfl) (decide_eq_true (by omega))) fun _ F25 => ?_
 refine hK21 _ _ (wp_cond_true (F25.get rfl) ?_)
 refine zT fun _ hK26 => ?_
 refine rn rfl rfl F25 rfl (.agg (msgA ⟨0, 0, 0, 0, "".toUTF8, 0, 0, [], [], [], [], []⟩ ⟨zN, zN, zN, zN, zN⟩)) (by unfold execOp; kernel_rfl) fun _ F27 => ?_
 refine zn (za rfl) rfl F27 M11 (k := 2) rfl _ _ _ rfl (F27.get rfl) (F27.get rfl) (msgA ⟨0, 0, 0, 0, "".toUTF8, 0, 0, [], [], [], [], []⟩ ⟨zN, zN, zN, zN, zN⟩) _ rfl (zL rfl) (zy (w := w) ⟨zc _, zc _, zc _, zc _, zc _⟩) (zt rfl) (by kernel_rfl) ?_
 intro w28 M28
 clear M11
 refine rm rfl F27 fun _ F29 => ?_
 refine hK26 _ _ (wp_ret ?_)
 try simp only [Exit.then, Exit.inBlock, Exit.jump]
 exact bodyPost_ret (resCT rfl (F29.get rfl) (M28.blk (k := 2) rfl) (F29.get rfl) Try.underlying29 rfl (by kernel_rfl)) F29.defers ⟨_, rfl, u, M28.close2 (k := k) (q := q) (R := R) rfl rfl (fun _ => rfl) hne, rfl⟩
theorem next_no {G : Option Nat} {w0 w : World} {R : List (Nat × Res)} (M0 : Mx G w0 w R) (k q g : Nat) (l : List UInt8) (u : Value) (n : Int) (b : Bool) (hk : look R k = some (blkR g 94 #[u, .int .i64 n, .bool b])) (hq : look R q = some (tlR l u)) (hne : k ≠ q) (hl : l.length ≤ 1000000) (x0 x1 : UInt8) (h0 : l[0]? = some x0) (h1 : l[1]? = some x1) (F : Nat) (hF : x0.toNat * 256 + x1.toNat = F) (h2 : 2 ≤ l.length) (hf : F ≤ 200) (hw : 2 + F ≤ l.length) (hD : decOk (l.take (2 + F)) = false) :
  Calls Try.prog 30 #[.pointer (some ⟨g, 0, none⟩)] w fun e w' => ∃ t, e = .returned t ∧ ∃ u', Mx G w0 w' ((k, blkR g 94 #[u', .int .i64 n, .bool true]) :: (q, tlR [] u') :: R) ∧ t = .tuple #[.agg (msgA mZero vZero), .bool false] := by
 have hx0 := x0.toNat_lt
 have hx1 := x1.toNat_lt
 refine zg (args := [.pointer (some ⟨g, 0, none⟩)]) 69 Try.func30 rfl rfl rfl ?_
 intro fa F
 have M := (M0.open2 hk hq hne)
 refine zT fun _ hK1 => ?_
 refine zf (za rfl) rfl F rfl M 2 (t := 29) (c := msgA ⟨0, 0, 0, 0, "".toUTF8, 0, 0, [], [], [], [], []⟩ ⟨zN, zN, zN, zN, zN⟩) (by unfold execOp; kernel_rfl) ?_
 intro g2 a2 w2 F2 M2
 clear F M
 refine rm rfl F2 fun _ F3 => ?_
 refine hK1 _ _ (zS fun _ hK4 => ?_)
 refine zT fun _ hK5 => ?_
 refine zB 4 [(0, .pointer (some ⟨g, 0, none⟩)), (2, .pointer (some ⟨g2, 0, none⟩)), (3, .bool false), (9, u)] [0] (zj (M2.blk (k := 0) rfl) dnil) [g] F3 fun _ F6 => ?_
 refine rn rfl rfl F6 rfl (.int .i64 (l.length : Int)) (z9 _ rfl (F6.get rfl) (Tl.isb (M2.at_ 1 _ rfl)) rfl) fun _ F7 => ?_
 refine rn rfl rfl F7 rfl (.bool false) (zoa _ _ _ _ rfl (F7.get rfl) rfl (decide_eq_false (by omega))) fun _ F8 => ?_
 refine hK5 _ _ (wp_cond_false (F8.get rfl) ?_)
 refine wp_skip ?_
 refine hK4 _ _ (zS fun _ hK9 => ?_)
 have hD10 := (zj (M2.blk (k := 0) rfl) dnil)
 refine z5a F8 (SK [.inl (.pointer (some ⟨g, 0, none⟩)), .inl (.pointer (some ⟨g, 0, none⟩)), .inl (.pointer (some ⟨g, 0, none⟩)), .inl (u), .inl ((ixV (u) 0)), .inl (.int .u8 ((x0.toNat : Nat) : Int)), .inl (.int .i64 ((x0.toNat : Nat) : Int)), .inl (.int .i64 (((x0.toNat : Nat) : Int) * 256)), .inl (.pointer (some ⟨g, 0, none⟩)), .inl (.pointer (some ⟨g, 0, none⟩)), .inl (.pointer (some ⟨g, 0, none⟩)), .inl (u), .inl ((ixV (u) 1)), .inl (.int .u8 ((x1.toNat : Nat) : Int)), .inl (.int .i64 ((x1.toNat : Nat) : Int)), .inl (.int .i64 (F : Int)), .inl (.int .i64 (F : Int))]) 17 rfl (by kernel_rfl) ⟨hop0 F8 (by kernel_rfl), hop0 F8 (by kernel_rfl), hop0 F8 (by kernel_rfl), hopP F8 hD10 0 (some g) (by kernel_rfl), ?_, ?_, ?_, ?_, hop0 F8 (by kernel_rfl), hop0 F8 (by kernel_rfl), hop0 F8 (by kernel_rfl), hopP F8 hD10 0 (some g) (by kernel_rfl), ?_, ?_, ?_, ?_, hop0 F8 (by kernel_rfl), trivial⟩ ?_
 ·intro ua uw hb hd
  have e16 : ua.eval (.tmp 16) = u := hd 16 (by decide)
  exact zk (F := (StK.eq ((ixV (u) 0))).F) (za rfl) ((ixV (u) 0)) (zgb _ _ rfl e16 (Tl.isb ((M2.step hb).at_ 1 _ rfl)) rfl rfl (by omega)) rfl
 ·intro ua uw hb hd
  have e17 : ua.eval (.tmp 17) = (ixV (u) 0) := hd 17 (by decide)
  exact zk (F := (StK.eq (.int .u8 ((x0.toNat : Nat) : Int))).F) (za rfl) (.int .u8 ((x0.toNat : Nat) : Int)) (zvb _ rfl e17 (Tl.isb ((M2.step hb).at_ 1 _ rfl)) h0 rfl) rfl
 ·intro ua uw hb hd
  have e18 : ua.eval (.tmp 18) = .int .u8 ((x0.toNat : Nat) : Int) := hd 18 (by decide)
  exact zk (F := (StK.eq (.int .i64 ((x0.toNat : Nat) : Int))).F) (za rfl) (.int .i64 ((x0.toNat : Nat) : Int)) (zxa _ _ _ rfl e18 Try.underlying5 Try.underlying3 (zta _)) rfl
 ·intro ua uw hb hd
  have e19 : ua.eval (.tmp 19) = .int .i64 ((x0.toNat : Nat) : Int) := hd 19 (by decide)
  exact zk (F := (StK.eq (.int .i64 (((x0.toNat : Nat) : Int) * 256))).F) (za rfl) (.int .i64 (((x0.toNat : Nat) : Int) * 256)) (y_shlI _ _ _ _ rfl e19 rfl (by decide) (shl8 (by omega))) rfl
 ·intro ua uw hb hd
  have e24 : ua.eval (.tmp 24) = u := hd 24 (by decide)
  exact zk (F := (StK.eq ((ixV (u) 1))).F) (za rfl) ((ixV (u) 1)) (zgb _ _ rfl e24 (Tl.isb ((M2.step hb).at_ 1 _ rfl)) rfl rfl (by omega)) rfl
 ·intro ua uw hb hd
  have e25 : ua.eval (.tmp 25) = (ixV (u) 1) := hd 25 (by decide)
  exact zk (F := (StK.eq (.int .u8 ((x1.toNat : Nat) : Int))).F) (za rfl) (.int .u8 ((x1.toNat : Nat) : Int)) (zvb _ rfl e25 (Tl.isb ((M2.step hb).at_ 1 _ rfl)) h1 rfl) rfl
 ·intro ua uw hb hd
  have e26 : ua.eval (.tmp 26) = .int .u8 ((x1.toNat : Nat) : Int) := hd 26 (by decide)
  exact zk (F := (StK.eq (.int .i64 ((x1.toNat : Nat) : Int))).F) (za rfl) (.int .i64 ((x1.toNat : Nat) : Int)) (zxa _ _ _ rfl e26 Try.underlying5 Try.underlying3 (zta _)) rfl
 ·intro ua uw hb hd
  have e20 : ua.eval (.tmp 20) = .int .i64 (((x0.toNat : Nat) : Int) * 256) := hd 20 (by decide)
  have e27 : ua.eval (.tmp 27) = .int .i64 ((x1.toNat : Nat) : Int) := hd 27 (by decide)
  exact zk (F := (StK.eq (.int .i64 (F : Int))).F) (za rfl) (.int .i64 (F : Int)) (y_orU _ _ _ _ rfl e20 e27 (by rw [or_i64 _ _ (by omega) hx1, hF])) rfl
 intro p11 a11 w11 b11 G11 y11
 obtain ⟨-, -, -, -, -, -, -, -, -, -, -, -, -, -, -, -, q16, -⟩ := y11
 have r16 : p11 16 = .int .i64 (F : Int) := q16 (by decide)
 simp only [List.take, layV, Nat.zero_add, Nat.reduceAdd, r16] at G11
 have M11 := M2.kc b11
 clear F8 M2 r16 q16
 refine hK9 _ _ (zS fun _ hK12 => ?_)
 refine zT fun _ hK13 => ?_
 refine rm rfl G11 fun _ F14 => ?_
 refine rn rfl rfl F14 rfl (.bool false) (zya _ _ _ _ rfl (F14.get rfl) rfl (decide_eq_false (by omega))) fun _ F15 => ?_
 refine hK13 _ _ (wp_cond_false (F15.get rfl) ?_)
 refine wp_skip ?_
 refine hK12 _ _ (zS fun _ hK16 => ?_)
 refine zR ?_
 refine rm rfl F15 fun _ F17 => ?_
 refine rn rfl rfl F17 rfl (.int .i64 ((2 + F : Nat) : Int)) (zz _ _ _ _ rfl rfl (F17.get rfl) (by omega) (by omega)) fun _ F18 => ?_
 refine rm rfl F18 fun _ F19 => ?_
 refine hK16 _ _ (zS fun _ hK20 => ?_)
 refine zT fun _ hK21 => ?_
 refine zB 4 [(0, .pointer (some ⟨g, 0, none⟩)), (2, .pointer (some ⟨g2, 0, none⟩)), (3, .bool false), (5, .int .i64 ((2 + F : Nat) : Int)), (39, u)] [0] (zj (M11.blk (k := 0) rfl) dnil) [g] F19 fun _ F22 => ?_
 refine rn rfl rfl F22 rfl (.int .i64 (l.length : Int)) (z9 _ rfl (F22.get rfl) (Tl.isb (M11.at_ 1 _ rfl)) rfl) fun _ F23 => ?_
 refine rm rfl F23 fun _ F24 => ?_
 refine rn rfl rfl F24 rfl (.bool false) (zoa _ _ _ _ rfl (F24.get rfl) (F24.get rfl) (decide_eq_false (by omega))) fun _ F25 => ?_
 refine hK21 _ _ (wp_cond_false (F25.get rfl) ?_)
 refine wp_skip ?_
 refine hK20 _ _ (zS fun _ hK26 => ?_)
 refine zR ?_
 refine zB 5 [(0, .pointer (some ⟨g, 0, none⟩)), (2, .pointer (some ⟨g2, 0, none⟩)), (3, .bool false), (5, .int .i64 ((2 + F : Nat) : Int)), (48, u), (49, .int .i64 ((2 + F : Nat) : Int))] [0] (zj (M11.blk (k := 0) rfl) dnil) [g] F25 fun _ F27 => ?_
 refine z9a (za rfl) rfl F27 rfl (z8b _ _ rfl (F27.get rfl) (Tl.isb (M11.at_ 1 _ rfl)) (F27.get rfl) (j := (2 + F)) rfl (by omega)) ?_
 intro v28 a28 h28 F28
 obtain ⟨A28, c28, rfl⟩ := h28.1.shape
 refine zd (za rfl) rfl F28 rfl rfl (zE Try.func20 rfl) #[.slice A28 ((l.take (2 + F))).length c28] (zp (F28.get rfl)) (hD ▸ decode_ex (l.take (2 + F)) (.slice A28 ((l.take (2 + F))).length c28) (by simp only [List.length_take]; omega) w11 h28.1) ?_
 rintro _ w29 a29 ⟨V29, rfl, is29, lo29, b29⟩ F29
 have M29 := M11.newMsg b29 is29 lo29 3 4 5 6 7
 clear M11
 refine zA 3 [(44, .tuple #[.agg (msgA (decR (l.take (2 + F))) V29), .bool false]), (52, .agg (msgA (decR (l.take (2 + F))) V29)), (53, .bool false)] [] dnil [] F29 fun _ F30 => ?_
 refine zn (za rfl) rfl F30 M29 (k := 2) rfl _ _ _ rfl (F30.get rfl) (F30.get rfl) (msgA (decR (l.take (2 + F))) V29) _ rfl (zL rfl) (zy is29) (zt rfl) (by kernel_rfl) ?_
 intro w31 M31
 clear M29
 refine rm rfl F30 fun _ F32 => ?_
 refine hK26 _ _ (zS fun _ hK33 => ?_)
 refine zT fun _ hK34 => ?_
 refine zA 2 [(54, .bool false), (55, .bool true)] [] dnil [] F32 fun _ F35 => ?_
 refine hK34 _ _ (wp_cond_true (F35.get rfl) ?_)
 refine zT fun _ hK36 => ?_
 refine rm rfl F35 fun _ F37 => ?_
 refine zd (za rfl) rfl F37 rfl rfl (zE Try.func61 rfl) #[.pointer (some ⟨g, 0, none⟩)] (zp (F37.get rfl)) (spoil_any g u n b w31 (M31.blk (k := 0) rfl)) ?_
 rintro _ w38 a38 ⟨hc38, hg38⟩ F38
 have M38 := (M31.put (k := 0) rfl hg38 hc38).tlCut (k := 1) rfl (.inl ⟨rfl, rfl⟩) (fun g e => by cases e)
 clear M31 hg38 hc38
 refine hK36 _ _ (zS fun _ hK39 => ?_)
 refine zR ?_
 refine rn rfl rfl F38 rfl (.agg (msgA ⟨0, 0, 0, 0, "".toUTF8, 0, 0, [], [], [], [], []⟩ ⟨zN, zN, zN, zN, zN⟩)) (by unfold execOp; kernel_rfl) fun _ F40 => ?_
 refine zn (za rfl) rfl F40 M38 (k := 2) rfl _ _ _ rfl (F40.get rfl) (F40.get rfl) (msgA ⟨0, 0, 0, 0, "".toUTF8, 0, 0, [], [], [], [], []⟩ ⟨zN, zN, zN, zN, zN⟩) _ rfl (zL rfl) (zy (w := w) ⟨zc _, zc _, zc _, zc _, zc _⟩) (zt rfl) (by kernel_rfl) ?_
 intro w41 M41
 clear M38
 refine rm rfl F40 fun _ F42 => ?_
 refine hK39 _ _ (wp_ret ?_)
 try simp only [Exit.then, Exit.inBlock, Exit.jump]
 exact bodyPost_ret (resCT rfl (F42.get rfl) (M41.blk (k := 2) rfl) (F42.get rfl) Try.underlying29 rfl (by kernel_rfl)) F42.defers ⟨_, rfl, (zN), M41.close2 (k := k) (q := q) (R := R) rfl rfl (fun _ => rfl) hne, rfl⟩
theorem next_ok {G : Option Nat} {w0 w : World} {R : List (Nat × Res)} (M0 : Mx G w0 w R) (k q g : Nat) (l : List UInt8) (u : Value) (n : Int) (b : Bool) (hk : look R k = some (blkR g 94 #[u, .int .i64 n, .bool b])) (hq : look R q = some (tlR l u)) (hne : k ≠ q) (hl : l.length ≤ 1000000) (k5 k6 k7 k8 k9 : Nat) (x0 x1 : UInt8) (h0 : l[0]? = some x0) (h1 : l[1]? = some x1) (F : Nat) (hF : x0.toNat * 256 + x1.toNat = F) (h2 : 2 ≤ l.length) (hf : F ≤ 200) (hw : 2 + F ≤ l.length) (hD : decOk (l.take (2 + F)) = true) :
  Calls Try.prog 30 #[.pointer (some ⟨g, 0, none⟩)] w fun e w' => ∃ t, e = .returned t ∧ ∃ u' V, Mx G w0 w' ((k9, bytR (decR (l.take (2 + F))).l9 V.v9) :: (k8, bytR (decR (l.take (2 + F))).l8 V.v8) :: (k7, bytR (decR (l.take (2 + F))).l7 V.v7) :: (k6, bytR (decR (l.take (2 + F))).l6 V.v6) :: (k5, bytR (decR (l.take (2 + F))).l5 V.v5) :: (k, blkR g 94 #[u', .int .i64 n, .bool b]) :: (q, tlR (l.drop (2 + F)) u') :: R) ∧ t = .tuple #[.agg (msgA (decR (l.take (2 + F))) V), .bool true] := by
 have hx0 := x0.toNat_lt
 have hx1 := x1.toNat_lt
 refine zg (args := [.pointer (some ⟨g, 0, none⟩)]) 69 Try.func30 rfl rfl rfl ?_
 intro fa F
 have M := (M0.open2 hk hq hne)
 refine zT fun _ hK1 => ?_
 refine zf (za rfl) rfl F rfl M 2 (t := 29) (c := msgA ⟨0, 0, 0, 0, "".toUTF8, 0, 0, [], [], [], [], []⟩ ⟨zN, zN, zN, zN, zN⟩) (by unfold execOp; kernel_rfl) ?_
 intro g2 a2 w2 F2 M2
 clear F M
 refine rm rfl F2 fun _ F3 => ?_
 refine hK1 _ _ (zS fun _ hK4 => ?_)
 refine zT fun _ hK5 => ?_
 refine zB 4 [(0, .pointer (some ⟨g, 0, none⟩)), (2, .pointer (some ⟨g2, 0, none⟩)), (3, .bool false), (9, u)] [0] (zj (M2.blk (k := 0) rfl) dnil) [g] F3 fun _ F6 => ?_
 refine rn rfl rfl F6 rfl (.int .i64 (l.length : Int)) (z9 _ rfl (F6.get rfl) (Tl.isb (M2.at_ 1 _ rfl)) rfl) fun _ F7 => ?_
 refine rn rfl rfl F7 rfl (.bool false) (zoa _ _ _ _ rfl (F7.get rfl) rfl (decide_eq_false (by omega))) fun _ F8 => ?_
 refine hK5 _ _ (wp_cond_false (F8.get rfl) ?_)
 refine wp_skip ?_
 refine hK4 _ _ (zS fun _ hK9 => ?_)
 have hD10 := (zj (M2.blk (k := 0) rfl) dnil)
 refine z5a F8 (SK [.inl (.pointer (some ⟨g, 0, none⟩)), .inl (.pointer (some ⟨g, 0, none⟩)), .inl (.pointer (some ⟨g, 0, none⟩)), .inl (u), .inl ((ixV (u) 0)), .inl (.int .u8 ((x0.toNat : Nat) : Int)), .inl (.int .i64 ((x0.toNat : Nat) : Int)), .inl (.int .i64 (((x0.toNat : Nat) : Int) * 256)), .inl (.pointer (some ⟨g, 0, none⟩)), .inl (.pointer (some ⟨g, 0, none⟩)), .inl (.pointer (some ⟨g, 0, none⟩)), .inl (u), .inl ((ixV (u) 1)), .inl (.int .u8 ((x1.toNat : Nat) : Int)), .inl (.int .i64 ((x1.toNat : Nat) : Int)), .inl (.int .i64 (F : Int)), .inl (.int .i64 (F : Int))]) 17 rfl (by kernel_rfl) ⟨hop0 F8 (by kernel_rfl), hop0 F8 (by kernel_rfl), hop0 F8 (by kernel_rfl), hopP F8 hD10 0 (some g) (by kernel_rfl), ?_, ?_, ?_, ?_, hop0 F8 (by kernel_rfl), hop0 F8 (by kernel_rfl), hop0 F8 (by kernel_rfl), hopP F8 hD10 0 (some g) (by kernel_rfl), ?_, ?_, ?_, ?_, hop0 F8 (by kernel_rfl), trivial⟩ ?_
 ·intro ua uw hb hd
  have e16 : ua.eval (.tmp 16) = u := hd 16 (by decide)
  exact zk (F := (StK.eq ((ixV (u) 0))).F) (za rfl) ((ixV (u) 0)) (zgb _ _ rfl e16 (Tl.isb ((M2.step hb).at_ 1 _ rfl)) rfl rfl (by omega)) rfl
 ·intro ua uw hb hd
  have e17 : ua.eval (.tmp 17) = (ixV (u) 0) := hd 17 (by decide)
  exact zk (F := (StK.eq (.int .u8 ((x0.toNat : Nat) : Int))).F) (za rfl) (.int .u8 ((x0.toNat : Nat) : Int)) (zvb _ rfl e17 (Tl.isb ((M2.step hb).at_ 1 _ rfl)) h0 rfl) rfl
 ·intro ua uw hb hd
  have e18 : ua.eval (.tmp 18) = .int .u8 ((x0.toNat : Nat) : Int) := hd 18 (by decide)
  exact zk (F := (StK.eq (.int .i64 ((x0.toNat : Nat) : Int))).F) (za rfl) (.int .i64 ((x0.toNat : Nat) : Int)) (zxa _ _ _ rfl e18 Try.underlying5 Try.underlying3 (zta _)) rfl
 ·intro ua uw hb hd
  have e19 : ua.eval (.tmp 19) = .int .i64 ((x0.toNat : Nat) : Int) := hd 19 (by decide)
  exact zk (F := (StK.eq (.int .i64 (((x0.toNat : Nat) : Int) * 256))).F) (za rfl) (.int .i64 (((x0.toNat : Nat) : Int) * 256)) (y_shlI _ _ _ _ rfl e19 rfl (by decide) (shl8 (by omega))) rfl
 ·intro ua uw hb hd
  have e24 : ua.eval (.tmp 24) = u := hd 24 (by decide)
  exact zk (F := (StK.eq ((ixV (u) 1))).F) (za rfl) ((ixV (u) 1)) (zgb _ _ rfl e24 (Tl.isb ((M2.step hb).at_ 1 _ rfl)) rfl rfl (by omega)) rfl
 ·intro ua uw hb hd
  have e25 : ua.eval (.tmp 25) = (ixV (u) 1) := hd 25 (by decide)
  exact zk (F := (StK.eq (.int .u8 ((x1.toNat : Nat) : Int))).F) (za rfl) (.int .u8 ((x1.toNat : Nat) : Int)) (zvb _ rfl e25 (Tl.isb ((M2.step hb).at_ 1 _ rfl)) h1 rfl) rfl
 ·intro ua uw hb hd
  have e26 : ua.eval (.tmp 26) = .int .u8 ((x1.toNat : Nat) : Int) := hd 26 (by decide)
  exact zk (F := (StK.eq (.int .i64 ((x1.toNat : Nat) : Int))).F) (za rfl) (.int .i64 ((x1.toNat : Nat) : Int)) (zxa _ _ _ rfl e26 Try.underlying5 Try.underlying3 (zta _)) rfl
 ·intro ua uw hb hd
  have e20 : ua.eval (.tmp 20) = .int .i64 (((x0.toNat : Nat) : Int) * 256) := hd 20 (by decide)
  have e27 : ua.eval (.tmp 27) = .int .i64 ((x1.toNat : Nat) : Int) := hd 27 (by decide)
  exact zk (F := (StK.eq (.int .i64 (F : Int))).F) (za rfl) (.int .i64 (F : Int)) (y_orU _ _ _ _ rfl e20 e27 (by rw [or_i64 _ _ (by omega) hx1, hF])) rfl
 intro p11 a11 w11 b11 G11 y11
 obtain ⟨-, -, -, -, -, -, -, -, -, -, -, -, -, -, -, -, q16, -⟩ := y11
 have r16 : p11 16 = .int .i64 (F : Int) := q16 (by decide)
 simp only [List.take, layV, Nat.zero_add, Nat.reduceAdd, r16] at G11
 have M11 := M2.kc b11
 clear F8 M2 r16 q16
 refine hK9 _ _ (zS fun _ hK12 => ?_)
 refine zT fun _ hK13 => ?_
 refine rm rfl G11 fun _ F14 => ?_
 refine rn rfl rfl F14 rfl (.bool false) (zya _ _ _ _ rfl (F14.get rfl) rfl (decide_eq_false (by omega))) fun _ F15 => ?_
 refine hK13 _ _ (wp_cond_false (F15.get rfl) ?_)
 refine wp_skip ?_
 refine hK12 _ _ (zS fun _ hK16 => ?_)
 refine zR ?_
 refine rm rfl F15 fun _ F17 => ?_
 refine rn rfl rfl F17 rfl (.int .i64 ((2 + F : Nat) : Int)) (zz _ _ _ _ rfl rfl (F17.get rfl) (by omega) (by omega)) fun _ F18 => ?_
 refine rm rfl F18 fun _ F19 => ?_
 refine hK16 _ _ (zS fun _ hK20 => ?_)
 refine zT fun _ hK21 => ?_
 refine zB 4 [(0, .pointer (some ⟨g, 0, none⟩)), (2, .pointer (some ⟨g2, 0, none⟩)), (3, .bool false), (5, .int .i64 ((2 + F : Nat) : Int)), (39, u)] [0] (zj (M11.blk (k := 0) rfl) dnil) [g] F19 fun _ F22 => ?_
 refine rn rfl rfl F22 rfl (.int .i64 (l.length : Int)) (z9 _ rfl (F22.get rfl) (Tl.isb (M11.at_ 1 _ rfl)) rfl) fun _ F23 => ?_
 refine rm rfl F23 fun _ F24 => ?_
 refine rn rfl rfl F24 rfl (.bool false) (zoa _ _ _ _ rfl (F24.get rfl) (F24.get rfl) (decide_eq_false (by omega))) fun _ F25 => ?_
 refine hK21 _ _ (wp_cond_false (F25.get rfl) ?_)
 refine wp_skip ?_
 refine hK20 _ _ (zS fun _ hK26 => ?_)
 refine zR ?_
 refine zB 5 [(0, .pointer (some ⟨g, 0, none⟩)), (2, .pointer (some ⟨g2, 0, none⟩)), (3, .bool false), (5, .int .i64 ((2 + F : Nat) : Int)), (48, u), (49, .int .i64 ((2 + F : Nat) : Int))] [0] (zj (M11.blk (k := 0) rfl) dnil) [g] F25 fun _ F27 => ?_
 refine z9a (za rfl) rfl F27 rfl (z8b _ _ rfl (F27.get rfl) (Tl.isb (M11.at_ 1 _ rfl)) (F27.get rfl) (j := (2 + F)) rfl (by omega)) ?_
 intro v28 a28 h28 F28
 obtain ⟨A28, c28, rfl⟩ := h28.1.shape
 refine zd (za rfl) rfl F28 rfl rfl (zE Try.func20 rfl) #[.slice A28 ((l.take (2 + F))).length c28] (zp (F28.get rfl)) (hD ▸ decode_ex (l.take (2 + F)) (.slice A28 ((l.take (2 + F))).length c28) (by simp only [List.length_take]; omega) w11 h28.1) ?_
 rintro _ w29 a29 ⟨V29, rfl, is29, lo29, b29⟩ F29
 have M29 := M11.newMsg b29 is29 lo29 3 4 5 6 7
 clear M11
 refine zA 3 [(44, .tuple #[.agg (msgA (decR (l.take (2 + F))) V29), .bool true]), (52, .agg (msgA (decR (l.take (2 + F))) V29)), (53, .bool true)] [] dnil [] F29 fun _ F30 => ?_
 refine zn (za rfl) rfl F30 M29 (k := 2) rfl _ _ _ rfl (F30.get rfl) (F30.get rfl) (msgA (decR (l.take (2 + F))) V29) _ rfl (zL rfl) (zy is29) (zt rfl) (by kernel_rfl) ?_
 intro w31 M31
 clear M29
 refine rm rfl F30 fun _ F32 => ?_
 refine hK26 _ _ (zS fun _ hK33 => ?_)
 refine zT fun _ hK34 => ?_
 refine zA 2 [(54, .bool true), (55, .bool false)] [] dnil [] F32 fun _ F35 => ?_
 refine hK34 _ _ (wp_cond_false (F35.get rfl) ?_)
 refine wp_skip ?_
 refine hK33 _ _ (zS fun _ hK36 => ?_)
 refine zR ?_
 refine zB 6 [(2, .pointer (some ⟨g2, 0, none⟩)), (3, .bool true), (59, .pointer (some ⟨g, 0, none⟩)), (63, u), (64, .int .i64 ((2 + F : Nat) : Int))] [0] (zj (M31.blk (k := 0) rfl) dnil) [g] F35 fun _ F37 => ?_
 refine zba (za rfl) rfl F37 rfl (run_slT M31 (k := 1) rfl _ _ rfl (F37.get rfl) (F37.get rfl) (i := (2 + F)) rfl (by omega) ) ?_
 intro v38 a38 w38 F38 M38
 clear F37 M31
 obtain ⟨A38, c38, rfl⟩ := (Tl.isb (M38.at_ 1 _ rfl)).shape
 refine zA 2 [(66, .pointer (some ⟨g, 0, none⟩)), (67, .pointer (some ⟨g, 0, none⟩))] [] dnil [] F38 fun _ F39 => ?_
 refine zn (za rfl) rfl F39 M38 (k := 0) rfl _ _ _ rfl (F39.get rfl) (F39.get rfl) (#[.slice A38 ((l.drop (2 + F))).length c38]) (#[.slice A38 ((l.drop (2 + F))).length c38, .int .i64 n, .bool b]) rfl (zL rfl) (zmb rfl) (by kernel_rfl) (by kernel_rfl) ?_
 intro w40 M40
 clear M38
 refine hK36 _ _ (zS fun _ hK41 => ?_)
 refine zR ?_
 refine rn rfl rfl F39 rfl _ (zja _ _ rfl (F39.get rfl) (M40.blk (k := 2) rfl) (msgA (decR (l.take (2 + F))) V29) (zma rfl) Try.underlying29 rfl (by kernel_rfl)) fun _ F42 => ?_
 refine zn (za rfl) rfl F42 M40 (k := 2) rfl _ _ _ rfl (F42.get rfl) (F42.get rfl) (msgA (decR (l.take (2 + F))) V29) _ rfl (zL rfl) (zy is29) (zt rfl) (by kernel_rfl) ?_
 intro w43 M43
 clear M40
 refine rm rfl F42 fun _ F44 => ?_
 refine hK41 _ _ (wp_ret ?_)
 try simp only [Exit.then, Exit.inBlock, Exit.jump]
 exact bodyPost_ret (resCT rfl (F44.get rfl) (M43.blk (k := 2) rfl) (F44.get rfl) Try.underlying29 rfl (by kernel_rfl)) F44.defers ⟨_, rfl, (.slice A38 ((l.drop (2 + F))).length c38), V29, M43.close7 (k := k) (q := q) (R := R) k5 k6 k7 k8 k9 rfl rfl rfl rfl rfl rfl rfl (fun _ => rfl), rfl⟩
end Go.Proofs.Ytlbkogdmojlpmaa
namespace Go.Proofs.Ytlbkogdmojlpmaa
open Go.ChangeShapes Go.WideShapes Go.ChangeAt Go.RowKit
theorem new_any  (w : World) :
  Calls Try.prog 26 #[] w fun e w' => ∃ t, e = .returned t ∧ ∃ g, t = .pointer (some ⟨g, 0, none⟩) ∧ w.heap.size ≤ g ∧ w'.heap[g]? = some (.cells #[zN, .int .i64 0, .bool false] 94 (0, 0)) ∧ Below w.heap.size w w' := by
 refine zg (args := []) 3 Try.func26 rfl rfl rfl ?_
 intro fa F
 have M := Mx.start w
 refine zT fun _ hK1 => ?_
 refine rm rfl F fun _ F2 => ?_
 refine hK1 _ _ (zS fun _ hK3 => ?_)
 refine zR ?_
 refine rn rfl rfl F2 rfl (.agg (#[zN, .int .i64 0, .bool false])) (by unfold execOp; kernel_rfl) fun _ F4 => ?_
 refine zf (za rfl) rfl F4 rfl M 0 (t := 94) (c := #[zN, .int .i64 0, .bool false]) (by unfold execOp; simp only [(F4.get (t := 1) rfl)]; kernel_rfl) ?_
 intro g5 a5 w5 F5 M5
 clear F4 M
 refine rm rfl F5 fun _ F6 => ?_
 refine hK3 _ _ (wp_ret ?_)
 try simp only [Exit.then, Exit.inBlock, Exit.jump]
 exact bodyPost_ret (res1 rfl (F6.get rfl)) F6.defers ⟨_, rfl, g5, rfl, (M5.own 0 _ rfl rfl g5 rfl).resolve_right (fun e => by cases e), M5.blk (k := 0) rfl, M5.below⟩
end Go.Proofs.Ytlbkogdmojlpmaa
namespace Go.Proofs.Ytlbkogdmojlpmaa
open Go.ChangeShapes Go.WideShapes Go.ChangeAt Go.RowKit
theorem eightI_next (n : Int) {j : Nat} (h : j < 8) : (zlb n).take j ++ [zx (n / 2 ^ (8 * (7 - j)))] = (zlb n).take (j + 1) := by
  rw [List.take_add_one]
  congr 1
  simp [zlb, List.getElem?_range h]
theorem reight_any (n : Int) (w : World) :
  Calls Try.prog 66 #[.int .i64 n] w fun e w' => ∃ v, e = .returned v ∧ Byt w' w.heap.size v (zlb n) ∧ Below w.heap.size w w' := by
 refine zg (args := [.int .i64 n]) 20 Try.func66 rfl rfl rfl ?_
 intro fa F
 have M := Mx.start w
 refine zT fun _ hK1 => ?_
 refine rm rfl F fun _ F2 => ?_
 refine hK1 _ _ (zS fun _ hK3 => ?_)
 refine zR ?_
 refine rm rfl F2 fun _ F4 => ?_
 refine hK3 _ _ (zS fun _ hK5 => ?_)
 refine zT fun _ hK6 => ?_
 refine rm rfl F4 fun _ F7 => ?_
 refine hK6 _ _ (wp_block ?_)
 have M8 := M.nilO 0
 clear M
 refine zzb (α := Nat × Value) (n := 20) (G := none) (w0 := w) (fun x => [(0, .int .i64 n), (2, zN), (4, .int .i64 (x.1 : Int)), (3, x.2)]) (fun x => [(0, ownR ((zlb n).take x.1) x.2)]) (fun k x => k = (8 - x.1) ∧ (x.1 ≤ 8)) _ ⟨0, (zN)⟩ ⟨rfl, (by omega)⟩ (F7.sub ⟨rfl, rfl, rfl, rfl, trivial⟩) (M8.sub ⟨rfl, trivial⟩) ?_
 clear F7 M8
 rintro k9 ⟨jn, ev⟩ a9 w9 K9 ⟨ek9, I9⟩ F9 M9 hK9
 replace F9 : Fx 20 a9 [(0, .int .i64 n), (2, zN), (4, .int .i64 (jn : Int)), (3, ev)] := F9
 replace M9 : Mx _ _ w9 [(0, ownR ((zlb n).take jn) ev)] := M9
 replace I9 : jn ≤ 8 := I9
 replace ek9 : k9 = (8 - jn) := ek9
 by_cases hlt : jn < 8
 rotate_left
 ·obtain rfl : jn = 8 := by omega
  refine zS fun _ hK29 => zS fun _ hK30 => ?_
  refine zR ?_
  refine rm rfl F9 fun _ F31 => ?_
  refine rn rfl rfl F31 rfl (.bool false) (zoa _ _ _ _ rfl (F31.get rfl) rfl (decide_eq_false (by decide))) fun _ F32 => ?_
  refine hK30 _ _ (wp_cond_false (F32.get rfl) ?_)
  refine wp_exit ?_
  simp only [Exit.then, Exit.inBlock, ↓reduceIte, Nat.reduceEqDiff]
  refine hK5 _ _ (zS fun _ hK33 => ?_)
  refine zR ?_
  refine rm rfl F32 fun _ F34 => ?_
  refine rm rfl F34 fun _ F35 => ?_
  refine hK33 _ _ (wp_ret ?_)
  try simp only [Exit.then, Exit.inBlock, Exit.jump]
  exact bodyPost_ret (res1 rfl (F35.get rfl)) F35.defers ⟨_, rfl, (by have h := M9.byt (k := 0) rfl; rwa [List.take_of_length_le (by rw [z2b]; exact Nat.le_refl _)] at h), M9.below⟩
 refine zS fun _ hK10 => zS fun _ hK11 => ?_
 refine zR ?_
 refine rm rfl F9 fun _ F12 => ?_
 refine rn rfl rfl F12 rfl (.bool true) (zoa _ _ _ _ rfl (F12.get rfl) rfl (decide_eq_true (show (jn : Int) < 8 by omega))) fun _ F13 => ?_
 refine hK11 _ _ (wp_cond_true (F13.get rfl) ?_)
 refine wp_skip ?_
 refine hK10 _ _ (zS fun _ hK14 => ?_)
 refine wp_block ?_
 refine zR ?_
 refine rm rfl F13 fun _ F15 => ?_
 refine rm rfl F15 fun _ F16 => ?_
 refine rm rfl F16 fun _ F17 => ?_
 refine rn rfl rfl F17 rfl (.int .i64 (8 * (jn : Int))) (y_mulI _ _ _ _ rfl rfl (F17.get rfl) rfl (by omega)) fun _ F18 => ?_
 refine rn rfl rfl F18 rfl (.int .i64 (56 - 8 * (jn : Int))) (y_subI _ _ _ _ rfl rfl (F18.get rfl) rfl (by omega)) fun _ F19 => ?_
 refine rn rfl rfl F19 rfl (.int .u64 (56 - 8 * (jn : Int))) (zxa _ _ _ rfl (F19.get rfl) Try.underlying3 Try.underlying40 (by rw [IntKind.wrap_u64]; omega)) fun _ F20 => ?_
 refine rn rfl rfl F20 rfl (.int .i64 (n / 2 ^ (8 * (7 - jn)))) (y_shrI _ _ _ _ rfl (F20.get rfl) (F20.get rfl) (by show (0 : Int) ≤ 56 - 8 * (jn : Int) ∧ 56 - 8 * (jn : Int) ≤ 64; omega) (by rw [show (56 - 8 * (jn : Int)).toNat = 8 * (7 - jn) by omega])) fun _ F21 => ?_
 refine rn rfl rfl F21 rfl (.int .u8 (((zx (n / 2 ^ (8 * (7 - jn)))).toNat : Nat) : Int)) (zxa _ _ _ rfl (F21.get rfl) Try.underlying3 Try.underlying5 (z3a _)) fun _ F22 => ?_
 refine zba (za rfl) rfl F22 rfl (zbc M9 1 [(zx (n / 2 ^ (8 * (7 - jn))))] 1 rfl (by decide) (by decide) rfl (by simp only [List.map_toArray, List.map_cons, List.map_nil, (F22.get (t := 16) rfl)]; kernel_rfl)) ?_
 intro v23 a23 w23 F23 M23
 clear F22 M9
 obtain ⟨A23, c23, rfl⟩ := (M23.isO (k := 1) rfl).shape
 refine zba (za rfl) rfl F23 rfl (z2a M23 (k := 0) rfl _ _ rfl (F23.get rfl) (F23.get rfl) (M23.isO (k := 1) rfl) (by simp only [List.length_take, List.length_cons, List.length_nil]; omega)) ?_
 intro v24 a24 w24 F24 M24
 clear F23 M23
 obtain ⟨A24, c24, rfl⟩ := (M24.isO (k := 0) rfl).shape
 refine rm rfl F24 fun _ F25 => ?_
 refine hK14 _ _ (zR ?_)
 refine rm rfl F25 fun _ F26 => ?_
 refine rn rfl rfl F26 rfl (.int .i64 ((jn + 1 : Nat) : Int)) (zz _ _ _ _ rfl (F26.get rfl) rfl (by omega) (by omega)) fun _ F27 => ?_
 refine rm rfl F27 fun _ F28 => ?_
 subst ek9
 exact hK9 _ ⟨(jn + 1), (.slice A24 ((((zlb n).take jn) ++ [(zx (n / 2 ^ (8 * (7 - jn))))])).length c24)⟩ _ _ (by omega) ⟨rfl, (by omega)⟩ (F28.sub ⟨rfl, rfl, rfl, rfl, trivial⟩) (M24.sub ⟨(by rw [← eightI_next n hlt]; rfl), trivial⟩)
end Go.Proofs.Ytlbkogdmojlpmaa
