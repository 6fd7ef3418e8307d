/- What VaultGets stands on, part 13. -/
import Derived.Deep.CutRange
import Derived.Test.YtmjbnmbobocpdaaGreatVaultGetsP1
import Derived.Test.YtmjbnmbobocpdaaGreatVaultGetsP2
import Derived.Test.YtmjbnmbobocpdaaGreatVaultGetsP3
import Derived.Test.YtmjbnmbobocpdaaGreatVaultGetsP4
import Derived.Test.YtmjbnmbobocpdaaGreatVaultGetsP5
import Derived.Test.YtmjbnmbobocpdaaGreatVaultGetsP6
import Derived.Test.YtmjbnmbobocpdaaGreatVaultGetsP7
import Derived.Test.YtmjbnmbobocpdaaGreatVaultGetsP8
import Derived.Test.YtmjbnmbobocpdaaGreatVaultGetsP9
import Derived.Test.YtmjbnmbobocpdaaGreatVaultGetsP10
import Derived.Test.YtmjbnmbobocpdaaGreatVaultGetsP11
import Derived.Test.YtmjbnmbobocpdaaGreatVaultGetsP12
set_option maxRecDepth 100000
set_option maxHeartbeats 8000000
set_option linter.unusedVariables false
set_option linter.unusedSimpArgs false
namespace Go.Proofs.YtmjbnmbobocpdaaGreat
open Go.ChangeShapes Go.WideShapes Go.ChangeAt Go.RowKit
theorem VaultGets_walk (A0 : Option Addr) (n0 cap0 : Nat) (x0 : Nat → Int)
  (A1 : Option Addr) (n1 cap1 : Nat) (l1 : List UInt8) (hn1 : l1.length = n1) (hc1 : n1 ≤ cap1) (hm1 : cap1 ≤ maxLen) (hz1 : A1 = none → cap1 = 0) (w : World) (hr0 : RdI w A0 n0 x0) (hr1 : Rd w A1 l1) :
  Calls Tryz.prog 7 #[.slice A0 n0 cap0, .slice A1 n1 cap1] w fun e w' => e = .returned (.bool true) ∧ Below w.heap.size w w' := by
 have ib1 : IsB w l1 (.slice A1 n1 cap1) := hr1.isB' hn1 hc1 hm1 hz1
 by_cases b0 : 60 < l1.length
 ·refine zi (args := [.slice A0 n0 cap0, .slice A1 n1 cap1]) 128 Tryz.func7 rfl rfl rfl ?_
  intro fa F
  have M := Mx.start w
  replace M := M.argB 0 ib1 (fun g e => by cases e)
  replace M := M.argI 1 hr0 (fun g e => by cases e)
  refine zS fun _ hK21 => ?_
  refine zR ?_
  refine rm rfl F fun _ F22 => ?_
  refine hK21 _ _ ?_
  refine zS fun _ hK23 => ?_
  refine zS fun _ hK24 => ?_
  refine zR ?_
  refine zg (zb rfl) rfl F22 rfl rfl (zE Tryz.func13 rfl) #[] (args0) (zda (known6_any w)) ?_
  rintro _ w25 a25 ⟨rfl, b25⟩ F25
  have M25 := M.step b25
  refine zc (w' := w25) (zb rfl) rfl F25 rfl (.bool false) (zub _ _ rfl (F25.get (t := 17) rfl)) fun _ F26 => ?_
  clear F25
  refine hK24 _ _ ?_
  refine wp_cond_false (F26.get (t := 18) rfl) ?_
  refine wp_skip ?_
  refine hK23 _ _ ?_
  refine zS fun _ hK27 => ?_
  refine zS fun _ hK28 => ?_
  refine zR ?_
  refine rm rfl F26 fun _ F29 => ?_
  refine zc (w' := w25) (zb rfl) rfl F29 rfl (.int .i64 (l1.length : Int)) (zob _ rfl (F29.get (t := 19) rfl) (M25.isb (k := 0) rfl) rfl) fun _ F30 => ?_
  clear F29
  refine zc (w' := w25) (zb rfl) rfl F30 rfl (.bool true) (y_gtr _ _ _ _ rfl (F30.get (t := 20) rfl) rfl (decide_eq_true (show (60 : Int) < (l1.length : Int) by omega))) fun _ F31 => ?_
  clear F30
  refine hK28 _ _ ?_
  refine wp_cond_true (F31.get (t := 21) rfl) ?_
  refine zS fun _ hK32 => ?_
  refine zR ?_
  refine rm rfl F31 fun a33 F33 => ?_
  refine hK32 _ _ ?_
  refine wp_ret ?_
  try simp only [Exit.then, Exit.inBlock, Exit.jump]
  exact bodyPost_ret (res1 rfl (F33.get rfl)) F33.defers ⟨rfl, M25.below⟩
 ·obtain ⟨hE1, hI1, hf1, hd1⟩ := new_is
  have hA1 := acc_new
  obtain ⟨V1, hV1⟩ : ∃ x, ageW zeroV = x := ⟨_, rfl⟩
  rw [hV1] at hE1 hI1 hf1 hd1 hA1
  refine zi (args := [.slice A0 n0 cap0, .slice A1 n1 cap1]) 128 Tryz.func7 rfl rfl rfl ?_
  intro fa F
  have M := Mx.start w
  replace M := M.argB 0 ib1 (fun g e => by cases e)
  replace M := M.argI 1 hr0 (fun g e => by cases e)
  refine zS fun _ hK21 => ?_
  refine zR ?_
  refine rm rfl F fun _ F22 => ?_
  refine hK21 _ _ ?_
  refine zS fun _ hK23 => ?_
  refine zS fun _ hK24 => ?_
  refine zR ?_
  refine zg (zb rfl) rfl F22 rfl rfl (zE Tryz.func13 rfl) #[] (args0) (zda (known6_any w)) ?_
  rintro _ w25 a25 ⟨rfl, b25⟩ F25
  have M25 := M.step b25
  refine zc (w' := w25) (zb rfl) rfl F25 rfl (.bool false) (zub _ _ rfl (F25.get (t := 17) rfl)) fun _ F26 => ?_
  clear F25
  refine hK24 _ _ ?_
  refine wp_cond_false (F26.get (t := 18) rfl) ?_
  refine wp_skip ?_
  refine hK23 _ _ ?_
  refine zS fun _ hK27 => ?_
  refine zS fun _ hK28 => ?_
  refine zR ?_
  refine rm rfl F26 fun _ F29 => ?_
  refine zc (w' := w25) (zb rfl) rfl F29 rfl (.int .i64 (l1.length : Int)) (zob _ rfl (F29.get (t := 19) rfl) (M25.isb (k := 0) rfl) rfl) fun _ F30 => ?_
  clear F29
  refine zc (w' := w25) (zb rfl) rfl F30 rfl (.bool false) (y_gtr _ _ _ _ rfl (F30.get (t := 20) rfl) rfl (decide_eq_false (show ¬ (60 : Int) < (l1.length : Int) by omega))) fun _ F31 => ?_
  clear F30
  refine hK28 _ _ ?_
  refine wp_cond_false (F31.get (t := 21) rfl) ?_
  refine wp_skip ?_
  refine hK27 _ _ ?_
  refine zS fun _ hK32 => ?_
  refine zR ?_
  refine zg (zb rfl) rfl F31 rfl rfl (zE Tryz.func14 rfl) #[] (args0) (vnew_is V1 hV1 w25) ?_
  rintro _ w33 a33 ⟨g33, rfl, hg33, s33, n33, hr33, ht33, hc33, b33⟩ F33
  have M33 := M25.newVault b33 2 3 hg33 hc33 hr33 ht33
  clear M25 b33 hg33 hc33 hr33 ht33
  refine rm rfl F33 fun _ F34 => ?_
  refine hK32 _ _ ?_
  refine zS fun _ hK35 => ?_
  refine zS fun _ hK36 => ?_
  refine zR ?_
  refine rm rfl F34 fun _ F37 => ?_
  refine zc (w' := w33) (zb rfl) rfl F37 rfl (.bool false) (y_eqPN 25 _ Tryz.underlying25 (by kernel_rfl) _ rfl (F37.get (t := 23) rfl)) fun _ F38 => ?_
  clear F37
  refine hK36 _ _ ?_
  refine wp_cond_false (F38.get (t := 24) rfl) ?_
  refine wp_skip ?_
  refine hK35 _ _ ?_
  refine zS fun _ hK39 => ?_
  refine zR ?_
  refine zh (zb rfl) rfl F38 rfl M33 4 (t := 58) (c := lstA (fun _ => zeroRec) (fun _ => vNil)) (by unfold execOp; kernel_rfl) ?_
  intro g40 a40 w40 F40 M40
  clear F38 M33
  refine hK39 _ _ ?_
  refine zS fun _ hK41 => ?_
  refine zR ?_
  refine zh (zb rfl) rfl F40 rfl M40 5 (t := 59) (c := hasA (fun _ => false)) (by unfold execOp; kernel_rfl) ?_
  intro g42 a42 w42 F42 M42
  clear F40 M40
  refine hK41 _ _ ?_
  refine zS fun _ hK43 => ?_
  refine zS fun _ hK44 => ?_
  refine zR ?_
  refine rm rfl F42 fun _ F45 => ?_
  refine hK44 _ _ ?_
  refine wp_block ?_
  have M46 := M42.recNil 6 (fun _ => zeroRec) (fun _ => ⟨rfl, rfl⟩)
  clear M42
  refine zyb (α := Nat × VltN × (Nat → Value) × (Nat → Value) × (Nat → RecN) × (Nat → RecV) × (Nat → Bool) × (Nat → Option RecN)) (n := 128) (G := none) (w0 := w) (fun x => [(0, .slice A0 n0 cap0), (1, .slice A1 n1 cap1), (5, .pointer (some ⟨g33, 0, none⟩)), (6, .pointer (some ⟨g40, 0, none⟩)), (7, .pointer (some ⟨g42, 0, none⟩)), (8, .int .i64 (x.1 : Int))]) (fun x => [(0, bytR l1 (.slice A1 n1 cap1)), (1, intR A0 n0 x0), (2, blkR g33 80 (vltA x.2.1 x.2.2.1 x.2.2.2.1)), (3, z1a 0 18 x.2.1.c x.2.2.1 x.2.2.2.1), (4, blkR g40 58 (lstA x.2.2.2.2.1 x.2.2.2.2.2.1)), (5, blkR g42 59 (hasA x.2.2.2.2.2.2.1)), (6, z1a 0 8 (cLs x.2.2.2.2.1) (sLs x.2.2.2.2.2.1) (nLs x.2.2.2.2.2.1))]) (fun k x => k = (40 - x.1) ∧ (x.1 ≤ 40 ∧ InvV (x.1 + 1) x.2.1 ∧ EraV x.2.1 1 ∧ x.2.1.dd = false ∧ x.2.1.fl = false ∧ AccV x.2.1 x.2.2.2.2.2.2.2 ∧ RelG x.2.2.2.2.2.2.2 x.2.2.2.2.2.2.1 x.2.2.2.2.1)) _ ⟨0, V1, s33, n33, (fun _ => zeroRec), (fun _ => vNil), (fun _ => false), (fun _ => none)⟩ ⟨rfl, ⟨Nat.zero_le _, hI1, hE1, hd1, hf1, hA1, RelG.zero _⟩⟩ (F45.sub ⟨rfl, rfl, rfl, rfl, rfl, rfl, trivial⟩) (M46.sub ⟨rfl, rfl, rfl, rfl, rfl, rfl, rfl, trivial⟩) ?_
  clear F45 M46
  rintro k47 ⟨jn, Vv, sv, nv, ff, gg, hh, mv⟩ a47 w47 K47 ⟨ek47, I47⟩ F47 M47 hK47
  replace F47 : Fx 128 a47 [(0, .slice A0 n0 cap0), (1, .slice A1 n1 cap1), (5, .pointer (some ⟨g33, 0, none⟩)), (6, .pointer (some ⟨g40, 0, none⟩)), (7, .pointer (some ⟨g42, 0, none⟩)), (8, .int .i64 (jn : Int))] := F47
  replace M47 : Mx _ _ w47 [(0, bytR l1 (.slice A1 n1 cap1)), (1, intR A0 n0 x0), (2, blkR g33 80 (vltA Vv sv nv)), (3, z1a 0 18 Vv.c sv nv), (4, blkR g40 58 (lstA ff gg)), (5, blkR g42 59 (hasA hh)), (6, z1a 0 8 (cLs ff) (sLs gg) (nLs gg))] := M47
  replace I47 : jn ≤ 40 ∧ InvV (jn + 1) Vv ∧ EraV Vv 1 ∧ Vv.dd = false ∧ Vv.fl = false ∧ AccV Vv mv ∧ RelG mv hh ff := I47
  replace ek47 : k47 = (40 - jn) := ek47
  obtain ⟨hj, hI, hE, hd, hfl, hA, hR⟩ := I47
  refine zS fun _ hK48 => ?_
  refine zS fun _ hK49 => ?_
  refine zR ?_
  refine rm rfl F47 fun _ F50 => ?_
  refine rm rfl F50 fun _ F51 => ?_
  refine zc (w' := w47) (zb rfl) rfl F51 rfl (.int .i64 (n0 : Int)) (y_lnG 22 Tryz.underlying22 _ rfl (F51.get (t := 26) rfl) rfl) fun _ F52 => ?_
  clear F51
  by_cases h53 : (jn : Int) < (n0 : Int)
  ·refine zc (w' := w47) (zb rfl) rfl F52 rfl (.bool true) (zgb _ _ _ _ rfl (F52.get (t := 25) rfl) (F52.get (t := 27) rfl) (decide_eq_true h53)) fun _ F54 => ?_
   clear F52
   refine rm rfl F54 fun _ F55 => ?_
   refine rm rfl F55 fun _ F56 => ?_
   by_cases h57 : (jn : Int) < 40
   ·have xb := hr0.2.1 jn
    obtain ⟨nn, hnn, hnnl⟩ : ∃ k : Nat, (x0 jn) % 1073741824 = (k : Int) ∧ k < 1073741824 := in6 _ (by decide)
    obtain ⟨kk, hkk⟩ : ∃ k, nn / 5 % 8 = k := ⟨_, rfl⟩
    have hkl : kk < 8 := by omega
    obtain ⟨r, hr⟩ : ∃ r, recK (nn : Int) l1 (((nn : Int).tdiv 23) % 10).toNat = r := ⟨_, rfl⟩
    obtain ⟨ro, rp⟩ := setN_ok hr (show kk < 10 by omega)
    obtain ⟨pp, pf, p8, pR⟩ := hR.put hkl (r := setN r kk) rfl ro
    obtain ⟨pz, pA, pd, pfl⟩ := put_done hI (by omega) hA ro rp hd hfl (show plcM mv (setN r kk).s < 8 by rw [show (setN r kk).s = nmK kk from rfl, pf]; exact p8)
    rw [show (setN r kk).s = nmK kk from rfl, pf] at pA
    obtain ⟨hIp, hEp⟩ := put_keep hI (by omega) hE (setN r kk)
    obtain ⟨Vp, hVp⟩ : ∃ x, (putV Vv (setN r kk)).1 = x := ⟨_, rfl⟩
    rw [hVp] at pA pd pfl hIp hEp
    obtain ⟨bh, hbh⟩ : ∃ b, hh kk = b := ⟨_, rfl⟩
    refine zc (w' := w47) (zf rfl rfl rfl (F56.get (t := 29) rfl)) rfl F56 rfl (.bool true) (zgb _ _ _ _ rfl (F56.get (t := 30) rfl) rfl (decide_eq_true h57)) fun _ F58 => ?_
    clear F56
    refine zc (w' := w47) (zb rfl) rfl F58 rfl (.bool true) (zbb rfl (F58.get (t := 29) rfl) (F58.get (t := 31) rfl)) fun _ F59 => ?_
    clear F58
    refine hK49 _ _ ?_
    refine wp_cond_true (F59.get (t := 32) rfl) ?_
    refine wp_skip ?_
    refine hK48 _ _ ?_
    refine zS fun _ hK60 => ?_
    refine wp_block ?_
    refine zS fun _ hK61 => ?_
    refine zR ?_
    refine rm rfl F59 fun _ F62 => ?_
    refine rm rfl F62 fun _ F63 => ?_
    refine zc (w' := w47) (zb rfl) rfl F63 rfl ((ixV (.slice A0 n0 cap0) jn)) (y_ixJ _ _ rfl (F63.get (t := 35) rfl) (M47.rdI (k := 1) rfl) (F63.get (t := 36) rfl) rfl (by omega)) fun _ F64 => ?_
    clear F63
    refine zc (w' := w47) (zb rfl) rfl F64 rfl (.int .i64 (x0 jn)) (y_ldJ _ rfl (F64.get (t := 37) rfl) (M47.rdI (k := 1) rfl) (by omega)) fun _ F65 => ?_
    clear F64
    refine zg (zb rfl) rfl F65 rfl rfl (zE Tryz.func17 rfl) #[.int .i64 (x0 jn), .int .i64 1073741824] (zha (F65.get (t := 38) rfl) rfl) (zda ((hnn ▸ within6_any (x0 jn) 1073741824 (by decide) (by decide) xb.1 xb.2 w47))) ?_
    rintro _ w66 a66 ⟨rfl, rfl⟩ F66
    refine rm rfl F66 fun _ F67 => ?_
    refine hK61 _ _ ?_
    refine zS fun _ hK68 => ?_
    refine zR ?_
    refine rm rfl F67 fun _ F69 => ?_
    refine rm rfl F69 fun _ F70 => ?_
    refine zg (zb rfl) rfl F70 rfl rfl (zE Tryz.func21 rfl) #[.int .i64 (nn : Int), .slice A1 n1 cap1] (zha (F70.get (t := 40) rfl) (F70.get (t := 41) rfl)) (rec6_is (nn : Int) l1 (.slice A1 n1 cap1) ⟨by omega, by omega⟩ (by omega) r hr w47 (M47.isb (k := 0) rfl)) ?_
    rintro _ w71 a71 ⟨U71, rfl, is71, lo71, b71⟩ F71
    have M71 := M47.newRec b71 is71 lo71 7 8
    clear M47 b71 lo71
    refine zh (zb rfl) rfl F71 rfl M71 9 (t := 37) (c := recA ⟨0, "".toUTF8, [], 0, 0, [], 0, 0, 0⟩ ⟨zN, zN⟩) (by unfold execOp; kernel_rfl) ?_
    intro g72 a72 w72 F72 M72
    clear F71 M71
    refine zm (zb rfl) rfl F72 M72 (k := 9) rfl _ _ _ rfl (F72.get (t := 10) rfl) (F72.get (t := 42) rfl) (recA r U71) _ rfl (zL rfl) (zta (w := w72) ⟨(M72.isb (k := 7) rfl), (M72.isb (k := 8) rfl)⟩) (zn rfl) (by kernel_rfl) ?_
    intro w73 M73
    clear M72
    refine hK68 _ _ ?_
    refine zS fun _ hK74 => ?_
    refine zR ?_
    refine rm rfl F72 fun _ F75 => ?_
    refine zc (w' := w73) (zb rfl) rfl F75 rfl (.int .i64 ((nn / 5 : Nat) : Int)) (y_quoT _ _ _ _ rfl (F75.get (t := 43) rfl) rfl ⟨by omega, by omega⟩ (by decide) (by rw [Int.tdiv_eq_ediv_of_nonneg (by omega)]; omega)) fun _ F76 => ?_
    clear F75
    refine zc (w' := w73) (zb rfl) rfl F76 rfl (.int .i64 (kk : Int)) (y_remI _ _ _ _ rfl (F76.get (t := 44) rfl) rfl (by omega) (by omega) (by omega)) fun _ F77 => ?_
    clear F76
    refine rm rfl F77 fun _ F78 => ?_
    refine hK74 _ _ ?_
    refine zS fun _ hK79 => ?_
    refine zR ?_
    refine zg (zb rfl) rfl F78 rfl rfl (zE Tryz.func34 rfl) #[] (args0) (names6_ex w73) ?_
    rintro _ w80 a80 ⟨gq80, rfl, hg80, hc80, b80⟩ F80
    have M80 := M73.newb b80 10 hg80 hc80
    clear M73 b80 hg80 hc80
    refine rm rfl F80 fun _ F81 => ?_
    refine zc (w' := w80) (zb rfl) rfl F81 rfl (.pointer (some ⟨gq80, kk, none⟩)) (y_ixG 45 (s := 1) Tryz.underlying45 (by kernel_rfl) _ _ rfl (F81.get (t := 46) rfl) (F81.get (t := 47) rfl) rfl (by omega) (by omega)) fun _ F82 => ?_
    clear F81
    refine zc (w' := w80) (zb rfl) rfl F82 rfl (.string (nmK kk)) (zba _ _ rfl (F82.get (t := 48) rfl) (M80.blk (k := 10) rfl) (nmA_at (show kk < 10 by omega)) Tryz.underlying9 rfl) fun _ F83 => ?_
    clear F82
    refine zc (w' := w80) (zb rfl) rfl F83 rfl (.pointer (some ⟨g72, 1, none⟩)) (y_fa (off := 1) rfl (F83.get (t := 10) rfl) (by kernel_rfl) rfl) fun _ F84 => ?_
    clear F83
    refine zm (zb rfl) rfl F84 M80 (k := 9) rfl _ _ _ rfl (F84.get (t := 50) rfl) (F84.get (t := 49) rfl) (#[.string (nmK kk)]) (recA ⟨r.p, (nmK kk), r.l2, r.a, r.b, r.l5, r.t, r.c, r.z⟩ ⟨U71.v2, U71.v5⟩) rfl (zL rfl) (one_str _) (by kernel_rfl) (by kernel_rfl) ?_
    intro w85 M85
    clear M80
    refine hK79 _ _ ?_
    refine zS fun _ hK86 => ?_
    refine zS fun _ hK87 => ?_
    refine zR ?_
    refine rm rfl F84 fun _ F88 => ?_
    refine zc (w' := w85) (zb rfl) rfl F88 rfl (.int .i64 ((nn % 5 : Nat) : Int)) (y_remI _ _ _ _ rfl (F88.get (t := 51) rfl) rfl (by omega) (by omega) (by omega)) fun _ F89 => ?_
    clear F88
    by_cases h90 : ((nn % 5 : Nat) : Int) = 0
    ·refine zc (w' := w85) (zb rfl) rfl F89 rfl (.bool true) (zsb _ _ _ _ rfl (F89.get (t := 52) rfl) rfl Tryz.underlying3 (y_beqT h90)) fun _ F91 => ?_
     clear F89
     refine rm rfl F91 fun _ F92 => ?_
     refine rm rfl F92 fun _ F93 => ?_
     refine zc (w' := w85) (zf rfl rfl rfl (F93.get (t := 54) rfl)) rfl F93 rfl (.pointer (some ⟨g42, kk, none⟩)) (y_ixA (N := 8) _ _ 59 (by kernel_rfl) (by kernel_rfl) (by kernel_rfl) rfl (F93.get (t := 7) rfl) (F93.get (t := 55) rfl) rfl hkl (Nat.zero_add _)) fun _ F94 => ?_
     clear F93
     refine zc (w' := w85) (zf rfl rfl rfl (F94.get (t := 54) rfl)) rfl F94 rfl (.bool bh) (zba _ _ rfl (F94.get (t := 56) rfl) (M85.blk (k := 5) rfl) (by rw [has_get _ hkl, hbh]) Tryz.underlying4 rfl) fun _ F95 => ?_
     clear F94
     refine zc (w' := w85) (zb rfl) rfl F95 rfl (.bool bh) (zbb rfl (F95.get (t := 54) rfl) (F95.get (t := 57) rfl)) fun _ F96 => ?_
     clear F95
     refine hK87 _ _ ?_
     cases bh
     ·refine wp_cond_false (F96.get (t := 58) rfl) ?_
      refine wp_skip ?_
      refine hK86 _ _ ?_
      refine zS fun _ hK97 => ?_
      refine zS fun _ hK98 => ?_
      refine zR ?_
      refine rm rfl F96 fun _ F99 => ?_
      refine zc (w' := w85) (zb rfl) rfl F99 rfl _ (zna _ _ rfl (F99.get (t := 10) rfl) (M85.blk (k := 9) rfl) (recA ⟨r.p, (nmK kk), r.l2, r.a, r.b, r.l5, r.t, r.c, r.z⟩ ⟨U71.v2, U71.v5⟩) (zra rfl) Tryz.underlying37 rfl (by kernel_rfl)) fun _ F100 => ?_
      clear F99
      refine zg (zb rfl) rfl F100 rfl rfl (zE Tryz.func22 rfl) #[.pointer (some ⟨g33, 0, none⟩), .agg (recA ⟨r.p, (nmK kk), r.l2, r.a, r.b, r.l5, r.t, r.c, r.z⟩ ⟨U71.v2, U71.v5⟩)] (zha (F100.get (t := 66) rfl) (F100.get (t := 67) rfl)) (put_is g33 Vv sv nv (setN r kk) (⟨U71.v2, U71.v5⟩) ro hI (by omega) Vp 0 hVp pz w85 ⟨(M85.isb (k := 7) rfl), (M85.isb (k := 8) rfl)⟩ ⟨(fun h => M85.dis 2 7 _ _ rfl rfl (by decide) rfl _ rfl h), (fun h => M85.dis 2 8 _ _ rfl rfl (by decide) rfl _ rfl h)⟩ (M85.rowsV (i := 3) (k := 2) rfl rfl (by decide)) (M85.blk (k := 2) rfl)) ?_
      rintro _ w101 a101 ⟨rfl, s101, n101, hr101, ht101, hc101, hg101⟩ F101
      have M101 := M85.vault (kg := 2) (kr := 3) rfl rfl hg101 hc101 hr101 ht101
      clear M85 hg101 hc101 hr101 ht101
      refine zc (w' := w101) (zb rfl) rfl F101 rfl (.bool false) (y_neI _ _ _ _ rfl (F101.get (t := 68) rfl) rfl Tryz.underlying39 (y_bneF (by decide))) fun _ F102 => ?_
      clear F101
      refine hK98 _ _ ?_
      refine wp_cond_false (F102.get (t := 69) rfl) ?_
      refine wp_skip ?_
      refine hK97 _ _ ?_
      refine zR ?_
      refine rm rfl F102 fun _ F103 => ?_
      refine rm rfl F103 fun _ F104 => ?_
      refine zc (w' := w101) (zb rfl) rfl F104 rfl _ (zna _ _ rfl (F104.get (t := 10) rfl) (M101.blk (k := 9) rfl) (recA ⟨r.p, (nmK kk), r.l2, r.a, r.b, r.l5, r.t, r.c, r.z⟩ ⟨U71.v2, U71.v5⟩) (zra rfl) Tryz.underlying37 rfl (by kernel_rfl)) fun _ F105 => ?_
      clear F104
      refine zc (w' := w101) (zb rfl) rfl F105 rfl (.pointer (some ⟨g40, (0 + kk * 23), none⟩)) (y_ixC (N := 8) (sz := 23) 58 (by kernel_rfl) (by kernel_rfl) (by kernel_rfl) rfl (F105.get (t := 6) rfl) (F105.get (t := 70) rfl) rfl hkl) fun _ F106 => ?_
      clear F105
      have M108 := M101.recPut (i := 6) (k2 := 7) (k5 := 8) (r := (setN r kk)) (V := ⟨U71.v2, U71.v5⟩) rfl rfl rfl kk
      clear M101
      refine zm (zb rfl) rfl F106 M108 (k := 4) rfl _ _ _ rfl (F106.get (t := 73) rfl) (F106.get (t := 72) rfl) (recA ⟨r.p, (nmK kk), r.l2, r.a, r.b, r.l5, r.t, r.c, r.z⟩ ⟨U71.v2, U71.v5⟩) (lstA (upF ff kk (setN r kk)) (upF gg kk ⟨U71.v2, U71.v5⟩)) rfl (show 0 + kk * 23 + 23 ≤ 184 by omega) (zta (w := w101) (r := (setN r kk)) (V := ⟨U71.v2, U71.v5⟩) ⟨(M108.isb (k := 7) rfl), (M108.isb (k := 8) rfl)⟩) (lst_put ff gg (setN r kk) ⟨U71.v2, U71.v5⟩ hkl) (by kernel_rfl) ?_
      intro w107 M107
      clear M108
      refine zc (w' := w107) (zb rfl) rfl F106 rfl (.pointer (some ⟨g42, kk, none⟩)) (y_ixA (N := 8) _ _ 59 (by kernel_rfl) (by kernel_rfl) (by kernel_rfl) rfl (F106.get (t := 7) rfl) (F106.get (t := 71) rfl) rfl hkl (Nat.zero_add _)) fun _ F109 => ?_
      clear F106
      refine zm (zb rfl) rfl F109 M107 (k := 5) rfl _ _ _ rfl (F109.get (t := 74) rfl) rfl (#[.bool true]) (hasA (upF hh kk true)) rfl (show kk + 1 ≤ 8 by omega) (by simp [Value.oneCell']) (has_put hh true hkl) (by kernel_rfl) ?_
      intro w110 M110
      clear M107
      refine hK60 _ _ ?_
      refine zR ?_
      refine rm rfl F109 fun _ F111 => ?_
      refine zc (w' := w110) (zb rfl) rfl F111 rfl (.int .i64 ((jn + 1 : Nat) : Int)) (zqa _ _ _ _ rfl (F111.get (t := 33) rfl) rfl (by omega) (by omega)) fun _ F112 => ?_
      clear F111
      refine rm rfl F112 fun _ F113 => ?_
      subst ek47
      exact hK47 _ ⟨(jn + 1), Vp, s101, n101, (upF ff kk (setN r kk)), (upF gg kk ⟨U71.v2, U71.v5⟩), (upF hh kk true), (updO mv pp (some (setN r kk)))⟩ _ _ (by omega) ⟨rfl, ⟨by omega, hIp, hEp, pd, pfl, pA, pR⟩⟩ (F113.sub ⟨rfl, rfl, rfl, rfl, rfl, rfl, trivial⟩) (M110.sub ⟨rfl, rfl, rfl, rfl, rfl, rfl, rfl, trivial⟩)
     ·obtain ⟨qq, qf, q8, qR⟩ := hR.gone hkl hbh
      obtain ⟨qz, qA, qd, qfl⟩ := gone_done hI (by omega) hA hd hfl qf q8
      obtain ⟨hIg, hEg⟩ := gone_keep hI (by omega) hE (nmK kk)
      obtain ⟨Vg, hVg⟩ : ∃ x, (goneV Vv (nmK kk)).1 = x := ⟨_, rfl⟩
      rw [hVg] at qA qd qfl hIg hEg
      refine wp_cond_true (F96.get (t := 58) rfl) ?_
      refine zS fun _ hK114 => ?_
      refine zS fun _ hK115 => ?_
      refine zR ?_
      refine zA 3 [(59, .pointer (some ⟨g33, 0, none⟩)), (60, .pointer (some ⟨g72, 1, none⟩)), (61, .string (nmK kk))] [0] (zt (M85.blk (k := 9) rfl) dnil) [g72] F96 fun _ F116 => ?_
      clear F96
      refine zg (zb rfl) rfl F116 rfl rfl (zE Tryz.func27 rfl) #[.pointer (some ⟨g33, 0, none⟩), .string (nmK kk)] (zha (F116.get (t := 59) rfl) (F116.get (t := 61) rfl)) (gone_is g33 Vv sv nv (nmK kk) hI (by omega) Vg 0 hVg qz w85  (M85.rowsV (i := 3) (k := 2) rfl rfl (by decide)) (M85.blk (k := 2) rfl)) ?_
      rintro _ w117 a117 ⟨rfl, s117, n117, hr117, ht117, hc117, hg117⟩ F117
      have M117 := M85.vault (kg := 2) (kr := 3) rfl rfl hg117 hc117 hr117 ht117
      clear M85 hg117 hc117 hr117 ht117
      refine zc (w' := w117) (zb rfl) rfl F117 rfl (.bool false) (y_neI _ _ _ _ rfl (F117.get (t := 62) rfl) rfl Tryz.underlying39 (y_bneF (by decide))) fun _ F118 => ?_
      clear F117
      refine hK115 _ _ ?_
      refine wp_cond_false (F118.get (t := 63) rfl) ?_
      refine wp_skip ?_
      refine hK114 _ _ ?_
      refine zS fun _ hK119 => ?_
      refine zR ?_
      refine rm rfl F118 fun _ F120 => ?_
      refine zc (w' := w117) (zb rfl) rfl F120 rfl (.pointer (some ⟨g42, kk, none⟩)) (y_ixA (N := 8) _ _ 59 (by kernel_rfl) (by kernel_rfl) (by kernel_rfl) rfl (F120.get (t := 7) rfl) (F120.get (t := 64) rfl) rfl hkl (Nat.zero_add _)) fun _ F121 => ?_
      clear F120
      refine zm (zb rfl) rfl F121 M117 (k := 5) rfl _ _ _ rfl (F121.get (t := 65) rfl) rfl (#[.bool false]) (hasA (upF hh kk false)) rfl (show kk + 1 ≤ 8 by omega) (by simp [Value.oneCell']) (has_put hh false hkl) (by kernel_rfl) ?_
      intro w122 M122
      clear M117
      refine hK119 _ _ ?_
      refine wp_exit ?_
      simp only [Exit.then, Exit.inBlock, ↓reduceIte, Nat.reduceEqDiff]
      refine hK60 _ _ ?_
      refine zR ?_
      refine rm rfl F121 fun _ F123 => ?_
      refine zc (w' := w122) (zb rfl) rfl F123 rfl (.int .i64 ((jn + 1 : Nat) : Int)) (zqa _ _ _ _ rfl (F123.get (t := 33) rfl) rfl (by omega) (by omega)) fun _ F124 => ?_
      clear F123
      refine rm rfl F124 fun _ F125 => ?_
      subst ek47
      exact hK47 _ ⟨(jn + 1), Vg, s117, n117, ff, gg, (upF hh kk false), (updO mv qq none)⟩ _ _ (by omega) ⟨rfl, ⟨by omega, hIg, hEg, qd, qfl, qA, qR⟩⟩ (F125.sub ⟨rfl, rfl, rfl, rfl, rfl, rfl, trivial⟩) (M122.sub ⟨rfl, rfl, rfl, rfl, rfl, rfl, rfl, trivial⟩)
    ·refine zc (w' := w85) (zb rfl) rfl F89 rfl (.bool false) (zsb _ _ _ _ rfl (F89.get (t := 52) rfl) rfl Tryz.underlying3 (y_beqF h90)) fun _ F126 => ?_
     clear F89
     refine zA 5 [(54, .bool false), (55, undef), (56, undef), (57, undef), (58, .bool false)] [] dnil [] F126 fun _ F127 => ?_
     clear F126
     refine hK87 _ _ ?_
     refine wp_cond_false (F127.get (t := 58) rfl) ?_
     refine wp_skip ?_
     refine hK86 _ _ ?_
     refine zS fun _ hK128 => ?_
     refine zS fun _ hK129 => ?_
     refine zR ?_
     refine rm rfl F127 fun _ F130 => ?_
     refine zc (w' := w85) (zb rfl) rfl F130 rfl _ (zna _ _ rfl (F130.get (t := 10) rfl) (M85.blk (k := 9) rfl) (recA ⟨r.p, (nmK kk), r.l2, r.a, r.b, r.l5, r.t, r.c, r.z⟩ ⟨U71.v2, U71.v5⟩) (zra rfl) Tryz.underlying37 rfl (by kernel_rfl)) fun _ F131 => ?_
     clear F130
     refine zg (zb rfl) rfl F131 rfl rfl (zE Tryz.func22 rfl) #[.pointer (some ⟨g33, 0, none⟩), .agg (recA ⟨r.p, (nmK kk), r.l2, r.a, r.b, r.l5, r.t, r.c, r.z⟩ ⟨U71.v2, U71.v5⟩)] (zha (F131.get (t := 66) rfl) (F131.get (t := 67) rfl)) (put_is g33 Vv sv nv (setN r kk) (⟨U71.v2, U71.v5⟩) ro hI (by omega) Vp 0 hVp pz w85 ⟨(M85.isb (k := 7) rfl), (M85.isb (k := 8) rfl)⟩ ⟨(fun h => M85.dis 2 7 _ _ rfl rfl (by decide) rfl _ rfl h), (fun h => M85.dis 2 8 _ _ rfl rfl (by decide) rfl _ rfl h)⟩ (M85.rowsV (i := 3) (k := 2) rfl rfl (by decide)) (M85.blk (k := 2) rfl)) ?_
     rintro _ w132 a132 ⟨rfl, s132, n132, hr132, ht132, hc132, hg132⟩ F132
     have M132 := M85.vault (kg := 2) (kr := 3) rfl rfl hg132 hc132 hr132 ht132
     clear M85 hg132 hc132 hr132 ht132
     refine zc (w' := w132) (zb rfl) rfl F132 rfl (.bool false) (y_neI _ _ _ _ rfl (F132.get (t := 68) rfl) rfl Tryz.underlying39 (y_bneF (by decide))) fun _ F133 => ?_
     clear F132
     refine hK129 _ _ ?_
     refine wp_cond_false (F133.get (t := 69) rfl) ?_
     refine wp_skip ?_
     refine hK128 _ _ ?_
     refine zR ?_
     refine rm rfl F133 fun _ F134 => ?_
     refine rm rfl F134 fun _ F135 => ?_
     refine zc (w' := w132) (zb rfl) rfl F135 rfl _ (zna _ _ rfl (F135.get (t := 10) rfl) (M132.blk (k := 9) rfl) (recA ⟨r.p, (nmK kk), r.l2, r.a, r.b, r.l5, r.t, r.c, r.z⟩ ⟨U71.v2, U71.v5⟩) (zra rfl) Tryz.underlying37 rfl (by kernel_rfl)) fun _ F136 => ?_
     clear F135
     refine zc (w' := w132) (zb rfl) rfl F136 rfl (.pointer (some ⟨g40, (0 + kk * 23), none⟩)) (y_ixC (N := 8) (sz := 23) 58 (by kernel_rfl) (by kernel_rfl) (by kernel_rfl) rfl (F136.get (t := 6) rfl) (F136.get (t := 70) rfl) rfl hkl) fun _ F137 => ?_
     clear F136
     have M139 := M132.recPut (i := 6) (k2 := 7) (k5 := 8) (r := (setN r kk)) (V := ⟨U71.v2, U71.v5⟩) rfl rfl rfl kk
     clear M132
     refine zm (zb rfl) rfl F137 M139 (k := 4) rfl _ _ _ rfl (F137.get (t := 73) rfl) (F137.get (t := 72) rfl) (recA ⟨r.p, (nmK kk), r.l2, r.a, r.b, r.l5, r.t, r.c, r.z⟩ ⟨U71.v2, U71.v5⟩) (lstA (upF ff kk (setN r kk)) (upF gg kk ⟨U71.v2, U71.v5⟩)) rfl (show 0 + kk * 23 + 23 ≤ 184 by omega) (zta (w := w132) (r := (setN r kk)) (V := ⟨U71.v2, U71.v5⟩) ⟨(M139.isb (k := 7) rfl), (M139.isb (k := 8) rfl)⟩) (lst_put ff gg (setN r kk) ⟨U71.v2, U71.v5⟩ hkl) (by kernel_rfl) ?_
     intro w138 M138
     clear M139
     refine zc (w' := w138) (zb rfl) rfl F137 rfl (.pointer (some ⟨g42, kk, none⟩)) (y_ixA (N := 8) _ _ 59 (by kernel_rfl) (by kernel_rfl) (by kernel_rfl) rfl (F137.get (t := 7) rfl) (F137.get (t := 71) rfl) rfl hkl (Nat.zero_add _)) fun _ F140 => ?_
     clear F137
     refine zm (zb rfl) rfl F140 M138 (k := 5) rfl _ _ _ rfl (F140.get (t := 74) rfl) rfl (#[.bool true]) (hasA (upF hh kk true)) rfl (show kk + 1 ≤ 8 by omega) (by simp [Value.oneCell']) (has_put hh true hkl) (by kernel_rfl) ?_
     intro w141 M141
     clear M138
     refine hK60 _ _ ?_
     refine zR ?_
     refine rm rfl F140 fun _ F142 => ?_
     refine zc (w' := w141) (zb rfl) rfl F142 rfl (.int .i64 ((jn + 1 : Nat) : Int)) (zqa _ _ _ _ rfl (F142.get (t := 33) rfl) rfl (by omega) (by omega)) fun _ F143 => ?_
     clear F142
     refine rm rfl F143 fun _ F144 => ?_
     subst ek47
     exact hK47 _ ⟨(jn + 1), Vp, s132, n132, (upF ff kk (setN r kk)), (upF gg kk ⟨U71.v2, U71.v5⟩), (upF hh kk true), (updO mv pp (some (setN r kk)))⟩ _ _ (by omega) ⟨rfl, ⟨by omega, hIp, hEp, pd, pfl, pA, pR⟩⟩ (F144.sub ⟨rfl, rfl, rfl, rfl, rfl, rfl, trivial⟩) (M141.sub ⟨rfl, rfl, rfl, rfl, rfl, rfl, rfl, trivial⟩)
   ·refine zc (w' := w47) (zf rfl rfl rfl (F56.get (t := 29) rfl)) rfl F56 rfl (.bool false) (zgb _ _ _ _ rfl (F56.get (t := 30) rfl) rfl (decide_eq_false h57)) fun _ F145 => ?_
    clear F56
    refine zc (w' := w47) (zb rfl) rfl F145 rfl (.bool false) (zbb rfl (F145.get (t := 29) rfl) (F145.get (t := 31) rfl)) fun _ F146 => ?_
    clear F145
    refine hK49 _ _ ?_
    refine wp_cond_false (F146.get (t := 32) rfl) ?_
    refine wp_exit ?_
    simp only [Exit.then, Exit.inBlock, ↓reduceIte, Nat.reduceEqDiff]
    refine hK43 _ _ ?_
    refine zS fun _ hK147 => ?_
    refine zR ?_
    refine rm rfl F146 fun _ F148 => ?_
    refine zg (zb rfl) rfl F148 rfl rfl (zE Tryz.func25 rfl) #[.pointer (some ⟨g33, 0, none⟩)] (zx (F148.get (t := 75) rfl)) (names_is g33 Vv sv nv hI ((flF hh).map nmK) (by rw [namL_acc hA 8 (Nat.le_refl _)]; exact hR.names) w47 (M47.hasV (kg := 2) (kr := 3) rfl rfl (by decide))) ?_
    rintro v149 w149 a149 ⟨tx149, b149⟩ F149
    have M149 := M47.newTxt b149 7 tx149
    clear M47 tx149 b149
    obtain ⟨A149, c149, e149, -⟩ := id (M149.at_ 7 _ rfl)
    subst e149
    refine rm rfl F149 fun _ F150 => ?_
    refine hK147 _ _ ?_
    refine zS fun _ hK151 => ?_
    refine zR ?_
    refine rm rfl F150 fun _ F152 => ?_
    refine hK151 _ _ ?_
    refine zS fun _ hK153 => ?_
    refine zS fun _ hK154 => ?_
    refine zR ?_
    refine rm rfl F152 fun _ F155 => ?_
    refine hK154 _ _ ?_
    refine wp_block ?_
    refine zyb (α := Nat × Nat) (n := 128) (G := none) (w0 := w) (fun x => [(5, .pointer (some ⟨g33, 0, none⟩)), (6, .pointer (some ⟨g40, 0, none⟩)), (7, .pointer (some ⟨g42, 0, none⟩)), (12, .slice A149 ((flF hh).map nmK).length c149), (14, .int .i64 (x.1 : Int)), (13, .int .i64 (x.2 : Int))]) (fun x => [(0, bytR l1 (.slice A1 n1 cap1)), (1, intR A0 n0 x0), (2, blkR g33 80 (vltA Vv sv nv)), (3, z1a 0 18 Vv.c sv nv), (4, blkR g40 58 (lstA ff gg)), (5, blkR g42 59 (hasA hh)), (6, z1a 0 8 (cLs ff) (sLs gg) (nLs gg)), (7, txtR ((flF hh).map nmK) (.slice A149 ((flF hh).map nmK).length c149))]) (fun k x => k = (8 - x.1) ∧ (x.1 ≤ 8 ∧ x.2 = cnF hh x.1)) _ ⟨0, 0⟩ ⟨rfl, ⟨Nat.zero_le _, rfl⟩⟩ (F155.sub ⟨rfl, rfl, rfl, rfl, rfl, rfl, trivial⟩) (M149.sub ⟨rfl, rfl, rfl, rfl, rfl, rfl, rfl, rfl, trivial⟩) ?_
    clear F155 M149
    rintro k156 ⟨kn, jv⟩ a156 w156 K156 ⟨ek156, I156⟩ F156 M156 hK156
    replace F156 : Fx 128 a156 [(5, .pointer (some ⟨g33, 0, none⟩)), (6, .pointer (some ⟨g40, 0, none⟩)), (7, .pointer (some ⟨g42, 0, none⟩)), (12, .slice A149 ((flF hh).map nmK).length c149), (14, .int .i64 (kn : Int)), (13, .int .i64 (jv : Int))] := F156
    replace M156 : Mx _ _ w156 [(0, bytR l1 (.slice A1 n1 cap1)), (1, intR A0 n0 x0), (2, blkR g33 80 (vltA Vv sv nv)), (3, z1a 0 18 Vv.c sv nv), (4, blkR g40 58 (lstA ff gg)), (5, blkR g42 59 (hasA hh)), (6, z1a 0 8 (cLs ff) (sLs gg) (nLs gg)), (7, txtR ((flF hh).map nmK) (.slice A149 ((flF hh).map nmK).length c149))] := M156
    replace I156 : kn ≤ 8 ∧ jv = cnF hh kn := I156
    replace ek156 : k156 = (8 - kn) := ek156
    obtain ⟨hk, hjv⟩ := I156
    refine zS fun _ hK157 => ?_
    refine zS fun _ hK158 => ?_
    refine zR ?_
    refine rm rfl F156 fun _ F159 => ?_
    by_cases h160 : (kn : Int) < 8
    ·have hknl : kn < 8 := by omega
     by_cases hq161 : hh kn = true
     ·obtain ⟨pk, k8, kf, kr⟩ := (hR.get hA hknl).1 hq161
      have fko := (hR.n kn hknl hq161).2
      have hjt := (all_fl hh hknl).2.1 hq161
      rw [← hjv] at hjt
      have hjs : ((flF hh).map nmK)[jv]? = some (nmK kn) := by rw [List.getElem?_map, hjt]; rfl
      have hjl := (List.getElem?_eq_some_iff.1 hjs).1
      have hjl2 : jv < (flF hh).length := by rw [List.length_map] at hjl; exact hjl
      have hf8 : (flF hh).length ≤ 8 := List.length_filter_le _ _
      refine zc (w' := w156) (zb rfl) rfl F159 rfl (.bool true) (zgb _ _ _ _ rfl (F159.get (t := 77) rfl) rfl (decide_eq_true h160)) fun _ F162 => ?_
      clear F159
      refine hK158 _ _ ?_
      refine wp_cond_true (F162.get (t := 78) rfl) ?_
      refine wp_skip ?_
      refine hK157 _ _ ?_
      refine zS fun _ hK163 => ?_
      refine wp_block ?_
      refine zS fun _ hK164 => ?_
      refine zR ?_
      refine rm rfl F162 fun _ F165 => ?_
      refine zg (zb rfl) rfl F165 rfl rfl (zE Tryz.func34 rfl) #[] (args0) (names6_ex w156) ?_
      rintro _ w166 a166 ⟨gq166, rfl, hg166, hc166, b166⟩ F166
      have M166 := M156.newb b166 8 hg166 hc166
      clear M156 b166 hg166 hc166
      refine rm rfl F166 fun _ F167 => ?_
      refine zc (w' := w166) (zb rfl) rfl F167 rfl (.pointer (some ⟨gq166, kn, none⟩)) (y_ixG 45 (s := 1) Tryz.underlying45 (by kernel_rfl) _ _ rfl (F167.get (t := 83) rfl) (F167.get (t := 84) rfl) rfl (by omega) (by omega)) fun _ F168 => ?_
      clear F167
      refine zc (w' := w166) (zb rfl) rfl F168 rfl (.string (nmK kn)) (zba _ _ rfl (F168.get (t := 85) rfl) (M166.blk (k := 8) rfl) (nmA_at (show kn < 10 by omega)) Tryz.underlying9 rfl) fun _ F169 => ?_
      clear F168
      refine zg (zb rfl) rfl F169 rfl rfl (zE Tryz.func24 rfl) #[.pointer (some ⟨g33, 0, none⟩), .string (nmK kn)] (zha (F169.get (t := 82) rfl) (F169.get (t := 86) rfl)) (get_yes g33 Vv sv nv hI (nmK kn) pk k8 kf (ff kn) kr w166 (M166.hasV (kg := 2) (kr := 3) rfl rfl (by decide))) ?_
      rintro _ w170 a170 ⟨U170, rfl, is170, lo170, b170⟩ F170
      have M170 := M166.newRec b170 is170 lo170 9 10
      clear M166 b170 lo170
      refine zA 3 [(81, .tuple #[.agg (recA (ff kn) U170), .bool true]), (88, .agg (recA (ff kn) U170)), (89, .bool true)] [] dnil [] F170 fun _ F171 => ?_
      clear F170
      refine zh (zb rfl) rfl F171 rfl M170 11 (t := 37) (c := recA ⟨0, "".toUTF8, [], 0, 0, [], 0, 0, 0⟩ ⟨zN, zN⟩) (by unfold execOp; kernel_rfl) ?_
      intro g172 a172 w172 F172 M172
      clear F171 M170
      refine zm (zb rfl) rfl F172 M172 (k := 11) rfl _ _ _ rfl (F172.get (t := 15) rfl) (F172.get (t := 88) rfl) (recA (ff kn) U170) _ rfl (zL rfl) (zta (w := w172) ⟨(M172.isb (k := 9) rfl), (M172.isb (k := 10) rfl)⟩) (zn rfl) (by kernel_rfl) ?_
      intro w173 M173
      clear M172
      refine rm rfl F172 fun _ F174 => ?_
      refine hK164 _ _ ?_
      refine zS fun _ hK175 => ?_
      refine zS fun _ hK176 => ?_
      have hD177 := (zt (M173.blk (k := 11) rfl) dnil)
      refine z3b F174 (SK [.inl (.bool true), .inl (.int .i64 (kn : Int)), .inl (.pointer (some ⟨g42, kn, none⟩)), .inl (.bool true), .inl (.bool false), .inl (.bool false), .inl (.bool true), .inl (.bool true), .inl (.agg (recA (ff kn) U170)), .inl (.int .i64 (kn : Int)), .inl (.pointer (some ⟨g40, (0 + kn * 23), none⟩)), .inl (.agg (recA (ff kn) (gg kn))), .inl (.bool true), .inl (.bool false), .inl (.bool false), .inl (.bool false)]) 16 rfl (by kernel_rfl) ⟨hop0 F174 (by kernel_rfl), hop0 F174 (by kernel_rfl), ?_, ?_, ?_, hop0 F174 (by kernel_rfl), hop0 F174 (by kernel_rfl), hop0 F174 (by kernel_rfl), hopP F174 hD177 0 (some g172) (by kernel_rfl), hop0 F174 (by kernel_rfl), ?_, ?_, ?_, hop0 F174 (by kernel_rfl), hop0 F174 (by kernel_rfl), hop0 F174 (by kernel_rfl), trivial⟩ ?_
      ·intro ua uw hb hd
       have e7 : ua.eval (.tmp 7) = .pointer (some ⟨g42, 0, none⟩) := (show ua.eval (.tmp 7) = _ from hd 7 (by decide)).trans (F174.get (t := 7) rfl)
       have e91 : ua.eval (.tmp 91) = .int .i64 (kn : Int) := hd 91 (by decide)
       exact zr (F := (StK.eq (.pointer (some ⟨g42, kn, none⟩))).F) (zb rfl) (.pointer (some ⟨g42, kn, none⟩)) (y_ixA (N := 8) _ _ 59 (by kernel_rfl) (by kernel_rfl) (by kernel_rfl) rfl e7 e91 rfl hknl (Nat.zero_add _)) rfl
      ·intro ua uw hb hd
       have e92 : ua.eval (.tmp 92) = .pointer (some ⟨g42, kn, none⟩) := hd 92 (by decide)
       exact zr (F := (StK.eq (.bool true)).F) (zb rfl) (.bool true) (zba _ _ rfl e92 ((M173.step hb).blk (k := 5) rfl) (by rw [has_get _ hknl, hq161]) Tryz.underlying4 rfl) rfl
      ·intro ua uw hb hd
       have e90 : ua.eval (.tmp 90) = .bool true := hd 90 (by decide)
       have e93 : ua.eval (.tmp 93) = .bool true := hd 93 (by decide)
       exact zr (F := (StK.eq (.bool false)).F) (zb rfl) (.bool false) (y_neB _ _ rfl e90 e93 rfl) rfl
      ·intro ua uw hb hd
       have eg : ua.eval (.tmp 97) = .bool true := hd 97 (by decide)
       have e6 : ua.eval (.tmp 6) = .pointer (some ⟨g40, 0, none⟩) := (show ua.eval (.tmp 6) = _ from hd 6 (by decide)).trans (F174.get (t := 6) rfl)
       have e99 : ua.eval (.tmp 99) = .int .i64 (kn : Int) := hd 99 (by decide)
       exact zr (F := (StK.eq (.pointer (some ⟨g40, (0 + kn * 23), none⟩))).F) (zf rfl rfl rfl eg) (.pointer (some ⟨g40, (0 + kn * 23), none⟩)) (y_ixC (N := 8) (sz := 23) 58 (by kernel_rfl) (by kernel_rfl) (by kernel_rfl) rfl e6 e99 rfl hknl) rfl
      ·intro ua uw hb hd
       have eg : ua.eval (.tmp 97) = .bool true := hd 97 (by decide)
       have e100 : ua.eval (.tmp 100) = .pointer (some ⟨g40, (0 + kn * 23), none⟩) := hd 100 (by decide)
       exact zr (F := (StK.eq (.agg (recA (ff kn) (gg kn)))).F) (zf rfl rfl rfl eg) (.agg (recA (ff kn) (gg kn))) (zna _ _ rfl e100 ((M173.step hb).blk (k := 4) rfl) (recA (ff kn) (gg kn)) (lst_get ff gg hknl) Tryz.underlying37 rfl (by kernel_rfl)) rfl
      ·intro ua uw hb hd
       have eg : ua.eval (.tmp 97) = .bool true := hd 97 (by decide)
       have e98 : ua.eval (.tmp 98) = .agg (recA (ff kn) U170) := hd 98 (by decide)
       have e101 : ua.eval (.tmp 101) = .agg (recA (ff kn) (gg kn)) := hd 101 (by decide)
       exact z4b (F := (StK.eq (.bool true)).F) (zf rfl rfl rfl eg) hb.size rfl #[.agg (recA (ff kn) U170), .agg (recA (ff kn) (gg kn))] (zha e98 e101) (zE Tryz.func31 rfl) (call_eqS ((recs_is (ff kn) (ff kn) ⟨U170.v2, U170.v5⟩ ⟨(gg kn).v2, (gg kn).v5⟩ fko fko true (eqR_self (ff kn)) uw ⟨((M173.step hb).isb (k := 9) rfl), ((M173.step hb).isb (k := 10) rfl)⟩ ⟨((M173.step hb).rowsS (i := 6) rfl hknl), ((M173.step hb).rowsN (i := 6) rfl hknl)⟩)))
      intro p178 a178 w178 b178 G178 y178
      obtain ⟨-, -, -, -, -, -, -, -, -, -, -, -, -, -, -, q15, -⟩ := y178
      have r15 : p178 15 = .bool false := q15 (by decide)
      simp only [List.take, layV, Nat.zero_add, Nat.reduceAdd, r15] at G178
      have M178 := M173.kc b178
      clear F174 M173 r15 q15
      refine hK176 _ _ ?_
      refine wp_cond_false (G178.get (t := 105) rfl) ?_
      refine wp_skip ?_
      refine hK175 _ _ ?_
      refine zS fun _ hK179 => ?_
      refine zR ?_
      refine rm rfl G178 fun _ F180 => ?_
      refine hK179 _ _ ?_
      refine wp_cond_true (F180.get (t := 106) rfl) ?_
      refine zS fun _ hK181 => ?_
      refine zS fun _ hK182 => ?_
      refine z3b F180 (SK [.inl (.int .i64 (jv : Int)), .inl (.slice A149 ((flF hh).map nmK).length c149), .inl (.int .i64 ((flF hh).length : Int)), .inl (.bool false), .inl (.bool false), .inl (.slice A149 ((flF hh).map nmK).length c149), .inl (.int .i64 (jv : Int)), .inl ((ixV (.slice A149 ((flF hh).map nmK).length c149) jv)), .inl (.string (nmK kn)), .inr (StK.nms), .inl (.int .i64 (kn : Int)), .inr (StK.nmp kn), .inl (.string (nmK kn)), .inl (.bool false), .inl (.bool false)]) 15 rfl (by kernel_rfl) ⟨hop0 F180 (by kernel_rfl), hop0 F180 (by kernel_rfl), ?_, ?_, hop0 F180 (by kernel_rfl), hop0 F180 (by kernel_rfl), hop0 F180 (by kernel_rfl), ?_, ?_, ?_, hop0 F180 (by kernel_rfl), ?_, ?_, ?_, hop0 F180 (by kernel_rfl), trivial⟩ ?_
      ·intro ua uw hb hd
       have e108 : ua.eval (.tmp 108) = .slice A149 ((flF hh).map nmK).length c149 := hd 108 (by decide)
       exact zr (F := (StK.eq (.int .i64 ((flF hh).length : Int))).F) (zb rfl) (.int .i64 ((flF hh).length : Int)) (y_lnG 45 Tryz.underlying45 _ rfl e108 (by rw [List.length_map])) rfl
      ·intro ua uw hb hd
       have e107 : ua.eval (.tmp 107) = .int .i64 (jv : Int) := hd 107 (by decide)
       have e109 : ua.eval (.tmp 109) = .int .i64 ((flF hh).length : Int) := hd 109 (by decide)
       exact zr (F := (StK.eq (.bool false)).F) (zb rfl) (.bool false) (y_geq _ _ _ _ rfl e107 e109 (decide_eq_false (show ¬ ((flF hh).length : Int) ≤ (jv : Int) by omega))) rfl
      ·intro ua uw hb hd
       have eg : ua.eval (.tmp 111) = .bool false := hd 111 (by decide)
       have e112 : ua.eval (.tmp 112) = .slice A149 ((flF hh).map nmK).length c149 := hd 112 (by decide)
       have e113 : ua.eval (.tmp 113) = .int .i64 (jv : Int) := hd 113 (by decide)
       exact zr (F := (StK.eq ((ixV (.slice A149 ((flF hh).map nmK).length c149) jv))).F) (zf rfl rfl rfl eg) ((ixV (.slice A149 ((flF hh).map nmK).length c149) jv)) (y_ixT _ _ rfl e112 ((M178.step hb).at_ 7 _ rfl) e113 rfl hjl) rfl
      ·intro ua uw hb hd
       have eg : ua.eval (.tmp 111) = .bool false := hd 111 (by decide)
       have e114 : ua.eval (.tmp 114) = (ixV (.slice A149 ((flF hh).map nmK).length c149) jv) := hd 114 (by decide)
       exact zr (F := (StK.eq (.string (nmK kn))).F) (zf rfl rfl rfl eg) (.string (nmK kn)) (y_ldT _ rfl e114 ((M178.step hb).at_ 7 _ rfl) hjs) rfl
      ·intro ua uw hb hd
       have eg : ua.eval (.tmp 111) = .bool false := hd 111 (by decide)
       exact z4b (F := (StK.nms).F) (zf rfl rfl rfl eg) hb.size rfl #[] (args0) (zE Tryz.func34 rfl) ((names6_rel uw))
      ·intro ua uw hb hd
       have eg : ua.eval (.tmp 111) = .bool false := hd 111 (by decide)
       have e116 : (StK.nms).F uw (ua.eval (.tmp 116)) := hd 116 (by decide)
       have e117 : ua.eval (.tmp 117) = .int .i64 (kn : Int) := hd 117 (by decide)
       obtain ⟨g_, h1_, h2_⟩ := e116
       exact zr (F := (StK.nmp kn).F) (zf rfl rfl rfl eg) (.pointer (some ⟨g_, kn, none⟩)) (y_ixG 45 (s := 1) Tryz.underlying45 (by kernel_rfl) _ _ rfl h1_ e117 rfl (by omega) (by omega)) ⟨g_, rfl, h2_⟩
      ·intro ua uw hb hd
       have eg : ua.eval (.tmp 111) = .bool false := hd 111 (by decide)
       have e118 : (StK.nmp kn).F uw (ua.eval (.tmp 118)) := hd 118 (by decide)
       obtain ⟨g_, h1_, h2_⟩ := e118
       exact zr (F := (StK.eq (.string (nmK kn))).F) (zf rfl rfl rfl eg) (.string (nmK kn)) (zba _ _ rfl h1_ h2_ (nmA_at (show kn < 10 by omega)) Tryz.underlying9 rfl) rfl
      ·intro ua uw hb hd
       have eg : ua.eval (.tmp 111) = .bool false := hd 111 (by decide)
       have e115 : ua.eval (.tmp 115) = .string (nmK kn) := hd 115 (by decide)
       have e119 : ua.eval (.tmp 119) = .string (nmK kn) := hd 119 (by decide)
       exact zr (F := (StK.eq (.bool false)).F) (zf rfl rfl rfl eg) (.bool false) (y_neS _ _ _ rfl e115 e119 (str_neF rfl)) rfl
      intro p184 a184 w184 b184 G184 y184
      obtain ⟨-, -, -, -, -, -, -, -, -, -, -, -, -, -, q14, -⟩ := y184
      have r14 : p184 14 = .bool false := q14 (by decide)
      simp only [List.take, layV, Nat.zero_add, Nat.reduceAdd, r14] at G184
      have M184 := M178.kc b184
      clear F180 M178 r14 q14
      refine hK182 _ _ ?_
      refine wp_cond_false (G184.get (t := 121) rfl) ?_
      refine wp_skip ?_
      refine hK181 _ _ ?_
      refine zR ?_
      refine rm rfl G184 fun _ F185 => ?_
      refine zc (w' := w184) (zb rfl) rfl F185 rfl (.int .i64 ((jv + 1 : Nat) : Int)) (zqa _ _ _ _ rfl (F185.get (t := 122) rfl) rfl (by omega) (by omega)) fun _ F186 => ?_
      clear F185
      refine rm rfl F186 fun _ F187 => ?_
      refine hK163 _ _ ?_
      refine zR ?_
      refine rm rfl F187 fun _ F188 => ?_
      refine zc (w' := w184) (zb rfl) rfl F188 rfl (.int .i64 ((kn + 1 : Nat) : Int)) (zqa _ _ _ _ rfl (F188.get (t := 79) rfl) rfl (by omega) (by omega)) fun _ F189 => ?_
      clear F188
      refine rm rfl F189 fun _ F190 => ?_
      subst ek156
      exact hK156 _ ⟨(kn + 1), (jv + 1)⟩ _ _ (by omega) ⟨rfl, ⟨by omega, by dsimp only; rw [(all_fl hh hknl).2.2.2, if_pos hq161, hjv]⟩⟩ (F190.sub ⟨rfl, rfl, rfl, rfl, rfl, rfl, trivial⟩) (M184.sub ⟨rfl, rfl, rfl, rfl, rfl, rfl, rfl, rfl, trivial⟩)
     ·have hbf : hh kn = false := by simpa using hq161
      refine zc (w' := w156) (zb rfl) rfl F159 rfl (.bool true) (zgb _ _ _ _ rfl (F159.get (t := 77) rfl) rfl (decide_eq_true h160)) fun _ F191 => ?_
      clear F159
      refine hK158 _ _ ?_
      refine wp_cond_true (F191.get (t := 78) rfl) ?_
      refine wp_skip ?_
      refine hK157 _ _ ?_
      refine zS fun _ hK192 => ?_
      refine wp_block ?_
      refine zS fun _ hK193 => ?_
      refine zR ?_
      refine rm rfl F191 fun _ F194 => ?_
      refine zg (zb rfl) rfl F194 rfl rfl (zE Tryz.func34 rfl) #[] (args0) (names6_ex w156) ?_
      rintro _ w195 a195 ⟨gq195, rfl, hg195, hc195, b195⟩ F195
      have M195 := M156.newb b195 8 hg195 hc195
      clear M156 b195 hg195 hc195
      refine rm rfl F195 fun _ F196 => ?_
      refine zc (w' := w195) (zb rfl) rfl F196 rfl (.pointer (some ⟨gq195, kn, none⟩)) (y_ixG 45 (s := 1) Tryz.underlying45 (by kernel_rfl) _ _ rfl (F196.get (t := 83) rfl) (F196.get (t := 84) rfl) rfl (by omega) (by omega)) fun _ F197 => ?_
      clear F196
      refine zc (w' := w195) (zb rfl) rfl F197 rfl (.string (nmK kn)) (zba _ _ rfl (F197.get (t := 85) rfl) (M195.blk (k := 8) rfl) (nmA_at (show kn < 10 by omega)) Tryz.underlying9 rfl) fun _ F198 => ?_
      clear F197
      refine zg (zb rfl) rfl F198 rfl rfl (zE Tryz.func24 rfl) #[.pointer (some ⟨g33, 0, none⟩), .string (nmK kn)] (zha (F198.get (t := 82) rfl) (F198.get (t := 86) rfl)) (zda ((get_not g33 Vv sv nv hI (nmK kn) ((hR.get hA hknl).2 hbf) w195 (M195.hasV (kg := 2) (kr := 3) rfl rfl (by decide))))) ?_
      rintro _ w199 a199 ⟨rfl, b199⟩ F199
      have M199 := M195.step b199
      refine rm rfl F199 fun _ F200 => ?_
      refine zA 2 [(88, .agg (recA ⟨0, "".toUTF8, [], 0, 0, [], 0, 0, 0⟩ ⟨zN, zN⟩)), (89, .bool false)] [] dnil [] F200 fun _ F201 => ?_
      clear F200
      refine zh (zb rfl) rfl F201 rfl M199 9 (t := 37) (c := recA ⟨0, "".toUTF8, [], 0, 0, [], 0, 0, 0⟩ ⟨zN, zN⟩) (by unfold execOp; kernel_rfl) ?_
      intro g202 a202 w202 F202 M202
      clear F201 M199
      refine zm (zb rfl) rfl F202 M202 (k := 9) rfl _ _ _ rfl (F202.get (t := 15) rfl) (F202.get (t := 88) rfl) (recA ⟨0, "".toUTF8, [], 0, 0, [], 0, 0, 0⟩ ⟨zN, zN⟩) _ rfl (zL rfl) (zta (w := w202) ⟨(zla _), (zla _)⟩) (zn rfl) (by kernel_rfl) ?_
      intro w203 M203
      clear M202
      refine rm rfl F202 fun _ F204 => ?_
      refine hK193 _ _ ?_
      refine zS fun _ hK205 => ?_
      refine zS fun _ hK206 => ?_
      refine z3b F204 (SK [.inl (.bool false), .inl (.int .i64 (kn : Int)), .inl (.pointer (some ⟨g42, kn, none⟩)), .inl (.bool false), .inl (.bool false), .inl (.bool false), .inl (.bool false), .inl (.bool false), .inl (undef), .inl (undef), .inl (undef), .inl (undef), .inl (undef), .inl (undef), .inl (.bool false), .inl (.bool false)]) 16 rfl (by kernel_rfl) ⟨hop0 F204 (by kernel_rfl), hop0 F204 (by kernel_rfl), ?_, ?_, ?_, hop0 F204 (by kernel_rfl), hop0 F204 (by kernel_rfl), hop0 F204 (by kernel_rfl), hop0 F204 (by kernel_rfl), hop0 F204 (by kernel_rfl), hop0 F204 (by kernel_rfl), hop0 F204 (by kernel_rfl), hop0 F204 (by kernel_rfl), hop0 F204 (by kernel_rfl), hop0 F204 (by kernel_rfl), hop0 F204 (by kernel_rfl), trivial⟩ ?_
      ·intro ua uw hb hd
       have e7 : ua.eval (.tmp 7) = .pointer (some ⟨g42, 0, none⟩) := (show ua.eval (.tmp 7) = _ from hd 7 (by decide)).trans (F204.get (t := 7) rfl)
       have e91 : ua.eval (.tmp 91) = .int .i64 (kn : Int) := hd 91 (by decide)
       exact zr (F := (StK.eq (.pointer (some ⟨g42, kn, none⟩))).F) (zb rfl) (.pointer (some ⟨g42, kn, none⟩)) (y_ixA (N := 8) _ _ 59 (by kernel_rfl) (by kernel_rfl) (by kernel_rfl) rfl e7 e91 rfl hknl (Nat.zero_add _)) rfl
      ·intro ua uw hb hd
       have e92 : ua.eval (.tmp 92) = .pointer (some ⟨g42, kn, none⟩) := hd 92 (by decide)
       exact zr (F := (StK.eq (.bool false)).F) (zb rfl) (.bool false) (zba _ _ rfl e92 ((M203.step hb).blk (k := 5) rfl) (by rw [has_get _ hknl, hbf]) Tryz.underlying4 rfl) rfl
      ·intro ua uw hb hd
       have e90 : ua.eval (.tmp 90) = .bool false := hd 90 (by decide)
       have e93 : ua.eval (.tmp 93) = .bool false := hd 93 (by decide)
       exact zr (F := (StK.eq (.bool false)).F) (zb rfl) (.bool false) (y_neB _ _ rfl e90 e93 rfl) rfl
      intro p208 a208 w208 b208 G208 y208
      obtain ⟨-, -, -, -, -, -, -, -, -, -, -, -, -, -, -, q15, -⟩ := y208
      have r15 : p208 15 = .bool false := q15 (by decide)
      simp only [List.take, layV, Nat.zero_add, Nat.reduceAdd, r15] at G208
      have M208 := M203.kc b208
      clear F204 M203 r15 q15
      refine hK206 _ _ ?_
      refine wp_cond_false (G208.get (t := 105) rfl) ?_
      refine wp_skip ?_
      refine hK205 _ _ ?_
      refine zS fun _ hK209 => ?_
      refine zR ?_
      refine rm rfl G208 fun _ F210 => ?_
      refine hK209 _ _ ?_
      refine wp_cond_false (F210.get (t := 106) rfl) ?_
      refine wp_skip ?_
      refine hK192 _ _ ?_
      refine zR ?_
      refine rm rfl F210 fun _ F211 => ?_
      refine zc (w' := w208) (zb rfl) rfl F211 rfl (.int .i64 ((kn + 1 : Nat) : Int)) (zqa _ _ _ _ rfl (F211.get (t := 79) rfl) rfl (by omega) (by omega)) fun _ F212 => ?_
      clear F211
      refine rm rfl F212 fun _ F213 => ?_
      subst ek156
      exact hK156 _ ⟨(kn + 1), jv⟩ _ _ (by omega) ⟨rfl, ⟨by omega, by dsimp only; rw [(all_fl hh hknl).2.2.2, if_neg (by rw [hbf]; exact Bool.false_ne_true)]; exact hjv⟩⟩ (F213.sub ⟨rfl, rfl, rfl, rfl, rfl, rfl, trivial⟩) (M208.sub ⟨rfl, rfl, rfl, rfl, rfl, rfl, rfl, rfl, trivial⟩)
    ·have hk8 : kn = 8 := by omega
     rw [hk8] at hjv
     refine zc (w' := w156) (zb rfl) rfl F159 rfl (.bool false) (zgb _ _ _ _ rfl (F159.get (t := 77) rfl) rfl (decide_eq_false h160)) fun _ F214 => ?_
     clear F159
     refine hK158 _ _ ?_
     refine wp_cond_false (F214.get (t := 78) rfl) ?_
     refine wp_exit ?_
     simp only [Exit.then, Exit.inBlock, ↓reduceIte, Nat.reduceEqDiff]
     refine hK153 _ _ ?_
     refine zS fun _ hK215 => ?_
     refine zR ?_
     refine rm rfl F214 fun _ F216 => ?_
     refine rm rfl F216 fun _ F217 => ?_
     refine zc (w' := w156) (zb rfl) rfl F217 rfl (.int .i64 ((flF hh).length : Int)) (y_lnG 45 Tryz.underlying45 _ rfl (F217.get (t := 125) rfl) (by rw [List.length_map])) fun _ F218 => ?_
     clear F217
     refine zc (w' := w156) (zb rfl) rfl F218 rfl (.bool true) (zsb _ _ _ _ rfl (F218.get (t := 124) rfl) (F218.get (t := 126) rfl) Tryz.underlying3 (y_beqT (show (jv : Int) = ((flF hh).length : Int) by rw [hjv]; rfl))) fun _ F219 => ?_
     clear F218
     refine rm rfl F219 fun _ F220 => ?_
     refine hK215 _ _ ?_
     refine wp_ret ?_
     try simp only [Exit.then, Exit.inBlock, Exit.jump]
     exact bodyPost_ret (res1 rfl (F220.get rfl)) F220.defers ⟨rfl, M156.below⟩
  ·refine zc (w' := w47) (zb rfl) rfl F52 rfl (.bool false) (zgb _ _ _ _ rfl (F52.get (t := 25) rfl) (F52.get (t := 27) rfl) (decide_eq_false h53)) fun _ F221 => ?_
   clear F52
   refine zA 4 [(29, .bool false), (30, undef), (31, undef), (32, .bool false)] [] dnil [] F221 fun _ F222 => ?_
   clear F221
   refine hK49 _ _ ?_
   refine wp_cond_false (F222.get (t := 32) rfl) ?_
   refine wp_exit ?_
   simp only [Exit.then, Exit.inBlock, ↓reduceIte, Nat.reduceEqDiff]
   refine hK43 _ _ ?_
   refine zS fun _ hK223 => ?_
   refine zR ?_
   refine rm rfl F222 fun _ F224 => ?_
   refine zg (zb rfl) rfl F224 rfl rfl (zE Tryz.func25 rfl) #[.pointer (some ⟨g33, 0, none⟩)] (zx (F224.get (t := 75) rfl)) (names_is g33 Vv sv nv hI ((flF hh).map nmK) (by rw [namL_acc hA 8 (Nat.le_refl _)]; exact hR.names) w47 (M47.hasV (kg := 2) (kr := 3) rfl rfl (by decide))) ?_
   rintro v225 w225 a225 ⟨tx225, b225⟩ F225
   have M225 := M47.newTxt b225 7 tx225
   clear M47 tx225 b225
   obtain ⟨A225, c225, e225, -⟩ := id (M225.at_ 7 _ rfl)
   subst e225
   refine rm rfl F225 fun _ F226 => ?_
   refine hK223 _ _ ?_
   refine zS fun _ hK227 => ?_
   refine zR ?_
   refine rm rfl F226 fun _ F228 => ?_
   refine hK227 _ _ ?_
   refine zS fun _ hK229 => ?_
   refine zS fun _ hK230 => ?_
   refine zR ?_
   refine rm rfl F228 fun _ F231 => ?_
   refine hK230 _ _ ?_
   refine wp_block ?_
   refine zyb (α := Nat × Nat) (n := 128) (G := none) (w0 := w) (fun x => [(5, .pointer (some ⟨g33, 0, none⟩)), (6, .pointer (some ⟨g40, 0, none⟩)), (7, .pointer (some ⟨g42, 0, none⟩)), (12, .slice A225 ((flF hh).map nmK).length c225), (14, .int .i64 (x.1 : Int)), (13, .int .i64 (x.2 : Int))]) (fun x => [(0, bytR l1 (.slice A1 n1 cap1)), (1, intR A0 n0 x0), (2, blkR g33 80 (vltA Vv sv nv)), (3, z1a 0 18 Vv.c sv nv), (4, blkR g40 58 (lstA ff gg)), (5, blkR g42 59 (hasA hh)), (6, z1a 0 8 (cLs ff) (sLs gg) (nLs gg)), (7, txtR ((flF hh).map nmK) (.slice A225 ((flF hh).map nmK).length c225))]) (fun k x => k = (8 - x.1) ∧ (x.1 ≤ 8 ∧ x.2 = cnF hh x.1)) _ ⟨0, 0⟩ ⟨rfl, ⟨Nat.zero_le _, rfl⟩⟩ (F231.sub ⟨rfl, rfl, rfl, rfl, rfl, rfl, trivial⟩) (M225.sub ⟨rfl, rfl, rfl, rfl, rfl, rfl, rfl, rfl, trivial⟩) ?_
   clear F231 M225
   rintro k232 ⟨kn, jv⟩ a232 w232 K232 ⟨ek232, I232⟩ F232 M232 hK232
   replace F232 : Fx 128 a232 [(5, .pointer (some ⟨g33, 0, none⟩)), (6, .pointer (some ⟨g40, 0, none⟩)), (7, .pointer (some ⟨g42, 0, none⟩)), (12, .slice A225 ((flF hh).map nmK).length c225), (14, .int .i64 (kn : Int)), (13, .int .i64 (jv : Int))] := F232
   replace M232 : Mx _ _ w232 [(0, bytR l1 (.slice A1 n1 cap1)), (1, intR A0 n0 x0), (2, blkR g33 80 (vltA Vv sv nv)), (3, z1a 0 18 Vv.c sv nv), (4, blkR g40 58 (lstA ff gg)), (5, blkR g42 59 (hasA hh)), (6, z1a 0 8 (cLs ff) (sLs gg) (nLs gg)), (7, txtR ((flF hh).map nmK) (.slice A225 ((flF hh).map nmK).length c225))] := M232
   replace I232 : kn ≤ 8 ∧ jv = cnF hh kn := I232
   replace ek232 : k232 = (8 - kn) := ek232
   obtain ⟨hk, hjv⟩ := I232
   refine zS fun _ hK233 => ?_
   refine zS fun _ hK234 => ?_
   refine zR ?_
   refine rm rfl F232 fun _ F235 => ?_
   by_cases h236 : (kn : Int) < 8
   ·have hknl : kn < 8 := by omega
    by_cases hq237 : hh kn = true
    ·obtain ⟨pk, k8, kf, kr⟩ := (hR.get hA hknl).1 hq237
     have fko := (hR.n kn hknl hq237).2
     have hjt := (all_fl hh hknl).2.1 hq237
     rw [← hjv] at hjt
     have hjs : ((flF hh).map nmK)[jv]? = some (nmK kn) := by rw [List.getElem?_map, hjt]; rfl
     have hjl := (List.getElem?_eq_some_iff.1 hjs).1
     have hjl2 : jv < (flF hh).length := by rw [List.length_map] at hjl; exact hjl
     have hf8 : (flF hh).length ≤ 8 := List.length_filter_le _ _
     refine zc (w' := w232) (zb rfl) rfl F235 rfl (.bool true) (zgb _ _ _ _ rfl (F235.get (t := 77) rfl) rfl (decide_eq_true h236)) fun _ F238 => ?_
     clear F235
     refine hK234 _ _ ?_
     refine wp_cond_true (F238.get (t := 78) rfl) ?_
     refine wp_skip ?_
     refine hK233 _ _ ?_
     refine zS fun _ hK239 => ?_
     refine wp_block ?_
     refine zS fun _ hK240 => ?_
     refine zR ?_
     refine rm rfl F238 fun _ F241 => ?_
     refine zg (zb rfl) rfl F241 rfl rfl (zE Tryz.func34 rfl) #[] (args0) (names6_ex w232) ?_
     rintro _ w242 a242 ⟨gq242, rfl, hg242, hc242, b242⟩ F242
     have M242 := M232.newb b242 8 hg242 hc242
     clear M232 b242 hg242 hc242
     refine rm rfl F242 fun _ F243 => ?_
     refine zc (w' := w242) (zb rfl) rfl F243 rfl (.pointer (some ⟨gq242, kn, none⟩)) (y_ixG 45 (s := 1) Tryz.underlying45 (by kernel_rfl) _ _ rfl (F243.get (t := 83) rfl) (F243.get (t := 84) rfl) rfl (by omega) (by omega)) fun _ F244 => ?_
     clear F243
     refine zc (w' := w242) (zb rfl) rfl F244 rfl (.string (nmK kn)) (zba _ _ rfl (F244.get (t := 85) rfl) (M242.blk (k := 8) rfl) (nmA_at (show kn < 10 by omega)) Tryz.underlying9 rfl) fun _ F245 => ?_
     clear F244
     refine zg (zb rfl) rfl F245 rfl rfl (zE Tryz.func24 rfl) #[.pointer (some ⟨g33, 0, none⟩), .string (nmK kn)] (zha (F245.get (t := 82) rfl) (F245.get (t := 86) rfl)) (get_yes g33 Vv sv nv hI (nmK kn) pk k8 kf (ff kn) kr w242 (M242.hasV (kg := 2) (kr := 3) rfl rfl (by decide))) ?_
     rintro _ w246 a246 ⟨U246, rfl, is246, lo246, b246⟩ F246
     have M246 := M242.newRec b246 is246 lo246 9 10
     clear M242 b246 lo246
     refine zA 3 [(81, .tuple #[.agg (recA (ff kn) U246), .bool true]), (88, .agg (recA (ff kn) U246)), (89, .bool true)] [] dnil [] F246 fun _ F247 => ?_
     clear F246
     refine zh (zb rfl) rfl F247 rfl M246 11 (t := 37) (c := recA ⟨0, "".toUTF8, [], 0, 0, [], 0, 0, 0⟩ ⟨zN, zN⟩) (by unfold execOp; kernel_rfl) ?_
     intro g248 a248 w248 F248 M248
     clear F247 M246
     refine zm (zb rfl) rfl F248 M248 (k := 11) rfl _ _ _ rfl (F248.get (t := 15) rfl) (F248.get (t := 88) rfl) (recA (ff kn) U246) _ rfl (zL rfl) (zta (w := w248) ⟨(M248.isb (k := 9) rfl), (M248.isb (k := 10) rfl)⟩) (zn rfl) (by kernel_rfl) ?_
     intro w249 M249
     clear M248
     refine rm rfl F248 fun _ F250 => ?_
     refine hK240 _ _ ?_
     refine zS fun _ hK251 => ?_
     refine zS fun _ hK252 => ?_
     have hD253 := (zt (M249.blk (k := 11) rfl) dnil)
     refine z3b F250 (SK [.inl (.bool true), .inl (.int .i64 (kn : Int)), .inl (.pointer (some ⟨g42, kn, none⟩)), .inl (.bool true), .inl (.bool false), .inl (.bool false), .inl (.bool true), .inl (.bool true), .inl (.agg (recA (ff kn) U246)), .inl (.int .i64 (kn : Int)), .inl (.pointer (some ⟨g40, (0 + kn * 23), none⟩)), .inl (.agg (recA (ff kn) (gg kn))), .inl (.bool true), .inl (.bool false), .inl (.bool false), .inl (.bool false)]) 16 rfl (by kernel_rfl) ⟨hop0 F250 (by kernel_rfl), hop0 F250 (by kernel_rfl), ?_, ?_, ?_, hop0 F250 (by kernel_rfl), hop0 F250 (by kernel_rfl), hop0 F250 (by kernel_rfl), hopP F250 hD253 0 (some g248) (by kernel_rfl), hop0 F250 (by kernel_rfl), ?_, ?_, ?_, hop0 F250 (by kernel_rfl), hop0 F250 (by kernel_rfl), hop0 F250 (by kernel_rfl), trivial⟩ ?_
     ·intro ua uw hb hd
      have e7 : ua.eval (.tmp 7) = .pointer (some ⟨g42, 0, none⟩) := (show ua.eval (.tmp 7) = _ from hd 7 (by decide)).trans (F250.get (t := 7) rfl)
      have e91 : ua.eval (.tmp 91) = .int .i64 (kn : Int) := hd 91 (by decide)
      exact zr (F := (StK.eq (.pointer (some ⟨g42, kn, none⟩))).F) (zb rfl) (.pointer (some ⟨g42, kn, none⟩)) (y_ixA (N := 8) _ _ 59 (by kernel_rfl) (by kernel_rfl) (by kernel_rfl) rfl e7 e91 rfl hknl (Nat.zero_add _)) rfl
     ·intro ua uw hb hd
      have e92 : ua.eval (.tmp 92) = .pointer (some ⟨g42, kn, none⟩) := hd 92 (by decide)
      exact zr (F := (StK.eq (.bool true)).F) (zb rfl) (.bool true) (zba _ _ rfl e92 ((M249.step hb).blk (k := 5) rfl) (by rw [has_get _ hknl, hq237]) Tryz.underlying4 rfl) rfl
     ·intro ua uw hb hd
      have e90 : ua.eval (.tmp 90) = .bool true := hd 90 (by decide)
      have e93 : ua.eval (.tmp 93) = .bool true := hd 93 (by decide)
      exact zr (F := (StK.eq (.bool false)).F) (zb rfl) (.bool false) (y_neB _ _ rfl e90 e93 rfl) rfl
     ·intro ua uw hb hd
      have eg : ua.eval (.tmp 97) = .bool true := hd 97 (by decide)
      have e6 : ua.eval (.tmp 6) = .pointer (some ⟨g40, 0, none⟩) := (show ua.eval (.tmp 6) = _ from hd 6 (by decide)).trans (F250.get (t := 6) rfl)
      have e99 : ua.eval (.tmp 99) = .int .i64 (kn : Int) := hd 99 (by decide)
      exact zr (F := (StK.eq (.pointer (some ⟨g40, (0 + kn * 23), none⟩))).F) (zf rfl rfl rfl eg) (.pointer (some ⟨g40, (0 + kn * 23), none⟩)) (y_ixC (N := 8) (sz := 23) 58 (by kernel_rfl) (by kernel_rfl) (by kernel_rfl) rfl e6 e99 rfl hknl) rfl
     ·intro ua uw hb hd
      have eg : ua.eval (.tmp 97) = .bool true := hd 97 (by decide)
      have e100 : ua.eval (.tmp 100) = .pointer (some ⟨g40, (0 + kn * 23), none⟩) := hd 100 (by decide)
      exact zr (F := (StK.eq (.agg (recA (ff kn) (gg kn)))).F) (zf rfl rfl rfl eg) (.agg (recA (ff kn) (gg kn))) (zna _ _ rfl e100 ((M249.step hb).blk (k := 4) rfl) (recA (ff kn) (gg kn)) (lst_get ff gg hknl) Tryz.underlying37 rfl (by kernel_rfl)) rfl
     ·intro ua uw hb hd
      have eg : ua.eval (.tmp 97) = .bool true := hd 97 (by decide)
      have e98 : ua.eval (.tmp 98) = .agg (recA (ff kn) U246) := hd 98 (by decide)
      have e101 : ua.eval (.tmp 101) = .agg (recA (ff kn) (gg kn)) := hd 101 (by decide)
      exact z4b (F := (StK.eq (.bool true)).F) (zf rfl rfl rfl eg) hb.size rfl #[.agg (recA (ff kn) U246), .agg (recA (ff kn) (gg kn))] (zha e98 e101) (zE Tryz.func31 rfl) (call_eqS ((recs_is (ff kn) (ff kn) ⟨U246.v2, U246.v5⟩ ⟨(gg kn).v2, (gg kn).v5⟩ fko fko true (eqR_self (ff kn)) uw ⟨((M249.step hb).isb (k := 9) rfl), ((M249.step hb).isb (k := 10) rfl)⟩ ⟨((M249.step hb).rowsS (i := 6) rfl hknl), ((M249.step hb).rowsN (i := 6) rfl hknl)⟩)))
     intro p254 a254 w254 b254 G254 y254
     obtain ⟨-, -, -, -, -, -, -, -, -, -, -, -, -, -, -, q15, -⟩ := y254
     have r15 : p254 15 = .bool false := q15 (by decide)
     simp only [List.take, layV, Nat.zero_add, Nat.reduceAdd, r15] at G254
     have M254 := M249.kc b254
     clear F250 M249 r15 q15
     refine hK252 _ _ ?_
     refine wp_cond_false (G254.get (t := 105) rfl) ?_
     refine wp_skip ?_
     refine hK251 _ _ ?_
     refine zS fun _ hK255 => ?_
     refine zR ?_
     refine rm rfl G254 fun _ F256 => ?_
     refine hK255 _ _ ?_
     refine wp_cond_true (F256.get (t := 106) rfl) ?_
     refine zS fun _ hK257 => ?_
     refine zS fun _ hK258 => ?_
     refine z3b F256 (SK [.inl (.int .i64 (jv : Int)), .inl (.slice A225 ((flF hh).map nmK).length c225), .inl (.int .i64 ((flF hh).length : Int)), .inl (.bool false), .inl (.bool false), .inl (.slice A225 ((flF hh).map nmK).length c225), .inl (.int .i64 (jv : Int)), .inl ((ixV (.slice A225 ((flF hh).map nmK).length c225) jv)), .inl (.string (nmK kn)), .inr (StK.nms), .inl (.int .i64 (kn : Int)), .inr (StK.nmp kn), .inl (.string (nmK kn)), .inl (.bool false), .inl (.bool false)]) 15 rfl (by kernel_rfl) ⟨hop0 F256 (by kernel_rfl), hop0 F256 (by kernel_rfl), ?_, ?_, hop0 F256 (by kernel_rfl), hop0 F256 (by kernel_rfl), hop0 F256 (by kernel_rfl), ?_, ?_, ?_, hop0 F256 (by kernel_rfl), ?_, ?_, ?_, hop0 F256 (by kernel_rfl), trivial⟩ ?_
     ·intro ua uw hb hd
      have e108 : ua.eval (.tmp 108) = .slice A225 ((flF hh).map nmK).length c225 := hd 108 (by decide)
      exact zr (F := (StK.eq (.int .i64 ((flF hh).length : Int))).F) (zb rfl) (.int .i64 ((flF hh).length : Int)) (y_lnG 45 Tryz.underlying45 _ rfl e108 (by rw [List.length_map])) rfl
     ·intro ua uw hb hd
      have e107 : ua.eval (.tmp 107) = .int .i64 (jv : Int) := hd 107 (by decide)
      have e109 : ua.eval (.tmp 109) = .int .i64 ((flF hh).length : Int) := hd 109 (by decide)
      exact zr (F := (StK.eq (.bool false)).F) (zb rfl) (.bool false) (y_geq _ _ _ _ rfl e107 e109 (decide_eq_false (show ¬ ((flF hh).length : Int) ≤ (jv : Int) by omega))) rfl
     ·intro ua uw hb hd
      have eg : ua.eval (.tmp 111) = .bool false := hd 111 (by decide)
      have e112 : ua.eval (.tmp 112) = .slice A225 ((flF hh).map nmK).length c225 := hd 112 (by decide)
      have e113 : ua.eval (.tmp 113) = .int .i64 (jv : Int) := hd 113 (by decide)
      exact zr (F := (StK.eq ((ixV (.slice A225 ((flF hh).map nmK).length c225) jv))).F) (zf rfl rfl rfl eg) ((ixV (.slice A225 ((flF hh).map nmK).length c225) jv)) (y_ixT _ _ rfl e112 ((M254.step hb).at_ 7 _ rfl) e113 rfl hjl) rfl
     ·intro ua uw hb hd
      have eg : ua.eval (.tmp 111) = .bool false := hd 111 (by decide)
      have e114 : ua.eval (.tmp 114) = (ixV (.slice A225 ((flF hh).map nmK).length c225) jv) := hd 114 (by decide)
      exact zr (F := (StK.eq (.string (nmK kn))).F) (zf rfl rfl rfl eg) (.string (nmK kn)) (y_ldT _ rfl e114 ((M254.step hb).at_ 7 _ rfl) hjs) rfl
     ·intro ua uw hb hd
      have eg : ua.eval (.tmp 111) = .bool false := hd 111 (by decide)
      exact z4b (F := (StK.nms).F) (zf rfl rfl rfl eg) hb.size rfl #[] (args0) (zE Tryz.func34 rfl) ((names6_rel uw))
     ·intro ua uw hb hd
      have eg : ua.eval (.tmp 111) = .bool false := hd 111 (by decide)
      have e116 : (StK.nms).F uw (ua.eval (.tmp 116)) := hd 116 (by decide)
      have e117 : ua.eval (.tmp 117) = .int .i64 (kn : Int) := hd 117 (by decide)
      obtain ⟨g_, h1_, h2_⟩ := e116
      exact zr (F := (StK.nmp kn).F) (zf rfl rfl rfl eg) (.pointer (some ⟨g_, kn, none⟩)) (y_ixG 45 (s := 1) Tryz.underlying45 (by kernel_rfl) _ _ rfl h1_ e117 rfl (by omega) (by omega)) ⟨g_, rfl, h2_⟩
     ·intro ua uw hb hd
      have eg : ua.eval (.tmp 111) = .bool false := hd 111 (by decide)
      have e118 : (StK.nmp kn).F uw (ua.eval (.tmp 118)) := hd 118 (by decide)
      obtain ⟨g_, h1_, h2_⟩ := e118
      exact zr (F := (StK.eq (.string (nmK kn))).F) (zf rfl rfl rfl eg) (.string (nmK kn)) (zba _ _ rfl h1_ h2_ (nmA_at (show kn < 10 by omega)) Tryz.underlying9 rfl) rfl
     ·intro ua uw hb hd
      have eg : ua.eval (.tmp 111) = .bool false := hd 111 (by decide)
      have e115 : ua.eval (.tmp 115) = .string (nmK kn) := hd 115 (by decide)
      have e119 : ua.eval (.tmp 119) = .string (nmK kn) := hd 119 (by decide)
      exact zr (F := (StK.eq (.bool false)).F) (zf rfl rfl rfl eg) (.bool false) (y_neS _ _ _ rfl e115 e119 (str_neF rfl)) rfl
     intro p260 a260 w260 b260 G260 y260
     obtain ⟨-, -, -, -, -, -, -, -, -, -, -, -, -, -, q14, -⟩ := y260
     have r14 : p260 14 = .bool false := q14 (by decide)
     simp only [List.take, layV, Nat.zero_add, Nat.reduceAdd, r14] at G260
     have M260 := M254.kc b260
     clear F256 M254 r14 q14
     refine hK258 _ _ ?_
     refine wp_cond_false (G260.get (t := 121) rfl) ?_
     refine wp_skip ?_
     refine hK257 _ _ ?_
     refine zR ?_
     refine rm rfl G260 fun _ F261 => ?_
     refine zc (w' := w260) (zb rfl) rfl F261 rfl (.int .i64 ((jv + 1 : Nat) : Int)) (zqa _ _ _ _ rfl (F261.get (t := 122) rfl) rfl (by omega) (by omega)) fun _ F262 => ?_
     clear F261
     refine rm rfl F262 fun _ F263 => ?_
     refine hK239 _ _ ?_
     refine zR ?_
     refine rm rfl F263 fun _ F264 => ?_
     refine zc (w' := w260) (zb rfl) rfl F264 rfl (.int .i64 ((kn + 1 : Nat) : Int)) (zqa _ _ _ _ rfl (F264.get (t := 79) rfl) rfl (by omega) (by omega)) fun _ F265 => ?_
     clear F264
     refine rm rfl F265 fun _ F266 => ?_
     subst ek232
     exact hK232 _ ⟨(kn + 1), (jv + 1)⟩ _ _ (by omega) ⟨rfl, ⟨by omega, by dsimp only; rw [(all_fl hh hknl).2.2.2, if_pos hq237, hjv]⟩⟩ (F266.sub ⟨rfl, rfl, rfl, rfl, rfl, rfl, trivial⟩) (M260.sub ⟨rfl, rfl, rfl, rfl, rfl, rfl, rfl, rfl, trivial⟩)
    ·have hbf : hh kn = false := by simpa using hq237
     refine zc (w' := w232) (zb rfl) rfl F235 rfl (.bool true) (zgb _ _ _ _ rfl (F235.get (t := 77) rfl) rfl (decide_eq_true h236)) fun _ F267 => ?_
     clear F235
     refine hK234 _ _ ?_
     refine wp_cond_true (F267.get (t := 78) rfl) ?_
     refine wp_skip ?_
     refine hK233 _ _ ?_
     refine zS fun _ hK268 => ?_
     refine wp_block ?_
     refine zS fun _ hK269 => ?_
     refine zR ?_
     refine rm rfl F267 fun _ F270 => ?_
     refine zg (zb rfl) rfl F270 rfl rfl (zE Tryz.func34 rfl) #[] (args0) (names6_ex w232) ?_
     rintro _ w271 a271 ⟨gq271, rfl, hg271, hc271, b271⟩ F271
     have M271 := M232.newb b271 8 hg271 hc271
     clear M232 b271 hg271 hc271
     refine rm rfl F271 fun _ F272 => ?_
     refine zc (w' := w271) (zb rfl) rfl F272 rfl (.pointer (some ⟨gq271, kn, none⟩)) (y_ixG 45 (s := 1) Tryz.underlying45 (by kernel_rfl) _ _ rfl (F272.get (t := 83) rfl) (F272.get (t := 84) rfl) rfl (by omega) (by omega)) fun _ F273 => ?_
     clear F272
     refine zc (w' := w271) (zb rfl) rfl F273 rfl (.string (nmK kn)) (zba _ _ rfl (F273.get (t := 85) rfl) (M271.blk (k := 8) rfl) (nmA_at (show kn < 10 by omega)) Tryz.underlying9 rfl) fun _ F274 => ?_
     clear F273
     refine zg (zb rfl) rfl F274 rfl rfl (zE Tryz.func24 rfl) #[.pointer (some ⟨g33, 0, none⟩), .string (nmK kn)] (zha (F274.get (t := 82) rfl) (F274.get (t := 86) rfl)) (zda ((get_not g33 Vv sv nv hI (nmK kn) ((hR.get hA hknl).2 hbf) w271 (M271.hasV (kg := 2) (kr := 3) rfl rfl (by decide))))) ?_
     rintro _ w275 a275 ⟨rfl, b275⟩ F275
     have M275 := M271.step b275
     refine rm rfl F275 fun _ F276 => ?_
     refine zA 2 [(88, .agg (recA ⟨0, "".toUTF8, [], 0, 0, [], 0, 0, 0⟩ ⟨zN, zN⟩)), (89, .bool false)] [] dnil [] F276 fun _ F277 => ?_
     clear F276
     refine zh (zb rfl) rfl F277 rfl M275 9 (t := 37) (c := recA ⟨0, "".toUTF8, [], 0, 0, [], 0, 0, 0⟩ ⟨zN, zN⟩) (by unfold execOp; kernel_rfl) ?_
     intro g278 a278 w278 F278 M278
     clear F277 M275
     refine zm (zb rfl) rfl F278 M278 (k := 9) rfl _ _ _ rfl (F278.get (t := 15) rfl) (F278.get (t := 88) rfl) (recA ⟨0, "".toUTF8, [], 0, 0, [], 0, 0, 0⟩ ⟨zN, zN⟩) _ rfl (zL rfl) (zta (w := w278) ⟨(zla _), (zla _)⟩) (zn rfl) (by kernel_rfl) ?_
     intro w279 M279
     clear M278
     refine rm rfl F278 fun _ F280 => ?_
     refine hK269 _ _ ?_
     refine zS fun _ hK281 => ?_
     refine zS fun _ hK282 => ?_
     refine z3b F280 (SK [.inl (.bool false), .inl (.int .i64 (kn : Int)), .inl (.pointer (some ⟨g42, kn, none⟩)), .inl (.bool false), .inl (.bool false), .inl (.bool false), .inl (.bool false), .inl (.bool false), .inl (undef), .inl (undef), .inl (undef), .inl (undef), .inl (undef), .inl (undef), .inl (.bool false), .inl (.bool false)]) 16 rfl (by kernel_rfl) ⟨hop0 F280 (by kernel_rfl), hop0 F280 (by kernel_rfl), ?_, ?_, ?_, hop0 F280 (by kernel_rfl), hop0 F280 (by kernel_rfl), hop0 F280 (by kernel_rfl), hop0 F280 (by kernel_rfl), hop0 F280 (by kernel_rfl), hop0 F280 (by kernel_rfl), hop0 F280 (by kernel_rfl), hop0 F280 (by kernel_rfl), hop0 F280 (by kernel_rfl), hop0 F280 (by kernel_rfl), hop0 F280 (by kernel_rfl), trivial⟩ ?_
     ·intro ua uw hb hd
      have e7 : ua.eval (.tmp 7) = .pointer (some ⟨g42, 0, none⟩) := (show ua.eval (.tmp 7) = _ from hd 7 (by decide)).trans (F280.get (t := 7) rfl)
      have e91 : ua.eval (.tmp 91) = .int .i64 (kn : Int) := hd 91 (by decide)
      exact zr (F := (StK.eq (.pointer (some ⟨g42, kn, none⟩))).F) (zb rfl) (.pointer (some ⟨g42, kn, none⟩)) (y_ixA (N := 8) _ _ 59 (by kernel_rfl) (by kernel_rfl) (by kernel_rfl) rfl e7 e91 rfl hknl (Nat.zero_add _)) rfl
     ·intro ua uw hb hd
      have e92 : ua.eval (.tmp 92) = .pointer (some ⟨g42, kn, none⟩) := hd 92 (by decide)
      exact zr (F := (StK.eq (.bool false)).F) (zb rfl) (.bool false) (zba _ _ rfl e92 ((M279.step hb).blk (k := 5) rfl) (by rw [has_get _ hknl, hbf]) Tryz.underlying4 rfl) rfl
     ·intro ua uw hb hd
      have e90 : ua.eval (.tmp 90) = .bool false := hd 90 (by decide)
      have e93 : ua.eval (.tmp 93) = .bool false := hd 93 (by decide)
      exact zr (F := (StK.eq (.bool false)).F) (zb rfl) (.bool false) (y_neB _ _ rfl e90 e93 rfl) rfl
     intro p284 a284 w284 b284 G284 y284
     obtain ⟨-, -, -, -, -, -, -, -, -, -, -, -, -, -, -, q15, -⟩ := y284
     have r15 : p284 15 = .bool false := q15 (by decide)
     simp only [List.take, layV, Nat.zero_add, Nat.reduceAdd, r15] at G284
     have M284 := M279.kc b284
     clear F280 M279 r15 q15
     refine hK282 _ _ ?_
     refine wp_cond_false (G284.get (t := 105) rfl) ?_
     refine wp_skip ?_
     refine hK281 _ _ ?_
     refine zS fun _ hK285 => ?_
     refine zR ?_
     refine rm rfl G284 fun _ F286 => ?_
     refine hK285 _ _ ?_
     refine wp_cond_false (F286.get (t := 106) rfl) ?_
     refine wp_skip ?_
     refine hK268 _ _ ?_
     refine zR ?_
     refine rm rfl F286 fun _ F287 => ?_
     refine zc (w' := w284) (zb rfl) rfl F287 rfl (.int .i64 ((kn + 1 : Nat) : Int)) (zqa _ _ _ _ rfl (F287.get (t := 79) rfl) rfl (by omega) (by omega)) fun _ F288 => ?_
     clear F287
     refine rm rfl F288 fun _ F289 => ?_
     subst ek232
     exact hK232 _ ⟨(kn + 1), jv⟩ _ _ (by omega) ⟨rfl, ⟨by omega, by dsimp only; rw [(all_fl hh hknl).2.2.2, if_neg (by rw [hbf]; exact Bool.false_ne_true)]; exact hjv⟩⟩ (F289.sub ⟨rfl, rfl, rfl, rfl, rfl, rfl, trivial⟩) (M284.sub ⟨rfl, rfl, rfl, rfl, rfl, rfl, rfl, rfl, trivial⟩)
   ·have hk8 : kn = 8 := by omega
    rw [hk8] at hjv
    refine zc (w' := w232) (zb rfl) rfl F235 rfl (.bool false) (zgb _ _ _ _ rfl (F235.get (t := 77) rfl) rfl (decide_eq_false h236)) fun _ F290 => ?_
    clear F235
    refine hK234 _ _ ?_
    refine wp_cond_false (F290.get (t := 78) rfl) ?_
    refine wp_exit ?_
    simp only [Exit.then, Exit.inBlock, ↓reduceIte, Nat.reduceEqDiff]
    refine hK229 _ _ ?_
    refine zS fun _ hK291 => ?_
    refine zR ?_
    refine rm rfl F290 fun _ F292 => ?_
    refine rm rfl F292 fun _ F293 => ?_
    refine zc (w' := w232) (zb rfl) rfl F293 rfl (.int .i64 ((flF hh).length : Int)) (y_lnG 45 Tryz.underlying45 _ rfl (F293.get (t := 125) rfl) (by rw [List.length_map])) fun _ F294 => ?_
    clear F293
    refine zc (w' := w232) (zb rfl) rfl F294 rfl (.bool true) (zsb _ _ _ _ rfl (F294.get (t := 124) rfl) (F294.get (t := 126) rfl) Tryz.underlying3 (y_beqT (show (jv : Int) = ((flF hh).length : Int) by rw [hjv]; rfl))) fun _ F295 => ?_
    clear F294
    refine rm rfl F295 fun _ F296 => ?_
    refine hK291 _ _ ?_
    refine wp_ret ?_
    try simp only [Exit.then, Exit.inBlock, Exit.jump]
    exact bodyPost_ret (res1 rfl (F296.get rfl)) F296.defers ⟨rfl, M232.below⟩
end Go.Proofs.YtmjbnmbobocpdaaGreat
