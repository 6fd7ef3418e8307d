/- What VaultTorn stands on, part 13. -/
import Derived.Deep.CutRange
import Derived.Test.YtmjbnmbobocpdaaGreatVaultTornP1
import Derived.Test.YtmjbnmbobocpdaaGreatVaultTornP2
import Derived.Test.YtmjbnmbobocpdaaGreatVaultTornP3
import Derived.Test.YtmjbnmbobocpdaaGreatVaultTornP4
import Derived.Test.YtmjbnmbobocpdaaGreatVaultTornP5
import Derived.Test.YtmjbnmbobocpdaaGreatVaultTornP6
import Derived.Test.YtmjbnmbobocpdaaGreatVaultTornP7
import Derived.Test.YtmjbnmbobocpdaaGreatVaultTornP8
import Derived.Test.YtmjbnmbobocpdaaGreatVaultTornP9
import Derived.Test.YtmjbnmbobocpdaaGreatVaultTornP10
import Derived.Test.YtmjbnmbobocpdaaGreatVaultTornP11
import Derived.Test.YtmjbnmbobocpdaaGreatVaultTornP12
set_option maxRecDepth 100000
set_option maxHeartbeats 8000000
set_option linter.unusedVariables false
set_option linter.unusedSimpArgs false
namespace Go.Proofs.YtmjbnmbobocpdaaGreat
open Go.ChangeShapes Go.WideShapes Go.ChangeAt Go.RowKit
theorem VaultTorn_walk (a0 : Int) (hk0 : -9223372036854775808 ≤ a0) (hl0 : a0 < 9223372036854775808)
  (a1 : Int) (hk1 : -9223372036854775808 ≤ a1) (hl1 : a1 < 9223372036854775808)
  (A2 : Option Addr) (n2 cap2 : Nat) (l2 : List UInt8) (hn2 : l2.length = n2) (hc2 : n2 ≤ cap2) (hm2 : cap2 ≤ maxLen) (hz2 : A2 = none → cap2 = 0)
  (a3 : Int) (hk3 : -9223372036854775808 ≤ a3) (hl3 : a3 < 9223372036854775808) (w : World) (hr2 : Rd w A2 l2) :
  Calls Tryz.prog 11 #[.int .i64 a0, .int .i64 a1, .slice A2 n2 cap2, .int .i64 a3] w fun e w' => e = .returned (.bool true) ∧ Below w.heap.size w w' := by
 have ib2 : IsB w l2 (.slice A2 n2 cap2) := hr2.isB' hn2 hc2 hm2 hz2
 by_cases b0 : 60 < l2.length
 ·refine zi (args := [.int .i64 a0, .int .i64 a1, .slice A2 n2 cap2, .int .i64 a3]) 161 Tryz.func11 rfl rfl rfl ?_
  intro fa F
  have M := Mx.start w
  replace M := M.argB 0 ib2 (fun g e => by cases e)
  refine zS fun _ hK21 => ?_
  refine zR ?_
  refine rm rfl F fun _ F22 => ?_
  refine hK21 _ _ ?_
  refine zS fun _ hK23 => ?_
  refine zS fun _ hK24 => ?_
  refine zR ?_
  refine zg (zb rfl) rfl F22 rfl rfl (zE Tryz.func13 rfl) #[] (args0) (zba (known6_any w)) ?_
  rintro _ w25 a25 ⟨rfl, b25⟩ F25
  have M25 := M.step b25
  refine zc (w' := w25) (zb rfl) rfl F25 rfl (.bool false) (zvb _ _ rfl (F25.get (t := 21) rfl)) fun _ F26 => ?_
  clear F25
  refine hK24 _ _ ?_
  refine wp_cond_false (F26.get (t := 22) rfl) ?_
  refine wp_skip ?_
  refine hK23 _ _ ?_
  refine zS fun _ hK27 => ?_
  refine zS fun _ hK28 => ?_
  refine zR ?_
  refine rm rfl F26 fun _ F29 => ?_
  refine zc (w' := w25) (zb rfl) rfl F29 rfl (.int .i64 (l2.length : Int)) (z9a _ rfl (F29.get (t := 23) rfl) (M25.isb (k := 0) rfl) rfl) fun _ F30 => ?_
  clear F29
  refine zc (w' := w25) (zb rfl) rfl F30 rfl (.bool true) (y_gtr _ _ _ _ rfl (F30.get (t := 24) rfl) rfl (decide_eq_true (show (60 : Int) < (l2.length : Int) by omega))) fun _ F31 => ?_
  clear F30
  refine hK28 _ _ ?_
  refine wp_cond_true (F31.get (t := 25) rfl) ?_
  refine zS fun _ hK32 => ?_
  refine zR ?_
  refine rm rfl F31 fun a33 F33 => ?_
  refine hK32 _ _ ?_
  refine wp_ret ?_
  try simp only [Exit.then, Exit.inBlock, Exit.jump]
  exact bodyPost_ret (res1 rfl (F33.get rfl)) F33.defers ⟨rfl, M25.below⟩
 ·obtain ⟨hE1, hI1, hf1, hd1⟩ := new_is
  have hA1 := acc_new
  obtain ⟨V1, hV1⟩ : ∃ x, ageW zeroV = x := ⟨_, rfl⟩
  rw [hV1] at hE1 hI1 hf1 hd1 hA1
  obtain ⟨nn, hnn, hnnl⟩ : ∃ k : Nat, a0 % 1073741824 = (k : Int) ∧ k < 1073741824 := in6 _ (by decide)
  obtain ⟨mm, hmm, hmml⟩ : ∃ k : Nat, a1 % 1073741824 = (k : Int) ∧ k < 1073741824 := in6 _ (by decide)
  obtain ⟨r, hr⟩ : ∃ r, recK (nn : Int) l2 (((nn : Int).tdiv 23) % 10).toNat = r := ⟨_, rfl⟩
  obtain ⟨t, ht⟩ : ∃ r, recK (mm : Int) l2 (((mm : Int).tdiv 23) % 10).toNat = r := ⟨_, rfl⟩
  obtain ⟨ro, rp⟩ := rec6_ok _ _ hr
  obtain ⟨tro, trp⟩ := rec6_ok _ _ ht
  have hrn : NameOk r.s := by rw [← hr]; exact nmK_ok (by omega)
  obtain ⟨uo, up⟩ := setS_ok tro trp hrn
  have hun : (setS t r.s).s = r.s := rfl
  obtain ⟨V2, hV2⟩ : ∃ x, (putV V1 r).1 = x := ⟨_, rfl⟩
  obtain ⟨z2, hz2⟩ : ∃ x, (putV V1 r).2 = x := ⟨_, rfl⟩
  obtain ⟨hI2, hE2⟩ := put_keep hI1 (by decide) hE1 r
  obtain ⟨V3, hV3⟩ : ∃ x, failV V2 1 = x := ⟨_, rfl⟩
  rw [hV2] at hI2 hE2
  obtain ⟨hI3, hE3⟩ := fail_keep 1 hI2 hE2
  rw [hV3] at hI3 hE3
  obtain ⟨hI4, hE4⟩ := put_keep hI3 (by decide) hE3 (setS t r.s)
  obtain ⟨V4, hV4⟩ : ∃ x, (putV V3 (setS t r.s)).1 = x := ⟨_, rfl⟩
  rw [hV4] at hI4 hE4
  obtain ⟨N, hz4, h4f, h4n, h4s, hN0, hNl, h4o, h5⟩ := torn_facts hV1 hV2 hV3 hV4 ro rp uo up hun
  obtain ⟨kc, hkc, hkcl⟩ := in6 a3 (Nat.succ_pos N.length)
  have hkc1 : kc ≤ N.length := by omega
  obtain ⟨V5, hV5⟩ : ∃ x, ageW (setlV V4 (fun _ => (kc : Int)) 1) = x := ⟨_, rfl⟩
  obtain ⟨hE5, hI5, -, -⟩ := again_is hI4 (by decide) hE4 (by decide) (by decide) (fun _ => (kc : Int)) 1
  rw [hV5] at hE5 hI5
  obtain ⟨h5s, h5f, h5A, h5B⟩ := h5 kc hkc1 V5 hV5
  refine zi (args := [.int .i64 a0, .int .i64 a1, .slice A2 n2 cap2, .int .i64 a3]) 161 Tryz.func11 rfl rfl rfl ?_
  intro fa F
  have M := Mx.start w
  replace M := M.argB 0 ib2 (fun g e => by cases e)
  refine zS fun _ hK21 => ?_
  refine zR ?_
  refine rm rfl F fun _ F22 => ?_
  refine hK21 _ _ ?_
  refine zS fun _ hK23 => ?_
  refine zS fun _ hK24 => ?_
  refine zR ?_
  refine zg (zb rfl) rfl F22 rfl rfl (zE Tryz.func13 rfl) #[] (args0) (zba (known6_any w)) ?_
  rintro _ w25 a25 ⟨rfl, b25⟩ F25
  have M25 := M.step b25
  refine zc (w' := w25) (zb rfl) rfl F25 rfl (.bool false) (zvb _ _ rfl (F25.get (t := 21) rfl)) fun _ F26 => ?_
  clear F25
  refine hK24 _ _ ?_
  refine wp_cond_false (F26.get (t := 22) rfl) ?_
  refine wp_skip ?_
  refine hK23 _ _ ?_
  refine zS fun _ hK27 => ?_
  refine zS fun _ hK28 => ?_
  refine zR ?_
  refine rm rfl F26 fun _ F29 => ?_
  refine zc (w' := w25) (zb rfl) rfl F29 rfl (.int .i64 (l2.length : Int)) (z9a _ rfl (F29.get (t := 23) rfl) (M25.isb (k := 0) rfl) rfl) fun _ F30 => ?_
  clear F29
  refine zc (w' := w25) (zb rfl) rfl F30 rfl (.bool false) (y_gtr _ _ _ _ rfl (F30.get (t := 24) rfl) rfl (decide_eq_false (show ¬ (60 : Int) < (l2.length : Int) by omega))) fun _ F31 => ?_
  clear F30
  refine hK28 _ _ ?_
  refine wp_cond_false (F31.get (t := 25) rfl) ?_
  refine wp_skip ?_
  refine hK27 _ _ ?_
  refine zS fun _ hK32 => ?_
  refine zR ?_
  refine zg (zb rfl) rfl F31 rfl rfl (zE Tryz.func14 rfl) #[] (args0) (vnew_is V1 hV1 w25) ?_
  rintro _ w33 a33 ⟨g33, rfl, hg33, s33, n33, hr33, ht33, hc33, b33⟩ F33
  have M33 := M25.newVault b33 1 2 hg33 hc33 hr33 ht33
  clear M25 b33 hg33 hc33 hr33 ht33
  refine rm rfl F33 fun _ F34 => ?_
  refine hK32 _ _ ?_
  refine zS fun _ hK35 => ?_
  refine zS fun _ hK36 => ?_
  refine zR ?_
  refine rm rfl F34 fun _ F37 => ?_
  refine zc (w' := w33) (zb rfl) rfl F37 rfl (.bool false) (y_eqPN 25 _ Tryz.underlying25 (by kernel_rfl) _ rfl (F37.get (t := 27) rfl)) fun _ F38 => ?_
  clear F37
  refine hK36 _ _ ?_
  refine wp_cond_false (F38.get (t := 28) rfl) ?_
  refine wp_skip ?_
  refine hK35 _ _ ?_
  refine zS fun _ hK39 => ?_
  refine zR ?_
  refine rm rfl F38 fun _ F40 => ?_
  refine zg (zb rfl) rfl F40 rfl rfl (zE Tryz.func17 rfl) #[.int .i64 a0, .int .i64 1073741824] (zda (F40.get (t := 29) rfl) rfl) (zba ((hnn ▸ within6_any a0 1073741824 (by decide) (by decide) hk0 hl0 w33))) ?_
  rintro _ w41 a41 ⟨rfl, rfl⟩ F41
  refine rm rfl F41 fun _ F42 => ?_
  refine zg (zb rfl) rfl F42 rfl rfl (zE Tryz.func21 rfl) #[.int .i64 (nn : Int), .slice A2 n2 cap2] (zda (F42.get (t := 30) rfl) (F42.get (t := 31) rfl)) (rec6_is (nn : Int) l2 (.slice A2 n2 cap2) ⟨by omega, by omega⟩ (by omega) r hr w33 (M33.isb (k := 0) rfl)) ?_
  rintro _ w43 a43 ⟨U43, rfl, is43, lo43, b43⟩ F43
  have M43 := M33.newRec b43 is43 lo43 3 4
  clear M33 b43 lo43
  refine rm rfl F43 fun _ F44 => ?_
  refine zg (zb rfl) rfl F44 rfl rfl (zE Tryz.func17 rfl) #[.int .i64 a1, .int .i64 1073741824] (zda (F44.get (t := 33) rfl) rfl) (zba ((hmm ▸ within6_any a1 1073741824 (by decide) (by decide) hk1 hl1 w43))) ?_
  rintro _ w45 a45 ⟨rfl, rfl⟩ F45
  refine rm rfl F45 fun _ F46 => ?_
  refine zg (zb rfl) rfl F46 rfl rfl (zE Tryz.func21 rfl) #[.int .i64 (mm : Int), .slice A2 n2 cap2] (zda (F46.get (t := 34) rfl) (F46.get (t := 35) rfl)) (rec6_is (mm : Int) l2 (.slice A2 n2 cap2) ⟨by omega, by omega⟩ (by omega) t ht w43 (M43.isb (k := 0) rfl)) ?_
  rintro _ w47 a47 ⟨U47, rfl, is47, lo47, b47⟩ F47
  have M47 := M43.newRec b47 is47 lo47 5 6
  clear M43 b47 lo47
  refine zh (zb rfl) rfl F47 rfl M47 7 (t := 37) (c := recA ⟨0, "".toUTF8, [], 0, 0, [], 0, 0, 0⟩ ⟨zN, zN⟩) (by unfold execOp; kernel_rfl) ?_
  intro g48 a48 w48 F48 M48
  clear F47 M47
  refine zh (zb rfl) rfl F48 rfl M48 8 (t := 37) (c := recA ⟨0, "".toUTF8, [], 0, 0, [], 0, 0, 0⟩ ⟨zN, zN⟩) (by unfold execOp; kernel_rfl) ?_
  intro g49 a49 w49 F49 M49
  clear F48 M48
  refine zn (zb rfl) rfl F49 M49 (k := 7) rfl _ _ _ rfl (F49.get (t := 10) rfl) (F49.get (t := 32) rfl) (recA r U43) _ rfl (zL rfl) (zva (w := w49) ⟨(M49.isb (k := 3) rfl), (M49.isb (k := 4) rfl)⟩) (zo rfl) (by kernel_rfl) ?_
  intro w50 M50
  clear M49
  refine zn (zb rfl) rfl F49 M50 (k := 8) rfl _ _ _ rfl (F49.get (t := 11) rfl) (F49.get (t := 36) rfl) (recA t U47) _ rfl (zL rfl) (zva (w := w50) ⟨(M50.isb (k := 5) rfl), (M50.isb (k := 6) rfl)⟩) (zo rfl) (by kernel_rfl) ?_
  intro w51 M51
  clear M50
  refine hK39 _ _ ?_
  refine zS fun _ hK52 => ?_
  refine zR ?_
  refine zA 3 [(37, .pointer (some ⟨g48, 1, none⟩)), (38, .string r.s), (39, .pointer (some ⟨g49, 1, none⟩))] [0] (zr (M51.blk (k := 7) rfl) dnil) [g48] F49 fun _ F53 => ?_
  clear F49
  refine zn (zb rfl) rfl F53 M51 (k := 8) rfl _ _ _ rfl (F53.get (t := 39) rfl) (F53.get (t := 38) rfl) (#[.string r.s]) (recA ⟨t.p, r.s, t.l2, t.a, t.b, t.l5, t.t, t.c, t.z⟩ ⟨U47.v2, U47.v5⟩) rfl (zL rfl) (one_str _) (by kernel_rfl) (by kernel_rfl) ?_
  intro w54 M54
  clear M51
  refine hK52 _ _ ?_
  refine zS fun _ hK55 => ?_
  refine zR ?_
  refine rm rfl F53 fun _ F56 => ?_
  refine zc (w' := w54) (zb rfl) rfl F56 rfl _ (zoa _ _ rfl (F56.get (t := 10) rfl) (M54.blk (k := 7) rfl) (recA r U43) (zqa rfl) Tryz.underlying37 rfl (by kernel_rfl)) fun _ F57 => ?_
  clear F56
  refine zg (zb rfl) rfl F57 rfl rfl (zE Tryz.func22 rfl) #[.pointer (some ⟨g33, 0, none⟩), .agg (recA r U43)] (zda (F57.get (t := 40) rfl) (F57.get (t := 41) rfl)) (put_is g33 V1 s33 n33 r (⟨U43.v2, U43.v5⟩) ro hI1 (by decide) V2 z2 hV2 hz2 w54 ⟨(M54.isb (k := 3) rfl), (M54.isb (k := 4) rfl)⟩ ⟨(fun h => M54.dis 1 3 _ _ rfl rfl (by decide) rfl _ rfl h), (fun h => M54.dis 1 4 _ _ rfl rfl (by decide) rfl _ rfl h)⟩ (M54.rowsV (i := 2) (k := 1) rfl rfl (by decide)) (M54.blk (k := 1) rfl)) ?_
  rintro _ w58 a58 ⟨rfl, s58, n58, hr58, ht58, hc58, hg58⟩ F58
  have M58 := M54.vault (kg := 1) (kr := 2) rfl rfl hg58 hc58 hr58 ht58
  clear M54 hg58 hc58 hr58 ht58
  refine hK55 _ _ ?_
  refine zS fun _ hK59 => ?_
  refine zR ?_
  refine rm rfl F58 fun _ F60 => ?_
  refine zg (zb rfl) rfl F60 rfl rfl (zE Tryz.func19 rfl) #[.pointer (some ⟨g33, 0, none⟩), .int .i64 1] (zda (F60.get (t := 43) rfl) rfl) (fail_is g33 V2 s58 n58 1 V3 hV3 w58  (M58.rowsV (i := 2) (k := 1) rfl rfl (by decide)) (M58.blk (k := 1) rfl)) ?_
  rintro _ w61 a61 ⟨s61, n61, hr61, ht61, hc61, hg61⟩ F61
  have M61 := M58.vault (kg := 1) (kr := 2) rfl rfl hg61 hc61 hr61 ht61
  clear M58 hg61 hc61 hr61 ht61
  refine hK59 _ _ ?_
  refine zS fun _ hK62 => ?_
  refine zR ?_
  refine rm rfl F61 fun _ F63 => ?_
  refine zc (w' := w61) (zb rfl) rfl F63 rfl _ (zoa _ _ rfl (F63.get (t := 11) rfl) (M61.blk (k := 8) rfl) (recA ⟨t.p, r.s, t.l2, t.a, t.b, t.l5, t.t, t.c, t.z⟩ ⟨U47.v2, U47.v5⟩) (zqa rfl) Tryz.underlying37 rfl (by kernel_rfl)) fun _ F64 => ?_
  clear F63
  refine zg (zb rfl) rfl F64 rfl rfl (zE Tryz.func22 rfl) #[.pointer (some ⟨g33, 0, none⟩), .agg (recA ⟨t.p, r.s, t.l2, t.a, t.b, t.l5, t.t, t.c, t.z⟩ ⟨U47.v2, U47.v5⟩)] (zda (F64.get (t := 45) rfl) (F64.get (t := 46) rfl)) (put_is g33 V3 s61 n61 (setS t r.s) (⟨U47.v2, U47.v5⟩) uo hI3 (by decide) V4 10 hV4 hz4 w61 ⟨(M61.isb (k := 5) rfl), (M61.isb (k := 6) rfl)⟩ ⟨(fun h => M61.dis 1 5 _ _ rfl rfl (by decide) rfl _ rfl h), (fun h => M61.dis 1 6 _ _ rfl rfl (by decide) rfl _ rfl h)⟩ (M61.rowsV (i := 2) (k := 1) rfl rfl (by decide)) (M61.blk (k := 1) rfl)) ?_
  rintro _ w65 a65 ⟨rfl, s65, n65, hr65, ht65, hc65, hg65⟩ F65
  have M65 := M61.vault (kg := 1) (kr := 2) rfl rfl hg65 hc65 hr65 ht65
  clear M61 hg65 hc65 hr65 ht65
  refine rm rfl F65 fun _ F66 => ?_
  refine hK62 _ _ ?_
  refine zS fun _ hK67 => ?_
  refine zR ?_
  refine rm rfl F66 fun _ F68 => ?_
  refine zg (zb rfl) rfl F68 rfl rfl (zE Tryz.func28 rfl) #[.pointer (some ⟨g33, 0, none⟩)] (zx (F68.get (t := 48) rfl)) (cells_is g33 V4 s65 n65 hI4 w65 (M65.hasV (kg := 1) (kr := 2) rfl rfl (by decide))) ?_
  rintro _ w69 a69 ⟨gq69, s69, n69, rfl, ce69, b69⟩ F69
  have M69 := M65.newCells b69 9 10 ce69
  clear M65 ce69 b69
  refine rm rfl F69 fun _ F70 => ?_
  refine hK67 _ _ ?_
  refine zS fun _ hK71 => ?_
  refine zR ?_
  refine rm rfl F70 fun _ F72 => ?_
  refine hK71 _ _ ?_
  refine zS fun _ hK73 => ?_
  refine zS fun _ hK74 => ?_
  refine zR ?_
  refine rm rfl F72 fun _ F75 => ?_
  refine hK74 _ _ ?_
  refine wp_block ?_
  refine z4b (α := Nat × Int) (n := 161) (G := none) (w0 := w) (fun x => [(3, .int .i64 a3), (9, .pointer (some ⟨g33, 0, none⟩)), (10, .pointer (some ⟨g48, 0, none⟩)), (11, .pointer (some ⟨g49, 0, none⟩)), (12, .int .i64 10), (13, .slice (some ⟨gq69, 0, none⟩) 18 18), (15, .int .i64 (x.1 : Int)), (14, .int .i64 x.2)]) (fun x => [(0, bytR l2 (.slice A2 n2 cap2)), (1, blkR g33 80 (vltA V4 s65 n65)), (2, zbb 0 18 V4.c s65 n65), (3, bytR r.l2 U43.v2), (4, bytR r.l5 U43.v5), (5, bytR t.l2 U47.v2), (6, bytR t.l5 U47.v5), (7, blkR g48 37 (recA r U43)), (8, blkR g49 37 (recA ⟨t.p, r.s, t.l2, t.a, t.b, t.l5, t.t, t.c, t.z⟩ ⟨U47.v2, U47.v5⟩)), (9, blkO gq69 63 (celA V4.c s69 n69)), (10, zbb 0 18 V4.c s69 n69)]) (fun k x => k = (18 - x.1) ∧ (x.1 ≤ 18 ∧ x.2 = if 1 < x.1 then 1 else -1)) _ ⟨0, (-1)⟩ ⟨rfl, ⟨Nat.zero_le _, rfl⟩⟩ (F75.sub ⟨rfl, rfl, rfl, rfl, rfl, rfl, rfl, rfl, trivial⟩) (M69.sub ⟨rfl, rfl, rfl, rfl, rfl, rfl, rfl, rfl, rfl, rfl, rfl, trivial⟩) ?_
  clear F75 M69
  rintro k76 ⟨jn, av⟩ a76 w76 K76 ⟨ek76, I76⟩ F76 M76 hK76
  replace F76 : Fx 161 a76 [(3, .int .i64 a3), (9, .pointer (some ⟨g33, 0, none⟩)), (10, .pointer (some ⟨g48, 0, none⟩)), (11, .pointer (some ⟨g49, 0, none⟩)), (12, .int .i64 10), (13, .slice (some ⟨gq69, 0, none⟩) 18 18), (15, .int .i64 (jn : Int)), (14, .int .i64 av)] := F76
  replace M76 : Mx _ _ w76 [(0, bytR l2 (.slice A2 n2 cap2)), (1, blkR g33 80 (vltA V4 s65 n65)), (2, zbb 0 18 V4.c s65 n65), (3, bytR r.l2 U43.v2), (4, bytR r.l5 U43.v5), (5, bytR t.l2 U47.v2), (6, bytR t.l5 U47.v5), (7, blkR g48 37 (recA r U43)), (8, blkR g49 37 (recA ⟨t.p, r.s, t.l2, t.a, t.b, t.l5, t.t, t.c, t.z⟩ ⟨U47.v2, U47.v5⟩)), (9, blkO gq69 63 (celA V4.c s69 n69)), (10, zbb 0 18 V4.c s69 n69)] := M76
  replace I76 : jn ≤ 18 ∧ av = if 1 < jn then 1 else -1 := I76
  replace ek76 : k76 = (18 - jn) := ek76
  obtain ⟨hj, hav⟩ := I76
  by_cases hj1 : jn = 1
  ·refine zS fun _ hK77 => ?_
   refine zS fun _ hK78 => ?_
   refine zR ?_
   refine rm rfl F76 fun _ F79 => ?_
   refine rm rfl F79 fun _ F80 => ?_
   refine zc (w' := w76) (zb rfl) rfl F80 rfl (.int .i64 18) (y_lnG 49 Tryz.underlying49 _ rfl (F80.get (t := 51) rfl) rfl) fun _ F81 => ?_
   clear F80
   by_cases h82 : (jn : Int) < 18
   ·refine zc (w' := w76) (zb rfl) rfl F81 rfl (.bool true) (zlb _ _ _ _ rfl (F81.get (t := 50) rfl) (F81.get (t := 52) rfl) (decide_eq_true h82)) fun _ F83 => ?_
    clear F81
    refine hK78 _ _ ?_
    refine wp_cond_true (F83.get (t := 53) rfl) ?_
    refine wp_skip ?_
    refine hK77 _ _ ?_
    refine zS fun _ hK84 => ?_
    refine wp_block ?_
    refine zS fun _ hK85 => ?_
    refine zR ?_
    refine rm rfl F83 fun _ F86 => ?_
    refine rm rfl F86 fun _ F87 => ?_
    refine zc (w' := w76) (zb rfl) rfl F87 rfl (.pointer (some ⟨gq69, (3 * jn), none⟩)) (y_ixG 49 (s := 3) Tryz.underlying49 (by kernel_rfl) _ _ rfl (F87.get (t := 56) rfl) (F87.get (t := 57) rfl) rfl (show jn < 18 by omega) (by omega)) fun _ F88 => ?_
    clear F87
    refine zc (w' := w76) (zb rfl) rfl F88 rfl (.pointer (some ⟨gq69, (3 * jn + 2), none⟩)) (y_fa (off := 2) rfl (F88.get (t := 58) rfl) (by kernel_rfl) rfl) fun _ F89 => ?_
    clear F88
    refine zc (w' := w76) (zb rfl) rfl F89 rfl (.bool true) (zaa _ _ rfl (F89.get (t := 59) rfl) (M76.roB (k := 9) rfl) (by rw [cel_f _ _ _ (show jn < 18 by omega), show (V4.c jn).f = true from by rw [hj1]; exact h4f]) Tryz.underlying4 rfl) fun _ F90 => ?_
    clear F89
    refine hK85 _ _ ?_
    refine wp_cond_true (F90.get (t := 60) rfl) ?_
    refine zR ?_
    refine rm rfl F90 fun _ F91 => ?_
    refine rm rfl F91 fun _ F92 => ?_
    refine hK84 _ _ ?_
    refine zR ?_
    refine rm rfl F92 fun _ F93 => ?_
    refine zc (w' := w76) (zb rfl) rfl F93 rfl (.int .i64 ((jn + 1 : Nat) : Int)) (zya _ _ _ _ rfl (F93.get (t := 54) rfl) rfl (by omega) (by omega)) fun _ F94 => ?_
    clear F93
    refine rm rfl F94 fun _ F95 => ?_
    subst ek76
    exact hK76 _ ⟨(jn + 1), (jn : Int)⟩ _ _ (by omega) ⟨rfl, ⟨by omega, by dsimp only; rw [hj1]; rfl⟩⟩ (F95.sub ⟨rfl, rfl, rfl, rfl, rfl, rfl, rfl, rfl, trivial⟩) (M76.sub ⟨rfl, rfl, rfl, rfl, rfl, rfl, rfl, rfl, rfl, rfl, rfl, trivial⟩)
   ·exact absurd hj1 (by omega)
  ·refine zS fun _ hK96 => ?_
   refine zS fun _ hK97 => ?_
   refine zR ?_
   refine rm rfl F76 fun _ F98 => ?_
   refine rm rfl F98 fun _ F99 => ?_
   refine zc (w' := w76) (zb rfl) rfl F99 rfl (.int .i64 18) (y_lnG 49 Tryz.underlying49 _ rfl (F99.get (t := 51) rfl) rfl) fun _ F100 => ?_
   clear F99
   by_cases h101 : (jn : Int) < 18
   ·refine zc (w' := w76) (zb rfl) rfl F100 rfl (.bool true) (zlb _ _ _ _ rfl (F100.get (t := 50) rfl) (F100.get (t := 52) rfl) (decide_eq_true h101)) fun _ F102 => ?_
    clear F100
    refine hK97 _ _ ?_
    refine wp_cond_true (F102.get (t := 53) rfl) ?_
    refine wp_skip ?_
    refine hK96 _ _ ?_
    refine zS fun _ hK103 => ?_
    refine wp_block ?_
    refine zS fun _ hK104 => ?_
    refine zR ?_
    refine rm rfl F102 fun _ F105 => ?_
    refine rm rfl F105 fun _ F106 => ?_
    refine zc (w' := w76) (zb rfl) rfl F106 rfl (.pointer (some ⟨gq69, (3 * jn), none⟩)) (y_ixG 49 (s := 3) Tryz.underlying49 (by kernel_rfl) _ _ rfl (F106.get (t := 56) rfl) (F106.get (t := 57) rfl) rfl (show jn < 18 by omega) (by omega)) fun _ F107 => ?_
    clear F106
    refine zc (w' := w76) (zb rfl) rfl F107 rfl (.pointer (some ⟨gq69, (3 * jn + 2), none⟩)) (y_fa (off := 2) rfl (F107.get (t := 58) rfl) (by kernel_rfl) rfl) fun _ F108 => ?_
    clear F107
    refine zc (w' := w76) (zb rfl) rfl F108 rfl (.bool false) (zaa _ _ rfl (F108.get (t := 59) rfl) (M76.roB (k := 9) rfl) (by rw [cel_f _ _ _ (show jn < 18 by omega), h4o jn hj1]) Tryz.underlying4 rfl) fun _ F109 => ?_
    clear F108
    refine hK104 _ _ ?_
    refine wp_cond_false (F109.get (t := 60) rfl) ?_
    refine wp_skip ?_
    refine hK103 _ _ ?_
    refine zR ?_
    refine rm rfl F109 fun _ F110 => ?_
    refine zc (w' := w76) (zb rfl) rfl F110 rfl (.int .i64 ((jn + 1 : Nat) : Int)) (zya _ _ _ _ rfl (F110.get (t := 54) rfl) rfl (by omega) (by omega)) fun _ F111 => ?_
    clear F110
    refine rm rfl F111 fun _ F112 => ?_
    subst ek76
    exact hK76 _ ⟨(jn + 1), av⟩ _ _ (by omega) ⟨rfl, ⟨by omega, by dsimp only; rw [hav]; split <;> split <;> omega⟩⟩ (F112.sub ⟨rfl, rfl, rfl, rfl, rfl, rfl, rfl, rfl, trivial⟩) (M76.sub ⟨rfl, rfl, rfl, rfl, rfl, rfl, rfl, rfl, rfl, rfl, rfl, trivial⟩)
   ·have hav1 : av = ((1 : Nat) : Int) := by rw [hav, if_pos (by omega)]; rfl
    obtain ⟨Ar113, cr113, er113⟩ := (M76.rowsN (i := 10) (j := 1) rfl (by decide)).shape
    rw [h4n] at er113
    have M113 := M76.rowBn (i := 10) (j := 1) rfl (by decide) h4n er113 11
    clear M76
    obtain ⟨Ar114, cr114, er114⟩ := (M113.rowsS (i := 10) (j := 1) rfl (by decide)).shape
    rw [h4s] at er114
    have M114 := M113.rowBs (i := 10) (j := 1) rfl (by decide) h4s er114 12
    clear M113
    refine zc (w' := w76) (zb rfl) rfl F100 rfl (.bool false) (zlb _ _ _ _ rfl (F100.get (t := 50) rfl) (F100.get (t := 52) rfl) (decide_eq_false h101)) fun _ F115 => ?_
    clear F100
    refine hK97 _ _ ?_
    refine wp_cond_false (F115.get (t := 53) rfl) ?_
    refine wp_exit ?_
    simp only [Exit.then, Exit.inBlock, ↓reduceIte, Nat.reduceEqDiff]
    refine hK73 _ _ ?_
    refine zS fun _ hK116 => ?_
    refine zS fun _ hK117 => ?_
    refine zR ?_
    refine zA 4 [(62, .int .i64 10), (63, .bool false), (64, .bool false), (65, .int .i64 av)] [] dnil [] F115 fun _ F118 => ?_
    clear F115
    refine zc (w' := w76) (zd rfl rfl rfl (F118.get (t := 64) rfl)) rfl F118 rfl (.bool false) (zlb _ _ _ _ rfl (F118.get (t := 65) rfl) rfl (decide_eq_false (show ¬ av < 0 by omega))) fun _ F119 => ?_
    clear F118
    refine zc (w' := w76) (zb rfl) rfl F119 rfl (.bool false) (run_pick_f rfl (F119.get (t := 64) rfl) (F119.get (t := 66) rfl)) fun _ F120 => ?_
    clear F119
    refine hK117 _ _ ?_
    refine wp_cond_false (F120.get (t := 67) rfl) ?_
    refine wp_skip ?_
    refine hK116 _ _ ?_
    refine zS fun _ hK121 => ?_
    refine zR ?_
    refine rm rfl F120 fun _ F122 => ?_
    refine rm rfl F122 fun _ F123 => ?_
    refine rm rfl F123 fun _ F124 => ?_
    refine zc (w' := w76) (zb rfl) rfl F124 rfl (.pointer (some ⟨gq69, (3 * 1), none⟩)) (y_ixG 49 (s := 3) Tryz.underlying49 (by kernel_rfl) _ _ rfl (F124.get (t := 69) rfl) (F124.get (t := 70) rfl) hav1 (by decide) (by omega)) fun _ F125 => ?_
    clear F124
    refine zc (w' := w76) (zb rfl) rfl F125 rfl (.pointer (some ⟨gq69, (3 * 1 + 1), none⟩)) (y_fa (off := 1) rfl (F125.get (t := 71) rfl) (by kernel_rfl) rfl) fun _ F126 => ?_
    clear F125
    refine zc (w' := w76) (zb rfl) rfl F126 rfl (.slice Ar113 (N).length cr113) (zaa _ _ rfl (F126.get (t := 72) rfl) (M114.roB (k := 9) rfl) (by rw [cel_n _ _ _ (by decide), er113]) Tryz.underlying23 rfl) fun _ F127 => ?_
    clear F126
    refine zc (w' := w76) (zb rfl) rfl F127 rfl (.int .i64 (N.length : Int)) (z9a _ rfl (F127.get (t := 73) rfl) (M114.isb (k := 11) rfl) rfl) fun _ F128 => ?_
    clear F127
    refine zc (w' := w76) (zb rfl) rfl F128 rfl (.int .i64 ((N.length + 1 : Nat) : Int)) (zya _ _ _ _ rfl (F128.get (t := 74) rfl) rfl (by omega) (by omega)) fun _ F129 => ?_
    clear F128
    refine zg (zb rfl) rfl F129 rfl rfl (zE Tryz.func17 rfl) #[.int .i64 a3, .int .i64 ((N.length + 1 : Nat) : Int)] (zda (F129.get (t := 68) rfl) (F129.get (t := 75) rfl)) (zba ((hkc ▸ within6_any a3 ((N.length + 1 : Nat) : Int) (by omega) (by omega) hk3 hl3 w76))) ?_
    rintro _ w130 a130 ⟨rfl, rfl⟩ F130
    refine rm rfl F130 fun _ F131 => ?_
    refine hK121 _ _ ?_
    refine zS fun _ hK132 => ?_
    refine zR ?_
    refine z6a (zb rfl) rfl F131 rfl (run_lit0 M114 13 rfl) ?_
    intro v133 a133 w133 F133 M133
    clear F131 M114
    obtain ⟨A133, c133, rfl⟩ := (M133.isO (k := 13) rfl).shape
    refine rm rfl F133 fun _ F134 => ?_
    refine rm rfl F134 fun _ F135 => ?_
    refine zc (w' := w133) (zb rfl) rfl F135 rfl (.pointer (some ⟨gq69, (3 * 1), none⟩)) (y_ixG 49 (s := 3) Tryz.underlying49 (by kernel_rfl) _ _ rfl (F135.get (t := 78) rfl) (F135.get (t := 79) rfl) hav1 (by decide) (by omega)) fun _ F136 => ?_
    clear F135
    refine zc (w' := w133) (zb rfl) rfl F136 rfl (.pointer (some ⟨gq69, (3 * 1 + 1), none⟩)) (y_fa (off := 1) rfl (F136.get (t := 80) rfl) (by kernel_rfl) rfl) fun _ F137 => ?_
    clear F136
    refine zc (w' := w133) (zb rfl) rfl F137 rfl (.slice Ar113 (N).length cr113) (zaa _ _ rfl (F137.get (t := 81) rfl) (M133.roB (k := 9) rfl) (by rw [cel_n _ _ _ (by decide), er113]) Tryz.underlying23 rfl) fun _ F138 => ?_
    clear F137
    refine rm rfl F138 fun _ F139 => ?_
    refine wl_runE (zb rfl) rfl F139 rfl (y_slTo _ _ rfl (F139.get (t := 82) rfl) (M133.isb (k := 11) rfl) (F139.get (t := 83) rfl) (j := kc) rfl (by omega)) ?_
    intro v140 a140 h140 F140
    clear F139
    have M140 := M133.partB 14 (k := 11) rfl h140.1 h140.2
    clear M133
    obtain ⟨A140, c140, rfl⟩ := (M140.isb (k := 14) rfl).shape
    refine z6a (zb rfl) rfl F140 rfl (run_app M140 (k := 13) rfl _ _ rfl (F140.get (t := 77) rfl) (F140.get (t := 84) rfl) (M140.isb (k := 14) rfl) (by simp; omega)) ?_
    intro v141 a141 w141 F141 M141
    clear F140 M140
    obtain ⟨A141, c141, rfl⟩ := (M141.isO (k := 13) rfl).shape
    refine rm rfl F141 fun _ F142 => ?_
    refine hK132 _ _ ?_
    refine zS fun _ hK143 => ?_
    refine zS fun _ hK144 => ?_
    refine zR ?_
    refine rm rfl F142 fun _ F145 => ?_
    refine rm rfl F145 fun _ F146 => ?_
    refine rm rfl F146 fun _ F147 => ?_
    refine zc (w' := w141) (zb rfl) rfl F147 rfl (.pointer (some ⟨gq69, (3 * 1), none⟩)) (y_ixG 49 (s := 3) Tryz.underlying49 (by kernel_rfl) _ _ rfl (F147.get (t := 87) rfl) (F147.get (t := 88) rfl) hav1 (by decide) (by omega)) fun _ F148 => ?_
    clear F147
    refine zc (w' := w141) (zb rfl) rfl F148 rfl (.pointer (some ⟨gq69, (3 * 1 + 0), none⟩)) (y_fa (off := 0) rfl (F148.get (t := 89) rfl) (by kernel_rfl) rfl) fun _ F149 => ?_
    clear F148
    refine zc (w' := w141) (zb rfl) rfl F149 rfl (.slice Ar114 (([] : List UInt8)).length cr114) (zaa _ _ rfl (F149.get (t := 90) rfl) (M141.roB (k := 9) rfl) (by rw [Nat.add_zero, cel_s _ _ _ (by decide), er114]) Tryz.underlying23 rfl) fun _ F150 => ?_
    clear F149
    refine zc (w' := w141) (zb rfl) rfl F150 rfl (.int .i64 0) (z9a _ rfl (F150.get (t := 91) rfl) (M141.isb (k := 12) rfl) rfl) fun a151 F151 => ?_
    clear F150
    by_cases h152 : (kc : Int) < 0
    ·exact absurd h152 (by omega)
    ·obtain ⟨Wt, hWt⟩ : ∃ z, ([] ++ (N.take kc)) = z := ⟨_, rfl⟩
     have hWt2 : (N.take kc) = Wt := by rw [← hWt]; rfl
     have M153 : Mx none w w141 [(0, bytR l2 (.slice A2 n2 cap2)), (1, blkR g33 80 (vltA V4 s65 n65)), (2, zbb 0 18 V4.c s65 n65), (3, bytR r.l2 U43.v2), (4, bytR r.l5 U43.v5), (5, bytR t.l2 U47.v2), (6, bytR t.l5 U47.v5), (7, blkR g48 37 (recA r U43)), (8, blkR g49 37 (recA ⟨t.p, r.s, t.l2, t.a, t.b, t.l5, t.t, t.c, t.z⟩ ⟨U47.v2, U47.v5⟩)), (9, blkO gq69 63 (celA V4.c s69 n69)), (10, zbb 0 18 V4.c s69 n69), (11, bytR N (.slice Ar113 (N).length cr113)), (12, bytR ([] : List UInt8) (.slice Ar114 (([] : List UInt8)).length cr114)), (13, ownR Wt (.slice A141 (Wt).length c141)), (14, bytR (N.take kc) (.slice A140 ((N.take kc)).length c140))] := by rw [← hWt]; exact M141.sub ⟨rfl, rfl, rfl, rfl, rfl, rfl, rfl, rfl, rfl, rfl, rfl, rfl, rfl, rfl, rfl, trivial⟩
     have F153 : Fx 161 a151 [(3, .int .i64 a3), (9, .pointer (some ⟨g33, 0, none⟩)), (10, .pointer (some ⟨g48, 0, none⟩)), (11, .pointer (some ⟨g49, 0, none⟩)), (12, .int .i64 10), (13, .slice (some ⟨gq69, 0, none⟩) 18 18), (15, .int .i64 (jn : Int)), (14, .int .i64 av), (50, .int .i64 (jn : Int)), (51, .slice (some ⟨gq69, 0, none⟩) 18 18), (52, .int .i64 18), (53, .bool false), (62, .int .i64 10), (63, .bool false), (64, .bool false), (65, .int .i64 av), (66, .bool false), (67, .bool false), (68, .int .i64 a3), (69, .slice (some ⟨gq69, 0, none⟩) 18 18), (70, .int .i64 av), (71, .pointer (some ⟨gq69, (3 * 1), none⟩)), (72, .pointer (some ⟨gq69, (3 * 1 + 1), none⟩)), (73, .slice Ar113 (N).length cr113), (74, .int .i64 (N.length : Int)), (75, .int .i64 ((N.length + 1 : Nat) : Int)), (76, .int .i64 (kc : Int)), (16, .int .i64 (kc : Int)), (77, .slice A133 (([] : List UInt8)).length c133), (78, .slice (some ⟨gq69, 0, none⟩) 18 18), (79, .int .i64 av), (80, .pointer (some ⟨gq69, (3 * 1), none⟩)), (81, .pointer (some ⟨gq69, (3 * 1 + 1), none⟩)), (82, .slice Ar113 (N).length cr113), (83, .int .i64 (kc : Int)), (84, .slice A140 ((N.take kc)).length c140), (85, .slice A141 (Wt).length c141), (17, .slice A141 (Wt).length c141), (86, .int .i64 (kc : Int)), (87, .slice (some ⟨gq69, 0, none⟩) 18 18), (88, .int .i64 av), (89, .pointer (some ⟨gq69, (3 * 1), none⟩)), (90, .pointer (some ⟨gq69, (3 * 1 + 0), none⟩)), (91, .slice Ar114 (([] : List UInt8)).length cr114), (92, .int .i64 0)] [] := by rw [← hWt]; exact F151.sub ⟨rfl, rfl, rfl, rfl, rfl, rfl, rfl, rfl, rfl, rfl, rfl, rfl, rfl, rfl, rfl, rfl, rfl, rfl, rfl, rfl, rfl, rfl, rfl, rfl, rfl, rfl, rfl, rfl, rfl, rfl, rfl, rfl, rfl, rfl, rfl, rfl, rfl, rfl, rfl, rfl, rfl, rfl, rfl, rfl, rfl, trivial⟩
     clear M141 F151
     by_cases hq154 : kc = N.length
     ·obtain ⟨g1, g2⟩ := m1_get (h5A hq154) hun
      refine zc (w' := w141) (zb rfl) rfl F153 rfl (.bool false) (zlb _ _ _ _ rfl (F153.get (t := 86) rfl) (F153.get (t := 92) rfl) (decide_eq_false h152)) fun _ F155 => ?_
      clear F153
      refine hK144 _ _ ?_
      refine wp_cond_false (F155.get (t := 93) rfl) ?_
      refine wp_skip ?_
      refine hK143 _ _ ?_
      refine zS fun _ hK156 => ?_
      refine zR ?_
      refine rm rfl F155 fun _ F157 => ?_
      refine rm rfl F157 fun _ F158 => ?_
      refine z8b (zb rfl) rfl F158 rfl M153 15 (t := 3) (c := #[.int .i64 (kc : Int)]) (k := 1) (m := 1) (y_litG 22 3 (s := 1) (zv := .int .i64 0) Tryz.underlying22 (by kernel_rfl) (by kernel_rfl) rfl (#[.int .i64 (kc : Int)]) (by decide) (by decide) (by simp only [List.map_toArray, List.map_cons, List.map_nil, (F158.get (t := 104) rfl)]; kernel_rfl)) ?_
      intro g159 a159 w159 F159 M159
      clear F158 M153
      refine zg (zb rfl) rfl F159 rfl rfl (zE Tryz.func30 rfl) #[.pointer (some ⟨g33, 0, none⟩), .slice (some ⟨g159, 0, none⟩) 1 1] (zda (F159.get (t := 103) rfl) (F159.get (t := 105) rfl)) (again_isV g33 V4 s65 n65 (some ⟨g159, 0, none⟩) 1 1 (fun _ => (kc : Int)) (Nat.le_refl _) hI4 (by decide) hE4 (by decide) (by decide) V5 hV5 w159 (rdI_one (M159.blk (k := 15) rfl) (by omega)) (fun h => M159.dis 1 15 _ _ rfl rfl (by decide) rfl _ rfl (ifp_lit h)) (M159.rowsV (i := 2) (k := 1) rfl rfl (by decide)) (M159.blk (k := 1) rfl)) ?_
      rintro _ w160 a160 ⟨s160, n160, hr160, ht160, hc160, hg160⟩ F160
      have M160 := M159.vault (kg := 1) (kr := 2) rfl rfl hg160 hc160 hr160 ht160
      clear M159 hg160 hc160 hr160 ht160
      refine hK156 _ _ ?_
      refine zS fun _ hK161 => ?_
      refine zR ?_
      refine rm rfl F160 fun _ F162 => ?_
      refine zg (zb rfl) rfl F162 rfl rfl (zE Tryz.func28 rfl) #[.pointer (some ⟨g33, 0, none⟩)] (zx (F162.get (t := 107) rfl)) (cells_is g33 V5 s160 n160 hI5 w160 (M160.hasV (kg := 1) (kr := 2) rfl rfl (by decide))) ?_
      rintro _ w163 a163 ⟨gq163, s163, n163, rfl, ce163, b163⟩ F163
      have M163 := M160.newCells b163 16 17 ce163
      clear M160 ce163 b163
      obtain ⟨Ar164, cr164, er164⟩ := (M163.rowsS (i := 17) (j := 1) rfl (by decide)).shape
      rw [h5s] at er164
      have M164 := M163.rowBs (i := 17) (j := 1) rfl (by decide) h5s er164 18
      clear M163
      refine rm rfl F163 fun _ F165 => ?_
      refine hK161 _ _ ?_
      refine zS fun _ hK166 => ?_
      refine zR ?_
      refine zA 3 [(110, .pointer (some ⟨g33, 0, none⟩)), (111, .pointer (some ⟨g48, 1, none⟩)), (112, .string r.s)] [0] (zr (M164.blk (k := 7) rfl) dnil) [g48] F165 fun _ F167 => ?_
      clear F165
      refine zg (zb rfl) rfl F167 rfl rfl (zE Tryz.func24 rfl) #[.pointer (some ⟨g33, 0, none⟩), .string r.s] (zda (F167.get (t := 110) rfl) (F167.get (t := 112) rfl)) (get_yes g33 V5 s160 n160 hI5 r.s 0 (by decide) g1 (setS t r.s) g2 w163 (M164.hasV (kg := 1) (kr := 2) rfl rfl (by decide))) ?_
      rintro _ w168 a168 ⟨U168, rfl, is168, lo168, b168⟩ F168
      have M168 := M164.newRec b168 is168 lo168 19 20
      clear M164 b168 lo168
      refine zA 3 [(109, .tuple #[.agg (recA (setS t r.s) U168), .bool true]), (114, .agg (recA (setS t r.s) U168)), (115, .bool true)] [] dnil [] F168 fun _ F169 => ?_
      clear F168
      refine zh (zb rfl) rfl F169 rfl M168 21 (t := 37) (c := recA ⟨0, "".toUTF8, [], 0, 0, [], 0, 0, 0⟩ ⟨zN, zN⟩) (by unfold execOp; kernel_rfl) ?_
      intro g170 a170 w170 F170 M170
      clear F169 M168
      refine zn (zb rfl) rfl F170 M170 (k := 21) rfl _ _ _ rfl (F170.get (t := 19) rfl) (F170.get (t := 114) rfl) (recA (setS t r.s) U168) _ rfl (zL rfl) (zva (w := w170) ⟨(M170.isb (k := 19) rfl), (M170.isb (k := 20) rfl)⟩) (zo rfl) (by kernel_rfl) ?_
      intro w171 M171
      clear M170
      refine rm rfl F170 fun _ F172 => ?_
      refine hK166 _ _ ?_
      refine zS fun _ hK173 => ?_
      refine zS fun _ hK174 => ?_
      refine region_fx F172 (SK [.inl (.slice (some ⟨gq163, 0, none⟩) 18 18), .inl (.int .i64 18), .inl (.bool false), .inl (.bool false), .inl (.slice (some ⟨gq163, 0, none⟩) 18 18), .inl (.int .i64 av), .inl (.pointer (some ⟨gq163, (3 * 1), none⟩)), .inl (.pointer (some ⟨gq163, (3 * 1 + 0), none⟩)), .inl (.slice Ar164 ((N.take kc)).length cr164), .inl (.string (⟨((N.take kc)).toArray⟩)), .inl (.slice A141 (Wt).length c141), .inl (.string (⟨(Wt).toArray⟩)), .inl (.bool false), .inl (.bool false), .inl (.bool false), .inl (.slice (some ⟨gq163, 0, none⟩) 18 18), .inl (.int .i64 av), .inl (.pointer (some ⟨gq163, (3 * 1), none⟩)), .inl (.pointer (some ⟨gq163, (3 * 1 + 2), none⟩)), .inl (.bool false), .inl (.bool false)]) 21 rfl (by kernel_rfl) ⟨hop0 F172 (by kernel_rfl), ?_, hop0 F172 (by kernel_rfl), hop0 F172 (by kernel_rfl), hop0 F172 (by kernel_rfl), hop0 F172 (by kernel_rfl), ?_, ?_, ?_, ?_, hop0 F172 (by kernel_rfl), ?_, ?_, hop0 F172 (by kernel_rfl), hop0 F172 (by kernel_rfl), hop0 F172 (by kernel_rfl), hop0 F172 (by kernel_rfl), ?_, ?_, ?_, hop0 F172 (by kernel_rfl), trivial⟩ ?_
      ·intro ua uw hb hd
       have e116 : ua.eval (.tmp 116) = .slice (some ⟨gq163, 0, none⟩) 18 18 := hd 116 (by decide)
       exact zm (F := (StK.eq (.int .i64 18)).F) (zb rfl) (.int .i64 18) (y_lnG 49 Tryz.underlying49 _ rfl e116 rfl) rfl
      ·intro ua uw hb hd
       have eg : ua.eval (.tmp 119) = .bool false := hd 119 (by decide)
       have e120 : ua.eval (.tmp 120) = .slice (some ⟨gq163, 0, none⟩) 18 18 := hd 120 (by decide)
       have e121 : ua.eval (.tmp 121) = .int .i64 av := hd 121 (by decide)
       exact zm (F := (StK.eq (.pointer (some ⟨gq163, (3 * 1), none⟩))).F) (zd rfl rfl rfl eg) (.pointer (some ⟨gq163, (3 * 1), none⟩)) (y_ixG 49 (s := 3) Tryz.underlying49 (by kernel_rfl) _ _ rfl e120 e121 hav1 (by decide) (by omega)) rfl
      ·intro ua uw hb hd
       have eg : ua.eval (.tmp 119) = .bool false := hd 119 (by decide)
       have e122 : ua.eval (.tmp 122) = .pointer (some ⟨gq163, (3 * 1), none⟩) := hd 122 (by decide)
       exact zm (F := (StK.eq (.pointer (some ⟨gq163, (3 * 1 + 0), none⟩))).F) (zd rfl rfl rfl eg) (.pointer (some ⟨gq163, (3 * 1 + 0), none⟩)) (y_fa (off := 0) rfl e122 (by kernel_rfl) rfl) rfl
      ·intro ua uw hb hd
       have eg : ua.eval (.tmp 119) = .bool false := hd 119 (by decide)
       have e123 : ua.eval (.tmp 123) = .pointer (some ⟨gq163, (3 * 1 + 0), none⟩) := hd 123 (by decide)
       exact zm (F := (StK.eq (.slice Ar164 ((N.take kc)).length cr164)).F) (zd rfl rfl rfl eg) (.slice Ar164 ((N.take kc)).length cr164) (zaa _ _ rfl e123 ((M171.step hb).roB (k := 16) rfl) (by rw [Nat.add_zero, cel_s _ _ _ (by decide), er164]) Tryz.underlying23 rfl) rfl
      ·intro ua uw hb hd
       have eg : ua.eval (.tmp 119) = .bool false := hd 119 (by decide)
       have e124 : ua.eval (.tmp 124) = .slice Ar164 ((N.take kc)).length cr164 := hd 124 (by decide)
       exact zm (F := (StK.eq (.string (⟨((N.take kc)).toArray⟩))).F) (zd rfl rfl rfl eg) (.string (⟨((N.take kc)).toArray⟩)) (y_str _ rfl e124 ((M171.step hb).isb (k := 18) rfl)) rfl
      ·intro ua uw hb hd
       have eg : ua.eval (.tmp 119) = .bool false := hd 119 (by decide)
       have e126 : ua.eval (.tmp 126) = .slice A141 (Wt).length c141 := hd 126 (by decide)
       exact zm (F := (StK.eq (.string (⟨(Wt).toArray⟩))).F) (zd rfl rfl rfl eg) (.string (⟨(Wt).toArray⟩)) (y_str _ rfl e126 ((M171.step hb).isO (k := 13) rfl)) rfl
      ·intro ua uw hb hd
       have eg : ua.eval (.tmp 119) = .bool false := hd 119 (by decide)
       have e125 : ua.eval (.tmp 125) = .string (⟨((N.take kc)).toArray⟩) := hd 125 (by decide)
       have e127 : ua.eval (.tmp 127) = .string (⟨(Wt).toArray⟩) := hd 127 (by decide)
       exact zm (F := (StK.eq (.bool false)).F) (zd rfl rfl rfl eg) (.bool false) (y_neS _ _ _ rfl e125 e127 (str_neF hWt2)) rfl
      ·intro ua uw hb hd
       have eg : ua.eval (.tmp 130) = .bool false := hd 130 (by decide)
       have e131 : ua.eval (.tmp 131) = .slice (some ⟨gq163, 0, none⟩) 18 18 := hd 131 (by decide)
       have e132 : ua.eval (.tmp 132) = .int .i64 av := hd 132 (by decide)
       exact zm (F := (StK.eq (.pointer (some ⟨gq163, (3 * 1), none⟩))).F) (zd rfl rfl rfl eg) (.pointer (some ⟨gq163, (3 * 1), none⟩)) (y_ixG 49 (s := 3) Tryz.underlying49 (by kernel_rfl) _ _ rfl e131 e132 hav1 (by decide) (by omega)) rfl
      ·intro ua uw hb hd
       have eg : ua.eval (.tmp 130) = .bool false := hd 130 (by decide)
       have e133 : ua.eval (.tmp 133) = .pointer (some ⟨gq163, (3 * 1), none⟩) := hd 133 (by decide)
       exact zm (F := (StK.eq (.pointer (some ⟨gq163, (3 * 1 + 2), none⟩))).F) (zd rfl rfl rfl eg) (.pointer (some ⟨gq163, (3 * 1 + 2), none⟩)) (y_fa (off := 2) rfl e133 (by kernel_rfl) rfl) rfl
      ·intro ua uw hb hd
       have eg : ua.eval (.tmp 130) = .bool false := hd 130 (by decide)
       have e134 : ua.eval (.tmp 134) = .pointer (some ⟨gq163, (3 * 1 + 2), none⟩) := hd 134 (by decide)
       exact zm (F := (StK.eq (.bool false)).F) (zd rfl rfl rfl eg) (.bool false) (zaa _ _ rfl e134 ((M171.step hb).roB (k := 16) rfl) (by rw [cel_f _ _ _ (by decide), h5f]) Tryz.underlying4 rfl) rfl
      intro p176 a176 w176 b176 G176 y176
      obtain ⟨-, -, -, -, -, -, -, -, -, -, -, -, -, -, -, -, -, -, -, -, q20, -⟩ := y176
      have r20 : p176 20 = .bool false := q20 (by decide)
      simp only [List.take, layV, Nat.zero_add, Nat.reduceAdd, r20] at G176
      have M176 := M171.kc b176
      clear F172 M171 r20 q20
      refine hK174 _ _ ?_
      refine wp_cond_false (G176.get (t := 136) rfl) ?_
      refine wp_skip ?_
      refine hK173 _ _ ?_
      refine zS fun _ hK177 => ?_
      refine zS fun _ hK178 => ?_
      refine zR ?_
      refine rm rfl G176 fun _ F179 => ?_
      refine rm rfl F179 fun _ F180 => ?_
      refine rm rfl F180 fun _ F181 => ?_
      refine zc (w' := w176) (zb rfl) rfl F181 rfl (.pointer (some ⟨gq69, (3 * 1), none⟩)) (y_ixG 49 (s := 3) Tryz.underlying49 (by kernel_rfl) _ _ rfl (F181.get (t := 138) rfl) (F181.get (t := 139) rfl) hav1 (by decide) (by omega)) fun _ F182 => ?_
      clear F181
      refine zc (w' := w176) (zb rfl) rfl F182 rfl (.pointer (some ⟨gq69, (3 * 1 + 1), none⟩)) (y_fa (off := 1) rfl (F182.get (t := 140) rfl) (by kernel_rfl) rfl) fun _ F183 => ?_
      clear F182
      refine zc (w' := w176) (zb rfl) rfl F183 rfl (.slice Ar113 (N).length cr113) (zaa _ _ rfl (F183.get (t := 141) rfl) (M176.roB (k := 9) rfl) (by rw [cel_n _ _ _ (by decide), er113]) Tryz.underlying23 rfl) fun _ F184 => ?_
      clear F183
      refine zc (w' := w176) (zb rfl) rfl F184 rfl (.int .i64 (N.length : Int)) (z9a _ rfl (F184.get (t := 142) rfl) (M176.isb (k := 11) rfl) rfl) fun _ F185 => ?_
      clear F184
      refine zc (w' := w176) (zb rfl) rfl F185 rfl (.bool true) (zsb _ _ _ _ rfl (F185.get (t := 137) rfl) (F185.get (t := 143) rfl) Tryz.underlying3 (y_beqT (by omega))) fun _ F186 => ?_
      clear F185
      refine hK178 _ _ ?_
      refine wp_cond_true (F186.get (t := 144) rfl) ?_
      refine zS fun _ hK187 => ?_
      refine zR ?_
      refine rm rfl F186 fun _ F188 => ?_
      refine rm rfl F188 fun _ F189 => ?_
      refine zc (w' := w176) (zd rfl rfl rfl (F189.get (t := 146) rfl)) rfl F189 rfl _ (zoa _ _ rfl (F189.get (t := 19) rfl) (M176.blk (k := 21) rfl) (recA (setS t r.s) U168) (zqa rfl) Tryz.underlying37 rfl (by kernel_rfl)) fun _ F190 => ?_
      clear F189
      refine zc (w' := w176) (zd rfl rfl rfl (F190.get (t := 146) rfl)) rfl F190 rfl _ (zoa _ _ rfl (F190.get (t := 11) rfl) (M176.blk (k := 8) rfl) (recA ⟨t.p, r.s, t.l2, t.a, t.b, t.l5, t.t, t.c, t.z⟩ ⟨U47.v2, U47.v5⟩) (zqa rfl) Tryz.underlying37 rfl (by kernel_rfl)) fun _ F191 => ?_
      clear F190
      refine zg (zd rfl rfl rfl (F191.get (t := 146) rfl)) rfl F191 rfl rfl (zE Tryz.func31 rfl) #[.agg (recA (setS t r.s) U168), .agg (recA ⟨t.p, r.s, t.l2, t.a, t.b, t.l5, t.t, t.c, t.z⟩ ⟨U47.v2, U47.v5⟩)] (zda (F191.get (t := 147) rfl) (F191.get (t := 148) rfl)) (zba ((recs_is (setS t r.s) (setS t r.s) ⟨U168.v2, U168.v5⟩ ⟨U47.v2, U47.v5⟩ uo uo true (eqR_self (setS t r.s)) w176 ⟨(M176.isb (k := 19) rfl), (M176.isb (k := 20) rfl)⟩ ⟨(M176.isb (k := 5) rfl), (M176.isb (k := 6) rfl)⟩))) ?_
      rintro _ w192 a192 ⟨rfl, b192⟩ F192
      have M192 := M176.step b192
      refine zA 2 [(150, .bool true), (8, .bool true)] [] dnil [] F192 fun _ F193 => ?_
      clear F192
      refine hK187 _ _ ?_
      refine wp_ret ?_
      try simp only [Exit.then, Exit.inBlock, Exit.jump]
      exact bodyPost_ret (res1 rfl (F193.get rfl)) F193.defers ⟨rfl, M192.below⟩
     ·by_cases hq194 : kc = 0
      ·obtain ⟨g1, g2⟩ := m1_get (h5B hq194) rfl
       refine zc (w' := w141) (zb rfl) rfl F153 rfl (.bool false) (zlb _ _ _ _ rfl (F153.get (t := 86) rfl) (F153.get (t := 92) rfl) (decide_eq_false h152)) fun _ F195 => ?_
       clear F153
       refine hK144 _ _ ?_
       refine wp_cond_false (F195.get (t := 93) rfl) ?_
       refine wp_skip ?_
       refine hK143 _ _ ?_
       refine zS fun _ hK196 => ?_
       refine zR ?_
       refine rm rfl F195 fun _ F197 => ?_
       refine rm rfl F197 fun _ F198 => ?_
       refine z8b (zb rfl) rfl F198 rfl M153 15 (t := 3) (c := #[.int .i64 (kc : Int)]) (k := 1) (m := 1) (y_litG 22 3 (s := 1) (zv := .int .i64 0) Tryz.underlying22 (by kernel_rfl) (by kernel_rfl) rfl (#[.int .i64 (kc : Int)]) (by decide) (by decide) (by simp only [List.map_toArray, List.map_cons, List.map_nil, (F198.get (t := 104) rfl)]; kernel_rfl)) ?_
       intro g199 a199 w199 F199 M199
       clear F198 M153
       refine zg (zb rfl) rfl F199 rfl rfl (zE Tryz.func30 rfl) #[.pointer (some ⟨g33, 0, none⟩), .slice (some ⟨g199, 0, none⟩) 1 1] (zda (F199.get (t := 103) rfl) (F199.get (t := 105) rfl)) (again_isV g33 V4 s65 n65 (some ⟨g199, 0, none⟩) 1 1 (fun _ => (kc : Int)) (Nat.le_refl _) hI4 (by decide) hE4 (by decide) (by decide) V5 hV5 w199 (rdI_one (M199.blk (k := 15) rfl) (by omega)) (fun h => M199.dis 1 15 _ _ rfl rfl (by decide) rfl _ rfl (ifp_lit h)) (M199.rowsV (i := 2) (k := 1) rfl rfl (by decide)) (M199.blk (k := 1) rfl)) ?_
       rintro _ w200 a200 ⟨s200, n200, hr200, ht200, hc200, hg200⟩ F200
       have M200 := M199.vault (kg := 1) (kr := 2) rfl rfl hg200 hc200 hr200 ht200
       clear M199 hg200 hc200 hr200 ht200
       refine hK196 _ _ ?_
       refine zS fun _ hK201 => ?_
       refine zR ?_
       refine rm rfl F200 fun _ F202 => ?_
       refine zg (zb rfl) rfl F202 rfl rfl (zE Tryz.func28 rfl) #[.pointer (some ⟨g33, 0, none⟩)] (zx (F202.get (t := 107) rfl)) (cells_is g33 V5 s200 n200 hI5 w200 (M200.hasV (kg := 1) (kr := 2) rfl rfl (by decide))) ?_
       rintro _ w203 a203 ⟨gq203, s203, n203, rfl, ce203, b203⟩ F203
       have M203 := M200.newCells b203 16 17 ce203
       clear M200 ce203 b203
       obtain ⟨Ar204, cr204, er204⟩ := (M203.rowsS (i := 17) (j := 1) rfl (by decide)).shape
       rw [h5s] at er204
       have M204 := M203.rowBs (i := 17) (j := 1) rfl (by decide) h5s er204 18
       clear M203
       refine rm rfl F203 fun _ F205 => ?_
       refine hK201 _ _ ?_
       refine zS fun _ hK206 => ?_
       refine zR ?_
       refine zA 3 [(110, .pointer (some ⟨g33, 0, none⟩)), (111, .pointer (some ⟨g48, 1, none⟩)), (112, .string r.s)] [0] (zr (M204.blk (k := 7) rfl) dnil) [g48] F205 fun _ F207 => ?_
       clear F205
       refine zg (zb rfl) rfl F207 rfl rfl (zE Tryz.func24 rfl) #[.pointer (some ⟨g33, 0, none⟩), .string r.s] (zda (F207.get (t := 110) rfl) (F207.get (t := 112) rfl)) (get_yes g33 V5 s200 n200 hI5 r.s 0 (by decide) g1 r g2 w203 (M204.hasV (kg := 1) (kr := 2) rfl rfl (by decide))) ?_
       rintro _ w208 a208 ⟨U208, rfl, is208, lo208, b208⟩ F208
       have M208 := M204.newRec b208 is208 lo208 19 20
       clear M204 b208 lo208
       refine zA 3 [(109, .tuple #[.agg (recA r U208), .bool true]), (114, .agg (recA r U208)), (115, .bool true)] [] dnil [] F208 fun _ F209 => ?_
       clear F208
       refine zh (zb rfl) rfl F209 rfl M208 21 (t := 37) (c := recA ⟨0, "".toUTF8, [], 0, 0, [], 0, 0, 0⟩ ⟨zN, zN⟩) (by unfold execOp; kernel_rfl) ?_
       intro g210 a210 w210 F210 M210
       clear F209 M208
       refine zn (zb rfl) rfl F210 M210 (k := 21) rfl _ _ _ rfl (F210.get (t := 19) rfl) (F210.get (t := 114) rfl) (recA r U208) _ rfl (zL rfl) (zva (w := w210) ⟨(M210.isb (k := 19) rfl), (M210.isb (k := 20) rfl)⟩) (zo rfl) (by kernel_rfl) ?_
       intro w211 M211
       clear M210
       refine rm rfl F210 fun _ F212 => ?_
       refine hK206 _ _ ?_
       refine zS fun _ hK213 => ?_
       refine zS fun _ hK214 => ?_
       refine region_fx F212 (SK [.inl (.slice (some ⟨gq203, 0, none⟩) 18 18), .inl (.int .i64 18), .inl (.bool false), .inl (.bool false), .inl (.slice (some ⟨gq203, 0, none⟩) 18 18), .inl (.int .i64 av), .inl (.pointer (some ⟨gq203, (3 * 1), none⟩)), .inl (.pointer (some ⟨gq203, (3 * 1 + 0), none⟩)), .inl (.slice Ar204 ((N.take kc)).length cr204), .inl (.string (⟨((N.take kc)).toArray⟩)), .inl (.slice A141 (Wt).length c141), .inl (.string (⟨(Wt).toArray⟩)), .inl (.bool false), .inl (.bool false), .inl (.bool false), .inl (.slice (some ⟨gq203, 0, none⟩) 18 18), .inl (.int .i64 av), .inl (.pointer (some ⟨gq203, (3 * 1), none⟩)), .inl (.pointer (some ⟨gq203, (3 * 1 + 2), none⟩)), .inl (.bool false), .inl (.bool false)]) 21 rfl (by kernel_rfl) ⟨hop0 F212 (by kernel_rfl), ?_, hop0 F212 (by kernel_rfl), hop0 F212 (by kernel_rfl), hop0 F212 (by kernel_rfl), hop0 F212 (by kernel_rfl), ?_, ?_, ?_, ?_, hop0 F212 (by kernel_rfl), ?_, ?_, hop0 F212 (by kernel_rfl), hop0 F212 (by kernel_rfl), hop0 F212 (by kernel_rfl), hop0 F212 (by kernel_rfl), ?_, ?_, ?_, hop0 F212 (by kernel_rfl), trivial⟩ ?_
       ·intro ua uw hb hd
        have e116 : ua.eval (.tmp 116) = .slice (some ⟨gq203, 0, none⟩) 18 18 := hd 116 (by decide)
        exact zm (F := (StK.eq (.int .i64 18)).F) (zb rfl) (.int .i64 18) (y_lnG 49 Tryz.underlying49 _ rfl e116 rfl) rfl
       ·intro ua uw hb hd
        have eg : ua.eval (.tmp 119) = .bool false := hd 119 (by decide)
        have e120 : ua.eval (.tmp 120) = .slice (some ⟨gq203, 0, none⟩) 18 18 := hd 120 (by decide)
        have e121 : ua.eval (.tmp 121) = .int .i64 av := hd 121 (by decide)
        exact zm (F := (StK.eq (.pointer (some ⟨gq203, (3 * 1), none⟩))).F) (zd rfl rfl rfl eg) (.pointer (some ⟨gq203, (3 * 1), none⟩)) (y_ixG 49 (s := 3) Tryz.underlying49 (by kernel_rfl) _ _ rfl e120 e121 hav1 (by decide) (by omega)) rfl
       ·intro ua uw hb hd
        have eg : ua.eval (.tmp 119) = .bool false := hd 119 (by decide)
        have e122 : ua.eval (.tmp 122) = .pointer (some ⟨gq203, (3 * 1), none⟩) := hd 122 (by decide)
        exact zm (F := (StK.eq (.pointer (some ⟨gq203, (3 * 1 + 0), none⟩))).F) (zd rfl rfl rfl eg) (.pointer (some ⟨gq203, (3 * 1 + 0), none⟩)) (y_fa (off := 0) rfl e122 (by kernel_rfl) rfl) rfl
       ·intro ua uw hb hd
        have eg : ua.eval (.tmp 119) = .bool false := hd 119 (by decide)
        have e123 : ua.eval (.tmp 123) = .pointer (some ⟨gq203, (3 * 1 + 0), none⟩) := hd 123 (by decide)
        exact zm (F := (StK.eq (.slice Ar204 ((N.take kc)).length cr204)).F) (zd rfl rfl rfl eg) (.slice Ar204 ((N.take kc)).length cr204) (zaa _ _ rfl e123 ((M211.step hb).roB (k := 16) rfl) (by rw [Nat.add_zero, cel_s _ _ _ (by decide), er204]) Tryz.underlying23 rfl) rfl
       ·intro ua uw hb hd
        have eg : ua.eval (.tmp 119) = .bool false := hd 119 (by decide)
        have e124 : ua.eval (.tmp 124) = .slice Ar204 ((N.take kc)).length cr204 := hd 124 (by decide)
        exact zm (F := (StK.eq (.string (⟨((N.take kc)).toArray⟩))).F) (zd rfl rfl rfl eg) (.string (⟨((N.take kc)).toArray⟩)) (y_str _ rfl e124 ((M211.step hb).isb (k := 18) rfl)) rfl
       ·intro ua uw hb hd
        have eg : ua.eval (.tmp 119) = .bool false := hd 119 (by decide)
        have e126 : ua.eval (.tmp 126) = .slice A141 (Wt).length c141 := hd 126 (by decide)
        exact zm (F := (StK.eq (.string (⟨(Wt).toArray⟩))).F) (zd rfl rfl rfl eg) (.string (⟨(Wt).toArray⟩)) (y_str _ rfl e126 ((M211.step hb).isO (k := 13) rfl)) rfl
       ·intro ua uw hb hd
        have eg : ua.eval (.tmp 119) = .bool false := hd 119 (by decide)
        have e125 : ua.eval (.tmp 125) = .string (⟨((N.take kc)).toArray⟩) := hd 125 (by decide)
        have e127 : ua.eval (.tmp 127) = .string (⟨(Wt).toArray⟩) := hd 127 (by decide)
        exact zm (F := (StK.eq (.bool false)).F) (zd rfl rfl rfl eg) (.bool false) (y_neS _ _ _ rfl e125 e127 (str_neF hWt2)) rfl
       ·intro ua uw hb hd
        have eg : ua.eval (.tmp 130) = .bool false := hd 130 (by decide)
        have e131 : ua.eval (.tmp 131) = .slice (some ⟨gq203, 0, none⟩) 18 18 := hd 131 (by decide)
        have e132 : ua.eval (.tmp 132) = .int .i64 av := hd 132 (by decide)
        exact zm (F := (StK.eq (.pointer (some ⟨gq203, (3 * 1), none⟩))).F) (zd rfl rfl rfl eg) (.pointer (some ⟨gq203, (3 * 1), none⟩)) (y_ixG 49 (s := 3) Tryz.underlying49 (by kernel_rfl) _ _ rfl e131 e132 hav1 (by decide) (by omega)) rfl
       ·intro ua uw hb hd
        have eg : ua.eval (.tmp 130) = .bool false := hd 130 (by decide)
        have e133 : ua.eval (.tmp 133) = .pointer (some ⟨gq203, (3 * 1), none⟩) := hd 133 (by decide)
        exact zm (F := (StK.eq (.pointer (some ⟨gq203, (3 * 1 + 2), none⟩))).F) (zd rfl rfl rfl eg) (.pointer (some ⟨gq203, (3 * 1 + 2), none⟩)) (y_fa (off := 2) rfl e133 (by kernel_rfl) rfl) rfl
       ·intro ua uw hb hd
        have eg : ua.eval (.tmp 130) = .bool false := hd 130 (by decide)
        have e134 : ua.eval (.tmp 134) = .pointer (some ⟨gq203, (3 * 1 + 2), none⟩) := hd 134 (by decide)
        exact zm (F := (StK.eq (.bool false)).F) (zd rfl rfl rfl eg) (.bool false) (zaa _ _ rfl e134 ((M211.step hb).roB (k := 16) rfl) (by rw [cel_f _ _ _ (by decide), h5f]) Tryz.underlying4 rfl) rfl
       intro p216 a216 w216 b216 G216 y216
       obtain ⟨-, -, -, -, -, -, -, -, -, -, -, -, -, -, -, -, -, -, -, -, q20, -⟩ := y216
       have r20 : p216 20 = .bool false := q20 (by decide)
       simp only [List.take, layV, Nat.zero_add, Nat.reduceAdd, r20] at G216
       have M216 := M211.kc b216
       clear F212 M211 r20 q20
       refine hK214 _ _ ?_
       refine wp_cond_false (G216.get (t := 136) rfl) ?_
       refine wp_skip ?_
       refine hK213 _ _ ?_
       refine zS fun _ hK217 => ?_
       refine zS fun _ hK218 => ?_
       refine zR ?_
       refine rm rfl G216 fun _ F219 => ?_
       refine rm rfl F219 fun _ F220 => ?_
       refine rm rfl F220 fun _ F221 => ?_
       refine zc (w' := w216) (zb rfl) rfl F221 rfl (.pointer (some ⟨gq69, (3 * 1), none⟩)) (y_ixG 49 (s := 3) Tryz.underlying49 (by kernel_rfl) _ _ rfl (F221.get (t := 138) rfl) (F221.get (t := 139) rfl) hav1 (by decide) (by omega)) fun _ F222 => ?_
       clear F221
       refine zc (w' := w216) (zb rfl) rfl F222 rfl (.pointer (some ⟨gq69, (3 * 1 + 1), none⟩)) (y_fa (off := 1) rfl (F222.get (t := 140) rfl) (by kernel_rfl) rfl) fun _ F223 => ?_
       clear F222
       refine zc (w' := w216) (zb rfl) rfl F223 rfl (.slice Ar113 (N).length cr113) (zaa _ _ rfl (F223.get (t := 141) rfl) (M216.roB (k := 9) rfl) (by rw [cel_n _ _ _ (by decide), er113]) Tryz.underlying23 rfl) fun _ F224 => ?_
       clear F223
       refine zc (w' := w216) (zb rfl) rfl F224 rfl (.int .i64 (N.length : Int)) (z9a _ rfl (F224.get (t := 142) rfl) (M216.isb (k := 11) rfl) rfl) fun _ F225 => ?_
       clear F224
       refine zc (w' := w216) (zb rfl) rfl F225 rfl (.bool false) (zsb _ _ _ _ rfl (F225.get (t := 137) rfl) (F225.get (t := 143) rfl) Tryz.underlying3 (y_beqF (show ¬ (kc : Int) = (N.length : Int) by omega))) fun _ F226 => ?_
       clear F225
       refine hK218 _ _ ?_
       refine wp_cond_false (F226.get (t := 144) rfl) ?_
       refine wp_skip ?_
       refine hK217 _ _ ?_
       refine zS fun _ hK227 => ?_
       refine zR ?_
       refine rm rfl F226 fun _ F228 => ?_
       refine zc (w' := w216) (zb rfl) rfl F228 rfl (.bool false) (y_gtr _ _ _ _ rfl (F228.get (t := 151) rfl) rfl (decide_eq_false (show ¬ 0 < (kc : Int) by omega))) fun _ F229 => ?_
       clear F228
       refine zA 5 [(153, .bool false), (154, .bool true), (155, .bool true), (156, .agg (recA r U208)), (157, .agg (recA r U43))] [0, 1] (zr (M216.blk (k := 21) rfl) (zr (M216.blk (k := 7) rfl) dnil)) [g210, g48] F229 fun _ F230 => ?_
       clear F229
       refine zg (zd rfl rfl rfl (F230.get (t := 155) rfl)) rfl F230 rfl rfl (zE Tryz.func31 rfl) #[.agg (recA r U208), .agg (recA r U43)] (zda (F230.get (t := 156) rfl) (F230.get (t := 157) rfl)) (zba ((recs_is r r ⟨U208.v2, U208.v5⟩ ⟨U43.v2, U43.v5⟩ ro ro true (eqR_self r) w216 ⟨(M216.isb (k := 19) rfl), (M216.isb (k := 20) rfl)⟩ ⟨(M216.isb (k := 3) rfl), (M216.isb (k := 4) rfl)⟩))) ?_
       rintro _ w231 a231 ⟨rfl, b231⟩ F231
       have M231 := M216.step b231
       refine zA 3 [(159, .bool true), (160, .bool true), (8, .bool true)] [] dnil [] F231 fun _ F232 => ?_
       clear F231
       refine hK227 _ _ ?_
       refine wp_ret ?_
       try simp only [Exit.then, Exit.inBlock, Exit.jump]
       exact bodyPost_ret (res1 rfl (F232.get rfl)) F232.defers ⟨rfl, M231.below⟩
      ·by_cases hq233 : fst8 (zca V5 r.s) < 8
       ·obtain ⟨rx, hrx⟩ : ∃ q, zja V5 (2 * fst8 (zca V5 r.s)) = q := ⟨_, rfl⟩
        refine zc (w' := w141) (zb rfl) rfl F153 rfl (.bool false) (zlb _ _ _ _ rfl (F153.get (t := 86) rfl) (F153.get (t := 92) rfl) (decide_eq_false h152)) fun _ F234 => ?_
        clear F153
        refine hK144 _ _ ?_
        refine wp_cond_false (F234.get (t := 93) rfl) ?_
        refine wp_skip ?_
        refine hK143 _ _ ?_
        refine zS fun _ hK235 => ?_
        refine zR ?_
        refine rm rfl F234 fun _ F236 => ?_
        refine rm rfl F236 fun _ F237 => ?_
        refine z8b (zb rfl) rfl F237 rfl M153 15 (t := 3) (c := #[.int .i64 (kc : Int)]) (k := 1) (m := 1) (y_litG 22 3 (s := 1) (zv := .int .i64 0) Tryz.underlying22 (by kernel_rfl) (by kernel_rfl) rfl (#[.int .i64 (kc : Int)]) (by decide) (by decide) (by simp only [List.map_toArray, List.map_cons, List.map_nil, (F237.get (t := 104) rfl)]; kernel_rfl)) ?_
        intro g238 a238 w238 F238 M238
        clear F237 M153
        refine zg (zb rfl) rfl F238 rfl rfl (zE Tryz.func30 rfl) #[.pointer (some ⟨g33, 0, none⟩), .slice (some ⟨g238, 0, none⟩) 1 1] (zda (F238.get (t := 103) rfl) (F238.get (t := 105) rfl)) (again_isV g33 V4 s65 n65 (some ⟨g238, 0, none⟩) 1 1 (fun _ => (kc : Int)) (Nat.le_refl _) hI4 (by decide) hE4 (by decide) (by decide) V5 hV5 w238 (rdI_one (M238.blk (k := 15) rfl) (by omega)) (fun h => M238.dis 1 15 _ _ rfl rfl (by decide) rfl _ rfl (ifp_lit h)) (M238.rowsV (i := 2) (k := 1) rfl rfl (by decide)) (M238.blk (k := 1) rfl)) ?_
        rintro _ w239 a239 ⟨s239, n239, hr239, ht239, hc239, hg239⟩ F239
        have M239 := M238.vault (kg := 1) (kr := 2) rfl rfl hg239 hc239 hr239 ht239
        clear M238 hg239 hc239 hr239 ht239
        refine hK235 _ _ ?_
        refine zS fun _ hK240 => ?_
        refine zR ?_
        refine rm rfl F239 fun _ F241 => ?_
        refine zg (zb rfl) rfl F241 rfl rfl (zE Tryz.func28 rfl) #[.pointer (some ⟨g33, 0, none⟩)] (zx (F241.get (t := 107) rfl)) (cells_is g33 V5 s239 n239 hI5 w239 (M239.hasV (kg := 1) (kr := 2) rfl rfl (by decide))) ?_
        rintro _ w242 a242 ⟨gq242, s242, n242, rfl, ce242, b242⟩ F242
        have M242 := M239.newCells b242 16 17 ce242
        clear M239 ce242 b242
        obtain ⟨Ar243, cr243, er243⟩ := (M242.rowsS (i := 17) (j := 1) rfl (by decide)).shape
        rw [h5s] at er243
        have M243 := M242.rowBs (i := 17) (j := 1) rfl (by decide) h5s er243 18
        clear M242
        refine rm rfl F242 fun _ F244 => ?_
        refine hK240 _ _ ?_
        refine zS fun _ hK245 => ?_
        refine zR ?_
        refine zA 3 [(110, .pointer (some ⟨g33, 0, none⟩)), (111, .pointer (some ⟨g48, 1, none⟩)), (112, .string r.s)] [0] (zr (M243.blk (k := 7) rfl) dnil) [g48] F244 fun _ F246 => ?_
        clear F244
        refine zg (zb rfl) rfl F246 rfl rfl (zE Tryz.func24 rfl) #[.pointer (some ⟨g33, 0, none⟩), .string r.s] (zda (F246.get (t := 110) rfl) (F246.get (t := 112) rfl)) (get_yes g33 V5 s239 n239 hI5 r.s (fst8 (zca V5 r.s)) hq233 rfl rx hrx w242 (M243.hasV (kg := 1) (kr := 2) rfl rfl (by decide))) ?_
        rintro _ w247 a247 ⟨U247, rfl, is247, lo247, b247⟩ F247
        have M247 := M243.newRec b247 is247 lo247 19 20
        clear M243 b247 lo247
        refine zA 3 [(109, .tuple #[.agg (recA rx U247), .bool true]), (114, .agg (recA rx U247)), (115, .bool true)] [] dnil [] F247 fun _ F248 => ?_
        clear F247
        refine zh (zb rfl) rfl F248 rfl M247 21 (t := 37) (c := recA ⟨0, "".toUTF8, [], 0, 0, [], 0, 0, 0⟩ ⟨zN, zN⟩) (by unfold execOp; kernel_rfl) ?_
        intro g249 a249 w249 F249 M249
        clear F248 M247
        refine zn (zb rfl) rfl F249 M249 (k := 21) rfl _ _ _ rfl (F249.get (t := 19) rfl) (F249.get (t := 114) rfl) (recA rx U247) _ rfl (zL rfl) (zva (w := w249) ⟨(M249.isb (k := 19) rfl), (M249.isb (k := 20) rfl)⟩) (zo rfl) (by kernel_rfl) ?_
        intro w250 M250
        clear M249
        refine rm rfl F249 fun _ F251 => ?_
        refine hK245 _ _ ?_
        refine zS fun _ hK252 => ?_
        refine zS fun _ hK253 => ?_
        refine region_fx F251 (SK [.inl (.slice (some ⟨gq242, 0, none⟩) 18 18), .inl (.int .i64 18), .inl (.bool false), .inl (.bool false), .inl (.slice (some ⟨gq242, 0, none⟩) 18 18), .inl (.int .i64 av), .inl (.pointer (some ⟨gq242, (3 * 1), none⟩)), .inl (.pointer (some ⟨gq242, (3 * 1 + 0), none⟩)), .inl (.slice Ar243 ((N.take kc)).length cr243), .inl (.string (⟨((N.take kc)).toArray⟩)), .inl (.slice A141 (Wt).length c141), .inl (.string (⟨(Wt).toArray⟩)), .inl (.bool false), .inl (.bool false), .inl (.bool false), .inl (.slice (some ⟨gq242, 0, none⟩) 18 18), .inl (.int .i64 av), .inl (.pointer (some ⟨gq242, (3 * 1), none⟩)), .inl (.pointer (some ⟨gq242, (3 * 1 + 2), none⟩)), .inl (.bool false), .inl (.bool false)]) 21 rfl (by kernel_rfl) ⟨hop0 F251 (by kernel_rfl), ?_, hop0 F251 (by kernel_rfl), hop0 F251 (by kernel_rfl), hop0 F251 (by kernel_rfl), hop0 F251 (by kernel_rfl), ?_, ?_, ?_, ?_, hop0 F251 (by kernel_rfl), ?_, ?_, hop0 F251 (by kernel_rfl), hop0 F251 (by kernel_rfl), hop0 F251 (by kernel_rfl), hop0 F251 (by kernel_rfl), ?_, ?_, ?_, hop0 F251 (by kernel_rfl), trivial⟩ ?_
        ·intro ua uw hb hd
         have e116 : ua.eval (.tmp 116) = .slice (some ⟨gq242, 0, none⟩) 18 18 := hd 116 (by decide)
         exact zm (F := (StK.eq (.int .i64 18)).F) (zb rfl) (.int .i64 18) (y_lnG 49 Tryz.underlying49 _ rfl e116 rfl) rfl
        ·intro ua uw hb hd
         have eg : ua.eval (.tmp 119) = .bool false := hd 119 (by decide)
         have e120 : ua.eval (.tmp 120) = .slice (some ⟨gq242, 0, none⟩) 18 18 := hd 120 (by decide)
         have e121 : ua.eval (.tmp 121) = .int .i64 av := hd 121 (by decide)
         exact zm (F := (StK.eq (.pointer (some ⟨gq242, (3 * 1), none⟩))).F) (zd rfl rfl rfl eg) (.pointer (some ⟨gq242, (3 * 1), none⟩)) (y_ixG 49 (s := 3) Tryz.underlying49 (by kernel_rfl) _ _ rfl e120 e121 hav1 (by decide) (by omega)) rfl
        ·intro ua uw hb hd
         have eg : ua.eval (.tmp 119) = .bool false := hd 119 (by decide)
         have e122 : ua.eval (.tmp 122) = .pointer (some ⟨gq242, (3 * 1), none⟩) := hd 122 (by decide)
         exact zm (F := (StK.eq (.pointer (some ⟨gq242, (3 * 1 + 0), none⟩))).F) (zd rfl rfl rfl eg) (.pointer (some ⟨gq242, (3 * 1 + 0), none⟩)) (y_fa (off := 0) rfl e122 (by kernel_rfl) rfl) rfl
        ·intro ua uw hb hd
         have eg : ua.eval (.tmp 119) = .bool false := hd 119 (by decide)
         have e123 : ua.eval (.tmp 123) = .pointer (some ⟨gq242, (3 * 1 + 0), none⟩) := hd 123 (by decide)
         exact zm (F := (StK.eq (.slice Ar243 ((N.take kc)).length cr243)).F) (zd rfl rfl rfl eg) (.slice Ar243 ((N.take kc)).length cr243) (zaa _ _ rfl e123 ((M250.step hb).roB (k := 16) rfl) (by rw [Nat.add_zero, cel_s _ _ _ (by decide), er243]) Tryz.underlying23 rfl) rfl
        ·intro ua uw hb hd
         have eg : ua.eval (.tmp 119) = .bool false := hd 119 (by decide)
         have e124 : ua.eval (.tmp 124) = .slice Ar243 ((N.take kc)).length cr243 := hd 124 (by decide)
         exact zm (F := (StK.eq (.string (⟨((N.take kc)).toArray⟩))).F) (zd rfl rfl rfl eg) (.string (⟨((N.take kc)).toArray⟩)) (y_str _ rfl e124 ((M250.step hb).isb (k := 18) rfl)) rfl
        ·intro ua uw hb hd
         have eg : ua.eval (.tmp 119) = .bool false := hd 119 (by decide)
         have e126 : ua.eval (.tmp 126) = .slice A141 (Wt).length c141 := hd 126 (by decide)
         exact zm (F := (StK.eq (.string (⟨(Wt).toArray⟩))).F) (zd rfl rfl rfl eg) (.string (⟨(Wt).toArray⟩)) (y_str _ rfl e126 ((M250.step hb).isO (k := 13) rfl)) rfl
        ·intro ua uw hb hd
         have eg : ua.eval (.tmp 119) = .bool false := hd 119 (by decide)
         have e125 : ua.eval (.tmp 125) = .string (⟨((N.take kc)).toArray⟩) := hd 125 (by decide)
         have e127 : ua.eval (.tmp 127) = .string (⟨(Wt).toArray⟩) := hd 127 (by decide)
         exact zm (F := (StK.eq (.bool false)).F) (zd rfl rfl rfl eg) (.bool false) (y_neS _ _ _ rfl e125 e127 (str_neF hWt2)) rfl
        ·intro ua uw hb hd
         have eg : ua.eval (.tmp 130) = .bool false := hd 130 (by decide)
         have e131 : ua.eval (.tmp 131) = .slice (some ⟨gq242, 0, none⟩) 18 18 := hd 131 (by decide)
         have e132 : ua.eval (.tmp 132) = .int .i64 av := hd 132 (by decide)
         exact zm (F := (StK.eq (.pointer (some ⟨gq242, (3 * 1), none⟩))).F) (zd rfl rfl rfl eg) (.pointer (some ⟨gq242, (3 * 1), none⟩)) (y_ixG 49 (s := 3) Tryz.underlying49 (by kernel_rfl) _ _ rfl e131 e132 hav1 (by decide) (by omega)) rfl
        ·intro ua uw hb hd
         have eg : ua.eval (.tmp 130) = .bool false := hd 130 (by decide)
         have e133 : ua.eval (.tmp 133) = .pointer (some ⟨gq242, (3 * 1), none⟩) := hd 133 (by decide)
         exact zm (F := (StK.eq (.pointer (some ⟨gq242, (3 * 1 + 2), none⟩))).F) (zd rfl rfl rfl eg) (.pointer (some ⟨gq242, (3 * 1 + 2), none⟩)) (y_fa (off := 2) rfl e133 (by kernel_rfl) rfl) rfl
        ·intro ua uw hb hd
         have eg : ua.eval (.tmp 130) = .bool false := hd 130 (by decide)
         have e134 : ua.eval (.tmp 134) = .pointer (some ⟨gq242, (3 * 1 + 2), none⟩) := hd 134 (by decide)
         exact zm (F := (StK.eq (.bool false)).F) (zd rfl rfl rfl eg) (.bool false) (zaa _ _ rfl e134 ((M250.step hb).roB (k := 16) rfl) (by rw [cel_f _ _ _ (by decide), h5f]) Tryz.underlying4 rfl) rfl
        intro p255 a255 w255 b255 G255 y255
        obtain ⟨-, -, -, -, -, -, -, -, -, -, -, -, -, -, -, -, -, -, -, -, q20, -⟩ := y255
        have r20 : p255 20 = .bool false := q20 (by decide)
        simp only [List.take, layV, Nat.zero_add, Nat.reduceAdd, r20] at G255
        have M255 := M250.kc b255
        clear F251 M250 r20 q20
        refine hK253 _ _ ?_
        refine wp_cond_false (G255.get (t := 136) rfl) ?_
        refine wp_skip ?_
        refine hK252 _ _ ?_
        refine zS fun _ hK256 => ?_
        refine zS fun _ hK257 => ?_
        refine zR ?_
        refine rm rfl G255 fun _ F258 => ?_
        refine rm rfl F258 fun _ F259 => ?_
        refine rm rfl F259 fun _ F260 => ?_
        refine zc (w' := w255) (zb rfl) rfl F260 rfl (.pointer (some ⟨gq69, (3 * 1), none⟩)) (y_ixG 49 (s := 3) Tryz.underlying49 (by kernel_rfl) _ _ rfl (F260.get (t := 138) rfl) (F260.get (t := 139) rfl) hav1 (by decide) (by omega)) fun _ F261 => ?_
        clear F260
        refine zc (w' := w255) (zb rfl) rfl F261 rfl (.pointer (some ⟨gq69, (3 * 1 + 1), none⟩)) (y_fa (off := 1) rfl (F261.get (t := 140) rfl) (by kernel_rfl) rfl) fun _ F262 => ?_
        clear F261
        refine zc (w' := w255) (zb rfl) rfl F262 rfl (.slice Ar113 (N).length cr113) (zaa _ _ rfl (F262.get (t := 141) rfl) (M255.roB (k := 9) rfl) (by rw [cel_n _ _ _ (by decide), er113]) Tryz.underlying23 rfl) fun _ F263 => ?_
        clear F262
        refine zc (w' := w255) (zb rfl) rfl F263 rfl (.int .i64 (N.length : Int)) (z9a _ rfl (F263.get (t := 142) rfl) (M255.isb (k := 11) rfl) rfl) fun _ F264 => ?_
        clear F263
        refine zc (w' := w255) (zb rfl) rfl F264 rfl (.bool false) (zsb _ _ _ _ rfl (F264.get (t := 137) rfl) (F264.get (t := 143) rfl) Tryz.underlying3 (y_beqF (show ¬ (kc : Int) = (N.length : Int) by omega))) fun _ F265 => ?_
        clear F264
        refine hK257 _ _ ?_
        refine wp_cond_false (F265.get (t := 144) rfl) ?_
        refine wp_skip ?_
        refine hK256 _ _ ?_
        refine zS fun _ hK266 => ?_
        refine zR ?_
        refine rm rfl F265 fun _ F267 => ?_
        refine zc (w' := w255) (zb rfl) rfl F267 rfl (.bool true) (y_gtr _ _ _ _ rfl (F267.get (t := 151) rfl) rfl (decide_eq_true (by omega))) fun _ F268 => ?_
        clear F267
        refine zA 9 [(153, .bool true), (154, undef), (155, undef), (156, undef), (157, undef), (158, undef), (159, undef), (160, .bool true), (8, .bool true)] [] dnil [] F268 fun _ F269 => ?_
        clear F268
        refine hK266 _ _ ?_
        refine wp_ret ?_
        try simp only [Exit.then, Exit.inBlock, Exit.jump]
        exact bodyPost_ret (res1 rfl (F269.get rfl)) F269.defers ⟨rfl, M255.below⟩
       ·have g8 : fst8 (zca V5 r.s) = 8 := by have := fst8_le (zca V5 r.s); omega
        refine zc (w' := w141) (zb rfl) rfl F153 rfl (.bool false) (zlb _ _ _ _ rfl (F153.get (t := 86) rfl) (F153.get (t := 92) rfl) (decide_eq_false h152)) fun _ F270 => ?_
        clear F153
        refine hK144 _ _ ?_
        refine wp_cond_false (F270.get (t := 93) rfl) ?_
        refine wp_skip ?_
        refine hK143 _ _ ?_
        refine zS fun _ hK271 => ?_
        refine zR ?_
        refine rm rfl F270 fun _ F272 => ?_
        refine rm rfl F272 fun _ F273 => ?_
        refine z8b (zb rfl) rfl F273 rfl M153 15 (t := 3) (c := #[.int .i64 (kc : Int)]) (k := 1) (m := 1) (y_litG 22 3 (s := 1) (zv := .int .i64 0) Tryz.underlying22 (by kernel_rfl) (by kernel_rfl) rfl (#[.int .i64 (kc : Int)]) (by decide) (by decide) (by simp only [List.map_toArray, List.map_cons, List.map_nil, (F273.get (t := 104) rfl)]; kernel_rfl)) ?_
        intro g274 a274 w274 F274 M274
        clear F273 M153
        refine zg (zb rfl) rfl F274 rfl rfl (zE Tryz.func30 rfl) #[.pointer (some ⟨g33, 0, none⟩), .slice (some ⟨g274, 0, none⟩) 1 1] (zda (F274.get (t := 103) rfl) (F274.get (t := 105) rfl)) (again_isV g33 V4 s65 n65 (some ⟨g274, 0, none⟩) 1 1 (fun _ => (kc : Int)) (Nat.le_refl _) hI4 (by decide) hE4 (by decide) (by decide) V5 hV5 w274 (rdI_one (M274.blk (k := 15) rfl) (by omega)) (fun h => M274.dis 1 15 _ _ rfl rfl (by decide) rfl _ rfl (ifp_lit h)) (M274.rowsV (i := 2) (k := 1) rfl rfl (by decide)) (M274.blk (k := 1) rfl)) ?_
        rintro _ w275 a275 ⟨s275, n275, hr275, ht275, hc275, hg275⟩ F275
        have M275 := M274.vault (kg := 1) (kr := 2) rfl rfl hg275 hc275 hr275 ht275
        clear M274 hg275 hc275 hr275 ht275
        refine hK271 _ _ ?_
        refine zS fun _ hK276 => ?_
        refine zR ?_
        refine rm rfl F275 fun _ F277 => ?_
        refine zg (zb rfl) rfl F277 rfl rfl (zE Tryz.func28 rfl) #[.pointer (some ⟨g33, 0, none⟩)] (zx (F277.get (t := 107) rfl)) (cells_is g33 V5 s275 n275 hI5 w275 (M275.hasV (kg := 1) (kr := 2) rfl rfl (by decide))) ?_
        rintro _ w278 a278 ⟨gq278, s278, n278, rfl, ce278, b278⟩ F278
        have M278 := M275.newCells b278 16 17 ce278
        clear M275 ce278 b278
        obtain ⟨Ar279, cr279, er279⟩ := (M278.rowsS (i := 17) (j := 1) rfl (by decide)).shape
        rw [h5s] at er279
        have M279 := M278.rowBs (i := 17) (j := 1) rfl (by decide) h5s er279 18
        clear M278
        refine rm rfl F278 fun _ F280 => ?_
        refine hK276 _ _ ?_
        refine zS fun _ hK281 => ?_
        refine zR ?_
        refine zA 3 [(110, .pointer (some ⟨g33, 0, none⟩)), (111, .pointer (some ⟨g48, 1, none⟩)), (112, .string r.s)] [0] (zr (M279.blk (k := 7) rfl) dnil) [g48] F280 fun _ F282 => ?_
        clear F280
        refine zg (zb rfl) rfl F282 rfl rfl (zE Tryz.func24 rfl) #[.pointer (some ⟨g33, 0, none⟩), .string r.s] (zda (F282.get (t := 110) rfl) (F282.get (t := 112) rfl)) (zba ((get_not g33 V5 s275 n275 hI5 r.s g8 w278 (M279.hasV (kg := 1) (kr := 2) rfl rfl (by decide))))) ?_
        rintro _ w283 a283 ⟨rfl, b283⟩ F283
        have M283 := M279.step b283
        refine rm rfl F283 fun _ F284 => ?_
        refine zA 2 [(114, .agg (recA ⟨0, "".toUTF8, [], 0, 0, [], 0, 0, 0⟩ ⟨zN, zN⟩)), (115, .bool false)] [] dnil [] F284 fun _ F285 => ?_
        clear F284
        refine zh (zb rfl) rfl F285 rfl M283 19 (t := 37) (c := recA ⟨0, "".toUTF8, [], 0, 0, [], 0, 0, 0⟩ ⟨zN, zN⟩) (by unfold execOp; kernel_rfl) ?_
        intro g286 a286 w286 F286 M286
        clear F285 M283
        refine zn (zb rfl) rfl F286 M286 (k := 19) rfl _ _ _ rfl (F286.get (t := 19) rfl) (F286.get (t := 114) rfl) (recA ⟨0, "".toUTF8, [], 0, 0, [], 0, 0, 0⟩ ⟨zN, zN⟩) _ rfl (zL rfl) (zva (w := w286) ⟨(zta _), (zta _)⟩) (zo rfl) (by kernel_rfl) ?_
        intro w287 M287
        clear M286
        refine rm rfl F286 fun _ F288 => ?_
        refine hK281 _ _ ?_
        refine zS fun _ hK289 => ?_
        refine zS fun _ hK290 => ?_
        refine region_fx F288 (SK [.inl (.slice (some ⟨gq278, 0, none⟩) 18 18), .inl (.int .i64 18), .inl (.bool false), .inl (.bool false), .inl (.slice (some ⟨gq278, 0, none⟩) 18 18), .inl (.int .i64 av), .inl (.pointer (some ⟨gq278, (3 * 1), none⟩)), .inl (.pointer (some ⟨gq278, (3 * 1 + 0), none⟩)), .inl (.slice Ar279 ((N.take kc)).length cr279), .inl (.string (⟨((N.take kc)).toArray⟩)), .inl (.slice A141 (Wt).length c141), .inl (.string (⟨(Wt).toArray⟩)), .inl (.bool false), .inl (.bool false), .inl (.bool false), .inl (.slice (some ⟨gq278, 0, none⟩) 18 18), .inl (.int .i64 av), .inl (.pointer (some ⟨gq278, (3 * 1), none⟩)), .inl (.pointer (some ⟨gq278, (3 * 1 + 2), none⟩)), .inl (.bool false), .inl (.bool false)]) 21 rfl (by kernel_rfl) ⟨hop0 F288 (by kernel_rfl), ?_, hop0 F288 (by kernel_rfl), hop0 F288 (by kernel_rfl), hop0 F288 (by kernel_rfl), hop0 F288 (by kernel_rfl), ?_, ?_, ?_, ?_, hop0 F288 (by kernel_rfl), ?_, ?_, hop0 F288 (by kernel_rfl), hop0 F288 (by kernel_rfl), hop0 F288 (by kernel_rfl), hop0 F288 (by kernel_rfl), ?_, ?_, ?_, hop0 F288 (by kernel_rfl), trivial⟩ ?_
        ·intro ua uw hb hd
         have e116 : ua.eval (.tmp 116) = .slice (some ⟨gq278, 0, none⟩) 18 18 := hd 116 (by decide)
         exact zm (F := (StK.eq (.int .i64 18)).F) (zb rfl) (.int .i64 18) (y_lnG 49 Tryz.underlying49 _ rfl e116 rfl) rfl
        ·intro ua uw hb hd
         have eg : ua.eval (.tmp 119) = .bool false := hd 119 (by decide)
         have e120 : ua.eval (.tmp 120) = .slice (some ⟨gq278, 0, none⟩) 18 18 := hd 120 (by decide)
         have e121 : ua.eval (.tmp 121) = .int .i64 av := hd 121 (by decide)
         exact zm (F := (StK.eq (.pointer (some ⟨gq278, (3 * 1), none⟩))).F) (zd rfl rfl rfl eg) (.pointer (some ⟨gq278, (3 * 1), none⟩)) (y_ixG 49 (s := 3) Tryz.underlying49 (by kernel_rfl) _ _ rfl e120 e121 hav1 (by decide) (by omega)) rfl
        ·intro ua uw hb hd
         have eg : ua.eval (.tmp 119) = .bool false := hd 119 (by decide)
         have e122 : ua.eval (.tmp 122) = .pointer (some ⟨gq278, (3 * 1), none⟩) := hd 122 (by decide)
         exact zm (F := (StK.eq (.pointer (some ⟨gq278, (3 * 1 + 0), none⟩))).F) (zd rfl rfl rfl eg) (.pointer (some ⟨gq278, (3 * 1 + 0), none⟩)) (y_fa (off := 0) rfl e122 (by kernel_rfl) rfl) rfl
        ·intro ua uw hb hd
         have eg : ua.eval (.tmp 119) = .bool false := hd 119 (by decide)
         have e123 : ua.eval (.tmp 123) = .pointer (some ⟨gq278, (3 * 1 + 0), none⟩) := hd 123 (by decide)
         exact zm (F := (StK.eq (.slice Ar279 ((N.take kc)).length cr279)).F) (zd rfl rfl rfl eg) (.slice Ar279 ((N.take kc)).length cr279) (zaa _ _ rfl e123 ((M287.step hb).roB (k := 16) rfl) (by rw [Nat.add_zero, cel_s _ _ _ (by decide), er279]) Tryz.underlying23 rfl) rfl
        ·intro ua uw hb hd
         have eg : ua.eval (.tmp 119) = .bool false := hd 119 (by decide)
         have e124 : ua.eval (.tmp 124) = .slice Ar279 ((N.take kc)).length cr279 := hd 124 (by decide)
         exact zm (F := (StK.eq (.string (⟨((N.take kc)).toArray⟩))).F) (zd rfl rfl rfl eg) (.string (⟨((N.take kc)).toArray⟩)) (y_str _ rfl e124 ((M287.step hb).isb (k := 18) rfl)) rfl
        ·intro ua uw hb hd
         have eg : ua.eval (.tmp 119) = .bool false := hd 119 (by decide)
         have e126 : ua.eval (.tmp 126) = .slice A141 (Wt).length c141 := hd 126 (by decide)
         exact zm (F := (StK.eq (.string (⟨(Wt).toArray⟩))).F) (zd rfl rfl rfl eg) (.string (⟨(Wt).toArray⟩)) (y_str _ rfl e126 ((M287.step hb).isO (k := 13) rfl)) rfl
        ·intro ua uw hb hd
         have eg : ua.eval (.tmp 119) = .bool false := hd 119 (by decide)
         have e125 : ua.eval (.tmp 125) = .string (⟨((N.take kc)).toArray⟩) := hd 125 (by decide)
         have e127 : ua.eval (.tmp 127) = .string (⟨(Wt).toArray⟩) := hd 127 (by decide)
         exact zm (F := (StK.eq (.bool false)).F) (zd rfl rfl rfl eg) (.bool false) (y_neS _ _ _ rfl e125 e127 (str_neF hWt2)) rfl
        ·intro ua uw hb hd
         have eg : ua.eval (.tmp 130) = .bool false := hd 130 (by decide)
         have e131 : ua.eval (.tmp 131) = .slice (some ⟨gq278, 0, none⟩) 18 18 := hd 131 (by decide)
         have e132 : ua.eval (.tmp 132) = .int .i64 av := hd 132 (by decide)
         exact zm (F := (StK.eq (.pointer (some ⟨gq278, (3 * 1), none⟩))).F) (zd rfl rfl rfl eg) (.pointer (some ⟨gq278, (3 * 1), none⟩)) (y_ixG 49 (s := 3) Tryz.underlying49 (by kernel_rfl) _ _ rfl e131 e132 hav1 (by decide) (by omega)) rfl
        ·intro ua uw hb hd
         have eg : ua.eval (.tmp 130) = .bool false := hd 130 (by decide)
         have e133 : ua.eval (.tmp 133) = .pointer (some ⟨gq278, (3 * 1), none⟩) := hd 133 (by decide)
         exact zm (F := (StK.eq (.pointer (some ⟨gq278, (3 * 1 + 2), none⟩))).F) (zd rfl rfl rfl eg) (.pointer (some ⟨gq278, (3 * 1 + 2), none⟩)) (y_fa (off := 2) rfl e133 (by kernel_rfl) rfl) rfl
        ·intro ua uw hb hd
         have eg : ua.eval (.tmp 130) = .bool false := hd 130 (by decide)
         have e134 : ua.eval (.tmp 134) = .pointer (some ⟨gq278, (3 * 1 + 2), none⟩) := hd 134 (by decide)
         exact zm (F := (StK.eq (.bool false)).F) (zd rfl rfl rfl eg) (.bool false) (zaa _ _ rfl e134 ((M287.step hb).roB (k := 16) rfl) (by rw [cel_f _ _ _ (by decide), h5f]) Tryz.underlying4 rfl) rfl
        intro p292 a292 w292 b292 G292 y292
        obtain ⟨-, -, -, -, -, -, -, -, -, -, -, -, -, -, -, -, -, -, -, -, q20, -⟩ := y292
        have r20 : p292 20 = .bool false := q20 (by decide)
        simp only [List.take, layV, Nat.zero_add, Nat.reduceAdd, r20] at G292
        have M292 := M287.kc b292
        clear F288 M287 r20 q20
        refine hK290 _ _ ?_
        refine wp_cond_false (G292.get (t := 136) rfl) ?_
        refine wp_skip ?_
        refine hK289 _ _ ?_
        refine zS fun _ hK293 => ?_
        refine zS fun _ hK294 => ?_
        refine zR ?_
        refine rm rfl G292 fun _ F295 => ?_
        refine rm rfl F295 fun _ F296 => ?_
        refine rm rfl F296 fun _ F297 => ?_
        refine zc (w' := w292) (zb rfl) rfl F297 rfl (.pointer (some ⟨gq69, (3 * 1), none⟩)) (y_ixG 49 (s := 3) Tryz.underlying49 (by kernel_rfl) _ _ rfl (F297.get (t := 138) rfl) (F297.get (t := 139) rfl) hav1 (by decide) (by omega)) fun _ F298 => ?_
        clear F297
        refine zc (w' := w292) (zb rfl) rfl F298 rfl (.pointer (some ⟨gq69, (3 * 1 + 1), none⟩)) (y_fa (off := 1) rfl (F298.get (t := 140) rfl) (by kernel_rfl) rfl) fun _ F299 => ?_
        clear F298
        refine zc (w' := w292) (zb rfl) rfl F299 rfl (.slice Ar113 (N).length cr113) (zaa _ _ rfl (F299.get (t := 141) rfl) (M292.roB (k := 9) rfl) (by rw [cel_n _ _ _ (by decide), er113]) Tryz.underlying23 rfl) fun _ F300 => ?_
        clear F299
        refine zc (w' := w292) (zb rfl) rfl F300 rfl (.int .i64 (N.length : Int)) (z9a _ rfl (F300.get (t := 142) rfl) (M292.isb (k := 11) rfl) rfl) fun _ F301 => ?_
        clear F300
        refine zc (w' := w292) (zb rfl) rfl F301 rfl (.bool false) (zsb _ _ _ _ rfl (F301.get (t := 137) rfl) (F301.get (t := 143) rfl) Tryz.underlying3 (y_beqF (show ¬ (kc : Int) = (N.length : Int) by omega))) fun _ F302 => ?_
        clear F301
        refine hK294 _ _ ?_
        refine wp_cond_false (F302.get (t := 144) rfl) ?_
        refine wp_skip ?_
        refine hK293 _ _ ?_
        refine zS fun _ hK303 => ?_
        refine zR ?_
        refine rm rfl F302 fun _ F304 => ?_
        refine zc (w' := w292) (zb rfl) rfl F304 rfl (.bool true) (y_gtr _ _ _ _ rfl (F304.get (t := 151) rfl) rfl (decide_eq_true (by omega))) fun _ F305 => ?_
        clear F304
        refine zA 9 [(153, .bool true), (154, undef), (155, undef), (156, undef), (157, undef), (158, undef), (159, undef), (160, .bool true), (8, .bool true)] [] dnil [] F305 fun _ F306 => ?_
        clear F305
        refine hK303 _ _ ?_
        refine wp_ret ?_
        try simp only [Exit.then, Exit.inBlock, Exit.jump]
        exact bodyPost_ret (res1 rfl (F306.get rfl)) F306.defers ⟨rfl, M292.below⟩
end Go.Proofs.YtmjbnmbobocpdaaGreat
