/- What VaultSteps stands on, part 12. -/
import Derived.Deep.CutRange
import Derived.Test.YtmjbnmbobocpdaaGreatVaultStepsP1
import Derived.Test.YtmjbnmbobocpdaaGreatVaultStepsP2
import Derived.Test.YtmjbnmbobocpdaaGreatVaultStepsP3
import Derived.Test.YtmjbnmbobocpdaaGreatVaultStepsP4
import Derived.Test.YtmjbnmbobocpdaaGreatVaultStepsP5
import Derived.Test.YtmjbnmbobocpdaaGreatVaultStepsP6
import Derived.Test.YtmjbnmbobocpdaaGreatVaultStepsP7
import Derived.Test.YtmjbnmbobocpdaaGreatVaultStepsP8
import Derived.Test.YtmjbnmbobocpdaaGreatVaultStepsP9
import Derived.Test.YtmjbnmbobocpdaaGreatVaultStepsP10
import Derived.Test.YtmjbnmbobocpdaaGreatVaultStepsP11
set_option maxRecDepth 100000
set_option maxHeartbeats 8000000
set_option linter.unusedVariables false
set_option linter.unusedSimpArgs false
namespace Go.Proofs.YtmjbnmbobocpdaaGreat
open Go.ChangeShapes Go.WideShapes Go.ChangeAt Go.RowKit
theorem VaultSteps_walk (a0 : Int) (hk0 : -9223372036854775808 ≤ a0) (hl0 : a0 < 9223372036854775808)
  (A1 : Option Addr) (n1 cap1 : Nat) (l1 : List UInt8) (hn1 : l1.length = n1) (hc1 : n1 ≤ cap1) (hm1 : cap1 ≤ maxLen) (hz1 : A1 = none → cap1 = 0)
  (a2 : Int) (hk2 : -9223372036854775808 ≤ a2) (hl2 : a2 < 9223372036854775808)
  (a3 : Int) (hk3 : -9223372036854775808 ≤ a3) (hl3 : a3 < 9223372036854775808) (w : World) (hr1 : Rd w A1 l1) :
  Calls Tryz.prog 8 #[.int .i64 a0, .slice A1 n1 cap1, .int .i64 a2, .int .i64 a3] w fun e w' => e = .returned (.bool true) ∧ Below w.heap.size w w' := by
 have ib1 : IsB w l1 (.slice A1 n1 cap1) := hr1.isB' hn1 hc1 hm1 hz1
 by_cases b0 : 60 < l1.length
 ·refine zi (args := [.int .i64 a0, .slice A1 n1 cap1, .int .i64 a2, .int .i64 a3]) 95 Tryz.func8 rfl rfl rfl ?_
  intro fa F
  have M := Mx.start w
  replace M := M.argB 0 ib1 (fun g e => by cases e)
  refine zS fun _ hK21 => ?_
  refine zR ?_
  refine rm rfl F fun _ F22 => ?_
  refine hK21 _ _ ?_
  refine zS fun _ hK23 => ?_
  refine zS fun _ hK24 => ?_
  refine zR ?_
  refine zh (zc rfl) rfl F22 rfl rfl (zE Tryz.func13 rfl) #[] (args0) (zy (known6_any w)) ?_
  rintro _ w25 a25 ⟨rfl, b25⟩ F25
  have M25 := M.step b25
  refine zd (w' := w25) (zc rfl) rfl F25 rfl (.bool false) (zqb _ _ rfl (F25.get (t := 14) rfl)) fun _ F26 => ?_
  clear F25
  refine hK24 _ _ ?_
  refine wp_cond_false (F26.get (t := 15) rfl) ?_
  refine wp_skip ?_
  refine hK23 _ _ ?_
  refine zS fun _ hK27 => ?_
  refine zS fun _ hK28 => ?_
  refine zR ?_
  refine rm rfl F26 fun _ F29 => ?_
  refine zd (w' := w25) (zc rfl) rfl F29 rfl (.int .i64 (l1.length : Int)) (zlb _ rfl (F29.get (t := 16) rfl) (M25.isb (k := 0) rfl) rfl) fun _ F30 => ?_
  clear F29
  refine zd (w' := w25) (zc rfl) rfl F30 rfl (.bool true) (y_gtr _ _ _ _ rfl (F30.get (t := 17) rfl) rfl (decide_eq_true (show (60 : Int) < (l1.length : Int) by omega))) fun _ F31 => ?_
  clear F30
  refine hK28 _ _ ?_
  refine wp_cond_true (F31.get (t := 18) rfl) ?_
  refine zS fun _ hK32 => ?_
  refine zR ?_
  refine rm rfl F31 fun a33 F33 => ?_
  refine hK32 _ _ ?_
  refine wp_ret ?_
  try simp only [Exit.then, Exit.inBlock, Exit.jump]
  exact bodyPost_ret (res1 rfl (F33.get rfl)) F33.defers ⟨rfl, M25.below⟩
 ·obtain ⟨hE1, hI1, hf1, hd1⟩ := new_is
  have hA1 := acc_new
  obtain ⟨V1, hV1⟩ : ∃ x, ageW zeroV = x := ⟨_, rfl⟩
  rw [hV1] at hE1 hI1 hf1 hd1 hA1
  obtain ⟨kk, hkk, hkkl⟩ : ∃ k : Nat, a2 % 9 = (k : Int) ∧ k < 9 := in6 _ (by decide)
  obtain ⟨mm, hmm, hmml⟩ : ∃ k : Nat, a3 % 7 = (k : Int) ∧ k < 7 := in6 _ (by decide)
  obtain ⟨r, hr⟩ : ∃ r, recK a0 l1 ((a0.tdiv 23) % 10).toNat = r := ⟨_, rfl⟩
  obtain ⟨ro, rp⟩ := rec6_ok _ _ hr
  have hro : ∀ j, j < 10 → RecOk (setN r j) ∧ zha (setN r j) = true := fun j hj => setN_ok hr hj
  obtain ⟨V2, hV2⟩ : ∃ x, failV V1 (kk : Int) = x := ⟨_, rfl⟩
  obtain ⟨hI2, hE2⟩ := fail_keep (kk : Int) hI1 hE1
  have hA2 := acc_fail (kk : Int) hA1
  have hf2 : V2.fl = true := by rw [← hV2]; exact decide_eq_true (Int.natCast_nonneg kk)
  have hlf2 : V2.lf = (kk : Int) := by rw [← hV2]; rfl
  have hd2 : V2.dd = false := by rw [← hV2]; exact hd1
  rw [hV2] at hI2 hE2 hA2
  refine zi (args := [.int .i64 a0, .slice A1 n1 cap1, .int .i64 a2, .int .i64 a3]) 95 Tryz.func8 rfl rfl rfl ?_
  intro fa F
  have M := Mx.start w
  replace M := M.argB 0 ib1 (fun g e => by cases e)
  refine zS fun _ hK21 => ?_
  refine zR ?_
  refine rm rfl F fun _ F22 => ?_
  refine hK21 _ _ ?_
  refine zS fun _ hK23 => ?_
  refine zS fun _ hK24 => ?_
  refine zR ?_
  refine zh (zc rfl) rfl F22 rfl rfl (zE Tryz.func13 rfl) #[] (args0) (zy (known6_any w)) ?_
  rintro _ w25 a25 ⟨rfl, b25⟩ F25
  have M25 := M.step b25
  refine zd (w' := w25) (zc rfl) rfl F25 rfl (.bool false) (zqb _ _ rfl (F25.get (t := 14) rfl)) fun _ F26 => ?_
  clear F25
  refine hK24 _ _ ?_
  refine wp_cond_false (F26.get (t := 15) rfl) ?_
  refine wp_skip ?_
  refine hK23 _ _ ?_
  refine zS fun _ hK27 => ?_
  refine zS fun _ hK28 => ?_
  refine zR ?_
  refine rm rfl F26 fun _ F29 => ?_
  refine zd (w' := w25) (zc rfl) rfl F29 rfl (.int .i64 (l1.length : Int)) (zlb _ rfl (F29.get (t := 16) rfl) (M25.isb (k := 0) rfl) rfl) fun _ F30 => ?_
  clear F29
  refine zd (w' := w25) (zc rfl) rfl F30 rfl (.bool false) (y_gtr _ _ _ _ rfl (F30.get (t := 17) rfl) rfl (decide_eq_false (show ¬ (60 : Int) < (l1.length : Int) by omega))) fun _ F31 => ?_
  clear F30
  refine hK28 _ _ ?_
  refine wp_cond_false (F31.get (t := 18) rfl) ?_
  refine wp_skip ?_
  refine hK27 _ _ ?_
  refine zS fun _ hK32 => ?_
  refine zR ?_
  refine zh (zc rfl) rfl F31 rfl rfl (zE Tryz.func14 rfl) #[] (args0) (vnew_is V1 hV1 w25) ?_
  rintro _ w33 a33 ⟨g33, rfl, hg33, s33, n33, hr33, ht33, hc33, b33⟩ F33
  have M33 := M25.newVault b33 1 2 hg33 hc33 hr33 ht33
  clear M25 b33 hg33 hc33 hr33 ht33
  refine rm rfl F33 fun _ F34 => ?_
  refine hK32 _ _ ?_
  refine zS fun _ hK35 => ?_
  refine zS fun _ hK36 => ?_
  refine zR ?_
  refine rm rfl F34 fun _ F37 => ?_
  refine zd (w' := w33) (zc rfl) rfl F37 rfl (.bool false) (y_eqPN 25 _ Tryz.underlying25 (by kernel_rfl) _ rfl (F37.get (t := 20) rfl)) fun _ F38 => ?_
  clear F37
  refine hK36 _ _ ?_
  refine wp_cond_false (F38.get (t := 21) rfl) ?_
  refine wp_skip ?_
  refine hK35 _ _ ?_
  refine zS fun _ hK39 => ?_
  refine zR ?_
  refine rm rfl F38 fun _ F40 => ?_
  refine zh (zc rfl) rfl F40 rfl rfl (zE Tryz.func17 rfl) #[.int .i64 a2, .int .i64 9] (zca (F40.get (t := 22) rfl) rfl) (zy ((hkk ▸ within6_any a2 9 (by decide) (by decide) hk2 hl2 w33))) ?_
  rintro _ w41 a41 ⟨rfl, rfl⟩ F41
  refine rm rfl F41 fun _ F42 => ?_
  refine hK39 _ _ ?_
  refine zS fun _ hK43 => ?_
  refine zR ?_
  refine rm rfl F42 fun _ F44 => ?_
  refine rm rfl F44 fun _ F45 => ?_
  refine zh (zc rfl) rfl F45 rfl rfl (zE Tryz.func19 rfl) #[.pointer (some ⟨g33, 0, none⟩), .int .i64 (kk : Int)] (zca (F45.get (t := 24) rfl) (F45.get (t := 25) rfl)) (fail_is g33 V1 s33 n33 (kk : Int) V2 hV2 w33  (M33.rowsV (i := 2) (k := 1) rfl rfl (by decide)) (M33.blk (k := 1) rfl)) ?_
  rintro _ w46 a46 ⟨s46, n46, hr46, ht46, hc46, hg46⟩ F46
  have M46 := M33.vault (kg := 1) (kr := 2) rfl rfl hg46 hc46 hr46 ht46
  clear M33 hg46 hc46 hr46 ht46
  refine hK43 _ _ ?_
  refine zS fun _ hK47 => ?_
  refine zS fun _ hK48 => ?_
  refine zR ?_
  refine rm rfl F46 fun _ F49 => ?_
  refine hK48 _ _ ?_
  refine wp_block ?_
  refine z2b (α := Nat × Nat × VltN × (Nat → Value) × (Nat → Value)) (n := 95) (G := none) (w0 := w) (fun x => [(0, .int .i64 a0), (1, .slice A1 n1 cap1), (3, .int .i64 a3), (9, .pointer (some ⟨g33, 0, none⟩)), (10, .int .i64 (kk : Int)), (11, .int .i64 (x.1 : Int))]) (fun x => [(0, bytR l1 (.slice A1 n1 cap1)), (1, blkR g33 80 (vltA x.2.2.1 x.2.2.2.1 x.2.2.2.2)), (2, zrb 0 18 x.2.2.1.c x.2.2.2.1 x.2.2.2.2)]) (fun k x => k = (mm - x.1) ∧ (x.1 ≤ mm ∧ InvV (x.1 + 1) x.2.2.1 ∧ EraV x.2.2.1 1 ∧ x.2.2.1.fl = true ∧ x.2.1 ≤ x.1 ∧ AccV x.2.2.1 (mS r x.2.1) ∧ (2 * x.1 ≤ kk → x.2.1 = x.1 ∧ x.2.2.1.dd = false ∧ x.2.2.1.lf = ((kk - 2 * x.1 : Nat) : Int)) ∧ (kk < 2 * x.1 → x.2.2.1.dd = true))) _ ⟨0, 0, V2, s46, n46⟩ ⟨rfl, ⟨Nat.zero_le _, hI2, hE2, hf2, Nat.le_refl _, (by rw [mS_zero]; exact hA2), fun _ => ⟨rfl, hd2, hlf2⟩, fun h => absurd h (Nat.not_lt_zero _)⟩⟩ (F49.sub ⟨rfl, rfl, rfl, rfl, rfl, rfl, trivial⟩) (M46.sub ⟨rfl, rfl, rfl, trivial⟩) ?_
  clear F49 M46
  rintro k50 ⟨jn, jj, Vv, sv, nv⟩ a50 w50 K50 ⟨ek50, I50⟩ F50 M50 hK50
  replace F50 : Fx 95 a50 [(0, .int .i64 a0), (1, .slice A1 n1 cap1), (3, .int .i64 a3), (9, .pointer (some ⟨g33, 0, none⟩)), (10, .int .i64 (kk : Int)), (11, .int .i64 (jn : Int))] := F50
  replace M50 : Mx _ _ w50 [(0, bytR l1 (.slice A1 n1 cap1)), (1, blkR g33 80 (vltA Vv sv nv)), (2, zrb 0 18 Vv.c sv nv)] := M50
  replace I50 : jn ≤ mm ∧ InvV (jn + 1) Vv ∧ EraV Vv 1 ∧ Vv.fl = true ∧ jj ≤ jn ∧ AccV Vv (mS r jj) ∧ (2 * jn ≤ kk → jj = jn ∧ Vv.dd = false ∧ Vv.lf = ((kk - 2 * jn : Nat) : Int)) ∧ (kk < 2 * jn → Vv.dd = true) := I50
  replace ek50 : k50 = (mm - jn) := ek50
  obtain ⟨hj, hI, hE, hf, hjj, hA, h1, h2⟩ := I50
  refine zS fun _ hK51 => ?_
  refine zS fun _ hK52 => ?_
  refine zR ?_
  refine rm rfl F50 fun _ F53 => ?_
  refine rm rfl F53 fun _ F54 => ?_
  refine zh (zc rfl) rfl F54 rfl rfl (zE Tryz.func17 rfl) #[.int .i64 a3, .int .i64 7] (zca (F54.get (t := 28) rfl) rfl) (zy ((hmm ▸ within6_any a3 7 (by decide) (by decide) hk3 hl3 w50))) ?_
  rintro _ w55 a55 ⟨rfl, rfl⟩ F55
  by_cases h56 : (jn : Int) < (mm : Int)
  ·obtain ⟨orj, prj⟩ := hro jn (by omega)
   obtain ⟨hIb, hEb⟩ := put_keep hI (by omega) hE (setN r jn)
   obtain ⟨hzb, hdb, hfb, j2, hj2, hAb, hab, hbb⟩ := steps_put hI (by omega) hro (by omega) (by omega) hf hjj hA h1 h2
   obtain ⟨Vb, hVb⟩ : ∃ x, (putV Vv (setN r jn)).1 = x := ⟨_, rfl⟩
   obtain ⟨zb, hzc⟩ : ∃ x, (putV Vv (setN r jn)).2 = x := ⟨_, rfl⟩
   rw [hVb] at hIb hEb hdb hfb hAb hab hbb
   rw [hzc] at hzb
   refine zd (w' := w50) (zc rfl) rfl F55 rfl (.bool true) (y_lss _ _ _ _ rfl (F55.get (t := 27) rfl) (F55.get (t := 29) rfl) (decide_eq_true h56)) fun _ F57 => ?_
   clear F55
   refine hK52 _ _ ?_
   refine wp_cond_true (F57.get (t := 30) rfl) ?_
   refine wp_skip ?_
   refine hK51 _ _ ?_
   refine zS fun _ hK58 => ?_
   refine wp_block ?_
   refine zS fun _ hK59 => ?_
   refine zR ?_
   refine rm rfl F57 fun _ F60 => ?_
   refine rm rfl F60 fun _ F61 => ?_
   refine zh (zc rfl) rfl F61 rfl rfl (zE Tryz.func21 rfl) #[.int .i64 a0, .slice A1 n1 cap1] (zca (F61.get (t := 33) rfl) (F61.get (t := 34) rfl)) (rec6_is a0 l1 (.slice A1 n1 cap1) ⟨hk0, hl0⟩ (by omega) r hr w50 (M50.isb (k := 0) rfl)) ?_
   rintro _ w62 a62 ⟨U62, rfl, is62, lo62, b62⟩ F62
   have M62 := M50.newRec b62 is62 lo62 3 4
   clear M50 b62 lo62
   refine zj (zc rfl) rfl F62 rfl M62 5 (t := 37) (c := recA ⟨0, "".toUTF8, [], 0, 0, [], 0, 0, 0⟩ ⟨zN, zN⟩) (by unfold execOp; kernel_rfl) ?_
   intro g63 a63 w63 F63 M63
   clear F62 M62
   refine zn (zc rfl) rfl F63 M63 (k := 5) rfl _ _ _ rfl (F63.get (t := 12) rfl) (F63.get (t := 35) rfl) (recA r U62) _ rfl (zL rfl) (z7a (w := w63) ⟨(M63.isb (k := 3) rfl), (M63.isb (k := 4) rfl)⟩) (zq rfl) (by kernel_rfl) ?_
   intro w64 M64
   clear M63
   refine hK59 _ _ ?_
   refine zS fun _ hK65 => ?_
   refine zR ?_
   refine zh (zc rfl) rfl F63 rfl rfl (zE Tryz.func34 rfl) #[] (args0) (names6_ex w64) ?_
   rintro _ w66 a66 ⟨gq66, rfl, hg66, hc66, b66⟩ F66
   have M66 := M64.newb b66 6 hg66 hc66
   clear M64 b66 hg66 hc66
   refine rm rfl F66 fun _ F67 => ?_
   refine zd (w' := w66) (zc rfl) rfl F67 rfl (.pointer (some ⟨gq66, jn, none⟩)) (y_ixG 45 (s := 1) Tryz.underlying45 (by kernel_rfl) _ _ rfl (F67.get (t := 36) rfl) (F67.get (t := 37) rfl) rfl (by omega) (by omega)) fun _ F68 => ?_
   clear F67
   refine zd (w' := w66) (zc rfl) rfl F68 rfl (.string (nmK jn)) (zja _ _ rfl (F68.get (t := 38) rfl) (M66.blk (k := 6) rfl) (nmA_at (show jn < 10 by omega)) Tryz.underlying9 rfl) fun _ F69 => ?_
   clear F68
   refine zd (w' := w66) (zc rfl) rfl F69 rfl (.pointer (some ⟨g63, 1, none⟩)) (y_fa (off := 1) rfl (F69.get (t := 12) rfl) (by kernel_rfl) rfl) fun _ F70 => ?_
   clear F69
   refine zn (zc rfl) rfl F70 M66 (k := 5) rfl _ _ _ rfl (F70.get (t := 40) rfl) (F70.get (t := 39) rfl) (#[.string (nmK jn)]) (recA ⟨r.p, (nmK jn), r.l2, r.a, r.b, r.l5, r.t, r.c, r.z⟩ ⟨U62.v2, U62.v5⟩) rfl (zL rfl) (one_str _) (by kernel_rfl) (by kernel_rfl) ?_
   intro w71 M71
   clear M66
   refine hK65 _ _ ?_
   refine zS fun _ hK72 => ?_
   refine zR ?_
   refine rm rfl F70 fun _ F73 => ?_
   refine zd (w' := w71) (zc rfl) rfl F73 rfl _ (zpa _ _ rfl (F73.get (t := 12) rfl) (M71.blk (k := 5) rfl) (recA ⟨r.p, (nmK jn), r.l2, r.a, r.b, r.l5, r.t, r.c, r.z⟩ ⟨U62.v2, U62.v5⟩) (zta rfl) Tryz.underlying37 rfl (by kernel_rfl)) fun _ F74 => ?_
   clear F73
   refine zh (zc rfl) rfl F74 rfl rfl (zE Tryz.func22 rfl) #[.pointer (some ⟨g33, 0, none⟩), .agg (recA ⟨r.p, (nmK jn), r.l2, r.a, r.b, r.l5, r.t, r.c, r.z⟩ ⟨U62.v2, U62.v5⟩)] (zca (F74.get (t := 41) rfl) (F74.get (t := 42) rfl)) (put_is g33 Vv sv nv (setN r jn) (⟨U62.v2, U62.v5⟩) orj hI (by omega) Vb zb hVb hzc w71 ⟨(M71.isb (k := 3) rfl), (M71.isb (k := 4) rfl)⟩ ⟨(fun h => M71.dis 1 3 _ _ rfl rfl (by decide) rfl _ rfl h), (fun h => M71.dis 1 4 _ _ rfl rfl (by decide) rfl _ rfl h)⟩ (M71.rowsV (i := 2) (k := 1) rfl rfl (by decide)) (M71.blk (k := 1) rfl)) ?_
   rintro _ w75 a75 ⟨rfl, s75, n75, hr75, ht75, hc75, hg75⟩ F75
   have M75 := M71.vault (kg := 1) (kr := 2) rfl rfl hg75 hc75 hr75 ht75
   clear M71 hg75 hc75 hr75 ht75
   refine rm rfl F75 fun _ F76 => ?_
   refine hK72 _ _ ?_
   refine zS fun _ hK77 => ?_
   refine zR ?_
   refine rm rfl F76 fun _ F78 => ?_
   by_cases h79 : zb = 0
   ·have hs : 2 * jn + 2 ≤ kk := by
     by_cases hc : 2 * jn + 2 ≤ kk
     ·exact hc
     ·rw [if_neg hc] at hzb; omega
    have hdd : Vb.dd = false := by rw [hdb]; exact decide_eq_false (by omega)
    refine zd (w' := w75) (zc rfl) rfl F78 rfl (.bool true) (y_eqI _ _ _ _ rfl (F78.get (t := 44) rfl) rfl Tryz.underlying39 (y_beqT h79)) fun _ F80 => ?_
    clear F78
    refine rm rfl F80 fun _ F81 => ?_
    refine zd (w' := w75) (zc rfl) rfl F81 rfl (.int .i64 ((2 * jn : Nat) : Int)) (y_mulI _ _ _ _ rfl rfl (F81.get (t := 46) rfl) (by omega) (by omega)) fun _ F82 => ?_
    clear F81
    refine zd (w' := w75) (zc rfl) rfl F82 rfl (.int .i64 ((2 * jn + 2 : Nat) : Int)) (zua _ _ _ _ rfl (F82.get (t := 47) rfl) rfl (by omega) (by omega)) fun _ F83 => ?_
    clear F82
    refine rm rfl F83 fun _ F84 => ?_
    refine zd (w' := w75) (zc rfl) rfl F84 rfl (.bool true) (y_leq _ _ _ _ rfl (F84.get (t := 48) rfl) (F84.get (t := 49) rfl) (decide_eq_true (by omega))) fun _ F85 => ?_
    clear F84
    refine zd (w' := w75) (zc rfl) rfl F85 rfl (.bool false) (y_neB _ _ rfl (F85.get (t := 45) rfl) (F85.get (t := 50) rfl) rfl) fun _ F86 => ?_
    clear F85
    refine rm rfl F86 fun _ F87 => ?_
    refine rm rfl F87 fun _ F88 => ?_
    refine zd (w' := w75) (zg rfl rfl rfl (F88.get (t := 52) rfl)) rfl F88 rfl (.bool false) (y_neI _ _ _ _ rfl (F88.get (t := 53) rfl) rfl Tryz.underlying39 (y_bneF h79)) fun _ F89 => ?_
    clear F88
    refine zA 7 [(55, .bool false), (56, undef), (57, undef), (58, .bool false), (59, .bool false), (60, .bool false), (61, .pointer (some ⟨g33, 0, none⟩))] [] dnil [] F89 fun _ F90 => ?_
    clear F89
    refine zh (zg rfl rfl rfl (F90.get (t := 60) rfl)) rfl F90 rfl rfl (zE Tryz.func32 rfl) #[.pointer (some ⟨g33, 0, none⟩)] (zw (F90.get (t := 61) rfl)) (zy ((dead_is g33 Vb s75 n75 false hdd w75 (M75.hasV (kg := 1) (kr := 2) rfl rfl (by decide))))) ?_
    rintro _ w91 a91 ⟨rfl, b91⟩ F91
    have M91 := M75.step b91
    refine rm rfl F91 fun _ F92 => ?_
    refine zd (w' := w91) (zg rfl rfl rfl (F92.get (t := 60) rfl)) rfl F92 rfl (.bool false) (y_neI _ _ _ _ rfl (F92.get (t := 63) rfl) rfl Tryz.underlying39 (y_bneF h79)) fun _ F93 => ?_
    clear F92
    refine zd (w' := w91) (zg rfl rfl rfl (F93.get (t := 60) rfl)) rfl F93 rfl (.bool false) (y_neB _ _ rfl (F93.get (t := 62) rfl) (F93.get (t := 64) rfl) rfl) fun _ F94 => ?_
    clear F93
    refine zd (w' := w91) (zc rfl) rfl F94 rfl (.bool false) (run_pick_f rfl (F94.get (t := 60) rfl) (F94.get (t := 65) rfl)) fun _ F95 => ?_
    clear F94
    refine hK77 _ _ ?_
    refine wp_cond_false (F95.get (t := 66) rfl) ?_
    refine wp_skip ?_
    refine hK58 _ _ ?_
    refine zR ?_
    refine rm rfl F95 fun _ F96 => ?_
    refine zd (w' := w91) (zc rfl) rfl F96 rfl (.int .i64 ((jn + 1 : Nat) : Int)) (zua _ _ _ _ rfl (F96.get (t := 31) rfl) rfl (by omega) (by omega)) fun _ F97 => ?_
    clear F96
    refine rm rfl F97 fun _ F98 => ?_
    subst ek50
    exact hK50 _ ⟨(jn + 1), j2, Vb, s75, n75⟩ _ _ (by omega) ⟨rfl, ⟨by omega, hIb, hEb, hfb, hj2, hAb, hab, hbb⟩⟩ (F98.sub ⟨rfl, rfl, rfl, rfl, rfl, rfl, trivial⟩) (M91.sub ⟨rfl, rfl, rfl, trivial⟩)
   ·have hs : ¬ 2 * jn + 2 ≤ kk := fun hc => by rw [if_pos hc] at hzb; exact h79 hzb
    rw [if_neg hs] at hzb
    have hdd : Vb.dd = true := by rw [hdb]; exact decide_eq_true (by omega)
    refine zd (w' := w75) (zc rfl) rfl F78 rfl (.bool false) (y_eqI _ _ _ _ rfl (F78.get (t := 44) rfl) rfl Tryz.underlying39 (y_beqF h79)) fun _ F99 => ?_
    clear F78
    refine rm rfl F99 fun _ F100 => ?_
    refine zd (w' := w75) (zc rfl) rfl F100 rfl (.int .i64 ((2 * jn : Nat) : Int)) (y_mulI _ _ _ _ rfl rfl (F100.get (t := 46) rfl) (by omega) (by omega)) fun _ F101 => ?_
    clear F100
    refine zd (w' := w75) (zc rfl) rfl F101 rfl (.int .i64 ((2 * jn + 2 : Nat) : Int)) (zua _ _ _ _ rfl (F101.get (t := 47) rfl) rfl (by omega) (by omega)) fun _ F102 => ?_
    clear F101
    refine rm rfl F102 fun _ F103 => ?_
    refine zd (w' := w75) (zc rfl) rfl F103 rfl (.bool false) (y_leq _ _ _ _ rfl (F103.get (t := 48) rfl) (F103.get (t := 49) rfl) (decide_eq_false (show ¬ ((2 * jn + 2 : Nat) : Int) ≤ (kk : Int) by omega))) fun _ F104 => ?_
    clear F103
    refine zd (w' := w75) (zc rfl) rfl F104 rfl (.bool false) (y_neB _ _ rfl (F104.get (t := 45) rfl) (F104.get (t := 50) rfl) rfl) fun _ F105 => ?_
    clear F104
    refine rm rfl F105 fun _ F106 => ?_
    refine rm rfl F106 fun _ F107 => ?_
    refine zd (w' := w75) (zg rfl rfl rfl (F107.get (t := 52) rfl)) rfl F107 rfl (.bool true) (y_neI _ _ _ _ rfl (F107.get (t := 53) rfl) rfl Tryz.underlying39 (y_bneT h79)) fun _ F108 => ?_
    clear F107
    refine rm rfl F108 fun _ F109 => ?_
    refine rm rfl F109 fun _ F110 => ?_
    refine zd (w' := w75) (zg rfl rfl rfl (F110.get (t := 55) rfl)) rfl F110 rfl (.bool false) (y_neI _ _ _ _ rfl (F110.get (t := 56) rfl) rfl Tryz.underlying39 (y_bneF hzb)) fun _ F111 => ?_
    clear F110
    refine zA 4 [(58, .bool false), (59, .bool false), (60, .bool false), (61, .pointer (some ⟨g33, 0, none⟩))] [] dnil [] F111 fun _ F112 => ?_
    clear F111
    refine zh (zg rfl rfl rfl (F112.get (t := 60) rfl)) rfl F112 rfl rfl (zE Tryz.func32 rfl) #[.pointer (some ⟨g33, 0, none⟩)] (zw (F112.get (t := 61) rfl)) (zy ((dead_is g33 Vb s75 n75 true hdd w75 (M75.hasV (kg := 1) (kr := 2) rfl rfl (by decide))))) ?_
    rintro _ w113 a113 ⟨rfl, b113⟩ F113
    have M113 := M75.step b113
    refine rm rfl F113 fun _ F114 => ?_
    refine zd (w' := w113) (zg rfl rfl rfl (F114.get (t := 60) rfl)) rfl F114 rfl (.bool true) (y_neI _ _ _ _ rfl (F114.get (t := 63) rfl) rfl Tryz.underlying39 (y_bneT h79)) fun _ F115 => ?_
    clear F114
    refine zd (w' := w113) (zg rfl rfl rfl (F115.get (t := 60) rfl)) rfl F115 rfl (.bool false) (y_neB _ _ rfl (F115.get (t := 62) rfl) (F115.get (t := 64) rfl) rfl) fun _ F116 => ?_
    clear F115
    refine zd (w' := w113) (zc rfl) rfl F116 rfl (.bool false) (run_pick_f rfl (F116.get (t := 60) rfl) (F116.get (t := 65) rfl)) fun _ F117 => ?_
    clear F116
    refine hK77 _ _ ?_
    refine wp_cond_false (F117.get (t := 66) rfl) ?_
    refine wp_skip ?_
    refine hK58 _ _ ?_
    refine zR ?_
    refine rm rfl F117 fun _ F118 => ?_
    refine zd (w' := w113) (zc rfl) rfl F118 rfl (.int .i64 ((jn + 1 : Nat) : Int)) (zua _ _ _ _ rfl (F118.get (t := 31) rfl) rfl (by omega) (by omega)) fun _ F119 => ?_
    clear F118
    refine rm rfl F119 fun _ F120 => ?_
    subst ek50
    exact hK50 _ ⟨(jn + 1), j2, Vb, s75, n75⟩ _ _ (by omega) ⟨rfl, ⟨by omega, hIb, hEb, hfb, hj2, hAb, hab, hbb⟩⟩ (F120.sub ⟨rfl, rfl, rfl, rfl, rfl, rfl, trivial⟩) (M113.sub ⟨rfl, rfl, rfl, trivial⟩)
  ·obtain ⟨bd, hbd⟩ : ∃ b, Vv.dd = b := ⟨_, rfl⟩
   obtain ⟨hE3, hI3, hf3, hd3⟩ := again_is hI (by omega) hE (by decide) (by decide) (fun _ => 0) 0
   have hA3 := acc_age (acc_setl0 (fun _ => 0) hA)
   obtain ⟨V3, hV3⟩ : ∃ x, ageW (setlV Vv (fun _ => 0) 0) = x := ⟨_, rfl⟩
   rw [hV3] at hE3 hI3 hf3 hd3 hA3
   obtain ⟨hz4, -, -, -⟩ := put_done hI3 (by omega) hA3 ro rp hd3 hf3 (plc_room (show jj < 8 by omega) (mS_out (Nat.lt_irrefl _)))
   obtain ⟨V4, hV4⟩ : ∃ x, (putV V3 r).1 = x := ⟨_, rfl⟩
   refine zd (w' := w50) (zc rfl) rfl F55 rfl (.bool false) (y_lss _ _ _ _ rfl (F55.get (t := 27) rfl) (F55.get (t := 29) rfl) (decide_eq_false h56)) fun _ F121 => ?_
   clear F55
   refine hK52 _ _ ?_
   refine wp_cond_false (F121.get (t := 30) rfl) ?_
   refine wp_exit ?_
   simp only [Exit.then, Exit.inBlock, ↓reduceIte, Nat.reduceEqDiff]
   refine hK47 _ _ ?_
   refine zS fun _ hK122 => ?_
   refine zS fun _ hK123 => ?_
   refine zR ?_
   refine rm rfl F121 fun _ F124 => ?_
   refine zh (zc rfl) rfl F124 rfl rfl (zE Tryz.func32 rfl) #[.pointer (some ⟨g33, 0, none⟩)] (zw (F124.get (t := 67) rfl)) (zy ((dead_is g33 Vv sv nv bd hbd w50 (M50.hasV (kg := 1) (kr := 2) rfl rfl (by decide))))) ?_
   rintro _ w125 a125 ⟨rfl, b125⟩ F125
   have M125 := M50.step b125
   refine rm rfl F125 fun _ F126 => ?_
   cases bd
   ·refine zB 12 [(0, .int .i64 a0), (1, .slice A1 n1 cap1), (3, .int .i64 a3), (9, .pointer (some ⟨g33, 0, none⟩)), (10, .int .i64 (kk : Int)), (11, .int .i64 (jn : Int)), (81, .bool false)] [] dnil [] F126 fun _ F127 => ?_
    clear F126
    refine hK123 _ _ ?_
    refine wp_cond_false (F127.get (t := 81) rfl) ?_
    refine wp_skip ?_
    refine hK122 _ _ ?_
    refine zS fun _ hK128 => ?_
    refine zR ?_
    refine rm rfl F127 fun _ F129 => ?_
    refine zh (zc rfl) rfl F129 rfl rfl (zE Tryz.func30 rfl) #[.pointer (some ⟨g33, 0, none⟩), zN] (zca (F129.get (t := 82) rfl) rfl) (again_isV g33 Vv sv nv none 0 0 (fun _ => 0) (Nat.le_refl _) hI (by omega) hE (by decide) (by decide) V3 hV3 w125 (rdI_none _) (fun h => absurd h.1 (Nat.not_lt_zero _)) (M125.rowsV (i := 2) (k := 1) rfl rfl (by decide)) (M125.blk (k := 1) rfl)) ?_
    rintro _ w130 a130 ⟨s130, n130, hr130, ht130, hc130, hg130⟩ F130
    have M130 := M125.vault (kg := 1) (kr := 2) rfl rfl hg130 hc130 hr130 ht130
    clear M125 hg130 hc130 hr130 ht130
    refine hK128 _ _ ?_
    refine zS fun _ hK131 => ?_
    refine zR ?_
    refine rm rfl F130 fun _ F132 => ?_
    refine zh (zc rfl) rfl F132 rfl rfl (zE Tryz.func32 rfl) #[.pointer (some ⟨g33, 0, none⟩)] (zw (F132.get (t := 84) rfl)) (zy ((dead_is g33 V3 s130 n130 false hd3 w130 (M130.hasV (kg := 1) (kr := 2) rfl rfl (by decide))))) ?_
    rintro _ w133 a133 ⟨rfl, b133⟩ F133
    have M133 := M130.step b133
    refine zA 5 [(86, .bool true), (87, .bool true), (88, .pointer (some ⟨g33, 0, none⟩)), (89, .int .i64 a0), (90, .slice A1 n1 cap1)] [] dnil [] F133 fun _ F134 => ?_
    clear F133
    refine zh (zg rfl rfl rfl (F134.get (t := 87) rfl)) rfl F134 rfl rfl (zE Tryz.func21 rfl) #[.int .i64 a0, .slice A1 n1 cap1] (zca (F134.get (t := 89) rfl) (F134.get (t := 90) rfl)) (rec6_is a0 l1 (.slice A1 n1 cap1) ⟨hk0, hl0⟩ (by omega) r hr w133 (M133.isb (k := 0) rfl)) ?_
    rintro _ w135 a135 ⟨U135, rfl, is135, lo135, b135⟩ F135
    have M135 := M133.newRec b135 is135 lo135 3 4
    clear M133 b135 lo135
    refine zh (zg rfl rfl rfl (F135.get (t := 87) rfl)) rfl F135 rfl rfl (zE Tryz.func22 rfl) #[.pointer (some ⟨g33, 0, none⟩), .agg (recA r U135)] (zca (F135.get (t := 88) rfl) (F135.get (t := 91) rfl)) (put_is g33 V3 s130 n130 r (⟨U135.v2, U135.v5⟩) ro hI3 (by omega) V4 0 hV4 hz4 w135 ⟨(M135.isb (k := 3) rfl), (M135.isb (k := 4) rfl)⟩ ⟨(fun h => M135.dis 1 3 _ _ rfl rfl (by decide) rfl _ rfl h), (fun h => M135.dis 1 4 _ _ rfl rfl (by decide) rfl _ rfl h)⟩ (M135.rowsV (i := 2) (k := 1) rfl rfl (by decide)) (M135.blk (k := 1) rfl)) ?_
    rintro _ w136 a136 ⟨rfl, s136, n136, hr136, ht136, hc136, hg136⟩ F136
    have M136 := M135.vault (kg := 1) (kr := 2) rfl rfl hg136 hc136 hr136 ht136
    clear M135 hg136 hc136 hr136 ht136
    refine zA 3 [(93, .bool true), (94, .bool true), (8, .bool true)] [] dnil [] F136 fun _ F137 => ?_
    clear F136
    refine hK131 _ _ ?_
    refine wp_ret ?_
    try simp only [Exit.then, Exit.inBlock, Exit.jump]
    exact bodyPost_ret (res1 rfl (F137.get rfl)) F137.defers ⟨rfl, M136.below⟩
   ·refine rm rfl F126 fun _ F138 => ?_
    refine rm rfl F138 fun _ F139 => ?_
    refine rm rfl F139 fun _ F140 => ?_
    refine zh (zg rfl rfl rfl (F140.get (t := 69) rfl)) rfl F140 rfl rfl (zE Tryz.func21 rfl) #[.int .i64 a0, .slice A1 n1 cap1] (zca (F140.get (t := 71) rfl) (F140.get (t := 72) rfl)) (rec6_is a0 l1 (.slice A1 n1 cap1) ⟨hk0, hl0⟩ (by omega) r hr w125 (M125.isb (k := 0) rfl)) ?_
    rintro _ w141 a141 ⟨U141, rfl, is141, lo141, b141⟩ F141
    have M141 := M125.newRec b141 is141 lo141 3 4
    clear M125 b141 lo141
    refine zh (zg rfl rfl rfl (F141.get (t := 69) rfl)) rfl F141 rfl rfl (zE Tryz.func22 rfl) #[.pointer (some ⟨g33, 0, none⟩), .agg (recA r U141)] (zca (F141.get (t := 70) rfl) (F141.get (t := 73) rfl)) (put_is g33 Vv sv nv r (⟨U141.v2, U141.v5⟩) ro hI (by omega) Vv 10 (by rw [putV_dead hbd]) (by rw [putV_dead hbd]) w141 ⟨(M141.isb (k := 3) rfl), (M141.isb (k := 4) rfl)⟩ ⟨(fun h => M141.dis 1 3 _ _ rfl rfl (by decide) rfl _ rfl h), (fun h => M141.dis 1 4 _ _ rfl rfl (by decide) rfl _ rfl h)⟩ (M141.rowsV (i := 2) (k := 1) rfl rfl (by decide)) (M141.blk (k := 1) rfl)) ?_
    rintro _ w142 a142 ⟨rfl, s142, n142, hr142, ht142, hc142, hg142⟩ F142
    have M142 := M141.vault (kg := 1) (kr := 2) rfl rfl hg142 hc142 hr142 ht142
    clear M141 hg142 hc142 hr142 ht142
    refine zA 3 [(75, .bool false), (76, .bool false), (77, .pointer (some ⟨g33, 0, none⟩))] [] dnil [] F142 fun _ F143 => ?_
    clear F142
    refine zh (zg rfl rfl rfl (F143.get (t := 76) rfl)) rfl F143 rfl rfl (zE Tryz.func27 rfl) #[.pointer (some ⟨g33, 0, none⟩), .string ({ data := #[97] })] (zca (F143.get (t := 77) rfl) rfl) (gone_is g33 Vv s142 n142 ({ data := #[97] }) hI (by omega) Vv 10 (by rw [goneV_dead hbd]) (by rw [goneV_dead hbd]) w142  (M142.rowsV (i := 2) (k := 1) rfl rfl (by decide)) (M142.blk (k := 1) rfl)) ?_
    rintro _ w144 a144 ⟨rfl, s144, n144, hr144, ht144, hc144, hg144⟩ F144
    have M144 := M142.vault (kg := 1) (kr := 2) rfl rfl hg144 hc144 hr144 ht144
    clear M142 hg144 hc144 hr144 ht144
    refine zA 3 [(79, .bool false), (80, .bool false), (81, .bool false)] [] dnil [] F144 fun _ F145 => ?_
    clear F144
    refine hK123 _ _ ?_
    refine wp_cond_false (F145.get (t := 81) rfl) ?_
    refine wp_skip ?_
    refine hK122 _ _ ?_
    refine zS fun _ hK146 => ?_
    refine zR ?_
    refine rm rfl F145 fun _ F147 => ?_
    refine zh (zc rfl) rfl F147 rfl rfl (zE Tryz.func30 rfl) #[.pointer (some ⟨g33, 0, none⟩), zN] (zca (F147.get (t := 82) rfl) rfl) (again_isV g33 Vv s144 n144 none 0 0 (fun _ => 0) (Nat.le_refl _) hI (by omega) hE (by decide) (by decide) V3 hV3 w144 (rdI_none _) (fun h => absurd h.1 (Nat.not_lt_zero _)) (M144.rowsV (i := 2) (k := 1) rfl rfl (by decide)) (M144.blk (k := 1) rfl)) ?_
    rintro _ w148 a148 ⟨s148, n148, hr148, ht148, hc148, hg148⟩ F148
    have M148 := M144.vault (kg := 1) (kr := 2) rfl rfl hg148 hc148 hr148 ht148
    clear M144 hg148 hc148 hr148 ht148
    refine hK146 _ _ ?_
    refine zS fun _ hK149 => ?_
    refine zR ?_
    refine rm rfl F148 fun _ F150 => ?_
    refine zh (zc rfl) rfl F150 rfl rfl (zE Tryz.func32 rfl) #[.pointer (some ⟨g33, 0, none⟩)] (zw (F150.get (t := 84) rfl)) (zy ((dead_is g33 V3 s148 n148 false hd3 w148 (M148.hasV (kg := 1) (kr := 2) rfl rfl (by decide))))) ?_
    rintro _ w151 a151 ⟨rfl, b151⟩ F151
    have M151 := M148.step b151
    refine zA 5 [(86, .bool true), (87, .bool true), (88, .pointer (some ⟨g33, 0, none⟩)), (89, .int .i64 a0), (90, .slice A1 n1 cap1)] [] dnil [] F151 fun _ F152 => ?_
    clear F151
    refine zh (zg rfl rfl rfl (F152.get (t := 87) rfl)) rfl F152 rfl rfl (zE Tryz.func21 rfl) #[.int .i64 a0, .slice A1 n1 cap1] (zca (F152.get (t := 89) rfl) (F152.get (t := 90) rfl)) (rec6_is a0 l1 (.slice A1 n1 cap1) ⟨hk0, hl0⟩ (by omega) r hr w151 (M151.isb (k := 0) rfl)) ?_
    rintro _ w153 a153 ⟨U153, rfl, is153, lo153, b153⟩ F153
    have M153 := M151.newRec b153 is153 lo153 5 6
    clear M151 b153 lo153
    refine zh (zg rfl rfl rfl (F153.get (t := 87) rfl)) rfl F153 rfl rfl (zE Tryz.func22 rfl) #[.pointer (some ⟨g33, 0, none⟩), .agg (recA r U153)] (zca (F153.get (t := 88) rfl) (F153.get (t := 91) rfl)) (put_is g33 V3 s148 n148 r (⟨U153.v2, U153.v5⟩) ro hI3 (by omega) V4 0 hV4 hz4 w153 ⟨(M153.isb (k := 5) rfl), (M153.isb (k := 6) rfl)⟩ ⟨(fun h => M153.dis 1 5 _ _ rfl rfl (by decide) rfl _ rfl h), (fun h => M153.dis 1 6 _ _ rfl rfl (by decide) rfl _ rfl h)⟩ (M153.rowsV (i := 2) (k := 1) rfl rfl (by decide)) (M153.blk (k := 1) rfl)) ?_
    rintro _ w154 a154 ⟨rfl, s154, n154, hr154, ht154, hc154, hg154⟩ F154
    have M154 := M153.vault (kg := 1) (kr := 2) rfl rfl hg154 hc154 hr154 ht154
    clear M153 hg154 hc154 hr154 ht154
    refine zA 3 [(93, .bool true), (94, .bool true), (8, .bool true)] [] dnil [] F154 fun _ F155 => ?_
    clear F154
    refine hK149 _ _ ?_
    refine wp_ret ?_
    try simp only [Exit.then, Exit.inBlock, Exit.jump]
    exact bodyPost_ret (res1 rfl (F155.get rfl)) F155.defers ⟨rfl, M154.below⟩
end Go.Proofs.YtmjbnmbobocpdaaGreat
