/- What VaultEras stands on, part 12. -/
import Derived.Deep.CutRange
import Derived.Test.YtmjbnmbobocpdaaGreatVaultErasP1
import Derived.Test.YtmjbnmbobocpdaaGreatVaultErasP2
import Derived.Test.YtmjbnmbobocpdaaGreatVaultErasP3
import Derived.Test.YtmjbnmbobocpdaaGreatVaultErasP4
import Derived.Test.YtmjbnmbobocpdaaGreatVaultErasP5
import Derived.Test.YtmjbnmbobocpdaaGreatVaultErasP6
import Derived.Test.YtmjbnmbobocpdaaGreatVaultErasP7
import Derived.Test.YtmjbnmbobocpdaaGreatVaultErasP8
import Derived.Test.YtmjbnmbobocpdaaGreatVaultErasP9
import Derived.Test.YtmjbnmbobocpdaaGreatVaultErasP10
import Derived.Test.YtmjbnmbobocpdaaGreatVaultErasP11
set_option maxRecDepth 100000
set_option maxHeartbeats 8000000
set_option linter.unusedVariables false
set_option linter.unusedSimpArgs false
namespace Go.Proofs.YtmjbnmbobocpdaaGreat
open Go.ChangeShapes Go.WideShapes Go.ChangeAt Go.RowKit
theorem VaultEras_walk (A0 : Option Addr) (n0 cap0 : Nat) (x0 : Nat → Int)
  (A1 : Option Addr) (n1 cap1 : Nat) (x1 : Nat → Int)
  (A2 : Option Addr) (n2 cap2 : Nat) (l2 : List UInt8) (hn2 : l2.length = n2) (hc2 : n2 ≤ cap2) (hm2 : cap2 ≤ maxLen) (hz2 : A2 = none → cap2 = 0) (w : World) (hr0 : RdI w A0 n0 x0) (hr1 : RdI w A1 n1 x1) (hr2 : Rd w A2 l2) :
  Calls Tryz.prog 10 #[.slice A0 n0 cap0, .slice A1 n1 cap1, .slice A2 n2 cap2] w fun e w' => e = .returned (.bool true) ∧ Below w.heap.size w w' := by
 have ib2 : IsB w l2 (.slice A2 n2 cap2) := hr2.isB' hn2 hc2 hm2 hz2
 by_cases b0 : 60 < l2.length
 ·refine zi (args := [.slice A0 n0 cap0, .slice A1 n1 cap1, .slice A2 n2 cap2]) 64 Tryz.func10 rfl rfl rfl ?_
  intro fa F
  have M := Mx.start w
  replace M := M.argB 0 ib2 (fun g e => by cases e)
  replace M := M.argI 1 hr0 (fun g e => by cases e)
  replace M := M.argI 2 hr1 (fun g e => by cases e)
  refine zS fun _ hK21 => ?_
  refine zR ?_
  refine rm rfl F fun _ F22 => ?_
  refine hK21 _ _ ?_
  refine zS fun _ hK23 => ?_
  refine zS fun _ hK24 => ?_
  refine zR ?_
  refine zg (zc rfl) rfl F22 rfl rfl (zE Tryz.func13 rfl) #[] (args0) (zz (known6_any w)) ?_
  rintro _ w25 a25 ⟨rfl, b25⟩ F25
  have M25 := M.step b25
  refine zd (w' := w25) (zc rfl) rfl F25 rfl (.bool false) (zub _ _ rfl (F25.get (t := 11) rfl)) fun _ F26 => ?_
  clear F25
  refine hK24 _ _ ?_
  refine wp_cond_false (F26.get (t := 12) rfl) ?_
  refine wp_skip ?_
  refine hK23 _ _ ?_
  refine zS fun _ hK27 => ?_
  refine zS fun _ hK28 => ?_
  refine zR ?_
  refine rm rfl F26 fun _ F29 => ?_
  refine zd (w' := w25) (zc rfl) rfl F29 rfl (.int .i64 (l2.length : Int)) (zmb _ rfl (F29.get (t := 13) rfl) (M25.isb (k := 0) rfl) rfl) fun _ F30 => ?_
  clear F29
  refine zd (w' := w25) (zc rfl) rfl F30 rfl (.bool true) (y_gtr _ _ _ _ rfl (F30.get (t := 14) rfl) rfl (decide_eq_true (show (60 : Int) < (l2.length : Int) by omega))) fun _ F31 => ?_
  clear F30
  refine hK28 _ _ ?_
  refine wp_cond_true (F31.get (t := 15) rfl) ?_
  refine zS fun _ hK32 => ?_
  refine zR ?_
  refine rm rfl F31 fun a33 F33 => ?_
  refine hK32 _ _ ?_
  refine wp_ret ?_
  try simp only [Exit.then, Exit.inBlock, Exit.jump]
  exact bodyPost_ret (res1 rfl (F33.get rfl)) F33.defers ⟨rfl, M25.below⟩
 ·obtain ⟨hE1, hI1, hf1, hd1⟩ := new_is
  have hA1 := acc_new
  obtain ⟨V1, hV1⟩ : ∃ x, ageW zeroV = x := ⟨_, rfl⟩
  rw [hV1] at hE1 hI1 hf1 hd1 hA1
  refine zi (args := [.slice A0 n0 cap0, .slice A1 n1 cap1, .slice A2 n2 cap2]) 64 Tryz.func10 rfl rfl rfl ?_
  intro fa F
  have M := Mx.start w
  replace M := M.argB 0 ib2 (fun g e => by cases e)
  replace M := M.argI 1 hr0 (fun g e => by cases e)
  replace M := M.argI 2 hr1 (fun g e => by cases e)
  refine zS fun _ hK21 => ?_
  refine zR ?_
  refine rm rfl F fun _ F22 => ?_
  refine hK21 _ _ ?_
  refine zS fun _ hK23 => ?_
  refine zS fun _ hK24 => ?_
  refine zR ?_
  refine zg (zc rfl) rfl F22 rfl rfl (zE Tryz.func13 rfl) #[] (args0) (zz (known6_any w)) ?_
  rintro _ w25 a25 ⟨rfl, b25⟩ F25
  have M25 := M.step b25
  refine zd (w' := w25) (zc rfl) rfl F25 rfl (.bool false) (zub _ _ rfl (F25.get (t := 11) rfl)) fun _ F26 => ?_
  clear F25
  refine hK24 _ _ ?_
  refine wp_cond_false (F26.get (t := 12) rfl) ?_
  refine wp_skip ?_
  refine hK23 _ _ ?_
  refine zS fun _ hK27 => ?_
  refine zS fun _ hK28 => ?_
  refine zR ?_
  refine rm rfl F26 fun _ F29 => ?_
  refine zd (w' := w25) (zc rfl) rfl F29 rfl (.int .i64 (l2.length : Int)) (zmb _ rfl (F29.get (t := 13) rfl) (M25.isb (k := 0) rfl) rfl) fun _ F30 => ?_
  clear F29
  refine zd (w' := w25) (zc rfl) rfl F30 rfl (.bool false) (y_gtr _ _ _ _ rfl (F30.get (t := 14) rfl) rfl (decide_eq_false (show ¬ (60 : Int) < (l2.length : Int) by omega))) fun _ F31 => ?_
  clear F30
  refine hK28 _ _ ?_
  refine wp_cond_false (F31.get (t := 15) rfl) ?_
  refine wp_skip ?_
  refine hK27 _ _ ?_
  refine zS fun _ hK32 => ?_
  refine zR ?_
  refine zg (zc rfl) rfl F31 rfl rfl (zE Tryz.func14 rfl) #[] (args0) (vnew_is V1 hV1 w25) ?_
  rintro _ w33 a33 ⟨g33, rfl, hg33, s33, n33, hr33, ht33, hc33, b33⟩ F33
  have M33 := M25.newVault b33 3 4 hg33 hc33 hr33 ht33
  clear M25 b33 hg33 hc33 hr33 ht33
  refine rm rfl F33 fun _ F34 => ?_
  refine hK32 _ _ ?_
  refine zS fun _ hK35 => ?_
  refine zS fun _ hK36 => ?_
  refine zR ?_
  refine rm rfl F34 fun _ F37 => ?_
  refine zd (w' := w33) (zc rfl) rfl F37 rfl (.bool false) (y_eqPN 25 _ Tryz.underlying25 (by kernel_rfl) _ rfl (F37.get (t := 17) rfl)) fun _ F38 => ?_
  clear F37
  refine hK36 _ _ ?_
  refine wp_cond_false (F38.get (t := 18) rfl) ?_
  refine wp_skip ?_
  refine hK35 _ _ ?_
  refine zS fun _ hK39 => ?_
  refine zS fun _ hK40 => ?_
  refine zR ?_
  refine rm rfl F38 fun _ F41 => ?_
  refine hK40 _ _ ?_
  refine wp_block ?_
  refine z5b (α := Nat × VltN × (Nat → Value) × (Nat → Value)) (n := 64) (G := none) (w0 := w) (fun x => [(0, .slice A0 n0 cap0), (1, .slice A1 n1 cap1), (2, .slice A2 n2 cap2), (7, .pointer (some ⟨g33, 0, none⟩)), (8, .int .i64 (x.1 : Int))]) (fun x => [(0, bytR l2 (.slice A2 n2 cap2)), (1, intR A0 n0 x0), (2, intR A1 n1 x1), (3, blkR g33 80 (vltA x.2.1 x.2.2.1 x.2.2.2)), (4, zsb 0 18 x.2.1.c x.2.2.1 x.2.2.2)]) (fun k x => k = (12 - x.1) ∧ (x.1 ≤ 12 ∧ InvV (2 * x.1 + 1) x.2.1 ∧ EraV x.2.1 ((x.1 : Int) + 1))) _ ⟨0, V1, s33, n33⟩ ⟨rfl, ⟨Nat.zero_le _, hI1, (by dsimp only; simpa using hE1)⟩⟩ (F41.sub ⟨rfl, rfl, rfl, rfl, rfl, trivial⟩) (M33.sub ⟨rfl, rfl, rfl, rfl, rfl, trivial⟩) ?_
  clear F41 M33
  rintro k42 ⟨jn, Vv, sv, nv⟩ a42 w42 K42 ⟨ek42, I42⟩ F42 M42 hK42
  replace F42 : Fx 64 a42 [(0, .slice A0 n0 cap0), (1, .slice A1 n1 cap1), (2, .slice A2 n2 cap2), (7, .pointer (some ⟨g33, 0, none⟩)), (8, .int .i64 (jn : Int))] := F42
  replace M42 : Mx _ _ w42 [(0, bytR l2 (.slice A2 n2 cap2)), (1, intR A0 n0 x0), (2, intR A1 n1 x1), (3, blkR g33 80 (vltA Vv sv nv)), (4, zsb 0 18 Vv.c sv nv)] := M42
  replace I42 : jn ≤ 12 ∧ InvV (2 * jn + 1) Vv ∧ EraV Vv ((jn : Int) + 1) := I42
  replace ek42 : k42 = (12 - jn) := ek42
  obtain ⟨hj, hI, hE⟩ := I42
  refine zS fun _ hK43 => ?_
  refine zS fun _ hK44 => ?_
  refine zR ?_
  refine rm rfl F42 fun _ F45 => ?_
  refine rm rfl F45 fun _ F46 => ?_
  refine zd (w' := w42) (zc rfl) rfl F46 rfl (.int .i64 (n0 : Int)) (y_lnG 22 Tryz.underlying22 _ rfl (F46.get (t := 20) rfl) rfl) fun _ F47 => ?_
  clear F46
  by_cases h48 : (jn : Int) < (n0 : Int)
  ·refine zd (w' := w42) (zc rfl) rfl F47 rfl (.bool true) (zob _ _ _ _ rfl (F47.get (t := 19) rfl) (F47.get (t := 21) rfl) (decide_eq_true h48)) fun _ F49 => ?_
   clear F47
   refine rm rfl F49 fun _ F50 => ?_
   refine rm rfl F50 fun _ F51 => ?_
   by_cases h52 : (jn : Int) < 12
   ·have xb := hr0.2.1 jn
    obtain ⟨m, hm, hml⟩ : ∃ k : Nat, (x0 jn) % 1048576 = (k : Int) ∧ k < 1048576 := in6 _ (by decide)
    obtain ⟨r, hr⟩ : ∃ r, recK (m : Int) l2 (((m : Int).tdiv 23) % 10).toNat = r := ⟨_, rfl⟩
    obtain ⟨ro, rp⟩ := rec6_ok _ _ hr
    obtain ⟨Va, hVa⟩ : ∃ x, failV Vv ((m % 3 : Nat) : Int) = x := ⟨_, rfl⟩
    obtain ⟨hIa, hEa⟩ := fail_keep ((m % 3 : Nat) : Int) hI hE
    rw [hVa] at hIa hEa
    obtain ⟨hIb, hEb⟩ := put_keep hIa (by omega) hEa r
    obtain ⟨Vb, hVb⟩ : ∃ x, (putV Va r).1 = x := ⟨_, rfl⟩
    obtain ⟨zb, hzb⟩ : ∃ x, (putV Va r).2 = x := ⟨_, rfl⟩
    rw [hVb] at hIb hEb
    refine zd (w' := w42) (zh rfl rfl rfl (F51.get (t := 23) rfl)) rfl F51 rfl (.bool true) (zob _ _ _ _ rfl (F51.get (t := 24) rfl) rfl (decide_eq_true h52)) fun _ F53 => ?_
    clear F51
    refine zd (w' := w42) (zc rfl) rfl F53 rfl (.bool true) (zib rfl (F53.get (t := 23) rfl) (F53.get (t := 25) rfl)) fun _ F54 => ?_
    clear F53
    refine hK44 _ _ ?_
    refine wp_cond_true (F54.get (t := 26) rfl) ?_
    refine wp_skip ?_
    refine hK43 _ _ ?_
    refine zS fun _ hK55 => ?_
    refine wp_block ?_
    refine zS fun _ hK56 => ?_
    refine zR ?_
    refine rm rfl F54 fun _ F57 => ?_
    refine rm rfl F57 fun _ F58 => ?_
    refine zd (w' := w42) (zc rfl) rfl F58 rfl ((ixV (.slice A0 n0 cap0) jn)) (y_ixJ _ _ rfl (F58.get (t := 29) rfl) (M42.rdI (k := 1) rfl) (F58.get (t := 30) rfl) rfl (by omega)) fun _ F59 => ?_
    clear F58
    refine zd (w' := w42) (zc rfl) rfl F59 rfl (.int .i64 (x0 jn)) (y_ldJ _ rfl (F59.get (t := 31) rfl) (M42.rdI (k := 1) rfl) (by omega)) fun _ F60 => ?_
    clear F59
    refine zg (zc rfl) rfl F60 rfl rfl (zE Tryz.func17 rfl) #[.int .i64 (x0 jn), .int .i64 1048576] (zka (F60.get (t := 32) rfl) rfl) (zz ((hm ▸ within6_any (x0 jn) 1048576 (by decide) (by decide) xb.1 xb.2 w42))) ?_
    rintro _ w61 a61 ⟨rfl, rfl⟩ F61
    refine rm rfl F61 fun _ F62 => ?_
    refine hK56 _ _ ?_
    refine zS fun _ hK63 => ?_
    refine zR ?_
    refine rm rfl F62 fun _ F64 => ?_
    refine rm rfl F64 fun _ F65 => ?_
    refine zd (w' := w42) (zc rfl) rfl F65 rfl (.int .i64 ((m % 3 : Nat) : Int)) (y_remI _ _ _ _ rfl (F65.get (t := 35) rfl) rfl (by omega) (by omega) (by omega)) fun _ F66 => ?_
    clear F65
    refine zg (zc rfl) rfl F66 rfl rfl (zE Tryz.func19 rfl) #[.pointer (some ⟨g33, 0, none⟩), .int .i64 ((m % 3 : Nat) : Int)] (zka (F66.get (t := 34) rfl) (F66.get (t := 36) rfl)) (fail_is g33 Vv sv nv ((m % 3 : Nat) : Int) Va hVa w42  (M42.rowsV (i := 4) (k := 3) rfl rfl (by decide)) (M42.blk (k := 3) rfl)) ?_
    rintro _ w67 a67 ⟨s67, n67, hr67, ht67, hc67, hg67⟩ F67
    have M67 := M42.vault (kg := 3) (kr := 4) rfl rfl hg67 hc67 hr67 ht67
    clear M42 hg67 hc67 hr67 ht67
    refine hK63 _ _ ?_
    refine zS fun _ hK68 => ?_
    refine zR ?_
    refine rm rfl F67 fun _ F69 => ?_
    refine rm rfl F69 fun _ F70 => ?_
    refine rm rfl F70 fun _ F71 => ?_
    refine zg (zc rfl) rfl F71 rfl rfl (zE Tryz.func21 rfl) #[.int .i64 (m : Int), .slice A2 n2 cap2] (zka (F71.get (t := 39) rfl) (F71.get (t := 40) rfl)) (rec6_is (m : Int) l2 (.slice A2 n2 cap2) ⟨by omega, by omega⟩ (by omega) r hr w67 (M67.isb (k := 0) rfl)) ?_
    rintro _ w72 a72 ⟨U72, rfl, is72, lo72, b72⟩ F72
    have M72 := M67.newRec b72 is72 lo72 5 6
    clear M67 b72 lo72
    refine zg (zc rfl) rfl F72 rfl rfl (zE Tryz.func22 rfl) #[.pointer (some ⟨g33, 0, none⟩), .agg (recA r U72)] (zka (F72.get (t := 38) rfl) (F72.get (t := 41) rfl)) (put_is g33 Va s67 n67 r U72 ro hIa (by omega) Vb zb hVb hzb w72 ⟨(M72.isb (k := 5) rfl), (M72.isb (k := 6) rfl)⟩ ⟨(fun h => M72.dis 3 5 _ _ rfl rfl (by decide) rfl _ rfl h), (fun h => M72.dis 3 6 _ _ rfl rfl (by decide) rfl _ rfl h)⟩ (M72.rowsV (i := 4) (k := 3) rfl rfl (by decide)) (M72.blk (k := 3) rfl)) ?_
    rintro _ w73 a73 ⟨rfl, s73, n73, hr73, ht73, hc73, hg73⟩ F73
    have M73 := M72.vault (kg := 3) (kr := 4) rfl rfl hg73 hc73 hr73 ht73
    clear M72 hg73 hc73 hr73 ht73
    refine hK68 _ _ ?_
    refine zS fun _ hK74 => ?_
    refine zR ?_
    refine rm rfl F73 fun _ F75 => ?_
    refine hK74 _ _ ?_
    refine zS fun _ hK76 => ?_
    refine zS fun _ hK77 => ?_
    refine zR ?_
    refine rm rfl F75 fun _ F78 => ?_
    refine rm rfl F78 fun _ F79 => ?_
    refine zd (w' := w73) (zc rfl) rfl F79 rfl (.int .i64 (n1 : Int)) (y_lnG 22 Tryz.underlying22 _ rfl (F79.get (t := 44) rfl) rfl) fun _ F80 => ?_
    clear F79
    by_cases h81 : (jn : Int) < (n1 : Int)
    ·have yb := hr1.2.1 jn
     refine zd (w' := w73) (zc rfl) rfl F80 rfl (.bool true) (zob _ _ _ _ rfl (F80.get (t := 43) rfl) (F80.get (t := 45) rfl) (decide_eq_true h81)) fun _ F82 => ?_
     clear F80
     refine hK77 _ _ ?_
     refine wp_cond_true (F82.get (t := 46) rfl) ?_
     refine zR ?_
     refine rm rfl F82 fun _ F83 => ?_
     refine rm rfl F83 fun _ F84 => ?_
     refine zd (w' := w73) (zc rfl) rfl F84 rfl ((ixV (.slice A1 n1 cap1) jn)) (y_ixJ _ _ rfl (F84.get (t := 47) rfl) (M73.rdI (k := 2) rfl) (F84.get (t := 48) rfl) rfl (by omega)) fun _ F85 => ?_
     clear F84
     refine zd (w' := w73) (zc rfl) rfl F85 rfl (.int .i64 (x1 jn)) (y_ldJ _ rfl (F85.get (t := 49) rfl) (M73.rdI (k := 2) rfl) (by omega)) fun _ F86 => ?_
     clear F85
     refine rm rfl F86 fun _ F87 => ?_
     refine hK76 _ _ ?_
     refine zS fun _ hK88 => ?_
     refine zR ?_
     refine rm rfl F87 fun _ F89 => ?_
     refine rm rfl F89 fun _ F90 => ?_
     refine wl_allocS (zc rfl) rfl F90 rfl M73 7 (t := 3) (c := #[.int .i64 (x1 jn)]) (k := 1) (m := 1) (y_litG 22 3 (s := 1) (zv := .int .i64 0) Tryz.underlying22 (by kernel_rfl) (by kernel_rfl) rfl (#[.int .i64 (x1 jn)]) (by decide) (by decide) (by simp only [List.map_toArray, List.map_cons, List.map_nil, (F90.get (t := 52) rfl)]; kernel_rfl)) ?_
     intro g91 a91 w91 F91 M91
     clear F90 M73
     obtain ⟨hE92, hI92, -, hd92⟩ := again_is hIb (by omega) hEb (by omega) (by omega) (fun _ => (x1 jn)) 1
     obtain ⟨Vc, hVc⟩ : ∃ x, ageW (setlV Vb (fun _ => (x1 jn)) 1) = x := ⟨_, rfl⟩
     rw [hVc] at hE92 hI92 hd92
     rw [show (jn : Int) + 1 + 1 = (jn : Int) + 2 by omega] at hE92
     refine zg (zc rfl) rfl F91 rfl rfl (zE Tryz.func30 rfl) #[.pointer (some ⟨g33, 0, none⟩), .slice (some ⟨g91, 0, none⟩) 1 1] (zka (F91.get (t := 51) rfl) (F91.get (t := 53) rfl)) (again_isV g33 Vb s73 n73 (some ⟨g91, 0, none⟩) 1 1 (fun _ => (x1 jn)) (Nat.le_refl _) hIb (by omega) hEb (by omega) (by omega) Vc hVc w91 (rdI_one (M91.blk (k := 7) rfl) yb) (fun h => M91.dis 3 7 _ _ rfl rfl (by decide) rfl _ rfl (ifp_lit h)) (M91.rowsV (i := 4) (k := 3) rfl rfl (by decide)) (M91.blk (k := 3) rfl)) ?_
     rintro _ w93 a93 ⟨s93, n93, hr93, ht93, hc93, hg93⟩ F93
     have M93 := M91.vault (kg := 3) (kr := 4) rfl rfl hg93 hc93 hr93 ht93
     clear M91 hg93 hc93 hr93 ht93
     refine hK88 _ _ ?_
     refine zS fun _ hK94 => ?_
     refine zR ?_
     refine rm rfl F93 fun _ F95 => ?_
     refine zg (zc rfl) rfl F95 rfl rfl (zE Tryz.func26 rfl) #[.pointer (some ⟨g33, 0, none⟩)] (zw (F95.get (t := 55) rfl)) (zz ((boot_is g33 Vc s93 n93 hI92 hE92 w93 (M93.hasV (kg := 3) (kr := 4) rfl rfl (by decide))))) ?_
     rintro _ w96 a96 ⟨rfl, b96⟩ F96
     have M96 := M93.step b96
     refine rm rfl F96 fun _ F97 => ?_
     refine zd (w' := w96) (zc rfl) rfl F97 rfl (.int .i64 ((jn : Int) + 2)) (zta _ _ _ _ rfl (F97.get (t := 57) rfl) rfl rfl (by omega)) fun _ F98 => ?_
     clear F97
     refine zd (w' := w96) (zc rfl) rfl F98 rfl (.bool false) (y_neI _ _ _ _ rfl (F98.get (t := 56) rfl) (F98.get (t := 58) rfl) Tryz.underlying3 (y_bneF rfl)) fun _ F99 => ?_
     clear F98
     refine rm rfl F99 fun _ F100 => ?_
     refine rm rfl F100 fun _ F101 => ?_
     refine zg (zh rfl rfl rfl (F101.get (t := 60) rfl)) rfl F101 rfl rfl (zE Tryz.func32 rfl) #[.pointer (some ⟨g33, 0, none⟩)] (zw (F101.get (t := 61) rfl)) (zz ((dead_is g33 Vc s93 n93 false hd92 w96 (M96.hasV (kg := 3) (kr := 4) rfl rfl (by decide))))) ?_
     rintro _ w102 a102 ⟨rfl, b102⟩ F102
     have M102 := M96.step b102
     refine zd (w' := w102) (zc rfl) rfl F102 rfl (.bool false) (run_pick_f rfl (F102.get (t := 60) rfl) (F102.get (t := 62) rfl)) fun _ F103 => ?_
     clear F102
     refine hK94 _ _ ?_
     refine wp_cond_false (F103.get (t := 63) rfl) ?_
     refine wp_skip ?_
     refine hK55 _ _ ?_
     refine zR ?_
     refine rm rfl F103 fun _ F104 => ?_
     refine zd (w' := w102) (zc rfl) rfl F104 rfl (.int .i64 ((jn + 1 : Nat) : Int)) (zta _ _ _ _ rfl (F104.get (t := 27) rfl) rfl (by omega) (by omega)) fun _ F105 => ?_
     clear F104
     refine rm rfl F105 fun _ F106 => ?_
     subst ek42
     exact hK42 _ ⟨(jn + 1), Vc, s93, n93⟩ _ _ (by omega) ⟨rfl, ⟨by omega, hI92.mono (by omega), by have := hE92; rwa [show (jn : Int) + 2 = ((jn + 1 : Nat) : Int) + 1 by omega] at this⟩⟩ (F106.sub ⟨rfl, rfl, rfl, rfl, rfl, trivial⟩) (M102.sub ⟨rfl, rfl, rfl, rfl, rfl, trivial⟩)
    ·refine zd (w' := w73) (zc rfl) rfl F80 rfl (.bool false) (zob _ _ _ _ rfl (F80.get (t := 43) rfl) (F80.get (t := 45) rfl) (decide_eq_false h81)) fun _ F107 => ?_
     clear F80
     refine hK77 _ _ ?_
     refine wp_cond_false (F107.get (t := 46) rfl) ?_
     refine wp_skip ?_
     refine hK76 _ _ ?_
     refine zS fun _ hK108 => ?_
     refine zR ?_
     refine rm rfl F107 fun _ F109 => ?_
     refine rm rfl F109 fun _ F110 => ?_
     refine wl_allocS (zc rfl) rfl F110 rfl M73 7 (t := 3) (c := #[.int .i64 0]) (k := 1) (m := 1) (y_litG 22 3 (s := 1) (zv := .int .i64 0) Tryz.underlying22 (by kernel_rfl) (by kernel_rfl) rfl (#[.int .i64 0]) (by decide) (by decide) (by simp only [List.map_toArray, List.map_cons, List.map_nil, (F110.get (t := 52) rfl)]; kernel_rfl)) ?_
     intro g111 a111 w111 F111 M111
     clear F110 M73
     obtain ⟨hE112, hI112, -, hd112⟩ := again_is hIb (by omega) hEb (by omega) (by omega) (fun _ => 0) 1
     obtain ⟨Vc, hVc⟩ : ∃ x, ageW (setlV Vb (fun _ => 0) 1) = x := ⟨_, rfl⟩
     rw [hVc] at hE112 hI112 hd112
     rw [show (jn : Int) + 1 + 1 = (jn : Int) + 2 by omega] at hE112
     refine zg (zc rfl) rfl F111 rfl rfl (zE Tryz.func30 rfl) #[.pointer (some ⟨g33, 0, none⟩), .slice (some ⟨g111, 0, none⟩) 1 1] (zka (F111.get (t := 51) rfl) (F111.get (t := 53) rfl)) (again_isV g33 Vb s73 n73 (some ⟨g111, 0, none⟩) 1 1 (fun _ => 0) (Nat.le_refl _) hIb (by omega) hEb (by omega) (by omega) Vc hVc w111 (rdI_one (M111.blk (k := 7) rfl) (by decide)) (fun h => M111.dis 3 7 _ _ rfl rfl (by decide) rfl _ rfl (ifp_lit h)) (M111.rowsV (i := 4) (k := 3) rfl rfl (by decide)) (M111.blk (k := 3) rfl)) ?_
     rintro _ w113 a113 ⟨s113, n113, hr113, ht113, hc113, hg113⟩ F113
     have M113 := M111.vault (kg := 3) (kr := 4) rfl rfl hg113 hc113 hr113 ht113
     clear M111 hg113 hc113 hr113 ht113
     refine hK108 _ _ ?_
     refine zS fun _ hK114 => ?_
     refine zR ?_
     refine rm rfl F113 fun _ F115 => ?_
     refine zg (zc rfl) rfl F115 rfl rfl (zE Tryz.func26 rfl) #[.pointer (some ⟨g33, 0, none⟩)] (zw (F115.get (t := 55) rfl)) (zz ((boot_is g33 Vc s113 n113 hI112 hE112 w113 (M113.hasV (kg := 3) (kr := 4) rfl rfl (by decide))))) ?_
     rintro _ w116 a116 ⟨rfl, b116⟩ F116
     have M116 := M113.step b116
     refine rm rfl F116 fun _ F117 => ?_
     refine zd (w' := w116) (zc rfl) rfl F117 rfl (.int .i64 ((jn : Int) + 2)) (zta _ _ _ _ rfl (F117.get (t := 57) rfl) rfl rfl (by omega)) fun _ F118 => ?_
     clear F117
     refine zd (w' := w116) (zc rfl) rfl F118 rfl (.bool false) (y_neI _ _ _ _ rfl (F118.get (t := 56) rfl) (F118.get (t := 58) rfl) Tryz.underlying3 (y_bneF rfl)) fun _ F119 => ?_
     clear F118
     refine rm rfl F119 fun _ F120 => ?_
     refine rm rfl F120 fun _ F121 => ?_
     refine zg (zh rfl rfl rfl (F121.get (t := 60) rfl)) rfl F121 rfl rfl (zE Tryz.func32 rfl) #[.pointer (some ⟨g33, 0, none⟩)] (zw (F121.get (t := 61) rfl)) (zz ((dead_is g33 Vc s113 n113 false hd112 w116 (M116.hasV (kg := 3) (kr := 4) rfl rfl (by decide))))) ?_
     rintro _ w122 a122 ⟨rfl, b122⟩ F122
     have M122 := M116.step b122
     refine zd (w' := w122) (zc rfl) rfl F122 rfl (.bool false) (run_pick_f rfl (F122.get (t := 60) rfl) (F122.get (t := 62) rfl)) fun _ F123 => ?_
     clear F122
     refine hK114 _ _ ?_
     refine wp_cond_false (F123.get (t := 63) rfl) ?_
     refine wp_skip ?_
     refine hK55 _ _ ?_
     refine zR ?_
     refine rm rfl F123 fun _ F124 => ?_
     refine zd (w' := w122) (zc rfl) rfl F124 rfl (.int .i64 ((jn + 1 : Nat) : Int)) (zta _ _ _ _ rfl (F124.get (t := 27) rfl) rfl (by omega) (by omega)) fun _ F125 => ?_
     clear F124
     refine rm rfl F125 fun _ F126 => ?_
     subst ek42
     exact hK42 _ ⟨(jn + 1), Vc, s113, n113⟩ _ _ (by omega) ⟨rfl, ⟨by omega, hI112.mono (by omega), by have := hE112; rwa [show (jn : Int) + 2 = ((jn + 1 : Nat) : Int) + 1 by omega] at this⟩⟩ (F126.sub ⟨rfl, rfl, rfl, rfl, rfl, trivial⟩) (M122.sub ⟨rfl, rfl, rfl, rfl, rfl, trivial⟩)
   ·refine zd (w' := w42) (zh rfl rfl rfl (F51.get (t := 23) rfl)) rfl F51 rfl (.bool false) (zob _ _ _ _ rfl (F51.get (t := 24) rfl) rfl (decide_eq_false h52)) fun _ F127 => ?_
    clear F51
    refine zd (w' := w42) (zc rfl) rfl F127 rfl (.bool false) (zib rfl (F127.get (t := 23) rfl) (F127.get (t := 25) rfl)) fun _ F128 => ?_
    clear F127
    refine hK44 _ _ ?_
    refine wp_cond_false (F128.get (t := 26) rfl) ?_
    refine wp_exit ?_
    simp only [Exit.then, Exit.inBlock, ↓reduceIte, Nat.reduceEqDiff]
    refine hK39 _ _ ?_
    refine zS fun _ hK129 => ?_
    refine zR ?_
    refine rm rfl F128 fun _ F130 => ?_
    refine hK129 _ _ ?_
    refine wp_ret ?_
    try simp only [Exit.then, Exit.inBlock, Exit.jump]
    exact bodyPost_ret (res1 rfl (F130.get rfl)) F130.defers ⟨rfl, M42.below⟩
  ·refine zd (w' := w42) (zc rfl) rfl F47 rfl (.bool false) (zob _ _ _ _ rfl (F47.get (t := 19) rfl) (F47.get (t := 21) rfl) (decide_eq_false h48)) fun _ F131 => ?_
   clear F47
   refine zA 4 [(23, .bool false), (24, undef), (25, undef), (26, .bool false)] [] dnil [] F131 fun _ F132 => ?_
   clear F131
   refine hK44 _ _ ?_
   refine wp_cond_false (F132.get (t := 26) rfl) ?_
   refine wp_exit ?_
   simp only [Exit.then, Exit.inBlock, ↓reduceIte, Nat.reduceEqDiff]
   refine hK39 _ _ ?_
   refine zS fun _ hK133 => ?_
   refine zR ?_
   refine rm rfl F132 fun _ F134 => ?_
   refine hK133 _ _ ?_
   refine wp_ret ?_
   try simp only [Exit.then, Exit.inBlock, Exit.jump]
   exact bodyPost_ret (res1 rfl (F134.get rfl)) F134.defers ⟨rfl, M42.below⟩
end Go.Proofs.YtmjbnmbobocpdaaGreat
