/- What VaultFull stands on, part 12. -/
import Derived.Deep.CutRange
import Derived.Test.YtmjbnmbobocpdaaGreatVaultFullP1
import Derived.Test.YtmjbnmbobocpdaaGreatVaultFullP2
import Derived.Test.YtmjbnmbobocpdaaGreatVaultFullP3
import Derived.Test.YtmjbnmbobocpdaaGreatVaultFullP4
import Derived.Test.YtmjbnmbobocpdaaGreatVaultFullP5
import Derived.Test.YtmjbnmbobocpdaaGreatVaultFullP6
import Derived.Test.YtmjbnmbobocpdaaGreatVaultFullP7
import Derived.Test.YtmjbnmbobocpdaaGreatVaultFullP8
import Derived.Test.YtmjbnmbobocpdaaGreatVaultFullP9
import Derived.Test.YtmjbnmbobocpdaaGreatVaultFullP10
import Derived.Test.YtmjbnmbobocpdaaGreatVaultFullP11
set_option maxRecDepth 100000
set_option maxHeartbeats 8000000
set_option linter.unusedVariables false
set_option linter.unusedSimpArgs false
namespace Go.Proofs.YtmjbnmbobocpdaaGreat
open Go.ChangeShapes Go.WideShapes Go.ChangeAt Go.RowKit
theorem new_ok : NameOk ({ data := #[110, 101, 119] } : ByteArray) := by
  refine ⟨by decide, by decide, fun i h => ?_⟩
  have h3 : i < 3 := h
  have : i = 0 ∨ i = 1 ∨ i = 2 := by omega
  rcases this with rfl | rfl | rfl
  · exact (show (33 : Int) ≤ ((110 : UInt8).toNat : Int) ∧ ((110 : UInt8).toNat : Int) ≤ 126 by decide)
  · exact (show (33 : Int) ≤ ((101 : UInt8).toNat : Int) ∧ ((101 : UInt8).toNat : Int) ≤ 126 by decide)
  · exact (show (33 : Int) ≤ ((119 : UInt8).toNat : Int) ∧ ((119 : UInt8).toNat : Int) ≤ 126 by decide)
theorem VaultFull_walk (a0 : Int) (hk0 : -9223372036854775808 ≤ a0) (hl0 : a0 < 9223372036854775808)
  (A1 : Option Addr) (n1 cap1 : Nat) (l1 : List UInt8) (hn1 : l1.length = n1) (hc1 : n1 ≤ cap1) (hm1 : cap1 ≤ maxLen) (hz1 : A1 = none → cap1 = 0)
  (a2 : Int) (hk2 : -9223372036854775808 ≤ a2) (hl2 : a2 < 9223372036854775808) (w : World) (hr1 : Rd w A1 l1) :
  Calls Tryz.prog 6 #[.int .i64 a0, .slice A1 n1 cap1, .int .i64 a2] w fun e w' => e = .returned (.bool true) ∧ Below w.heap.size w w' := by
 have ib1 : IsB w l1 (.slice A1 n1 cap1) := hr1.isB' hn1 hc1 hm1 hz1
 by_cases b0 : 60 < l1.length
 ·refine zj (args := [.int .i64 a0, .slice A1 n1 cap1, .int .i64 a2]) 107 Tryz.func6 rfl rfl rfl ?_
  intro fa F
  have M := Mx.start w
  replace M := M.argB 0 ib1 (fun g e => by cases e)
  refine zS fun _ hK21 => ?_
  refine zR ?_
  refine rm rfl F fun _ F22 => ?_
  refine hK21 _ _ ?_
  refine zS fun _ hK23 => ?_
  refine zS fun _ hK24 => ?_
  refine zR ?_
  refine zh (zc rfl) rfl F22 rfl rfl (zE Tryz.func13 rfl) #[] (args0) (zda (known6_any w)) ?_
  rintro _ w25 a25 ⟨rfl, b25⟩ F25
  have M25 := M.step b25
  refine zd (w' := w25) (zc rfl) rfl F25 rfl (.bool false) (zub _ _ rfl (F25.get (t := 13) rfl)) fun _ F26 => ?_
  clear F25
  refine hK24 _ _ ?_
  refine wp_cond_false (F26.get (t := 14) rfl) ?_
  refine wp_skip ?_
  refine hK23 _ _ ?_
  refine zS fun _ hK27 => ?_
  refine zS fun _ hK28 => ?_
  refine zR ?_
  refine rm rfl F26 fun _ F29 => ?_
  refine zd (w' := w25) (zc rfl) rfl F29 rfl (.int .i64 (l1.length : Int)) (zkb _ rfl (F29.get (t := 15) rfl) (M25.isb (k := 0) rfl) rfl) fun _ F30 => ?_
  clear F29
  refine zd (w' := w25) (zc rfl) rfl F30 rfl (.bool true) (y_gtr _ _ _ _ rfl (F30.get (t := 16) rfl) rfl (decide_eq_true (show (60 : Int) < (l1.length : Int) by omega))) fun _ F31 => ?_
  clear F30
  refine hK28 _ _ ?_
  refine wp_cond_true (F31.get (t := 17) rfl) ?_
  refine zS fun _ hK32 => ?_
  refine zR ?_
  refine rm rfl F31 fun a33 F33 => ?_
  refine hK32 _ _ ?_
  refine wp_ret ?_
  try simp only [Exit.then, Exit.inBlock, Exit.jump]
  exact bodyPost_ret (res1 rfl (F33.get rfl)) F33.defers ⟨rfl, M25.below⟩
 ·obtain ⟨hE1, hI1, hf1, hd1⟩ := new_is
  have hA1 := acc_new
  obtain ⟨V1, hV1⟩ : ∃ x, ageW zeroV = x := ⟨_, rfl⟩
  rw [hV1] at hE1 hI1 hf1 hd1 hA1
  obtain ⟨kk, hkk, hkkl⟩ : ∃ k : Nat, a0 % 11 = (k : Int) ∧ k < 11 := in6 _ (by decide)
  obtain ⟨oo, hoo, hool⟩ : ∃ k : Nat, a2 % 8 = (k : Int) ∧ k < 8 := in6 _ (by decide)
  obtain ⟨r, hr⟩ : ∃ r, recK a0 l1 ((a0.tdiv 23) % 10).toNat = r := ⟨_, rfl⟩
  obtain ⟨ror, prr⟩ := setN_ok hr (show oo < 10 by omega)
  obtain ⟨ror2, prr2⟩ := setS_ok ror prr new_ok
  obtain ⟨fr, hfr⟩ : ∃ fr : Nat → RecN, ∀ j : Nat, recK (IntKind.i64.wrap (a0 + (j : Int))) l1 (((IntKind.i64.wrap (a0 + (j : Int))).tdiv 23) % 10).toNat = fr j := ⟨_, fun _ => rfl⟩
  obtain ⟨f, hff⟩ : ∃ f : Nat → RecN, ∀ j, setN (fr j) j = f j := ⟨_, fun _ => rfl⟩
  have hfn : ∀ j, (f j).s = nmK j := fun j => by rw [← hff]; rfl
  have hro : ∀ j, j < 10 → RecOk (f j) ∧ zaa (f j) = true := fun j hj => by rw [← hff]; exact setN_ok (hfr j) hj
  refine zj (args := [.int .i64 a0, .slice A1 n1 cap1, .int .i64 a2]) 107 Tryz.func6 rfl rfl rfl ?_
  intro fa F
  have M := Mx.start w
  replace M := M.argB 0 ib1 (fun g e => by cases e)
  refine zS fun _ hK21 => ?_
  refine zR ?_
  refine rm rfl F fun _ F22 => ?_
  refine hK21 _ _ ?_
  refine zS fun _ hK23 => ?_
  refine zS fun _ hK24 => ?_
  refine zR ?_
  refine zh (zc rfl) rfl F22 rfl rfl (zE Tryz.func13 rfl) #[] (args0) (zda (known6_any w)) ?_
  rintro _ w25 a25 ⟨rfl, b25⟩ F25
  have M25 := M.step b25
  refine zd (w' := w25) (zc rfl) rfl F25 rfl (.bool false) (zub _ _ rfl (F25.get (t := 13) rfl)) fun _ F26 => ?_
  clear F25
  refine hK24 _ _ ?_
  refine wp_cond_false (F26.get (t := 14) rfl) ?_
  refine wp_skip ?_
  refine hK23 _ _ ?_
  refine zS fun _ hK27 => ?_
  refine zS fun _ hK28 => ?_
  refine zR ?_
  refine rm rfl F26 fun _ F29 => ?_
  refine zd (w' := w25) (zc rfl) rfl F29 rfl (.int .i64 (l1.length : Int)) (zkb _ rfl (F29.get (t := 15) rfl) (M25.isb (k := 0) rfl) rfl) fun _ F30 => ?_
  clear F29
  refine zd (w' := w25) (zc rfl) rfl F30 rfl (.bool false) (y_gtr _ _ _ _ rfl (F30.get (t := 16) rfl) rfl (decide_eq_false (show ¬ (60 : Int) < (l1.length : Int) by omega))) fun _ F31 => ?_
  clear F30
  refine hK28 _ _ ?_
  refine wp_cond_false (F31.get (t := 17) rfl) ?_
  refine wp_skip ?_
  refine hK27 _ _ ?_
  refine zS fun _ hK32 => ?_
  refine zR ?_
  refine zh (zc rfl) rfl F31 rfl rfl (zE Tryz.func14 rfl) #[] (args0) (vnew_is V1 hV1 w25) ?_
  rintro _ w33 a33 ⟨g33, rfl, hg33, s33, n33, hr33, ht33, hc33, b33⟩ F33
  have M33 := M25.newVault b33 1 2 hg33 hc33 hr33 ht33
  clear M25 b33 hg33 hc33 hr33 ht33
  refine rm rfl F33 fun _ F34 => ?_
  refine hK32 _ _ ?_
  refine zS fun _ hK35 => ?_
  refine zS fun _ hK36 => ?_
  refine zR ?_
  refine rm rfl F34 fun _ F37 => ?_
  refine zd (w' := w33) (zc rfl) rfl F37 rfl (.bool false) (y_eqPN 25 _ Tryz.underlying25 (by kernel_rfl) _ rfl (F37.get (t := 19) rfl)) fun _ F38 => ?_
  clear F37
  refine hK36 _ _ ?_
  refine wp_cond_false (F38.get (t := 20) rfl) ?_
  refine wp_skip ?_
  refine hK35 _ _ ?_
  refine zS fun _ hK39 => ?_
  refine zR ?_
  refine rm rfl F38 fun _ F40 => ?_
  refine zh (zc rfl) rfl F40 rfl rfl (zE Tryz.func17 rfl) #[.int .i64 a0, .int .i64 11] (zja (F40.get (t := 21) rfl) rfl) (zda ((hkk ▸ within6_any a0 11 (by decide) (by decide) hk0 hl0 w33))) ?_
  rintro _ w41 a41 ⟨rfl, rfl⟩ F41
  refine rm rfl F41 fun _ F42 => ?_
  refine hK39 _ _ ?_
  refine zS fun _ hK43 => ?_
  refine zS fun _ hK44 => ?_
  refine zR ?_
  refine rm rfl F42 fun _ F45 => ?_
  refine hK44 _ _ ?_
  refine wp_block ?_
  refine z4b (α := Nat × VltN × (Nat → Value) × (Nat → Value)) (n := 107) (G := none) (w0 := w) (fun x => [(0, .int .i64 a0), (1, .slice A1 n1 cap1), (2, .int .i64 a2), (7, .pointer (some ⟨g33, 0, none⟩)), (8, .int .i64 (kk : Int)), (9, .int .i64 (x.1 : Int))]) (fun x => [(0, bytR l1 (.slice A1 n1 cap1)), (1, blkR g33 80 (vltA x.2.1 x.2.2.1 x.2.2.2)), (2, ztb 0 18 x.2.1.c x.2.2.1 x.2.2.2)]) (fun k x => k = (kk - x.1) ∧ (x.1 ≤ kk ∧ InvV (x.1 + 1) x.2.1 ∧ EraV x.2.1 1 ∧ x.2.1.dd = false ∧ x.2.1.fl = false ∧ AccV x.2.1 (mF f (min x.1 8)))) _ ⟨0, V1, s33, n33⟩ ⟨rfl, ⟨Nat.zero_le _, hI1, hE1, hd1, hf1, (by dsimp only; rw [show min 0 8 = 0 from rfl, mF_zero]; exact hA1)⟩⟩ (F45.sub ⟨rfl, rfl, rfl, rfl, rfl, rfl, trivial⟩) (M33.sub ⟨rfl, rfl, rfl, trivial⟩) ?_
  clear F45 M33
  rintro k46 ⟨jn, Vv, sv, nv⟩ a46 w46 K46 ⟨ek46, I46⟩ F46 M46 hK46
  replace F46 : Fx 107 a46 [(0, .int .i64 a0), (1, .slice A1 n1 cap1), (2, .int .i64 a2), (7, .pointer (some ⟨g33, 0, none⟩)), (8, .int .i64 (kk : Int)), (9, .int .i64 (jn : Int))] := F46
  replace M46 : Mx _ _ w46 [(0, bytR l1 (.slice A1 n1 cap1)), (1, blkR g33 80 (vltA Vv sv nv)), (2, ztb 0 18 Vv.c sv nv)] := M46
  replace I46 : jn ≤ kk ∧ InvV (jn + 1) Vv ∧ EraV Vv 1 ∧ Vv.dd = false ∧ Vv.fl = false ∧ AccV Vv (mF f (min jn 8)) := I46
  replace ek46 : k46 = (kk - jn) := ek46
  obtain ⟨hj, hI, hE, hd, hfl, hA⟩ := I46
  refine zS fun _ hK47 => ?_
  refine zS fun _ hK48 => ?_
  refine zR ?_
  refine rm rfl F46 fun _ F49 => ?_
  refine rm rfl F49 fun _ F50 => ?_
  by_cases h51 : (jn : Int) < (kk : Int)
  ·obtain ⟨orj, prj⟩ := hro jn (by omega)
   obtain ⟨hIb, hEb⟩ := put_keep hI (by omega) hE (f jn)
   obtain ⟨hzb, hAb, hdb, hfb⟩ := full_put hfn hI (by omega) hA (by omega) orj prj hd hfl
   obtain ⟨Vb, hVb⟩ : ∃ x, (putV Vv (f jn)).1 = x := ⟨_, rfl⟩
   obtain ⟨zb, hzc⟩ : ∃ x, (putV Vv (f jn)).2 = x := ⟨_, rfl⟩
   rw [hVb] at hIb hEb hAb hdb hfb
   rw [hzc] at hzb
   rw [← hff jn] at hVb hzc orj
   refine zd (w' := w46) (zc rfl) rfl F50 rfl (.bool true) (zpb _ _ _ _ rfl (F50.get (t := 23) rfl) (F50.get (t := 24) rfl) (decide_eq_true h51)) fun _ F52 => ?_
   clear F50
   refine hK48 _ _ ?_
   refine wp_cond_true (F52.get (t := 25) rfl) ?_
   refine wp_skip ?_
   refine hK47 _ _ ?_
   refine zS fun _ hK53 => ?_
   refine wp_block ?_
   refine zS fun _ hK54 => ?_
   refine zR ?_
   refine rm rfl F52 fun _ F55 => ?_
   refine rm rfl F55 fun _ F56 => ?_
   refine zd (w' := w46) (zc rfl) rfl F56 rfl (.int .i64 (IntKind.i64.wrap (a0 + (jn : Int)))) (y_addW _ _ _ _ rfl (F56.get (t := 28) rfl) (F56.get (t := 29) rfl) rfl) fun _ F57 => ?_
   clear F56
   refine rm rfl F57 fun _ F58 => ?_
   refine zh (zc rfl) rfl F58 rfl rfl (zE Tryz.func21 rfl) #[.int .i64 (IntKind.i64.wrap (a0 + (jn : Int))), .slice A1 n1 cap1] (zja (F58.get (t := 30) rfl) (F58.get (t := 31) rfl)) (rec6_is (IntKind.i64.wrap (a0 + (jn : Int))) l1 (.slice A1 n1 cap1) (by rw [IntKind.wrap_i64]; omega) (by omega) (fr jn) (hfr jn) w46 (M46.isb (k := 0) rfl)) ?_
   rintro _ w59 a59 ⟨U59, rfl, is59, lo59, b59⟩ F59
   have M59 := M46.newRec b59 is59 lo59 3 4
   clear M46 b59 lo59
   refine zi (zc rfl) rfl F59 rfl M59 5 (t := 37) (c := recA ⟨0, "".toUTF8, [], 0, 0, [], 0, 0, 0⟩ ⟨zN, zN⟩) (by unfold execOp; kernel_rfl) ?_
   intro g60 a60 w60 F60 M60
   clear F59 M59
   refine zn (zc rfl) rfl F60 M60 (k := 5) rfl _ _ _ rfl (F60.get (t := 10) rfl) (F60.get (t := 32) rfl) (recA (fr jn) U59) _ rfl (zL rfl) (z4a (w := w60) ⟨(M60.isb (k := 3) rfl), (M60.isb (k := 4) rfl)⟩) (zo rfl) (by kernel_rfl) ?_
   intro w61 M61
   clear M60
   refine hK54 _ _ ?_
   refine zS fun _ hK62 => ?_
   refine zR ?_
   refine zh (zc rfl) rfl F60 rfl rfl (zE Tryz.func34 rfl) #[] (args0) (names6_ex w61) ?_
   rintro _ w63 a63 ⟨gq63, rfl, hg63, hc63, b63⟩ F63
   have M63 := M61.newb b63 6 hg63 hc63
   clear M61 b63 hg63 hc63
   refine rm rfl F63 fun _ F64 => ?_
   refine zd (w' := w63) (zc rfl) rfl F64 rfl (.int .i64 (jn : Int)) (y_remI _ _ _ _ rfl (F64.get (t := 34) rfl) rfl (by omega) (by omega) (by omega)) fun _ F65 => ?_
   clear F64
   refine zd (w' := w63) (zc rfl) rfl F65 rfl (.pointer (some ⟨gq63, jn, none⟩)) (y_ixG 45 (s := 1) Tryz.underlying45 (by kernel_rfl) _ _ rfl (F65.get (t := 33) rfl) (F65.get (t := 35) rfl) rfl (by omega) (by omega)) fun _ F66 => ?_
   clear F65
   refine zd (w' := w63) (zc rfl) rfl F66 rfl (.string (nmK jn)) (zia _ _ rfl (F66.get (t := 36) rfl) (M63.blk (k := 6) rfl) (nmA_at (show jn < 10 by omega)) Tryz.underlying9 rfl) fun _ F67 => ?_
   clear F66
   refine zd (w' := w63) (zc rfl) rfl F67 rfl (.pointer (some ⟨g60, 1, none⟩)) (y_fa (off := 1) rfl (F67.get (t := 10) rfl) (by kernel_rfl) rfl) fun _ F68 => ?_
   clear F67
   refine zn (zc rfl) rfl F68 M63 (k := 5) rfl _ _ _ rfl (F68.get (t := 38) rfl) (F68.get (t := 37) rfl) (#[.string (nmK jn)]) (recA ⟨(fr jn).p, (nmK jn), (fr jn).l2, (fr jn).a, (fr jn).b, (fr jn).l5, (fr jn).t, (fr jn).c, (fr jn).z⟩ ⟨U59.v2, U59.v5⟩) rfl (zL rfl) (one_str _) (by kernel_rfl) (by kernel_rfl) ?_
   intro w69 M69
   clear M63
   refine hK62 _ _ ?_
   refine zS fun _ hK70 => ?_
   refine zR ?_
   refine rm rfl F68 fun _ F71 => ?_
   refine zd (w' := w69) (zc rfl) rfl F71 rfl _ (zoa _ _ rfl (F71.get (t := 10) rfl) (M69.blk (k := 5) rfl) (recA ⟨(fr jn).p, (nmK jn), (fr jn).l2, (fr jn).a, (fr jn).b, (fr jn).l5, (fr jn).t, (fr jn).c, (fr jn).z⟩ ⟨U59.v2, U59.v5⟩) (zqa rfl) Tryz.underlying37 rfl (by kernel_rfl)) fun _ F72 => ?_
   clear F71
   refine zh (zc rfl) rfl F72 rfl rfl (zE Tryz.func22 rfl) #[.pointer (some ⟨g33, 0, none⟩), .agg (recA ⟨(fr jn).p, (nmK jn), (fr jn).l2, (fr jn).a, (fr jn).b, (fr jn).l5, (fr jn).t, (fr jn).c, (fr jn).z⟩ ⟨U59.v2, U59.v5⟩)] (zja (F72.get (t := 39) rfl) (F72.get (t := 40) rfl)) (put_is g33 Vv sv nv (setN (fr jn) jn) (⟨U59.v2, U59.v5⟩) orj hI (by omega) Vb zb hVb hzc w69 ⟨(M69.isb (k := 3) rfl), (M69.isb (k := 4) rfl)⟩ ⟨(fun h => M69.dis 1 3 _ _ rfl rfl (by decide) rfl _ rfl h), (fun h => M69.dis 1 4 _ _ rfl rfl (by decide) rfl _ rfl h)⟩ (M69.rowsV (i := 2) (k := 1) rfl rfl (by decide)) (M69.blk (k := 1) rfl)) ?_
   rintro _ w73 a73 ⟨rfl, s73, n73, hr73, ht73, hc73, hg73⟩ F73
   have M73 := M69.vault (kg := 1) (kr := 2) rfl rfl hg73 hc73 hr73 ht73
   clear M69 hg73 hc73 hr73 ht73
   refine rm rfl F73 fun _ F74 => ?_
   refine hK70 _ _ ?_
   refine zS fun _ hK75 => ?_
   refine zR ?_
   refine rm rfl F74 fun _ F76 => ?_
   by_cases h77 : zb = 0
   ·have hs : jn < 8 := by
     by_cases hc : jn < 8
     ·exact hc
     ·rw [if_neg hc] at hzb; omega
    refine zd (w' := w73) (zc rfl) rfl F76 rfl (.bool true) (y_eqI _ _ _ _ rfl (F76.get (t := 42) rfl) rfl Tryz.underlying39 (y_beqT h77)) fun _ F78 => ?_
    clear F76
    refine rm rfl F78 fun _ F79 => ?_
    refine zd (w' := w73) (zc rfl) rfl F79 rfl (.bool true) (zpb _ _ _ _ rfl (F79.get (t := 44) rfl) rfl (decide_eq_true (by omega))) fun _ F80 => ?_
    clear F79
    refine zd (w' := w73) (zc rfl) rfl F80 rfl (.bool false) (y_neB _ _ rfl (F80.get (t := 43) rfl) (F80.get (t := 45) rfl) rfl) fun _ F81 => ?_
    clear F80
    refine rm rfl F81 fun _ F82 => ?_
    refine rm rfl F82 fun _ F83 => ?_
    refine zd (w' := w73) (zg rfl rfl rfl (F83.get (t := 47) rfl)) rfl F83 rfl (.bool false) (y_geq _ _ _ _ rfl (F83.get (t := 48) rfl) rfl (decide_eq_false (show ¬ 8 ≤ (jn : Int) by omega))) fun _ F84 => ?_
    clear F83
    refine zA 5 [(50, .bool false), (51, undef), (52, undef), (53, .bool false), (54, .bool false)] [] dnil [] F84 fun _ F85 => ?_
    clear F84
    refine hK75 _ _ ?_
    refine wp_cond_false (F85.get (t := 54) rfl) ?_
    refine wp_skip ?_
    refine hK53 _ _ ?_
    refine zR ?_
    refine rm rfl F85 fun _ F86 => ?_
    refine zd (w' := w73) (zc rfl) rfl F86 rfl (.int .i64 ((jn + 1 : Nat) : Int)) (zya _ _ _ _ rfl (F86.get (t := 26) rfl) rfl (by omega) (by omega)) fun _ F87 => ?_
    clear F86
    refine rm rfl F87 fun _ F88 => ?_
    subst ek46
    exact hK46 _ ⟨(jn + 1), Vb, s73, n73⟩ _ _ (by omega) ⟨rfl, ⟨by omega, hIb, hEb, hdb, hfb, hAb⟩⟩ (F88.sub ⟨rfl, rfl, rfl, rfl, rfl, rfl, trivial⟩) (M73.sub ⟨rfl, rfl, rfl, trivial⟩)
   ·have hs : ¬ jn < 8 := fun hc => by rw [if_pos hc] at hzb; exact h77 hzb
    rw [if_neg hs] at hzb
    refine zd (w' := w73) (zc rfl) rfl F76 rfl (.bool false) (y_eqI _ _ _ _ rfl (F76.get (t := 42) rfl) rfl Tryz.underlying39 (y_beqF h77)) fun _ F89 => ?_
    clear F76
    refine rm rfl F89 fun _ F90 => ?_
    refine zd (w' := w73) (zc rfl) rfl F90 rfl (.bool false) (zpb _ _ _ _ rfl (F90.get (t := 44) rfl) rfl (decide_eq_false (show ¬ (jn : Int) < 8 by omega))) fun _ F91 => ?_
    clear F90
    refine zd (w' := w73) (zc rfl) rfl F91 rfl (.bool false) (y_neB _ _ rfl (F91.get (t := 43) rfl) (F91.get (t := 45) rfl) rfl) fun _ F92 => ?_
    clear F91
    refine rm rfl F92 fun _ F93 => ?_
    refine rm rfl F93 fun _ F94 => ?_
    refine zd (w' := w73) (zg rfl rfl rfl (F94.get (t := 47) rfl)) rfl F94 rfl (.bool true) (y_geq _ _ _ _ rfl (F94.get (t := 48) rfl) rfl (decide_eq_true (by omega))) fun _ F95 => ?_
    clear F94
    refine rm rfl F95 fun _ F96 => ?_
    refine rm rfl F96 fun _ F97 => ?_
    refine zd (w' := w73) (zg rfl rfl rfl (F97.get (t := 50) rfl)) rfl F97 rfl (.bool false) (y_neI _ _ _ _ rfl (F97.get (t := 51) rfl) rfl Tryz.underlying39 (y_bneF hzb)) fun _ F98 => ?_
    clear F97
    refine zA 2 [(53, .bool false), (54, .bool false)] [] dnil [] F98 fun _ F99 => ?_
    clear F98
    refine hK75 _ _ ?_
    refine wp_cond_false (F99.get (t := 54) rfl) ?_
    refine wp_skip ?_
    refine hK53 _ _ ?_
    refine zR ?_
    refine rm rfl F99 fun _ F100 => ?_
    refine zd (w' := w73) (zc rfl) rfl F100 rfl (.int .i64 ((jn + 1 : Nat) : Int)) (zya _ _ _ _ rfl (F100.get (t := 26) rfl) rfl (by omega) (by omega)) fun _ F101 => ?_
    clear F100
    refine rm rfl F101 fun _ F102 => ?_
    subst ek46
    exact hK46 _ ⟨(jn + 1), Vb, s73, n73⟩ _ _ (by omega) ⟨rfl, ⟨by omega, hIb, hEb, hdb, hfb, hAb⟩⟩ (F102.sub ⟨rfl, rfl, rfl, rfl, rfl, rfl, trivial⟩) (M73.sub ⟨rfl, rfl, rfl, trivial⟩)
  ·have hjk : jn = kk := by omega
   rw [hjk] at hI hA
   refine zd (w' := w46) (zc rfl) rfl F50 rfl (.bool false) (zpb _ _ _ _ rfl (F50.get (t := 23) rfl) (F50.get (t := 24) rfl) (decide_eq_false h51)) fun _ F103 => ?_
   clear F50
   refine hK48 _ _ ?_
   refine wp_cond_false (F103.get (t := 25) rfl) ?_
   refine wp_exit ?_
   simp only [Exit.then, Exit.inBlock, ↓reduceIte, Nat.reduceEqDiff]
   refine hK43 _ _ ?_
   refine zS fun _ hK104 => ?_
   refine zS fun _ hK105 => ?_
   refine zR ?_
   refine rm rfl F103 fun _ F106 => ?_
   by_cases h107 : (kk : Int) < 9
   ·obtain ⟨L, hL, hLl⟩ := names_num hA
    rw [nms_mF] at hLl
    refine zd (w' := w46) (zc rfl) rfl F106 rfl (.bool true) (zpb _ _ _ _ rfl (F106.get (t := 55) rfl) rfl (decide_eq_true h107)) fun _ F108 => ?_
    clear F106
    refine hK105 _ _ ?_
    refine wp_cond_true (F108.get (t := 56) rfl) ?_
    refine zS fun _ hK109 => ?_
    refine zR ?_
    refine rm rfl F108 fun _ F110 => ?_
    refine zh (zc rfl) rfl F110 rfl rfl (zE Tryz.func25 rfl) #[.pointer (some ⟨g33, 0, none⟩)] (zw (F110.get (t := 57) rfl)) (names_is g33 Vv sv nv hI (L) hL w46 (M46.hasV (kg := 1) (kr := 2) rfl rfl (by decide))) ?_
    rintro _ w111 a111 ⟨⟨A111, c111, rfl, tx111⟩, b111⟩ F111
    have M111 := M46.step b111
    clear M46 tx111
    refine zd (w' := w111) (zc rfl) rfl F111 rfl (.int .i64 ((min kk 8 : Nat) : Int)) (y_lnG 45 Tryz.underlying45 _ rfl (F111.get (t := 58) rfl) (by rw [hLl]; omega)) fun _ F112 => ?_
    clear F111
    refine rm rfl F112 fun _ F113 => ?_
    refine zd (w' := w111) (zc rfl) rfl F113 rfl (.int .i64 ((min kk 8 : Nat) : Int)) (y_min _ _ rfl (F113.get (t := 60) rfl) rfl (by split <;> omega)) fun _ F114 => ?_
    clear F113
    refine zd (w' := w111) (zc rfl) rfl F114 rfl (.bool true) (y_eqI _ _ _ _ rfl (F114.get (t := 59) rfl) (F114.get (t := 61) rfl) Tryz.underlying3 (y_beqT rfl)) fun _ F115 => ?_
    clear F114
    refine rm rfl F115 fun _ F116 => ?_
    refine hK109 _ _ ?_
    refine wp_ret ?_
    try simp only [Exit.then, Exit.inBlock, Exit.jump]
    exact bodyPost_ret (res1 rfl (F116.get rfl)) F116.defers ⟨rfl, M111.below⟩
   ·rw [show min kk 8 = 8 by omega] at hA
    obtain ⟨Va, Vb, Vd, e1, i1, j1, e2, i2, j2, e3, ⟨L2, hL2, hL2l⟩, e4, i4, j4, L3, hL3, hL3l⟩ := full_end hfn hI (by omega) hE hA hool ror prr rfl ror2 prr2 (new_ne rfl) hd hfl
    refine zd (w' := w46) (zc rfl) rfl F106 rfl (.bool false) (zpb _ _ _ _ rfl (F106.get (t := 55) rfl) rfl (decide_eq_false h107)) fun _ F117 => ?_
    clear F106
    refine hK105 _ _ ?_
    refine wp_cond_false (F117.get (t := 56) rfl) ?_
    refine wp_skip ?_
    refine hK104 _ _ ?_
    refine zS fun _ hK118 => ?_
    refine zR ?_
    refine rm rfl F117 fun _ F119 => ?_
    refine rm rfl F119 fun _ F120 => ?_
    refine zh (zc rfl) rfl F120 rfl rfl (zE Tryz.func21 rfl) #[.int .i64 a0, .slice A1 n1 cap1] (zja (F120.get (t := 63) rfl) (F120.get (t := 64) rfl)) (rec6_is a0 l1 (.slice A1 n1 cap1) ⟨hk0, hl0⟩ (by omega) r hr w46 (M46.isb (k := 0) rfl)) ?_
    rintro _ w121 a121 ⟨U121, rfl, is121, lo121, b121⟩ F121
    have M121 := M46.newRec b121 is121 lo121 3 4
    clear M46 b121 lo121
    refine zi (zc rfl) rfl F121 rfl M121 5 (t := 37) (c := recA ⟨0, "".toUTF8, [], 0, 0, [], 0, 0, 0⟩ ⟨zN, zN⟩) (by unfold execOp; kernel_rfl) ?_
    intro g122 a122 w122 F122 M122
    clear F121 M121
    refine zn (zc rfl) rfl F122 M122 (k := 5) rfl _ _ _ rfl (F122.get (t := 12) rfl) (F122.get (t := 65) rfl) (recA r U121) _ rfl (zL rfl) (z4a (w := w122) ⟨(M122.isb (k := 3) rfl), (M122.isb (k := 4) rfl)⟩) (zo rfl) (by kernel_rfl) ?_
    intro w123 M123
    clear M122
    refine hK118 _ _ ?_
    refine zS fun _ hK124 => ?_
    refine zR ?_
    refine zh (zc rfl) rfl F122 rfl rfl (zE Tryz.func34 rfl) #[] (args0) (names6_ex w123) ?_
    rintro _ w125 a125 ⟨gq125, rfl, hg125, hc125, b125⟩ F125
    have M125 := M123.newb b125 6 hg125 hc125
    clear M123 b125 hg125 hc125
    refine rm rfl F125 fun _ F126 => ?_
    refine zh (zc rfl) rfl F126 rfl rfl (zE Tryz.func17 rfl) #[.int .i64 a2, .int .i64 8] (zja (F126.get (t := 67) rfl) rfl) (zda ((hoo ▸ within6_any a2 8 (by decide) (by decide) hk2 hl2 w125))) ?_
    rintro _ w127 a127 ⟨rfl, rfl⟩ F127
    refine zd (w' := w125) (zc rfl) rfl F127 rfl (.pointer (some ⟨gq125, oo, none⟩)) (y_ixG 45 (s := 1) Tryz.underlying45 (by kernel_rfl) _ _ rfl (F127.get (t := 66) rfl) (F127.get (t := 68) rfl) rfl (by omega) (by omega)) fun _ F128 => ?_
    clear F127
    refine zd (w' := w125) (zc rfl) rfl F128 rfl (.string (nmK oo)) (zia _ _ rfl (F128.get (t := 69) rfl) (M125.blk (k := 6) rfl) (nmA_at (show oo < 10 by omega)) Tryz.underlying9 rfl) fun _ F129 => ?_
    clear F128
    refine zd (w' := w125) (zc rfl) rfl F129 rfl (.pointer (some ⟨g122, 1, none⟩)) (y_fa (off := 1) rfl (F129.get (t := 12) rfl) (by kernel_rfl) rfl) fun _ F130 => ?_
    clear F129
    refine zn (zc rfl) rfl F130 M125 (k := 5) rfl _ _ _ rfl (F130.get (t := 71) rfl) (F130.get (t := 70) rfl) (#[.string (nmK oo)]) (recA ⟨r.p, (nmK oo), r.l2, r.a, r.b, r.l5, r.t, r.c, r.z⟩ ⟨U121.v2, U121.v5⟩) rfl (zL rfl) (one_str _) (by kernel_rfl) (by kernel_rfl) ?_
    intro w131 M131
    clear M125
    refine hK124 _ _ ?_
    refine zS fun _ hK132 => ?_
    refine zS fun _ hK133 => ?_
    refine zR ?_
    refine rm rfl F130 fun _ F134 => ?_
    refine zd (w' := w131) (zc rfl) rfl F134 rfl _ (zoa _ _ rfl (F134.get (t := 12) rfl) (M131.blk (k := 5) rfl) (recA ⟨r.p, (nmK oo), r.l2, r.a, r.b, r.l5, r.t, r.c, r.z⟩ ⟨U121.v2, U121.v5⟩) (zqa rfl) Tryz.underlying37 rfl (by kernel_rfl)) fun _ F135 => ?_
    clear F134
    refine zh (zc rfl) rfl F135 rfl rfl (zE Tryz.func22 rfl) #[.pointer (some ⟨g33, 0, none⟩), .agg (recA ⟨r.p, (nmK oo), r.l2, r.a, r.b, r.l5, r.t, r.c, r.z⟩ ⟨U121.v2, U121.v5⟩)] (zja (F135.get (t := 72) rfl) (F135.get (t := 73) rfl)) (put_is g33 Vv sv nv (setN r oo) (⟨U121.v2, U121.v5⟩) ror hI (by omega) Va 0 (by rw [e1]) (by rw [e1]) w131 ⟨(M131.isb (k := 3) rfl), (M131.isb (k := 4) rfl)⟩ ⟨(fun h => M131.dis 1 3 _ _ rfl rfl (by decide) rfl _ rfl h), (fun h => M131.dis 1 4 _ _ rfl rfl (by decide) rfl _ rfl h)⟩ (M131.rowsV (i := 2) (k := 1) rfl rfl (by decide)) (M131.blk (k := 1) rfl)) ?_
    rintro _ w136 a136 ⟨rfl, s136, n136, hr136, ht136, hc136, hg136⟩ F136
    have M136 := M131.vault (kg := 1) (kr := 2) rfl rfl hg136 hc136 hr136 ht136
    clear M131 hg136 hc136 hr136 ht136
    refine zA 5 [(75, .bool false), (76, .bool false), (77, .pointer (some ⟨g33, 0, none⟩)), (78, .pointer (some ⟨g122, 1, none⟩)), (79, .string (nmK oo))] [0] (zca (M136.blk (k := 5) rfl) dnil) [g122] F136 fun _ F137 => ?_
    clear F136
    refine zh (zg rfl rfl rfl (F137.get (t := 76) rfl)) rfl F137 rfl rfl (zE Tryz.func27 rfl) #[.pointer (some ⟨g33, 0, none⟩), .string (nmK oo)] (zja (F137.get (t := 77) rfl) (F137.get (t := 79) rfl)) (gone_is g33 Va s136 n136 (nmK oo) i1 (by omega) Vb 0 (by rw [e2]) (by rw [e2]) w136  (M136.rowsV (i := 2) (k := 1) rfl rfl (by decide)) (M136.blk (k := 1) rfl)) ?_
    rintro _ w138 a138 ⟨rfl, s138, n138, hr138, ht138, hc138, hg138⟩ F138
    have M138 := M136.vault (kg := 1) (kr := 2) rfl rfl hg138 hc138 hr138 ht138
    clear M136 hg138 hc138 hr138 ht138
    refine zA 6 [(81, .bool false), (82, .bool false), (83, .bool false), (84, .pointer (some ⟨g33, 0, none⟩)), (85, .pointer (some ⟨g122, 1, none⟩)), (86, .string (nmK oo))] [0] (zca (M138.blk (k := 5) rfl) dnil) [g122] F138 fun _ F139 => ?_
    clear F138
    refine zh (zg rfl rfl rfl (F139.get (t := 83) rfl)) rfl F139 rfl rfl (zE Tryz.func27 rfl) #[.pointer (some ⟨g33, 0, none⟩), .string (nmK oo)] (zja (F139.get (t := 84) rfl) (F139.get (t := 86) rfl)) (gone_is g33 Vb s138 n138 (nmK oo) i2 (by omega) Vb 3 (by rw [e3]) (by rw [e3]) w138  (M138.rowsV (i := 2) (k := 1) rfl rfl (by decide)) (M138.blk (k := 1) rfl)) ?_
    rintro _ w140 a140 ⟨rfl, s140, n140, hr140, ht140, hc140, hg140⟩ F140
    have M140 := M138.vault (kg := 1) (kr := 2) rfl rfl hg140 hc140 hr140 ht140
    clear M138 hg140 hc140 hr140 ht140
    refine zA 4 [(88, .bool false), (89, .bool false), (90, .bool false), (91, .pointer (some ⟨g33, 0, none⟩))] [] dnil [] F140 fun _ F141 => ?_
    clear F140
    refine zh (zg rfl rfl rfl (F141.get (t := 90) rfl)) rfl F141 rfl rfl (zE Tryz.func25 rfl) #[.pointer (some ⟨g33, 0, none⟩)] (zw (F141.get (t := 91) rfl)) (names_is g33 Vb s140 n140 i2 (L2) hL2 w140 (M140.hasV (kg := 1) (kr := 2) rfl rfl (by decide))) ?_
    rintro _ w142 a142 ⟨⟨A142, c142, rfl, tx142⟩, b142⟩ F142
    have M142 := M140.step b142
    clear M140 tx142
    refine zd (w' := w142) (zg rfl rfl rfl (F142.get (t := 90) rfl)) rfl F142 rfl (.int .i64 7) (y_lnG 45 Tryz.underlying45 _ rfl (F142.get (t := 92) rfl) (by rw [hL2l]; rfl)) fun _ F143 => ?_
    clear F142
    refine zA 2 [(94, .bool false), (95, .bool false)] [] dnil [] F143 fun _ F144 => ?_
    clear F143
    refine hK133 _ _ ?_
    refine wp_cond_false (F144.get (t := 95) rfl) ?_
    refine wp_skip ?_
    refine hK132 _ _ ?_
    refine zS fun _ hK145 => ?_
    refine zR ?_
    refine zd (w' := w142) (zc rfl) rfl F144 rfl (.pointer (some ⟨g122, 1, none⟩)) (y_fa (off := 1) rfl (F144.get (t := 12) rfl) (by kernel_rfl) rfl) fun _ F146 => ?_
    clear F144
    refine zn (zc rfl) rfl F146 M142 (k := 5) rfl _ _ _ rfl (F146.get (t := 96) rfl) rfl (#[.string ({ data := #[110, 101, 119] })]) (recA ⟨r.p, ({ data := #[110, 101, 119] }), r.l2, r.a, r.b, r.l5, r.t, r.c, r.z⟩ ⟨U121.v2, U121.v5⟩) rfl (zL rfl) (one_str _) (by kernel_rfl) (by kernel_rfl) ?_
    intro w147 M147
    clear M142
    refine hK145 _ _ ?_
    refine zS fun _ hK148 => ?_
    refine zR ?_
    refine rm rfl F146 fun _ F149 => ?_
    refine zd (w' := w147) (zc rfl) rfl F149 rfl _ (zoa _ _ rfl (F149.get (t := 12) rfl) (M147.blk (k := 5) rfl) (recA ⟨r.p, ({ data := #[110, 101, 119] }), r.l2, r.a, r.b, r.l5, r.t, r.c, r.z⟩ ⟨U121.v2, U121.v5⟩) (zqa rfl) Tryz.underlying37 rfl (by kernel_rfl)) fun _ F150 => ?_
    clear F149
    refine zh (zc rfl) rfl F150 rfl rfl (zE Tryz.func22 rfl) #[.pointer (some ⟨g33, 0, none⟩), .agg (recA ⟨r.p, ({ data := #[110, 101, 119] }), r.l2, r.a, r.b, r.l5, r.t, r.c, r.z⟩ ⟨U121.v2, U121.v5⟩)] (zja (F150.get (t := 97) rfl) (F150.get (t := 98) rfl)) (put_is g33 Vb s140 n140 (setS (setN r oo) ({ data := #[110, 101, 119] })) (⟨U121.v2, U121.v5⟩) ror2 i2 (by omega) Vd 0 (by rw [e4]) (by rw [e4]) w147 ⟨(M147.isb (k := 3) rfl), (M147.isb (k := 4) rfl)⟩ ⟨(fun h => M147.dis 1 3 _ _ rfl rfl (by decide) rfl _ rfl h), (fun h => M147.dis 1 4 _ _ rfl rfl (by decide) rfl _ rfl h)⟩ (M147.rowsV (i := 2) (k := 1) rfl rfl (by decide)) (M147.blk (k := 1) rfl)) ?_
    rintro _ w151 a151 ⟨rfl, s151, n151, hr151, ht151, hc151, hg151⟩ F151
    have M151 := M147.vault (kg := 1) (kr := 2) rfl rfl hg151 hc151 hr151 ht151
    clear M147 hg151 hc151 hr151 ht151
    refine zA 3 [(100, .bool true), (101, .bool true), (102, .pointer (some ⟨g33, 0, none⟩))] [] dnil [] F151 fun _ F152 => ?_
    clear F151
    refine zh (zg rfl rfl rfl (F152.get (t := 101) rfl)) rfl F152 rfl rfl (zE Tryz.func25 rfl) #[.pointer (some ⟨g33, 0, none⟩)] (zw (F152.get (t := 102) rfl)) (names_is g33 Vd s151 n151 i4 (L3) hL3 w151 (M151.hasV (kg := 1) (kr := 2) rfl rfl (by decide))) ?_
    rintro _ w153 a153 ⟨⟨A153, c153, rfl, tx153⟩, b153⟩ F153
    have M153 := M151.step b153
    clear M151 tx153
    refine zd (w' := w153) (zg rfl rfl rfl (F153.get (t := 101) rfl)) rfl F153 rfl (.int .i64 8) (y_lnG 45 Tryz.underlying45 _ rfl (F153.get (t := 103) rfl) (by rw [hL3l]; rfl)) fun _ F154 => ?_
    clear F153
    refine zA 3 [(105, .bool true), (106, .bool true), (6, .bool true)] [] dnil [] F154 fun _ F155 => ?_
    clear F154
    refine hK148 _ _ ?_
    refine wp_ret ?_
    try simp only [Exit.then, Exit.inBlock, Exit.jump]
    exact bodyPost_ret (res1 rfl (F155.get rfl)) F155.defers ⟨rfl, M153.below⟩
end Go.Proofs.YtmjbnmbobocpdaaGreat
