/- What SrpKR stands on, part 14. -/
import Derived.Test.YtcfepoopkfhojaaGreatSrpKRP1
import Derived.Test.YtcfepoopkfhojaaGreatSrpKRP2
import Derived.Test.YtcfepoopkfhojaaGreatSrpKRP3
import Derived.Test.YtcfepoopkfhojaaGreatSrpKRP4
import Derived.Test.YtcfepoopkfhojaaGreatSrpKRP5
import Derived.Test.YtcfepoopkfhojaaGreatSrpKRP6
import Derived.Test.YtcfepoopkfhojaaGreatSrpKRP7
import Derived.Test.YtcfepoopkfhojaaGreatSrpKRP8
import Derived.Test.YtcfepoopkfhojaaGreatSrpKRP9
import Derived.Test.YtcfepoopkfhojaaGreatSrpKRP10
import Derived.Test.YtcfepoopkfhojaaGreatSrpKRP11
import Derived.Test.YtcfepoopkfhojaaGreatSrpKRP12
import Derived.Test.YtcfepoopkfhojaaGreatSrpKRP13
set_option maxRecDepth 100000
set_option maxHeartbeats 8000000
set_option linter.unusedVariables false
set_option linter.unusedSimpArgs false
namespace Go.Proofs.YtcfepoopkfhojaaGreat
open Go.ChangeShapes Go.WideShapes Go.ChangeAt Go.RowKit
theorem SrpKeys_walk (a0 : Int) (hk0 : -9223372036854775808 ≤ a0) (hl0 : a0 < 9223372036854775808)
  (a1 : ByteArray) (hS1 : a1.size ≤ maxLen)
  (A2 : Option Addr) (n2 cap2 : Nat) (l2 : List UInt8) (hn2 : l2.length = n2) (hc2 : n2 ≤ cap2) (hm2 : cap2 ≤ maxLen) (hz2 : A2 = none → cap2 = 0)
  (A3 : Option Addr) (n3 cap3 : Nat) (l3 : List UInt8) (hn3 : l3.length = n3) (hc3 : n3 ≤ cap3) (hm3 : cap3 ≤ maxLen) (hz3 : A3 = none → cap3 = 0)
  (A4 : Option Addr) (n4 cap4 : Nat) (l4 : List UInt8) (hn4 : l4.length = n4) (hc4 : n4 ≤ cap4) (hm4 : cap4 ≤ maxLen) (hz4 : A4 = none → cap4 = 0)
  (A5 : Option Addr) (n5 cap5 : Nat) (l5 : List UInt8) (hn5 : l5.length = n5) (hc5 : n5 ≤ cap5) (hm5 : cap5 ≤ maxLen) (hz5 : A5 = none → cap5 = 0) (w : World) (hr2 : Rd w A2 l2) (hr3 : Rd w A3 l3) (hr4 : Rd w A4 l4) (hr5 : Rd w A5 l5) :
  Calls Tryz.prog 3 #[.int .i64 a0, .string a1, .slice A2 n2 cap2, .slice A3 n3 cap3, .slice A4 n4 cap4, .slice A5 n5 cap5] w fun e w' => e = .returned (.bool true) ∧ Below w.heap.size w w' := by
 have ib2 : IsB w l2 (.slice A2 n2 cap2) := hr2.isB' hn2 hc2 hm2 hz2
 have ib3 : IsB w l3 (.slice A3 n3 cap3) := hr3.isB' hn3 hc3 hm3 hz3
 have ib4 : IsB w l4 (.slice A4 n4 cap4) := hr4.isB' hn4 hc4 hm4 hz4
 have ib5 : IsB w l5 (.slice A5 n5 cap5) := hr5.isB' hn5 hc5 hm5 hz5
 obtain ⟨k, p, hg, kG⟩ := group_any hk0 hl0
 obtain ⟨hpa, hpb⟩ : 4000 < p ∧ p < 16777216 := ⟨hg.2.2.2.1, hg.2.2.2.2.1⟩
 have po : p % 2 = 1 := hg.2.2.1
 have hp1 : 1 < p := by omega
 have p4 : p < 4294967296 := by omega
 have hP : p < 4294967296 ^ 8 := Nat.lt_trans p4 (by decide)
 have h2 : 2 < p / 2 := by omega
 have hQ4 : p / 2 ≤ 4294967296 := by omega
 have hQ : p / 2 < 4294967296 ^ 8 := Nat.lt_of_le_of_lt hQ4 (by decide)
 have hP0 : 0 < p := by omega
 have hm : ∀ x, x % p < 4294967296 ^ 8 := fun x => Nat.lt_trans (Nat.mod_lt _ hP0) hP
 have gfour : (4 : Nat) < 4294967296 ^ 8 := by decide
 obtain ⟨sh, hsh⟩ : ∃ b, shortB [(sBy a1), l2, l3, l4, l5] = b := ⟨_, rfl⟩
 refine zea (args := [.int .i64 a0, .string a1, .slice A2 n2 cap2, .slice A3 n3 cap3, .slice A4 n4 cap4, .slice A5 n5 cap5]) 133 Tryz.func3 rfl rfl rfl ?_
 intro fa F
 have M := Mx.start w
 replace M := M.argB 0 ib2 (fun g e => by cases e)
 replace M := M.argB 1 ib3 (fun g e => by cases e)
 replace M := M.argB 2 ib4 (fun g e => by cases e)
 replace M := M.argB 3 ib5 (fun g e => by cases e)
 refine zSk fun _ hK21 => ?_
 refine zR ?_
 refine rm rfl F fun _ F22 => ?_
 refine hK21 _ _ ?_
 refine zSk fun _ hK23 => ?_
 refine zSk fun _ hK24 => ?_
 refine zR ?_
 refine zba (zc rfl) rfl F22 rfl rfl (zE Tryz.func9 rfl) #[] (args0) (zga (sknown_any w)) ?_
 rintro _ w25 a25 ⟨rfl, b25⟩ F25
 have M25 := M.step b25
 refine zk (w' := w25) (zc rfl) rfl F25 rfl (.bool false) (zlc _ _ rfl (F25.get (t := 28) rfl)) fun _ F26 => ?_
 clear F25
 refine hK24 _ _ ?_
 refine wp_cond_false (F26.get (t := 29) rfl) ?_
 refine wp_skip ?_
 refine hK23 _ _ ?_
 refine zSk fun _ hK27 => ?_
 refine zSk fun _ hK28 => ?_
 refine zR ?_
 refine rm rfl F26 fun _ F29 => ?_
 refine zcb (zc rfl) rfl F29 rfl (run_cvSm M25 4 _ rfl (F29.get (t := 30) rfl) hS1) ?_
 intro v30 a30 w30 F30 M30
 clear F29 M25
 have fr30 := M30.frN (k := 4) rfl
 replace M30 := M30.unN (k := 4) rfl
 obtain ⟨A30, c30, rfl⟩ := (M30.isb (k := 4) rfl).shape
 refine rm rfl F30 fun _ F31 => ?_
 refine rm rfl F31 fun _ F32 => ?_
 refine rm rfl F32 fun _ F33 => ?_
 refine rm rfl F33 fun _ F34 => ?_
 refine zfc (zc rfl) rfl F34 rfl M30 5 (t := 22) (c := #[.slice A30 ((sBy a1)).length c30, .slice A2 n2 cap2, .slice A3 n3 cap3, .slice A4 n4 cap4, .slice A5 n5 cap5]) (k := 5) (m := 5) (y_litG 54 22 (s := 1) (zv := zN) Tryz.underlying54 (by kernel_rfl) (by kernel_rfl) rfl (#[.slice A30 ((sBy a1)).length c30, .slice A2 n2 cap2, .slice A3 n3 cap3, .slice A4 n4 cap4, .slice A5 n5 cap5]) (by decide) (by decide) (by simp only [List.map_toArray, List.map_cons, List.map_nil, (F34.get (t := 31) rfl), (F34.get (t := 32) rfl), (F34.get (t := 33) rfl), (F34.get (t := 34) rfl), (F34.get (t := 35) rfl)]; kernel_rfl)) ?_
 intro g35 a35 w35 F35 M35
 clear F34 M30
 refine zba (zc rfl) rfl F35 rfl rfl (zE Tryz.func10 rfl) #[.slice (some ⟨g35, 0, none⟩) 5 5] (zta (F35.get (t := 36) rfl)) (zga ((hsh ▸ short_any [(sBy a1), l2, l3, l4, l5] _ w35 (isP_blk (M35.blk (k := 5) rfl) rfl rfl (show 5 ≤ 1000 by decide) (fun j l hj => by
   match j, hj with
   | 0, hj => obtain rfl : (sBy a1) = l := Option.some.inj hj; exact ⟨_, rfl, (M35.isb (k := 4) rfl)⟩
   | 1, hj => obtain rfl : l2 = l := Option.some.inj hj; exact ⟨_, rfl, (M35.isb (k := 0) rfl)⟩
   | 2, hj => obtain rfl : l3 = l := Option.some.inj hj; exact ⟨_, rfl, (M35.isb (k := 1) rfl)⟩
   | 3, hj => obtain rfl : l4 = l := Option.some.inj hj; exact ⟨_, rfl, (M35.isb (k := 2) rfl)⟩
   | 4, hj => obtain rfl : l5 = l := Option.some.inj hj; exact ⟨_, rfl, (M35.isb (k := 3) rfl)⟩
   | n + 5, hj => cases hj))))) ?_
 rintro _ w36 a36 ⟨rfl, b36⟩ F36
 have M36 := M35.step b36
 cases sh
 ·refine zk (w' := w36) (zc rfl) rfl F36 rfl (.bool true) (zlc _ _ rfl (F36.get (t := 37) rfl)) fun _ F37 => ?_
  clear F36
  refine hK28 _ _ ?_
  refine wp_cond_true (F37.get (t := 38) rfl) ?_
  refine zSk fun _ hK38 => ?_
  refine zR ?_
  refine rm rfl F37 fun _ F39 => ?_
  refine hK38 _ _ ?_
  refine wp_ret ?_
  try simp only [Exit.then, Exit.inBlock, Exit.jump]
  exact bodyPost_ret (res1 rfl (F39.get rfl)) F39.defers ⟨rfl, M36.below⟩
 ·have hs0 : (sBy a1).length ≤ 64 := short_mem hsh (by simp)
  have hs1 : l2.length ≤ 64 := short_mem hsh (by simp)
  have hs2 : l3.length ≤ 64 := short_mem hsh (by simp)
  have hs3 : l4.length ≤ 64 := short_mem hsh (by simp)
  have hs4 : l5.length ≤ 64 := short_mem hsh (by simp)
  rw [sBy_len] at hs0
  have hP31 : p < 2147483648 := by omega
  have hQ5 : p / 2 < 4294967296 := by omega
  obtain ⟨V1, hV1⟩ : ∃ V, 4 ^ secN (p / 2) (sBy a1) l2 l3 % p = V := ⟨_, rfl⟩
  have bV1 : V1 < 4294967296 ^ 8 := by rw [← hV1]; exact hm _
  have kV1 := fun (w : World) (vp vs : Value) (hp : IsB w l2 vp) (hs : IsB w l3 vs) => verifier_any k p (p / 2) 4 po hp1 hP h2 hQ gfour a1 (show a1.size ≤ 1000 by omega) l2 l3 vp vs w hp hs
  rw [hV1] at kV1
  obtain ⟨Oa, hOa⟩ : ∃ O, texN (p / 2) [97] [l4] = O := ⟨_, rfl⟩
  have oa4 : Oa < 4294967296 := by rw [← hOa]; exact Nat.lt_of_lt_of_le (zkc h2 _).2 hQ4
  obtain ⟨A, hA⟩ : ∃ A, 4 ^ Oa % p = A := ⟨_, rfl⟩
  have bA : A < 4294967296 ^ 8 := by rw [← hA]; exact hm _
  obtain ⟨C, hC⟩ : ∃ C : SideN, ⟨k, p, p / 2, 4, a1, l2, 4 ^ Oa % p, 0, Oa, [], 0, fun _ => 0, fun _ => 0⟩ = C := ⟨_, rfl⟩
  have kH := shello_is k p (p / 2) 4 po hp1 hP h2 hQ gfour a1 l2 l4 (show l2.length ≤ 100000 by omega) (X := C) (A := A) (by rw [hOa]; exact hC) (by rw [hOa]; exact hA)
  obtain ⟨cP, cQ, cO, cg, cs, cl, cls⟩ : C.P = p ∧ C.Q = p / 2 ∧ C.O = Oa ∧ C.g = 4 ∧ C.s = a1 ∧ C.lp = l2 ∧ C.ls = [] := by rw [← hC]; exact ⟨rfl, rfl, rfl, rfl, rfl, rfl, rfl⟩
  obtain ⟨Ob, hOb⟩ : ∃ O, texN (p / 2) [98] [l5] = O := ⟨_, rfl⟩
  obtain ⟨Ob0, Ob1⟩ : 1 ≤ Ob ∧ Ob < p / 2 := by rw [← hOb]; exact zkc h2 _
  obtain ⟨ok, hok⟩ : ∃ b, offOk p (p / 2) 4 V1 A Ob = b := ⟨_, rfl⟩
  obtain ⟨S, hS⟩ : ∃ S, cond ok (zpa (offS k p (p / 2) 4 a1 l3 V1 A Ob) (offN p (p / 2) 4 V1 A Ob)) zeroS = S := ⟨_, rfl⟩
  obtain ⟨B, hB⟩ : ∃ B, cond ok (offB p (p / 2) 4 V1 Ob) 0 = B := ⟨_, rfl⟩
  have kO := soffer_is k p (p / 2) 4 po hp1 p4 h2 hQ gfour ⟨1, a1, l3, V1, 0, [], 0, 0, 0⟩ bV1 (show a1.size ≤ 1000 by omega) (show l3.length ≤ 100000 by omega) A bA l5 (ok := ok) (X := S) (B := B) (by rw [hOb]; exact hok) (by rw [hOb]; exact hS) (by rw [hOb]; exact hB)
  have Bn : ok = false → B = 0 := fun h => by rw [← hB, h]; rfl
  have bB : B < 4294967296 ^ 8 := cond_lt hB (offB_lt hP0 hP) (by decide)
  have rO := sroffer_is k p (p / 2) 4 hp1 hP31 h2 hQ5 gfour ⟨1, a1, l3, V1, 0, [], 0, 0, 0⟩ bV1 (show a1.size ≤ 200 by omega) (show l3.length ≤ 200 by omega) A bA l5 (show l5.length ≤ 200 by omega) (ok := ok) (X := S) (B := B) (by rw [hOb]; exact hok) (by rw [hOb]; exact hS) (by rw [hOb]; exact hB)
  clear hOa hOb
  refine zk (w' := w36) (zc rfl) rfl F36 rfl (.bool false) (zlc _ _ rfl (F36.get (t := 37) rfl)) fun _ F40 => ?_
  clear F36
  refine hK28 _ _ ?_
  refine wp_cond_false (F40.get (t := 38) rfl) ?_
  refine wp_skip ?_
  refine hK27 _ _ ?_
  refine zSk fun _ hK41 => ?_
  refine zR ?_
  refine rm rfl F40 fun _ F42 => ?_
  refine zba (zc rfl) rfl F42 rfl rfl (zE Tryz.func11 rfl) #[.int .i64 a0] (zta (F42.get (t := 39) rfl)) (zga (kG w36)) ?_
  rintro _ w43 a43 ⟨rfl, b43⟩ F43
  have M43 := M36.step b43
  refine zh (zc rfl) rfl F43 rfl M43 6 (t := 29) (c := zg 0 0 0 0) (by unfold execOp; rw [z2b]; kernel_rfl) ?_
  intro g44 a44 w44 F44 M44
  clear F43 M43
  refine zw (zc rfl) rfl F44 M44 (k := 6) rfl _ _ _ rfl (F44.get (t := 13) rfl) (F44.get (t := 40) rfl) (zg k p (p / 2) 4) _ rfl (zL rfl) (z9b _ _ _ _) (zp rfl) (by kernel_rfl) ?_
  intro w45 M45
  clear M44
  refine hK41 _ _ ?_
  refine zSk fun _ hK46 => ?_
  refine zR ?_
  refine zAx 6 [(41, .string a1), (42, .slice A3 n3 cap3), (43, .agg (zg k p (p / 2) 4)), (44, .string a1), (45, .slice A2 n2 cap2), (46, .slice A3 n3 cap3)] [0] (zr (M45.blk (k := 6) rfl) dnil) [g44] F44 fun _ F47 => ?_
  clear F44
  refine zba (zc rfl) rfl F47 rfl rfl (zE Tryz.func12 rfl) #[.agg (zg k p (p / 2) 4), .string a1, .slice A2 n2 cap2, .slice A3 n3 cap3] (args4 (F47.get (t := 43) rfl) (F47.get (t := 44) rfl) (F47.get (t := 45) rfl) (F47.get (t := 46) rfl)) (zga ((kV1 w45 _ _ (M45.isb (k := 0) rfl) (M45.isb (k := 1) rfl)))) ?_
  rintro _ w48 a48 ⟨rfl, b48⟩ F48
  have M48 := M45.step b48
  refine zk (w' := w48) (zc rfl) rfl F48 rfl (.agg (recA ⟨1, a1, l3, V1, 0, [], 0, 0, 0⟩ ⟨.slice A3 n3 cap3, zN⟩)) (by unfold execOp; simp only [List.map_toArray, List.map_cons, List.map_nil, (F48.get (t := 41) rfl), (F48.get (t := 42) rfl), (F48.get (t := 47) rfl)]; kernel_rfl) fun _ F49 => ?_
  clear F48
  refine zh (zc rfl) rfl F49 rfl M48 7 (t := 33) (c := recA ⟨0, "".toUTF8, [], 0, 0, [], 0, 0, 0⟩ ⟨zN, zN⟩) (by unfold execOp; kernel_rfl) ?_
  intro g50 a50 w50 F50 M50
  clear F49 M48
  refine zw (zc rfl) rfl F50 M50 (k := 7) rfl _ _ _ rfl (F50.get (t := 14) rfl) (F50.get (t := 48) rfl) (recA ⟨1, a1, l3, V1, 0, [], 0, 0, 0⟩ ⟨.slice A3 n3 cap3, zN⟩) _ rfl (zL rfl) (recA_one (w := w50) ⟨(M50.isb (k := 1) rfl), zja _⟩) (zp rfl) (by kernel_rfl) ?_
  intro w51 M51
  clear M50
  refine hK46 _ _ ?_
  refine zSk fun _ hK52 => ?_
  refine zR ?_
  refine zk (w' := w51) (zc rfl) rfl F50 rfl _ (zdb _ _ rfl (F50.get (t := 13) rfl) (M51.blk (k := 6) rfl) (zg k p (p / 2) 4) (zeb rfl) Tryz.underlying29 rfl (by kernel_rfl)) fun _ F53 => ?_
  clear F50
  refine rm rfl F53 fun _ F54 => ?_
  refine rm rfl F54 fun _ F55 => ?_
  refine rm rfl F55 fun _ F56 => ?_
  refine zba (zc rfl) rfl F56 rfl rfl (zE Tryz.func13 rfl) #[.agg (zg k p (p / 2) 4), .string a1, .slice A2 n2 cap2, .slice A4 n4 cap4] (args4 (F56.get (t := 50) rfl) (F56.get (t := 51) rfl) (F56.get (t := 52) rfl) (F56.get (t := 53) rfl)) (kH w51 _ _ (M51.isb (k := 0) rfl) (M51.isb (k := 2) rfl)) ?_
  rintro _ w57 a57 ⟨y57, rfl, his57, hlo57, hls57, b57⟩ F57
  obtain ⟨M57, -⟩ := side_two M51 b57 8 9 his57 hlo57 hls57 (by decide)
  clear M51 hlo57 hls57 his57 b57
  refine zAx 3 [(49, .tuple #[.agg (zl C y57), numV A]), (55, .agg (zl C y57)), (56, numV A)] [] dnil [] F57 fun _ F58 => ?_
  clear F57
  refine zh (zc rfl) rfl F58 rfl M57 10 (t := 37) (c := zSA) (by unfold execOp; kernel_rfl) ?_
  intro g59 a59 w59 F59 M59
  clear F58 M57
  refine zh (zc rfl) rfl F59 rfl M59 11 (t := 27) (c := numA 0) (zx rfl) ?_
  intro g60 a60 w60 F60 M60
  clear F59 M59
  refine zw (zc rfl) rfl F60 M60 (k := 10) rfl _ _ _ rfl (F60.get (t := 15) rfl) (F60.get (t := 55) rfl) (zl C y57) _ rfl (zL rfl) (zva (w := w60) ⟨(M60.isb (k := 8) rfl), (M60.isb (k := 9) rfl)⟩) (zp rfl) (by kernel_rfl) ?_
  intro w61 M61
  clear M60
  refine zw (zc rfl) rfl F60 M61 (k := 11) rfl _ _ _ rfl (F60.get (t := 16) rfl) (F60.get (t := 56) rfl) (numA A) _ rfl (zL rfl) (zaa _) (zp rfl) ze ?_
  intro w62 M62
  clear M61
  refine hK52 _ _ ?_
  refine zSk fun _ hK63 => ?_
  refine zR ?_
  refine zAx 4 [(58, .agg (zg k p (p / 2) 4)), (59, .agg (recA ⟨1, a1, l3, V1, 0, [], 0, 0, 0⟩ ⟨.slice A3 n3 cap3, zN⟩)), (60, numV A), (61, .slice A5 n5 cap5)] [0, 1, 2] (zr (M62.blk (k := 6) rfl) (zr (M62.blk (k := 7) rfl) (zr (M62.blk (k := 11) rfl) dnil))) [g44, g50, g60] F60 fun _ F64 => ?_
  clear F60
  refine zba (zc rfl) rfl F64 rfl rfl (zE Tryz.func14 rfl) #[.agg (zg k p (p / 2) 4), .agg (recA ⟨1, a1, l3, V1, 0, [], 0, 0, 0⟩ ⟨.slice A3 n3 cap3, zN⟩), numV A, .slice A5 n5 cap5] (args4 (F64.get (t := 58) rfl) (F64.get (t := 59) rfl) (F64.get (t := 60) rfl) (F64.get (t := 61) rfl)) (kO w62 _ _ ⟨(M62.isb (k := 1) rfl), zja _⟩ (M62.isb (k := 3) rfl)) ?_
  rintro _ w65 a65 ⟨y65, rfl, his65, hlo65, hls65, b65⟩ F65
  obtain ⟨M65, -⟩ := side_two M62 b65 12 13 his65 hlo65 hls65 (by decide)
  clear M62 hlo65 hls65 his65 b65
  refine zAx 4 [(57, .tuple #[.agg (zl S y65), numV B, .bool ok]), (63, .agg (zl S y65)), (64, numV B), (65, .bool ok)] [] dnil [] F65 fun _ F66 => ?_
  clear F65
  refine zh (zc rfl) rfl F66 rfl M65 14 (t := 37) (c := zSA) (by unfold execOp; kernel_rfl) ?_
  intro g67 a67 w67 F67 M67
  clear F66 M65
  refine zh (zc rfl) rfl F67 rfl M67 15 (t := 27) (c := numA 0) (zx rfl) ?_
  intro g68 a68 w68 F68 M68
  clear F67 M67
  refine zw (zc rfl) rfl F68 M68 (k := 14) rfl _ _ _ rfl (F68.get (t := 17) rfl) (F68.get (t := 63) rfl) (zl S y65) _ rfl (zL rfl) (zva (w := w68) ⟨(M68.isb (k := 12) rfl), (M68.isb (k := 13) rfl)⟩) (zp rfl) (by kernel_rfl) ?_
  intro w69 M69
  clear M68
  refine zw (zc rfl) rfl F68 M69 (k := 15) rfl _ _ _ rfl (F68.get (t := 18) rfl) (F68.get (t := 64) rfl) (numA B) _ rfl (zL rfl) (zaa _) (zp rfl) ze ?_
  intro w70 M70
  clear M69
  refine rm rfl F68 fun _ F71 => ?_
  refine hK63 _ _ ?_
  refine zSk fun _ hK72 => ?_
  refine zR ?_
  refine zAx 4 [(67, .agg (zg k p (p / 2) 4)), (68, .agg (recA ⟨1, a1, l3, V1, 0, [], 0, 0, 0⟩ ⟨.slice A3 n3 cap3, zN⟩)), (69, numV A), (70, .slice A5 n5 cap5)] [0, 1, 2] (zr (M70.blk (k := 6) rfl) (zr (M70.blk (k := 7) rfl) (zr (M70.blk (k := 11) rfl) dnil))) [g44, g50, g60] F71 fun _ F73 => ?_
  clear F71
  refine zba (zc rfl) rfl F73 rfl rfl (zE Tryz.func15 rfl) #[.agg (zg k p (p / 2) 4), .agg (recA ⟨1, a1, l3, V1, 0, [], 0, 0, 0⟩ ⟨.slice A3 n3 cap3, zN⟩), numV A, .slice A5 n5 cap5] (args4 (F73.get (t := 67) rfl) (F73.get (t := 68) rfl) (F73.get (t := 69) rfl) (F73.get (t := 70) rfl)) (rO w70 _ _ ⟨(M70.isb (k := 1) rfl), zja _⟩ (M70.isb (k := 3) rfl)) ?_
  rintro _ w74 a74 ⟨y74, rfl, hs74, b74⟩ F74
  have M74 := M70.step b74
  clear M70 b74
  refine zAx 4 [(66, .tuple #[.agg (zl S y74), numV B, .bool ok]), (72, .agg (zl S y74)), (73, numV B), (74, .bool ok)] [] dnil [] F74 fun _ F75 => ?_
  clear F74
  refine zh (zc rfl) rfl F75 rfl M74 16 (t := 42) (c := zSA) (by unfold execOp; kernel_rfl) ?_
  intro g76 a76 w76 F76 M76
  clear F75 M74
  refine zh (zc rfl) rfl F76 rfl M76 17 (t := 27) (c := numA 0) (zx rfl) ?_
  intro g77 a77 w77 F77 M77
  clear F76 M76
  refine zw (zc rfl) rfl F77 M77 (k := 16) rfl _ _ _ rfl (F77.get (t := 20) rfl) (F77.get (t := 72) rfl) (zl S y74) _ rfl (zL rfl) (sshp_one hs74) (zp rfl) (by kernel_rfl) ?_
  intro w78 M78
  clear M77
  refine zw (zc rfl) rfl F77 M78 (k := 17) rfl _ _ _ rfl (F77.get (t := 21) rfl) (F77.get (t := 73) rfl) (numA B) _ rfl (zL rfl) (zaa _) (zp rfl) ze ?_
  intro w79 M79
  clear M78
  refine rm rfl F77 fun _ F80 => ?_
  refine hK72 _ _ ?_
  refine zSk fun _ hK81 => ?_
  refine zSk fun _ hK82 => ?_
  refine zR ?_
  refine rm rfl F80 fun _ F83 => ?_
  refine rm rfl F83 fun _ F84 => ?_
  refine zk (w' := w79) (zc rfl) rfl F84 rfl (.bool false) (y_neB _ _ rfl (F84.get (t := 75) rfl) (F84.get (t := 76) rfl) (by cases ok <;> rfl)) fun _ F85 => ?_
  clear F84
  refine zAx 3 [(78, .bool false), (79, numV B), (80, numV B)] [0, 1] (zr (M79.blk (k := 15) rfl) (zr (M79.blk (k := 17) rfl) dnil)) [g68, g77] F85 fun _ F86 => ?_
  clear F85
  refine zk (w' := w79) (zwb rfl rfl rfl (F86.get (t := 78) rfl)) rfl F86 rfl (.bool false) (y_neA _ _ _ _ rfl (F86.get (t := 79) rfl) (F86.get (t := 80) rfl) (by kernel_rfl) (eqn_same B _)) fun _ F87 => ?_
  clear F86
  refine zk (w' := w79) (zc rfl) rfl F87 rfl (.bool false) (run_pick_f rfl (F87.get (t := 78) rfl) (F87.get (t := 81) rfl)) fun _ F88 => ?_
  clear F87
  refine hK82 _ _ ?_
  refine wp_cond_false (F88.get (t := 82) rfl) ?_
  refine wp_skip ?_
  refine hK81 _ _ ?_
  refine zSk fun _ hK89 => ?_
  refine zSk fun _ hK90 => ?_
  refine zR ?_
  refine rm rfl F88 fun _ F91 => ?_
  cases ok
  ·refine zk (w' := w79) (zc rfl) rfl F91 rfl (.bool true) (zlc _ _ rfl (F91.get (t := 83) rfl)) fun _ F92 => ?_
   clear F91
   refine hK90 _ _ ?_
   refine wp_cond_true (F92.get (t := 84) rfl) ?_
   refine zSk fun _ hK93 => ?_
   refine zR ?_
   refine zk (w' := w79) (zc rfl) rfl F92 rfl (numV B) (zdb _ _ rfl (F92.get (t := 18) rfl) (M79.blk (k := 15) rfl) (numA B) (zeb rfl) Tryz.underlying27 rfl ze) fun _ F94 => ?_
   clear F92
   refine zk (w' := w79) (zc rfl) rfl F94 rfl (numV 0) (zjc rfl) fun _ F95 => ?_
   clear F94
   refine zk (w' := w79) (zc rfl) rfl F95 rfl (.bool true) (y_eqA _ _ _ _ rfl (F95.get (t := 85) rfl) (F95.get (t := 86) rfl) (by kernel_rfl) (eqn_is (Bn rfl) _)) fun _ F96 => ?_
   clear F95
   refine rm rfl F96 fun _ F97 => ?_
   refine hK93 _ _ ?_
   refine wp_ret ?_
   try simp only [Exit.then, Exit.inBlock, Exit.jump]
   exact bodyPost_ret (res1 rfl (F97.get rfl)) F97.defers ⟨rfl, M79.below⟩
  ·have hSt := hS
   have hBt := hB
   rw [cond_true] at hSt hBt
   obtain ⟨hkD, hDK, hDP⟩ := srp_sides hg a1 l2 l3 Ob0 Ob1 hV1 hA hC hok hBt hSt
   obtain ⟨D, hD⟩ : ∃ D, zpa (prvS C l3 B) (prvN C l3 B) = D := ⟨_, rfl⟩
   rw [hD] at hDK hDP
   have kP := sprove_is C (by rw [cP]; exact po) (by rw [cP]; exact hp1) (by rw [cP]; exact p4) (by rw [cQ]; exact h2) (by rw [cQ]; exact hQ4) (by rw [cO]; exact oa4) (by rw [cg]; exact gfour) (by rw [cs]; exact (show a1.size ≤ 1000 by omega)) (by rw [cl]; exact (show l2.length ≤ 100000 by omega)) l3 (show l3.length ≤ 100000 by omega) B bB (ok := true) (X := D) (Y := D.Pr) hkD (by rw [cond_true]; exact hD) rfl
   have hSo : SideOk S := hSt ▸ shareN_ok
   have hDo : SideOk D := hD ▸ shareN_ok
   clear hD hkD hSt hBt
   refine zk (w' := w79) (zc rfl) rfl F91 rfl (.bool false) (zlc _ _ rfl (F91.get (t := 83) rfl)) fun _ F98 => ?_
   clear F91
   refine hK90 _ _ ?_
   refine wp_cond_false (F98.get (t := 84) rfl) ?_
   refine wp_skip ?_
   refine hK89 _ _ ?_
   refine zSk fun _ hK99 => ?_
   refine zR ?_
   refine zAx 3 [(89, .agg (zl C y57)), (90, .slice A3 n3 cap3), (91, numV B)] [0, 1] (zr (M79.blk (k := 10) rfl) (zr (M79.blk (k := 15) rfl) dnil)) [g59, g68] F98 fun _ F100 => ?_
   clear F98
   refine zba (zc rfl) rfl F100 rfl rfl (zE Tryz.func16 rfl) #[.agg (zl C y57), .slice A3 n3 cap3, numV B] (args3 (F100.get (t := 89) rfl) (F100.get (t := 90) rfl) (F100.get (t := 91) rfl)) (kP w79 _ _ ⟨(M79.isb (k := 8) rfl), (M79.isb (k := 9) rfl)⟩ (M79.isb (k := 1) rfl)) ?_
   rintro _ w101 a101 ⟨y101, rfl, his101, hlo101, hls101, b101⟩ F101
   obtain ⟨M101, -⟩ := side_two M79 b101 18 19 his101 hlo101 hls101 (by decide)
   clear M79 hlo101 hls101 his101 b101
   refine zB 4 [(12, .bool false), (17, .pointer (some ⟨g67, 0, none⟩)), (93, .agg (zl D y101)), (94, .agg (zi D.Pr)), (95, .bool true)] [] dnil [] F101 fun _ F102 => ?_
   clear F101
   refine zh (zc rfl) rfl F102 rfl M101 20 (t := 37) (c := zSA) (by unfold execOp; kernel_rfl) ?_
   intro g103 a103 w103 F103 M103
   clear F102 M101
   refine zh (zc rfl) rfl F103 rfl M103 21 (t := 35) (c := zi (fun _ => 0)) (by unfold execOp; kernel_rfl) ?_
   intro g104 a104 w104 F104 M104
   clear F103 M103
   refine zw (zc rfl) rfl F104 M104 (k := 20) rfl _ _ _ rfl (F104.get (t := 23) rfl) (F104.get (t := 93) rfl) (zl D y101) _ rfl (zL rfl) (zva (w := w104) ⟨(M104.isb (k := 18) rfl), (M104.isb (k := 19) rfl)⟩) (zp rfl) (by kernel_rfl) ?_
   intro w105 M105
   clear M104
   refine zw (zc rfl) rfl F104 M105 (k := 21) rfl _ _ _ rfl (F104.get (t := 24) rfl) (F104.get (t := 94) rfl) (zi D.Pr) _ rfl (zL rfl) (zfa _) (zp rfl) (by kernel_rfl) ?_
   intro w106 M106
   clear M105
   refine rm rfl F104 fun _ F107 => ?_
   refine hK99 _ _ ?_
   refine zSk fun _ hK108 => ?_
   have hD109 := (zr (M106.blk (k := 14) rfl) (zr (M106.blk (k := 21) rfl) dnil))
   refine region_fxL F107 (SK [.inl (.agg (zl S y65)), .inl (.agg (zi D.Pr)), .inr (StK.bytes (sumY D.Pr)), .inl (.tuple #[.agg (zi (ansY S.Ky S.Pr)), .bool true]), .inl (.tuple #[.agg (zi (ansY S.Ky S.Pr)), .bool true]), .inl (.agg (zi (ansY S.Ky S.Pr))), .inl (.bool true), .inr (StK.new w106.heap.size (zi (fun _ => 0)) 35 (by decide))]) 8 6 96 1 4 #[.agg (zi (ansY S.Ky S.Pr)), .bool true] (.bool true) rfl (by kernel_rfl) rfl (by kernel_rfl) (fun _ _ h => h) rfl (fun _ _ => Iff.rfl) rfl ⟨hopP F107 hD109 0 (some g67) (by kernel_rfl), hopP F107 hD109 1 (some g104) (by kernel_rfl), ?_, ?_, hop0 F107 (by kernel_rfl), hop0 F107 (by kernel_rfl), hop0 F107 (by kernel_rfl), ?_, trivial⟩ ?_
   ·intro ua uw hb hd
    have e98 : ua.eval (.tmp 98) = .agg (zi D.Pr) := hd 98 (by decide)
    exact zz (F := (StK.bytes (sumY D.Pr)).F) (zc rfl) hb.size rfl #[.agg (zi D.Pr)] (zta e98) (zE Tryz.func18 rfl) ((sb_r D.Pr hDo.pr uw))
   ·intro ua uw hb hd
    have e97 : ua.eval (.tmp 97) = .agg (zl S y65) := hd 97 (by decide)
    have e99 : IsB uw (sumY D.Pr) (ua.eval (.tmp 99)) := hd 99 (by decide)
    exact zz (F := (StK.eq (.tuple #[.agg (zi (ansY S.Ky S.Pr)), .bool true])).F) (zc rfl) hb.size rfl #[.agg (zl S y65), (ua.eval (.tmp 99))] (z2a e97 rfl) (zE Tryz.func17 rfl) (zqa ((scheck_y S _ hSo (sumY D.Pr) _ (by rw [hDP]) uw ⟨((M106.step hb).isb (k := 12) rfl), ((M106.step hb).isb (k := 13) rfl)⟩ e99)))
   ·intro ua uw hb hd
    exact hop_new (zc rfl) hb.size hb.size (by decide) (by unfold execOp; kernel_rfl)
   intro p110 a110 w110 b110 G110 y110
   obtain ⟨-, -, -, -, -, q5, q6, q7, -⟩ := y110
   obtain ⟨gn7x109, r7, hg7, hc7⟩ := q7 (by decide)
   replace r7 : p110 7 = .pointer (some ⟨gn7x109, 0, none⟩) := r7
   have r5 : p110 5 = .agg (zi (ansY S.Ky S.Pr)) := q5 (by decide)
   have r6 : p110 6 = .bool true := q6 (by decide)
   simp only [List.take, layV, Nat.zero_add, Nat.reduceAdd, r5, r6, r7] at G110
   have M110 := M106.newb b110.below 22 hg7 hc7
   clear hg7 hc7 r7
   clear F107 M106 r5 q5 r6 q6
   refine st_ex M110 (k := 22) rfl _ _ _ rfl (G110.get (t := 26) rfl) (G110.get (t := 101) rfl) (zi (ansY S.Ky S.Pr)) _ rfl (zL rfl) (zfa _) (zp rfl) (by kernel_rfl) ?_
   intro w111 M111
   clear M110
   refine rm rfl G110 fun _ F112 => ?_
   refine hK108 _ _ ?_
   refine zSk fun _ hK113 => ?_
   have hD114 := (zr (M111.blk (k := 20) rfl) (zr (M111.blk (k := 22) rfl) (zr (M111.blk (k := 14) rfl) (zr (M111.blk (k := 21) rfl) dnil))))
   refine zha F112 (SK [.inl (.bool true), .inl (.bool true), .inl (.bool true), .inl (.bool true), .inl (.bool true), .inl (.agg (zl D y101)), .inl (.agg (zi (ansY S.Ky S.Pr))), .inr (StK.bytes (sumY (ansY S.Ky S.Pr))), .inl (.bool true), .inl (.bool true), .inl (.bool true), .inl (.pointer (some ⟨g103, 60, none⟩)), .inl (.agg (zi D.Ky)), .inl (.pointer (some ⟨g67, 60, none⟩)), .inl (.agg (zi S.Ky)), .inl (.bool true), .inl (.bool true), .inl (.bool true), .inl (.pointer (some ⟨g103, 76, none⟩)), .inl (.agg (zi D.Pr)), .inl (.pointer (some ⟨g67, 76, none⟩)), .inl (.agg (zi S.Pr)), .inl (.bool true), .inl (.bool true), .inl (.bool true), .inl (.agg (zi D.Pr)), .inl (.pointer (some ⟨g67, 76, none⟩)), .inl (.agg (zi S.Pr)), .inl (.bool true), .inl (.bool true), .inl (.bool true)]) 31 rfl (by kernel_rfl) ⟨hop0 F112 (by kernel_rfl), hop0 F112 (by kernel_rfl), hop0 F112 (by kernel_rfl), hop0 F112 (by kernel_rfl), hop0 F112 (by kernel_rfl), hopP F112 hD114 0 (some g103) (by kernel_rfl), hopP F112 hD114 1 (some gn7x109) (by kernel_rfl), ?_, ?_, hop0 F112 (by kernel_rfl), hop0 F112 (by kernel_rfl), hop0 F112 (by kernel_rfl), hopP F112 hD114 0 (some g103) (by kernel_rfl), hop0 F112 (by kernel_rfl), hopP F112 hD114 2 (some g67) (by kernel_rfl), hopR F112 [(115, .agg (zi D.Ky)), (117, .agg (zi S.Ky))] (v := .bool true) fun ua uw hb ⟨e115, e117, _⟩ => (run_eq16 _ _ rfl S.Ky (e115.trans (by rw [hDK])) e117), hop0 F112 (by kernel_rfl), hop0 F112 (by kernel_rfl), hop0 F112 (by kernel_rfl), hopP F112 hD114 0 (some g103) (by kernel_rfl), hop0 F112 (by kernel_rfl), hopP F112 hD114 2 (some g67) (by kernel_rfl), hopR F112 [(122, .agg (zi D.Pr)), (124, .agg (zi S.Pr))] (v := .bool true) fun ua uw hb ⟨e122, e124, _⟩ => (run_eq16 _ _ rfl S.Pr (e122.trans (by rw [hDP])) e124), hop0 F112 (by kernel_rfl), hop0 F112 (by kernel_rfl), hopP F112 hD114 3 (some g104) (by kernel_rfl), hop0 F112 (by kernel_rfl), hopP F112 hD114 2 (some g67) (by kernel_rfl), hopR F112 [(128, .agg (zi D.Pr)), (130, .agg (zi S.Pr))] (v := .bool true) fun ua uw hb ⟨e128, e130, _⟩ => (run_eq16 _ _ rfl S.Pr (e128.trans (by rw [hDP])) e130), hop0 F112 (by kernel_rfl), hop0 F112 (by kernel_rfl), trivial⟩ ?_
   ·intro ua uw hb hd
    have eg : ua.eval (.tmp 107) = .bool true := hd 107 (by decide)
    have e109 : ua.eval (.tmp 109) = .agg (zi (ansY S.Ky S.Pr)) := hd 109 (by decide)
    exact zz (F := (StK.bytes (sumY (ansY S.Ky S.Pr))).F) (zwb rfl rfl rfl eg) hb.size rfl #[.agg (zi (ansY S.Ky S.Pr))] (zta e109) (zE Tryz.func18 rfl) ((sb_r (ansY S.Ky S.Pr) (zrb _) uw))
   ·intro ua uw hb hd
    have eg : ua.eval (.tmp 107) = .bool true := hd 107 (by decide)
    have e108 : ua.eval (.tmp 108) = .agg (zl D y101) := hd 108 (by decide)
    have e110 : IsB uw (sumY (ansY S.Ky S.Pr)) (ua.eval (.tmp 110)) := hd 110 (by decide)
    exact zz (F := (StK.eq (.bool true)).F) (zwb rfl rfl rfl eg) hb.size rfl #[.agg (zl D y101), (ua.eval (.tmp 110))] (z2a e108 rfl) (zE Tryz.func19 rfl) (zqa ((done_any D _ hDo (sumY (ansY S.Ky S.Pr)) _ true (decide_eq_true (by rw [hDK, hDP])) uw ⟨((M111.step hb).isb (k := 18) rfl), ((M111.step hb).isb (k := 19) rfl)⟩ e110)))
   intro p115 a115 w115 b115 G115 y115
   obtain ⟨-, -, -, -, -, -, -, -, -, -, -, -, -, -, -, -, -, -, -, -, -, -, -, -, -, -, -, -, -, -, q30, -⟩ := y115
   have r30 : p115 30 = .bool true := q30 (by decide)
   simp only [List.take, layV, Nat.zero_add, Nat.reduceAdd, r30] at G115
   have M115 := M111.kc b115
   clear F112 M111 r30 q30
   refine hK113 _ _ ?_
   refine wp_ret ?_
   try simp only [Exit.then, Exit.inBlock, Exit.jump]
   exact bodyPost_ret (res1 rfl (G115.get (t := 12) rfl)) G115.defers ⟨rfl, M115.below⟩
end Go.Proofs.YtcfepoopkfhojaaGreat
