/- What SrpKR stands on, part 14. -/
import Derived.Test.YtcfepoopkfhojaaGreatSrpKRP1
import Derived.Test.YtcfepoopkfhojaaGreatSrpKRP2
import Derived.Test.YtcfepoopkfhojaaGreatSrpKRP3
import Derived.Test.YtcfepoopkfhojaaGreatSrpKRP4
import Derived.Test.YtcfepoopkfhojaaGreatSrpKRP5
import Derived.Test.YtcfepoopkfhojaaGreatSrpKRP6
import Derived.Test.YtcfepoopkfhojaaGreatSrpKRP7
import Derived.Test.YtcfepoopkfhojaaGreatSrpKRP8
import Derived.Test.YtcfepoopkfhojaaGreatSrpKRP9
import Derived.Test.YtcfepoopkfhojaaGreatSrpKRP10
import Derived.Test.YtcfepoopkfhojaaGreatSrpKRP11
import Derived.Test.YtcfepoopkfhojaaGreatSrpKRP12
import Derived.Test.YtcfepoopkfhojaaGreatSrpKRP13
set_option maxRecDepth 100000
set_option maxHeartbeats 8000000
set_option linter.unusedVariables false
set_option linter.unusedSimpArgs false
namespace Go.Proofs.YtcfepoopkfhojaaGreat
open Go.ChangeShapes Go.WideShapes Go.ChangeAt Go.RowKit
theorem SrpRuns_walk (a0 : Int) (hk0 : -9223372036854775808 ≤ a0) (hl0 : a0 < 9223372036854775808)
  (A1 : Option Addr) (n1 cap1 : Nat) (l1 : List UInt8) (hn1 : l1.length = n1) (hc1 : n1 ≤ cap1) (hm1 : cap1 ≤ maxLen) (hz1 : A1 = none → cap1 = 0)
  (A2 : Option Addr) (n2 cap2 : Nat) (l2 : List UInt8) (hn2 : l2.length = n2) (hc2 : n2 ≤ cap2) (hm2 : cap2 ≤ maxLen) (hz2 : A2 = none → cap2 = 0)
  (A3 : Option Addr) (n3 cap3 : Nat) (l3 : List UInt8) (hn3 : l3.length = n3) (hc3 : n3 ≤ cap3) (hm3 : cap3 ≤ maxLen) (hz3 : A3 = none → cap3 = 0) (w : World) (hr1 : Rd w A1 l1) (hr2 : Rd w A2 l2) (hr3 : Rd w A3 l3) :
  Calls Tryz.prog 8 #[.int .i64 a0, .slice A1 n1 cap1, .slice A2 n2 cap2, .slice A3 n3 cap3] w fun e w' => e = .returned (.bool true) ∧ Below w.heap.size w w' := by
 have ib1 : IsB w l1 (.slice A1 n1 cap1) := hr1.isB' hn1 hc1 hm1 hz1
 have ib2 : IsB w l2 (.slice A2 n2 cap2) := hr2.isB' hn2 hc2 hm2 hz2
 have ib3 : IsB w l3 (.slice A3 n3 cap3) := hr3.isB' hn3 hc3 hm3 hz3
 obtain ⟨k, p, hg, kG⟩ := group_any hk0 hl0
 obtain ⟨hpa, hpb⟩ : 4000 < p ∧ p < 16777216 := ⟨hg.2.2.2.1, hg.2.2.2.2.1⟩
 have po : p % 2 = 1 := hg.2.2.1
 have hp1 : 1 < p := by omega
 have p4 : p < 4294967296 := by omega
 have hP : p < 4294967296 ^ 8 := Nat.lt_trans p4 (by decide)
 have h2 : 2 < p / 2 := by omega
 have hQ4 : p / 2 ≤ 4294967296 := by omega
 have hQ : p / 2 < 4294967296 ^ 8 := Nat.lt_of_le_of_lt hQ4 (by decide)
 have hP0 : 0 < p := by omega
 have hm : ∀ x, x % p < 4294967296 ^ 8 := fun x => Nat.lt_trans (Nat.mod_lt _ hP0) hP
 have gfour : (4 : Nat) < 4294967296 ^ 8 := by decide
 obtain ⟨sh, hsh⟩ : ∃ b, shortB [l1, l2, l3] = b := ⟨_, rfl⟩
 refine zea (args := [.int .i64 a0, .slice A1 n1 cap1, .slice A2 n2 cap2, .slice A3 n3 cap3]) 132 Tryz.func8 rfl rfl rfl ?_
 intro fa F
 have M := Mx.start w
 replace M := M.argB 0 ib1 (fun g e => by cases e)
 replace M := M.argB 1 ib2 (fun g e => by cases e)
 replace M := M.argB 2 ib3 (fun g e => by cases e)
 refine zSk fun _ hK21 => ?_
 refine zR ?_
 refine rm rfl F fun _ F22 => ?_
 refine hK21 _ _ ?_
 refine zSk fun _ hK23 => ?_
 refine zSk fun _ hK24 => ?_
 refine zR ?_
 refine zba (zc rfl) rfl F22 rfl rfl (zE Tryz.func9 rfl) #[] (args0) (zga (sknown_any w)) ?_
 rintro _ w25 a25 ⟨rfl, b25⟩ F25
 have M25 := M.step b25
 refine zk (w' := w25) (zc rfl) rfl F25 rfl (.bool false) (zlc _ _ rfl (F25.get (t := 29) rfl)) fun _ F26 => ?_
 clear F25
 refine hK24 _ _ ?_
 refine wp_cond_false (F26.get (t := 30) rfl) ?_
 refine wp_skip ?_
 refine hK23 _ _ ?_
 refine zSk fun _ hK27 => ?_
 refine zSk fun _ hK28 => ?_
 refine zR ?_
 refine rm rfl F26 fun _ F29 => ?_
 refine rm rfl F29 fun _ F30 => ?_
 refine rm rfl F30 fun _ F31 => ?_
 refine zfc (zc rfl) rfl F31 rfl M25 3 (t := 22) (c := #[.slice A1 n1 cap1, .slice A2 n2 cap2, .slice A3 n3 cap3]) (k := 3) (m := 3) (y_litG 54 22 (s := 1) (zv := zN) Tryz.underlying54 (by kernel_rfl) (by kernel_rfl) rfl (#[.slice A1 n1 cap1, .slice A2 n2 cap2, .slice A3 n3 cap3]) (by decide) (by decide) (by simp only [List.map_toArray, List.map_cons, List.map_nil, (F31.get (t := 31) rfl), (F31.get (t := 32) rfl), (F31.get (t := 33) rfl)]; kernel_rfl)) ?_
 intro g32 a32 w32 F32 M32
 clear F31 M25
 refine zba (zc rfl) rfl F32 rfl rfl (zE Tryz.func10 rfl) #[.slice (some ⟨g32, 0, none⟩) 3 3] (zta (F32.get (t := 34) rfl)) (zga ((hsh ▸ short_any [l1, l2, l3] _ w32 (isP_blk (M32.blk (k := 3) rfl) rfl rfl (show 3 ≤ 1000 by decide) (fun j l hj => by
   match j, hj with
   | 0, hj => obtain rfl : l1 = l := Option.some.inj hj; exact ⟨_, rfl, (M32.isb (k := 0) rfl)⟩
   | 1, hj => obtain rfl : l2 = l := Option.some.inj hj; exact ⟨_, rfl, (M32.isb (k := 1) rfl)⟩
   | 2, hj => obtain rfl : l3 = l := Option.some.inj hj; exact ⟨_, rfl, (M32.isb (k := 2) rfl)⟩
   | n + 3, hj => cases hj))))) ?_
 rintro _ w33 a33 ⟨rfl, b33⟩ F33
 have M33 := M32.step b33
 cases sh
 ·refine zk (w' := w33) (zc rfl) rfl F33 rfl (.bool true) (zlc _ _ rfl (F33.get (t := 35) rfl)) fun _ F34 => ?_
  clear F33
  refine hK28 _ _ ?_
  refine wp_cond_true (F34.get (t := 36) rfl) ?_
  refine zSk fun _ hK35 => ?_
  refine zR ?_
  refine rm rfl F34 fun _ F36 => ?_
  refine hK35 _ _ ?_
  refine wp_ret ?_
  try simp only [Exit.then, Exit.inBlock, Exit.jump]
  exact bodyPost_ret (res1 rfl (F36.get rfl)) F36.defers ⟨rfl, M33.below⟩
 ·have hs0 : l1.length ≤ 64 := short_mem hsh (by simp)
  have hs1 : l2.length ≤ 64 := short_mem hsh (by simp)
  have hs2 : l3.length ≤ 64 := short_mem hsh (by simp)
  have hP31 : p < 2147483648 := by omega
  have hQ5 : p / 2 < 4294967296 := by omega
  obtain ⟨V1, hV1⟩ : ∃ V, 4 ^ secN (p / 2) (sBy ({ data := #[117] } : ByteArray)) l1 [] % p = V := ⟨_, rfl⟩
  have bV1 : V1 < 4294967296 ^ 8 := by rw [← hV1]; exact hm _
  have rV1 := fun (w : World) (vp vs : Value) (hp : IsB w l1 vp) (hs : IsB w [] vs) => rver7_any k p (p / 2) 4 hp1 hP31 h2 hQ5 gfour ({ data := #[117] } : ByteArray) (show 1 ≤ 200 by decide) l1 [] (show l1.length ≤ 200 by omega) (show 0 ≤ 200 by decide) vp vs w hp hs
  rw [hV1] at rV1
  obtain ⟨Oa, hOa⟩ : ∃ O, texN (p / 2) [97] [l2] = O := ⟨_, rfl⟩
  have oa4 : Oa < 4294967296 := by rw [← hOa]; exact Nat.lt_of_lt_of_le (zkc h2 _).2 hQ4
  obtain ⟨A, hA⟩ : ∃ A, 4 ^ Oa % p = A := ⟨_, rfl⟩
  have bA : A < 4294967296 ^ 8 := by rw [← hA]; exact hm _
  obtain ⟨C, hC⟩ : ∃ C : SideN, ⟨k, p, p / 2, 4, ({ data := #[117] } : ByteArray), l1, 4 ^ Oa % p, 0, Oa, [], 0, fun _ => 0, fun _ => 0⟩ = C := ⟨_, rfl⟩
  have kH := shello_is k p (p / 2) 4 po hp1 hP h2 hQ gfour ({ data := #[117] } : ByteArray) l1 l2 (show l1.length ≤ 100000 by omega) (X := C) (A := A) (by rw [hOa]; exact hC) (by rw [hOa]; exact hA)
  obtain ⟨cP, cQ, cO, cg, cs, cl, cls⟩ : C.P = p ∧ C.Q = p / 2 ∧ C.O = Oa ∧ C.g = 4 ∧ C.s = ({ data := #[117] } : ByteArray) ∧ C.lp = l1 ∧ C.ls = [] := by rw [← hC]; exact ⟨rfl, rfl, rfl, rfl, rfl, rfl, rfl⟩
  obtain ⟨Ob, hOb⟩ : ∃ O, texN (p / 2) [98] [l2] = O := ⟨_, rfl⟩
  obtain ⟨Ob0, Ob1⟩ : 1 ≤ Ob ∧ Ob < p / 2 := by rw [← hOb]; exact zkc h2 _
  obtain ⟨ok, hok⟩ : ∃ b, offOk p (p / 2) 4 V1 A Ob = b := ⟨_, rfl⟩
  obtain ⟨S, hS⟩ : ∃ S, cond ok (zpa (offS k p (p / 2) 4 ({ data := #[117] } : ByteArray) [] V1 A Ob) (offN p (p / 2) 4 V1 A Ob)) zeroS = S := ⟨_, rfl⟩
  obtain ⟨B, hB⟩ : ∃ B, cond ok (offB p (p / 2) 4 V1 Ob) 0 = B := ⟨_, rfl⟩
  have kO := soffer_is k p (p / 2) 4 po hp1 p4 h2 hQ gfour ⟨1, ({ data := #[117] } : ByteArray), [], V1, 0, [], 0, 0, 0⟩ bV1 (show 1 ≤ 1000 by decide) (show 0 ≤ 100000 by decide) A bA l2 (ok := ok) (X := S) (B := B) (by rw [hOb]; exact hok) (by rw [hOb]; exact hS) (by rw [hOb]; exact hB)
  have Bn : ok = false → B = 0 := fun h => by rw [← hB, h]; rfl
  have bB : B < 4294967296 ^ 8 := cond_lt hB (offB_lt hP0 hP) (by decide)
  obtain ⟨Oc, hOc⟩ : ∃ O, texN (p / 2) [98] [l3] = O := ⟨_, rfl⟩
  obtain ⟨Oc0, Oc1⟩ : 1 ≤ Oc ∧ Oc < p / 2 := by rw [← hOc]; exact zkc h2 _
  obtain ⟨ok2, hok2⟩ : ∃ b, offOk p (p / 2) 4 V1 A Oc = b := ⟨_, rfl⟩
  obtain ⟨S2, hS2⟩ : ∃ S, cond ok2 (zpa (offS k p (p / 2) 4 ({ data := #[117] } : ByteArray) [] V1 A Oc) (offN p (p / 2) 4 V1 A Oc)) zeroS = S := ⟨_, rfl⟩
  obtain ⟨B2, hB2⟩ : ∃ B, cond ok2 (offB p (p / 2) 4 V1 Oc) 0 = B := ⟨_, rfl⟩
  have kO2 := soffer_is k p (p / 2) 4 po hp1 p4 h2 hQ gfour ⟨1, ({ data := #[117] } : ByteArray), [], V1, 0, [], 0, 0, 0⟩ bV1 (show 1 ≤ 1000 by decide) (show 0 ≤ 100000 by decide) A bA l3 (ok := ok2) (X := S2) (B := B2) (by rw [hOc]; exact hok2) (by rw [hOc]; exact hS2) (by rw [hOc]; exact hB2)
  have B2n : ok2 = false → B2 = 0 := fun h => by rw [← hB2, h]; rfl
  have bB2 : B2 < 4294967296 ^ 8 := cond_lt hB2 (offB_lt hP0 hP) (by decide)
  clear hOa hOb hOc
  refine zk (w' := w33) (zc rfl) rfl F33 rfl (.bool false) (zlc _ _ rfl (F33.get (t := 35) rfl)) fun _ F37 => ?_
  clear F33
  refine hK28 _ _ ?_
  refine wp_cond_false (F37.get (t := 36) rfl) ?_
  refine wp_skip ?_
  refine hK27 _ _ ?_
  refine zSk fun _ hK38 => ?_
  refine zR ?_
  refine rm rfl F37 fun _ F39 => ?_
  refine zba (zc rfl) rfl F39 rfl rfl (zE Tryz.func11 rfl) #[.int .i64 a0] (zta (F39.get (t := 37) rfl)) (zga (kG w33)) ?_
  rintro _ w40 a40 ⟨rfl, b40⟩ F40
  have M40 := M33.step b40
  refine zh (zc rfl) rfl F40 rfl M40 4 (t := 29) (c := zg 0 0 0 0) (by unfold execOp; rw [z2b]; kernel_rfl) ?_
  intro g41 a41 w41 F41 M41
  clear F40 M40
  refine zw (zc rfl) rfl F41 M41 (k := 4) rfl _ _ _ rfl (F41.get (t := 9) rfl) (F41.get (t := 38) rfl) (zg k p (p / 2) 4) _ rfl (zL rfl) (z9b _ _ _ _) (zp rfl) (by kernel_rfl) ?_
  intro w42 M42
  clear M41
  refine hK38 _ _ ?_
  refine zSk fun _ hK43 => ?_
  refine zR ?_
  refine zk (w' := w42) (zc rfl) rfl F41 rfl _ (zdb _ _ rfl (F41.get (t := 9) rfl) (M42.blk (k := 4) rfl) (zg k p (p / 2) 4) (zeb rfl) Tryz.underlying29 rfl (by kernel_rfl)) fun _ F44 => ?_
  clear F41
  refine rm rfl F44 fun _ F45 => ?_
  refine zba (zc rfl) rfl F45 rfl rfl (zE Tryz.func20 rfl) #[.agg (zg k p (p / 2) 4), .string ({ data := #[117] }), .slice A1 n1 cap1, zN] (args4 (F45.get (t := 39) rfl) rfl (F45.get (t := 40) rfl) rfl) (zga ((rV1 w42 _ _ (M42.isb (k := 0) rfl) (zja _)))) ?_
  rintro _ w46 a46 ⟨rfl, b46⟩ F46
  have M46 := M42.step b46
  refine zk (w' := w46) (zc rfl) rfl F46 rfl (.agg (recA ⟨1, ({ data := #[117] }), [], V1, 0, [], 0, 0, 0⟩ ⟨zN, zN⟩)) (by unfold execOp; simp only [List.map_toArray, List.map_cons, List.map_nil, (F46.get (t := 41) rfl)]; kernel_rfl) fun _ F47 => ?_
  clear F46
  refine zh (zc rfl) rfl F47 rfl M46 5 (t := 33) (c := recA ⟨0, "".toUTF8, [], 0, 0, [], 0, 0, 0⟩ ⟨zN, zN⟩) (by unfold execOp; kernel_rfl) ?_
  intro g48 a48 w48 F48 M48
  clear F47 M46
  refine zw (zc rfl) rfl F48 M48 (k := 5) rfl _ _ _ rfl (F48.get (t := 10) rfl) (F48.get (t := 42) rfl) (recA ⟨1, ({ data := #[117] }), [], V1, 0, [], 0, 0, 0⟩ ⟨zN, zN⟩) _ rfl (zL rfl) (recA_one (w := w48) ⟨(zja _), zja _⟩) (zp rfl) (by kernel_rfl) ?_
  intro w49 M49
  clear M48
  refine hK43 _ _ ?_
  refine zSk fun _ hK50 => ?_
  refine zR ?_
  refine zk (w' := w49) (zc rfl) rfl F48 rfl _ (zdb _ _ rfl (F48.get (t := 9) rfl) (M49.blk (k := 4) rfl) (zg k p (p / 2) 4) (zeb rfl) Tryz.underlying29 rfl (by kernel_rfl)) fun _ F51 => ?_
  clear F48
  refine rm rfl F51 fun _ F52 => ?_
  refine rm rfl F52 fun _ F53 => ?_
  refine zba (zc rfl) rfl F53 rfl rfl (zE Tryz.func13 rfl) #[.agg (zg k p (p / 2) 4), .string ({ data := #[117] }), .slice A1 n1 cap1, .slice A2 n2 cap2] (args4 (F53.get (t := 44) rfl) rfl (F53.get (t := 45) rfl) (F53.get (t := 46) rfl)) (kH w49 _ _ (M49.isb (k := 0) rfl) (M49.isb (k := 1) rfl)) ?_
  rintro _ w54 a54 ⟨y54, rfl, his54, hlo54, hls54, b54⟩ F54
  obtain ⟨M54, -⟩ := side_two M49 b54 6 7 his54 hlo54 hls54 (by decide)
  clear M49 hlo54 hls54 his54 b54
  refine zAx 3 [(43, .tuple #[.agg (zl C y54), numV A]), (48, .agg (zl C y54)), (49, numV A)] [] dnil [] F54 fun _ F55 => ?_
  clear F54
  refine zh (zc rfl) rfl F55 rfl M54 8 (t := 37) (c := zSA) (by unfold execOp; kernel_rfl) ?_
  intro g56 a56 w56 F56 M56
  clear F55 M54
  refine zh (zc rfl) rfl F56 rfl M56 9 (t := 27) (c := numA 0) (zx rfl) ?_
  intro g57 a57 w57 F57 M57
  clear F56 M56
  refine zw (zc rfl) rfl F57 M57 (k := 8) rfl _ _ _ rfl (F57.get (t := 11) rfl) (F57.get (t := 48) rfl) (zl C y54) _ rfl (zL rfl) (zva (w := w57) ⟨(M57.isb (k := 6) rfl), (M57.isb (k := 7) rfl)⟩) (zp rfl) (by kernel_rfl) ?_
  intro w58 M58
  clear M57
  refine zw (zc rfl) rfl F57 M58 (k := 9) rfl _ _ _ rfl (F57.get (t := 12) rfl) (F57.get (t := 49) rfl) (numA A) _ rfl (zL rfl) (zaa _) (zp rfl) ze ?_
  intro w59 M59
  clear M58
  refine hK50 _ _ ?_
  refine zSk fun _ hK60 => ?_
  refine zR ?_
  refine zk (w' := w59) (zc rfl) rfl F57 rfl _ (zdb _ _ rfl (F57.get (t := 9) rfl) (M59.blk (k := 4) rfl) (zg k p (p / 2) 4) (zeb rfl) Tryz.underlying29 rfl (by kernel_rfl)) fun _ F61 => ?_
  clear F57
  refine zk (w' := w59) (zc rfl) rfl F61 rfl _ (zdb _ _ rfl (F61.get (t := 10) rfl) (M59.blk (k := 5) rfl) (recA ⟨1, ({ data := #[117] }), [], V1, 0, [], 0, 0, 0⟩ ⟨zN, zN⟩) (zeb rfl) Tryz.underlying33 rfl (by kernel_rfl)) fun _ F62 => ?_
  clear F61
  refine zk (w' := w59) (zc rfl) rfl F62 rfl (numV A) (zdb _ _ rfl (F62.get (t := 12) rfl) (M59.blk (k := 9) rfl) (numA A) (zeb rfl) Tryz.underlying27 rfl ze) fun _ F63 => ?_
  clear F62
  refine rm rfl F63 fun _ F64 => ?_
  refine zba (zc rfl) rfl F64 rfl rfl (zE Tryz.func14 rfl) #[.agg (zg k p (p / 2) 4), .agg (recA ⟨1, ({ data := #[117] }), [], V1, 0, [], 0, 0, 0⟩ ⟨zN, zN⟩), numV A, .slice A2 n2 cap2] (args4 (F64.get (t := 51) rfl) (F64.get (t := 52) rfl) (F64.get (t := 53) rfl) (F64.get (t := 54) rfl)) (kO w59 _ _ ⟨(zja _), zja _⟩ (M59.isb (k := 1) rfl)) ?_
  rintro _ w65 a65 ⟨y65, rfl, his65, hlo65, hls65, b65⟩ F65
  obtain ⟨M65, -⟩ := side_two M59 b65 10 11 his65 hlo65 hls65 (by decide)
  clear M59 hlo65 hls65 his65 b65
  refine zAx 4 [(50, .tuple #[.agg (zl S y65), numV B, .bool ok]), (56, .agg (zl S y65)), (57, numV B), (58, .bool ok)] [] dnil [] F65 fun _ F66 => ?_
  clear F65
  refine zh (zc rfl) rfl F66 rfl M65 12 (t := 37) (c := zSA) (by unfold execOp; kernel_rfl) ?_
  intro g67 a67 w67 F67 M67
  clear F66 M65
  refine zh (zc rfl) rfl F67 rfl M67 13 (t := 27) (c := numA 0) (zx rfl) ?_
  intro g68 a68 w68 F68 M68
  clear F67 M67
  refine zw (zc rfl) rfl F68 M68 (k := 12) rfl _ _ _ rfl (F68.get (t := 13) rfl) (F68.get (t := 56) rfl) (zl S y65) _ rfl (zL rfl) (zva (w := w68) ⟨(M68.isb (k := 10) rfl), (M68.isb (k := 11) rfl)⟩) (zp rfl) (by kernel_rfl) ?_
  intro w69 M69
  clear M68
  refine zw (zc rfl) rfl F68 M69 (k := 13) rfl _ _ _ rfl (F68.get (t := 14) rfl) (F68.get (t := 57) rfl) (numA B) _ rfl (zL rfl) (zaa _) (zp rfl) ze ?_
  intro w70 M70
  clear M69
  refine rm rfl F68 fun _ F71 => ?_
  refine hK60 _ _ ?_
  refine zSk fun _ hK72 => ?_
  refine zR ?_
  refine zk (w' := w70) (zc rfl) rfl F71 rfl _ (zdb _ _ rfl (F71.get (t := 9) rfl) (M70.blk (k := 4) rfl) (zg k p (p / 2) 4) (zeb rfl) Tryz.underlying29 rfl (by kernel_rfl)) fun _ F73 => ?_
  clear F71
  refine zk (w' := w70) (zc rfl) rfl F73 rfl _ (zdb _ _ rfl (F73.get (t := 10) rfl) (M70.blk (k := 5) rfl) (recA ⟨1, ({ data := #[117] }), [], V1, 0, [], 0, 0, 0⟩ ⟨zN, zN⟩) (zeb rfl) Tryz.underlying33 rfl (by kernel_rfl)) fun _ F74 => ?_
  clear F73
  refine zk (w' := w70) (zc rfl) rfl F74 rfl (numV A) (zdb _ _ rfl (F74.get (t := 12) rfl) (M70.blk (k := 9) rfl) (numA A) (zeb rfl) Tryz.underlying27 rfl ze) fun _ F75 => ?_
  clear F74
  refine rm rfl F75 fun _ F76 => ?_
  refine zba (zc rfl) rfl F76 rfl rfl (zE Tryz.func14 rfl) #[.agg (zg k p (p / 2) 4), .agg (recA ⟨1, ({ data := #[117] }), [], V1, 0, [], 0, 0, 0⟩ ⟨zN, zN⟩), numV A, .slice A3 n3 cap3] (args4 (F76.get (t := 60) rfl) (F76.get (t := 61) rfl) (F76.get (t := 62) rfl) (F76.get (t := 63) rfl)) (kO2 w70 _ _ ⟨(zja _), zja _⟩ (M70.isb (k := 2) rfl)) ?_
  rintro _ w77 a77 ⟨y77, rfl, his77, hlo77, hls77, b77⟩ F77
  obtain ⟨M77, -⟩ := side_two M70 b77 14 15 his77 hlo77 hls77 (by decide)
  clear M70 hlo77 hls77 his77 b77
  refine zAx 4 [(59, .tuple #[.agg (zl S2 y77), numV B2, .bool ok2]), (65, .agg (zl S2 y77)), (66, numV B2), (67, .bool ok2)] [] dnil [] F77 fun _ F78 => ?_
  clear F77
  refine zh (zc rfl) rfl F78 rfl M77 16 (t := 37) (c := zSA) (by unfold execOp; kernel_rfl) ?_
  intro g79 a79 w79 F79 M79
  clear F78 M77
  refine zh (zc rfl) rfl F79 rfl M79 17 (t := 27) (c := numA 0) (zx rfl) ?_
  intro g80 a80 w80 F80 M80
  clear F79 M79
  refine zw (zc rfl) rfl F80 M80 (k := 16) rfl _ _ _ rfl (F80.get (t := 16) rfl) (F80.get (t := 65) rfl) (zl S2 y77) _ rfl (zL rfl) (zva (w := w80) ⟨(M80.isb (k := 14) rfl), (M80.isb (k := 15) rfl)⟩) (zp rfl) (by kernel_rfl) ?_
  intro w81 M81
  clear M80
  refine zw (zc rfl) rfl F80 M81 (k := 17) rfl _ _ _ rfl (F80.get (t := 17) rfl) (F80.get (t := 66) rfl) (numA B2) _ rfl (zL rfl) (zaa _) (zp rfl) ze ?_
  intro w82 M82
  clear M81
  refine rm rfl F80 fun _ F83 => ?_
  refine hK72 _ _ ?_
  refine zSk fun _ hK84 => ?_
  refine zSk fun _ hK85 => ?_
  refine zR ?_
  refine rm rfl F83 fun _ F86 => ?_
  cases ok
  ·refine zAx 5 [(69, .bool true), (70, .bool true), (71, undef), (72, undef), (73, .bool true)] [] dnil [] F86 fun _ F87 => ?_
   clear F86
   refine hK85 _ _ ?_
   refine wp_cond_true (F87.get (t := 73) rfl) ?_
   refine zSk fun _ hK88 => ?_
   refine zR ?_
   refine rm rfl F87 fun _ F89 => ?_
   refine hK88 _ _ ?_
   refine wp_ret ?_
   try simp only [Exit.then, Exit.inBlock, Exit.jump]
   exact bodyPost_ret (res1 rfl (F89.get rfl)) F89.defers ⟨rfl, M82.below⟩
  ·have hSt := hS
   have hBt := hB
   rw [cond_true] at hSt hBt
   obtain ⟨hkD, hDK, hDP⟩ := srp_sides hg ({ data := #[117] } : ByteArray) l1 [] Ob0 Ob1 hV1 hA hC hok hBt hSt
   obtain ⟨D, hD⟩ : ∃ D, zpa (prvS C [] B) (prvN C [] B) = D := ⟨_, rfl⟩
   rw [hD] at hDK hDP
   have kP := sprove_is C (by rw [cP]; exact po) (by rw [cP]; exact hp1) (by rw [cP]; exact p4) (by rw [cQ]; exact h2) (by rw [cQ]; exact hQ4) (by rw [cO]; exact oa4) (by rw [cg]; exact gfour) (by rw [cs]; exact (show 1 ≤ 1000 by decide)) (by rw [cl]; exact (show l1.length ≤ 100000 by omega)) [] (show 0 ≤ 100000 by decide) B bB (ok := true) (X := D) (Y := D.Pr) hkD (by rw [cond_true]; exact hD) rfl
   have hSo : SideOk S := hSt ▸ shareN_ok
   have hDo : SideOk D := hD ▸ shareN_ok
   clear hD hkD hSt hBt
   refine zAx 3 [(69, .bool false), (70, .bool false), (71, .bool ok2)] [] dnil [] F86 fun _ F90 => ?_
   clear F86
   cases ok2
   ·refine zAx 2 [(72, .bool true), (73, .bool true)] [] dnil [] F90 fun _ F91 => ?_
    clear F90
    refine hK85 _ _ ?_
    refine wp_cond_true (F91.get (t := 73) rfl) ?_
    refine zSk fun _ hK92 => ?_
    refine zR ?_
    refine rm rfl F91 fun _ F93 => ?_
    refine hK92 _ _ ?_
    refine wp_ret ?_
    try simp only [Exit.then, Exit.inBlock, Exit.jump]
    exact bodyPost_ret (res1 rfl (F93.get rfl)) F93.defers ⟨rfl, M82.below⟩
   ·have hS2t := hS2
    have hB2t := hB2
    rw [cond_true] at hS2t hB2t
    obtain ⟨hkD2, hD2K, hD2P⟩ := srp_sides hg ({ data := #[117] } : ByteArray) l1 [] Oc0 Oc1 hV1 hA hC hok2 hB2t hS2t
    obtain ⟨D2, hD2⟩ : ∃ D, zpa (prvS C [] B2) (prvN C [] B2) = D := ⟨_, rfl⟩
    rw [hD2] at hD2K hD2P
    have kP2 := sprove_is C (by rw [cP]; exact po) (by rw [cP]; exact hp1) (by rw [cP]; exact p4) (by rw [cQ]; exact h2) (by rw [cQ]; exact hQ4) (by rw [cO]; exact oa4) (by rw [cg]; exact gfour) (by rw [cs]; exact (show 1 ≤ 1000 by decide)) (by rw [cl]; exact (show l1.length ≤ 100000 by omega)) [] (show 0 ≤ 100000 by decide) B2 bB2 (ok := true) (X := D2) (Y := D2.Pr) hkD2 (by rw [cond_true]; exact hD2) rfl
    have hS2o : SideOk S2 := hS2t ▸ shareN_ok
    have hD2o : SideOk D2 := hD2 ▸ shareN_ok
    clear hD2 hkD2 hS2t hB2t
    obtain ⟨mw, hmw⟩ : ∃ q, decide (sumY D.Pr = sumY D2.Pr) = q := ⟨_, rfl⟩
    have hmw1 : decide (sumY S.Pr = sumY D2.Pr) = mw := by rw [← hDP]; exact hmw
    have hmw2 : decide (sumY S2.Pr = sumY D.Pr) = mw := by rw [← hD2P, ← hmw]; exact decide_eq_decide.2 ⟨Eq.symm, Eq.symm⟩
    refine zAx 2 [(72, .bool false), (73, .bool false)] [] dnil [] F90 fun _ F94 => ?_
    clear F90
    refine hK85 _ _ ?_
    refine wp_cond_false (F94.get (t := 73) rfl) ?_
    refine wp_skip ?_
    refine hK84 _ _ ?_
    refine zSk fun _ hK95 => ?_
    refine zR ?_
    refine zAx 2 [(75, .agg (zl C y54)), (76, numV B)] [0, 1] (zr (M82.blk (k := 8) rfl) (zr (M82.blk (k := 13) rfl) dnil)) [g56, g68] F94 fun _ F96 => ?_
    clear F94
    refine zba (zc rfl) rfl F96 rfl rfl (zE Tryz.func16 rfl) #[.agg (zl C y54), zN, numV B] (args3 (F96.get (t := 75) rfl) rfl (F96.get (t := 76) rfl)) (kP w82 _ _ ⟨(M82.isb (k := 6) rfl), (M82.isb (k := 7) rfl)⟩ (zja _)) ?_
    rintro _ w97 a97 ⟨y97, rfl, his97, hlo97, hls97, b97⟩ F97
    obtain ⟨M97, -⟩ := side_two M82 b97 18 19 his97 hlo97 hls97 (by decide)
    clear M82 hlo97 hls97 his97 b97
    refine zAx 4 [(74, .tuple #[.agg (zl D y97), .agg (zi D.Pr), .bool true]), (78, .agg (zl D y97)), (79, .agg (zi D.Pr)), (80, .bool true)] [] dnil [] F97 fun _ F98 => ?_
    clear F97
    refine zh (zc rfl) rfl F98 rfl M97 20 (t := 37) (c := zSA) (by unfold execOp; kernel_rfl) ?_
    intro g99 a99 w99 F99 M99
    clear F98 M97
    refine zh (zc rfl) rfl F99 rfl M99 21 (t := 35) (c := zi (fun _ => 0)) (by unfold execOp; kernel_rfl) ?_
    intro g100 a100 w100 F100 M100
    clear F99 M99
    refine zw (zc rfl) rfl F100 M100 (k := 20) rfl _ _ _ rfl (F100.get (t := 19) rfl) (F100.get (t := 78) rfl) (zl D y97) _ rfl (zL rfl) (zva (w := w100) ⟨(M100.isb (k := 18) rfl), (M100.isb (k := 19) rfl)⟩) (zp rfl) (by kernel_rfl) ?_
    intro w101 M101
    clear M100
    refine zw (zc rfl) rfl F100 M101 (k := 21) rfl _ _ _ rfl (F100.get (t := 20) rfl) (F100.get (t := 79) rfl) (zi D.Pr) _ rfl (zL rfl) (zfa _) (zp rfl) (by kernel_rfl) ?_
    intro w102 M102
    clear M101
    refine rm rfl F100 fun _ F103 => ?_
    refine hK95 _ _ ?_
    refine zSk fun _ hK104 => ?_
    refine zR ?_
    refine zAx 2 [(82, .agg (zl C y54)), (83, numV B2)] [0, 1] (zr (M102.blk (k := 8) rfl) (zr (M102.blk (k := 17) rfl) dnil)) [g56, g80] F103 fun _ F105 => ?_
    clear F103
    refine zba (zc rfl) rfl F105 rfl rfl (zE Tryz.func16 rfl) #[.agg (zl C y54), zN, numV B2] (args3 (F105.get (t := 82) rfl) rfl (F105.get (t := 83) rfl)) (kP2 w102 _ _ ⟨(M102.isb (k := 6) rfl), (M102.isb (k := 7) rfl)⟩ (zja _)) ?_
    rintro _ w106 a106 ⟨y106, rfl, his106, hlo106, hls106, b106⟩ F106
    obtain ⟨M106, -⟩ := side_two M102 b106 22 23 his106 hlo106 hls106 (by decide)
    clear M102 hlo106 hls106 his106 b106
    refine zAx 4 [(81, .tuple #[.agg (zl D2 y106), .agg (zi D2.Pr), .bool true]), (85, .agg (zl D2 y106)), (86, .agg (zi D2.Pr)), (87, .bool true)] [] dnil [] F106 fun _ F107 => ?_
    clear F106
    refine zh (zc rfl) rfl F107 rfl M106 24 (t := 37) (c := zSA) (by unfold execOp; kernel_rfl) ?_
    intro g108 a108 w108 F108 M108
    clear F107 M106
    refine zh (zc rfl) rfl F108 rfl M108 25 (t := 35) (c := zi (fun _ => 0)) (by unfold execOp; kernel_rfl) ?_
    intro g109 a109 w109 F109 M109
    clear F108 M108
    refine zw (zc rfl) rfl F109 M109 (k := 24) rfl _ _ _ rfl (F109.get (t := 22) rfl) (F109.get (t := 85) rfl) (zl D2 y106) _ rfl (zL rfl) (zva (w := w109) ⟨(M109.isb (k := 22) rfl), (M109.isb (k := 23) rfl)⟩) (zp rfl) (by kernel_rfl) ?_
    intro w110 M110
    clear M109
    refine zw (zc rfl) rfl F109 M110 (k := 25) rfl _ _ _ rfl (F109.get (t := 23) rfl) (F109.get (t := 86) rfl) (zi D2.Pr) _ rfl (zL rfl) (zfa _) (zp rfl) (by kernel_rfl) ?_
    intro w111 M111
    clear M110
    refine rm rfl F109 fun _ F112 => ?_
    refine hK104 _ _ ?_
    refine zSk fun _ hK113 => ?_
    have hD114 := (zr (M111.blk (k := 12) rfl) (zr (M111.blk (k := 25) rfl) dnil))
    refine region_fxL F112 (SK [.inl (.agg (zl S y65)), .inl (.agg (zi D2.Pr)), .inr (StK.bytes (sumY D2.Pr)), .inl (.tuple #[.agg (zi (cond mw (ansY S.Ky S.Pr) (fun _ => 0))), .bool mw]), .inl (.tuple #[.agg (zi (cond mw (ansY S.Ky S.Pr) (fun _ => 0))), .bool mw]), .inl (.agg (zi (cond mw (ansY S.Ky S.Pr) (fun _ => 0)))), .inl (.bool mw), .inr (StK.new w111.heap.size (zi (fun _ => 0)) 35 (by decide))]) 8 6 88 1 4 #[.agg (zi (cond mw (ansY S.Ky S.Pr) (fun _ => 0))), .bool mw] (.bool mw) rfl (by kernel_rfl) rfl (by kernel_rfl) (fun _ _ h => h) rfl (fun _ _ => Iff.rfl) rfl ⟨hopP F112 hD114 0 (some g67) (by kernel_rfl), hopP F112 hD114 1 (some g109) (by kernel_rfl), ?_, ?_, hop0 F112 (by kernel_rfl), hop0 F112 (by kernel_rfl), hop0 F112 (by kernel_rfl), ?_, trivial⟩ ?_
    ·intro ua uw hb hd
     have e90 : ua.eval (.tmp 90) = .agg (zi D2.Pr) := hd 90 (by decide)
     exact zz (F := (StK.bytes (sumY D2.Pr)).F) (zc rfl) hb.size rfl #[.agg (zi D2.Pr)] (zta e90) (zE Tryz.func18 rfl) ((sb_r D2.Pr hD2o.pr uw))
    ·intro ua uw hb hd
     have e89 : ua.eval (.tmp 89) = .agg (zl S y65) := hd 89 (by decide)
     have e91 : IsB uw (sumY D2.Pr) (ua.eval (.tmp 91)) := hd 91 (by decide)
     exact zz (F := (StK.eq (.tuple #[.agg (zi (cond mw (ansY S.Ky S.Pr) (fun _ => 0))), .bool mw])).F) (zc rfl) hb.size rfl #[.agg (zl S y65), (ua.eval (.tmp 91))] (z2a e89 rfl) (zE Tryz.func17 rfl) (zqa ((check_any S _ hSo (sumY D2.Pr) _ mw hmw1 uw ⟨((M111.step hb).isb (k := 10) rfl), ((M111.step hb).isb (k := 11) rfl)⟩ e91)))
    ·intro ua uw hb hd
     exact hop_new (zc rfl) hb.size hb.size (by decide) (by unfold execOp; kernel_rfl)
    intro p115 a115 w115 b115 G115 y115
    obtain ⟨-, -, -, -, -, q5, q6, q7, -⟩ := y115
    obtain ⟨gn7x114, r7, hg7, hc7⟩ := q7 (by decide)
    replace r7 : p115 7 = .pointer (some ⟨gn7x114, 0, none⟩) := r7
    have r5 : p115 5 = .agg (zi (cond mw (ansY S.Ky S.Pr) (fun _ => 0))) := q5 (by decide)
    have r6 : p115 6 = .bool mw := q6 (by decide)
    simp only [List.take, layV, Nat.zero_add, Nat.reduceAdd, r5, r6, r7] at G115
    have M115 := M111.newb b115.below 26 hg7 hc7
    clear hg7 hc7 r7
    clear F112 M111 r5 q5 r6 q6
    refine st_ex M115 (k := 26) rfl _ _ _ rfl (G115.get (t := 25) rfl) (G115.get (t := 93) rfl) (zi (cond mw (ansY S.Ky S.Pr) (fun _ => 0))) _ rfl (zL rfl) (zfa _) (zp rfl) (by kernel_rfl) ?_
    intro w116 M116
    clear M115
    refine rm rfl G115 fun _ F117 => ?_
    refine hK113 _ _ ?_
    refine zSk fun _ hK118 => ?_
    have hD119 := (zr (M116.blk (k := 16) rfl) (zr (M116.blk (k := 21) rfl) dnil))
    refine region_fxL F117 (SK [.inl (.agg (zl S2 y77)), .inl (.agg (zi D.Pr)), .inr (StK.bytes (sumY D.Pr)), .inl (.tuple #[.agg (zi (cond mw (ansY S2.Ky S2.Pr) (fun _ => 0))), .bool mw]), .inl (.tuple #[.agg (zi (cond mw (ansY S2.Ky S2.Pr) (fun _ => 0))), .bool mw]), .inl (.agg (zi (cond mw (ansY S2.Ky S2.Pr) (fun _ => 0)))), .inl (.bool mw), .inr (StK.new w116.heap.size (zi (fun _ => 0)) 35 (by decide))]) 8 6 95 1 4 #[.agg (zi (cond mw (ansY S2.Ky S2.Pr) (fun _ => 0))), .bool mw] (.bool mw) rfl (by kernel_rfl) rfl (by kernel_rfl) (fun _ _ h => h) rfl (fun _ _ => Iff.rfl) rfl ⟨hopP F117 hD119 0 (some g79) (by kernel_rfl), hopP F117 hD119 1 (some g100) (by kernel_rfl), ?_, ?_, hop0 F117 (by kernel_rfl), hop0 F117 (by kernel_rfl), hop0 F117 (by kernel_rfl), ?_, trivial⟩ ?_
    ·intro ua uw hb hd
     have e97 : ua.eval (.tmp 97) = .agg (zi D.Pr) := hd 97 (by decide)
     exact zz (F := (StK.bytes (sumY D.Pr)).F) (zc rfl) hb.size rfl #[.agg (zi D.Pr)] (zta e97) (zE Tryz.func18 rfl) ((sb_r D.Pr hDo.pr uw))
    ·intro ua uw hb hd
     have e96 : ua.eval (.tmp 96) = .agg (zl S2 y77) := hd 96 (by decide)
     have e98 : IsB uw (sumY D.Pr) (ua.eval (.tmp 98)) := hd 98 (by decide)
     exact zz (F := (StK.eq (.tuple #[.agg (zi (cond mw (ansY S2.Ky S2.Pr) (fun _ => 0))), .bool mw])).F) (zc rfl) hb.size rfl #[.agg (zl S2 y77), (ua.eval (.tmp 98))] (z2a e96 rfl) (zE Tryz.func17 rfl) (zqa ((check_any S2 _ hS2o (sumY D.Pr) _ mw hmw2 uw ⟨((M116.step hb).isb (k := 14) rfl), ((M116.step hb).isb (k := 15) rfl)⟩ e98)))
    ·intro ua uw hb hd
     exact hop_new (zc rfl) hb.size hb.size (by decide) (by unfold execOp; kernel_rfl)
    intro p120 a120 w120 b120 G120 y120
    obtain ⟨-, -, -, -, -, q5, q6, q7, -⟩ := y120
    obtain ⟨gn7x119, r7, hg7, hc7⟩ := q7 (by decide)
    replace r7 : p120 7 = .pointer (some ⟨gn7x119, 0, none⟩) := r7
    have r5 : p120 5 = .agg (zi (cond mw (ansY S2.Ky S2.Pr) (fun _ => 0))) := q5 (by decide)
    have r6 : p120 6 = .bool mw := q6 (by decide)
    simp only [List.take, layV, Nat.zero_add, Nat.reduceAdd, r5, r6, r7] at G120
    have M120 := M116.newb b120.below 27 hg7 hc7
    clear hg7 hc7 r7
    clear F117 M116 r5 q5 r6 q6
    refine st_ex M120 (k := 27) rfl _ _ _ rfl (G120.get (t := 27) rfl) (G120.get (t := 100) rfl) (zi (cond mw (ansY S2.Ky S2.Pr) (fun _ => 0))) _ rfl (zL rfl) (zfa _) (zp rfl) (by kernel_rfl) ?_
    intro w121 M121
    clear M120
    refine rm rfl G120 fun _ F122 => ?_
    refine hK118 _ _ ?_
    refine zSk fun _ hK123 => ?_
    refine zR ?_
    refine zAx 8 [(102, .bool true), (103, .bool true), (104, .bool true), (105, .bool true), (106, .bool true), (107, .bool mw), (108, .agg (zi D.Pr)), (109, .agg (zi D2.Pr))] [0, 1] (zr (M121.blk (k := 21) rfl) (zr (M121.blk (k := 25) rfl) dnil)) [g100, g109] F122 fun _ F124 => ?_
    clear F122
    refine zk (w' := w121) (zwb rfl rfl rfl (F124.get (t := 106) rfl)) rfl F124 rfl (.bool mw) (run_eq16b _ _ rfl (F124.get (t := 108) rfl) (F124.get (t := 109) rfl) hDo.pr hD2o.pr hmw) fun _ F125 => ?_
    clear F124
    refine zk (w' := w121) (zwb rfl rfl rfl (F125.get (t := 106) rfl)) rfl F125 rfl (.bool true) (y_eqB _ _ rfl (F125.get (t := 107) rfl) (F125.get (t := 110) rfl) (by cases mw <;> rfl)) fun _ F126 => ?_
    clear F125
    refine zAx 5 [(112, .bool true), (113, .bool true), (114, .bool mw), (115, .agg (zi D.Pr)), (116, .agg (zi D2.Pr))] [0, 1] (zr (M121.blk (k := 21) rfl) (zr (M121.blk (k := 25) rfl) dnil)) [g100, g109] F126 fun _ F127 => ?_
    clear F126
    refine zk (w' := w121) (zwb rfl rfl rfl (F127.get (t := 113) rfl)) rfl F127 rfl (.bool mw) (run_eq16b _ _ rfl (F127.get (t := 115) rfl) (F127.get (t := 116) rfl) hDo.pr hD2o.pr hmw) fun _ F128 => ?_
    clear F127
    refine zk (w' := w121) (zwb rfl rfl rfl (F128.get (t := 113) rfl)) rfl F128 rfl (.bool true) (y_eqB _ _ rfl (F128.get (t := 114) rfl) (F128.get (t := 117) rfl) (by cases mw <;> rfl)) fun _ F129 => ?_
    clear F128
    refine zB 5 [(8, .bool false), (16, .pointer (some ⟨g79, 0, none⟩)), (23, .pointer (some ⟨g109, 0, none⟩)), (120, .bool true), (121, .agg (zi D.Pr)), (123, .agg (zi S.Pr))] [0, 1] (zr (M121.blk (k := 21) rfl) (zr (M121.blk (k := 12) rfl) dnil)) [g100, g67] F129 fun _ F130 => ?_
    clear F129
    refine zk (w' := w121) (zwb rfl rfl rfl (F130.get (t := 120) rfl)) rfl F130 rfl (.bool true) (run_eq16 _ _ rfl S.Pr ((F130.get (t := 121) rfl).trans (by rw [hDP])) (F130.get (t := 123) rfl)) fun _ F131 => ?_
    clear F130
    refine zB 5 [(8, .bool false), (126, .bool true), (127, .agg (zi D2.Pr)), (129, .agg (zi S2.Pr))] [0, 1] (zr (M121.blk (k := 25) rfl) (zr (M121.blk (k := 16) rfl) dnil)) [g109, g79] F131 fun _ F132 => ?_
    clear F131
    refine zk (w' := w121) (zwb rfl rfl rfl (F132.get (t := 126) rfl)) rfl F132 rfl (.bool true) (run_eq16 _ _ rfl S2.Pr ((F132.get (t := 127) rfl).trans (by rw [hD2P])) (F132.get (t := 129) rfl)) fun _ F133 => ?_
    clear F132
    refine zB 2 [(8, .bool true)] [] dnil [] F133 fun _ F134 => ?_
    clear F133
    refine hK123 _ _ ?_
    refine wp_ret ?_
    try simp only [Exit.then, Exit.inBlock, Exit.jump]
    exact bodyPost_ret (res1 rfl (F134.get rfl)) F134.defers ⟨rfl, M121.below⟩
end Go.Proofs.YtcfepoopkfhojaaGreat
