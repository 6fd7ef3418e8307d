/- What SrpProofs stands on, part 13. -/
import Derived.Test.YtcfepoopkfhojaaGreatSrpProofsP1
import Derived.Test.YtcfepoopkfhojaaGreatSrpProofsP2
import Derived.Test.YtcfepoopkfhojaaGreatSrpProofsP3
import Derived.Test.YtcfepoopkfhojaaGreatSrpProofsP4
import Derived.Test.YtcfepoopkfhojaaGreatSrpProofsP5
import Derived.Test.YtcfepoopkfhojaaGreatSrpProofsP6
import Derived.Test.YtcfepoopkfhojaaGreatSrpProofsP7
import Derived.Test.YtcfepoopkfhojaaGreatSrpProofsP8
import Derived.Test.YtcfepoopkfhojaaGreatSrpProofsP9
import Derived.Test.YtcfepoopkfhojaaGreatSrpProofsP10
import Derived.Test.YtcfepoopkfhojaaGreatSrpProofsP11
import Derived.Test.YtcfepoopkfhojaaGreatSrpProofsP12
set_option maxRecDepth 100000
set_option maxHeartbeats 8000000
set_option linter.unusedVariables false
set_option linter.unusedSimpArgs false
namespace Go.Proofs.YtcfepoopkfhojaaGreat
open Go.ChangeShapes Go.WideShapes Go.ChangeAt Go.RowKit
theorem SrpProofs_walk (a0 : Int) (hk0 : -9223372036854775808 ≤ a0) (hl0 : a0 < 9223372036854775808)
  (a1 : ByteArray) (hS1 : a1.size ≤ maxLen)
  (A2 : Option Addr) (n2 cap2 : Nat) (l2 : List UInt8) (hn2 : l2.length = n2) (hc2 : n2 ≤ cap2) (hm2 : cap2 ≤ maxLen) (hz2 : A2 = none → cap2 = 0)
  (A3 : Option Addr) (n3 cap3 : Nat) (l3 : List UInt8) (hn3 : l3.length = n3) (hc3 : n3 ≤ cap3) (hm3 : cap3 ≤ maxLen) (hz3 : A3 = none → cap3 = 0)
  (A4 : Option Addr) (n4 cap4 : Nat) (l4 : List UInt8) (hn4 : l4.length = n4) (hc4 : n4 ≤ cap4) (hm4 : cap4 ≤ maxLen) (hz4 : A4 = none → cap4 = 0)
  (a5 : Int) (hk5 : -9223372036854775808 ≤ a5) (hl5 : a5 < 9223372036854775808)
  (a6 : Int) (hk6 : 0 ≤ a6) (hl6 : a6 < 256)
  (a7 : Int) (hk7 : -9223372036854775808 ≤ a7) (hl7 : a7 < 9223372036854775808)
  (A8 : Option Addr) (n8 cap8 : Nat) (l8 : List UInt8) (hn8 : l8.length = n8) (hc8 : n8 ≤ cap8) (hm8 : cap8 ≤ maxLen) (hz8 : A8 = none → cap8 = 0) (w : World) (hr2 : Rd w A2 l2) (hr3 : Rd w A3 l3) (hr4 : Rd w A4 l4) (hr8 : Rd w A8 l8) :
  Calls Tryz.prog 4 #[.int .i64 a0, .string a1, .slice A2 n2 cap2, .slice A3 n3 cap3, .slice A4 n4 cap4, .int .i64 a5, .int .u8 a6, .int .i64 a7, .slice A8 n8 cap8] w fun e w' => e = .returned (.bool true) ∧ Below w.heap.size w w' := by
 have ib2 : IsB w l2 (.slice A2 n2 cap2) := hr2.isB' hn2 hc2 hm2 hz2
 have ib3 : IsB w l3 (.slice A3 n3 cap3) := hr3.isB' hn3 hc3 hm3 hz3
 have ib4 : IsB w l4 (.slice A4 n4 cap4) := hr4.isB' hn4 hc4 hm4 hz4
 obtain ⟨c6, rfl⟩ := u8_ex7 hk6 hl6
 have ib8 : IsB w l8 (.slice A8 n8 cap8) := hr8.isB' hn8 hc8 hm8 hz8
 obtain ⟨k, p, hg, kG⟩ := group_any hk0 hl0
 obtain ⟨hpa, hpb⟩ : 4000 < p ∧ p < 16777216 := ⟨hg.2.2.2.1, hg.2.2.2.2.1⟩
 have po : p % 2 = 1 := hg.2.2.1
 have hp1 : 1 < p := by omega
 have p4 : p < 4294967296 := by omega
 have hP : p < 4294967296 ^ 8 := Nat.lt_trans p4 (by decide)
 have h2 : 2 < p / 2 := by omega
 have hQ4 : p / 2 ≤ 4294967296 := by omega
 have hQ : p / 2 < 4294967296 ^ 8 := Nat.lt_of_le_of_lt hQ4 (by decide)
 have hP0 : 0 < p := by omega
 have hm : ∀ x, x % p < 4294967296 ^ 8 := fun x => Nat.lt_trans (Nat.mod_lt _ hP0) hP
 have gfour : (4 : Nat) < 4294967296 ^ 8 := by decide
 obtain ⟨sh, hsh⟩ : ∃ b, shortB [(sBy a1), l2, l3, l4] = b := ⟨_, rfl⟩
 refine zja (args := [.int .i64 a0, .string a1, .slice A2 n2 cap2, .slice A3 n3 cap3, .slice A4 n4 cap4, .int .i64 a5, .int .u8 ((c6.toNat : Nat) : Int), .int .i64 a7, .slice A8 n8 cap8]) 189 Tryz.func4 rfl rfl rfl ?_
 intro fa F
 have M := Mx.start w
 replace M := M.argB 0 ib2 (fun g e => by cases e)
 replace M := M.argB 1 ib3 (fun g e => by cases e)
 replace M := M.argB 2 ib4 (fun g e => by cases e)
 replace M := M.argB 3 ib8 (fun g e => by cases e)
 refine zSk fun _ hK21 => ?_
 refine zR ?_
 refine rm rfl F fun _ F22 => ?_
 refine hK21 _ _ ?_
 refine zSk fun _ hK23 => ?_
 refine zSk fun _ hK24 => ?_
 refine zR ?_
 refine zw (zc rfl) rfl F22 rfl rfl (zE Tryz.func9 rfl) #[] (args0) (zda (sknown_any w)) ?_
 rintro _ w25 a25 ⟨rfl, b25⟩ F25
 have M25 := M.step b25
 refine zk (w' := w25) (zc rfl) rfl F25 rfl (.bool false) (run_not _ _ rfl (F25.get (t := 38) rfl)) fun _ F26 => ?_
 clear F25
 refine hK24 _ _ ?_
 refine wp_cond_false (F26.get (t := 39) rfl) ?_
 refine wp_skip ?_
 refine hK23 _ _ ?_
 refine zSk fun _ hK27 => ?_
 refine zSk fun _ hK28 => ?_
 refine zR ?_
 refine rm rfl F26 fun _ F29 => ?_
 refine zya (zc rfl) rfl F29 rfl (run_cvSm M25 4 _ rfl (F29.get (t := 40) rfl) hS1) ?_
 intro v30 a30 w30 F30 M30
 clear F29 M25
 have fr30 := M30.frN (k := 4) rfl
 replace M30 := M30.unN (k := 4) rfl
 obtain ⟨A30, c30, rfl⟩ := (M30.isb (k := 4) rfl).shape
 refine rm rfl F30 fun _ F31 => ?_
 refine rm rfl F31 fun _ F32 => ?_
 refine rm rfl F32 fun _ F33 => ?_
 refine z3b (zc rfl) rfl F33 rfl M30 5 (t := 22) (c := #[.slice A30 ((sBy a1)).length c30, .slice A2 n2 cap2, .slice A3 n3 cap3, .slice A4 n4 cap4]) (k := 4) (m := 4) (y_litG 54 22 (s := 1) (zv := zN) Tryz.underlying54 (by kernel_rfl) (by kernel_rfl) rfl (#[.slice A30 ((sBy a1)).length c30, .slice A2 n2 cap2, .slice A3 n3 cap3, .slice A4 n4 cap4]) (by decide) (by decide) (by simp only [List.map_toArray, List.map_cons, List.map_nil, (F33.get (t := 41) rfl), (F33.get (t := 42) rfl), (F33.get (t := 43) rfl), (F33.get (t := 44) rfl)]; kernel_rfl)) ?_
 intro g34 a34 w34 F34 M34
 clear F33 M30
 refine zw (zc rfl) rfl F34 rfl rfl (zE Tryz.func10 rfl) #[.slice (some ⟨g34, 0, none⟩) 4 4] (zdb (F34.get (t := 45) rfl)) (zda ((hsh ▸ short_any [(sBy a1), l2, l3, l4] _ w34 (isP_blk (M34.blk (k := 5) rfl) rfl rfl (show 4 ≤ 1000 by decide) (fun j l hj => by
   match j, hj with
   | 0, hj => obtain rfl : (sBy a1) = l := Option.some.inj hj; exact ⟨_, rfl, (M34.isb (k := 4) rfl)⟩
   | 1, hj => obtain rfl : l2 = l := Option.some.inj hj; exact ⟨_, rfl, (M34.isb (k := 0) rfl)⟩
   | 2, hj => obtain rfl : l3 = l := Option.some.inj hj; exact ⟨_, rfl, (M34.isb (k := 1) rfl)⟩
   | 3, hj => obtain rfl : l4 = l := Option.some.inj hj; exact ⟨_, rfl, (M34.isb (k := 2) rfl)⟩
   | n + 4, hj => cases hj))))) ?_
 rintro _ w35 a35 ⟨rfl, b35⟩ F35
 have M35 := M34.step b35
 cases sh
 ·refine zAx 6 [(47, .bool true), (48, .bool true), (49, undef), (50, undef), (51, undef), (52, .bool true)] [] dnil [] F35 fun _ F36 => ?_
  clear F35
  refine hK28 _ _ ?_
  refine wp_cond_true (F36.get (t := 52) rfl) ?_
  refine zSk fun _ hK37 => ?_
  refine zR ?_
  refine rm rfl F36 fun _ F38 => ?_
  refine hK37 _ _ ?_
  refine wp_ret ?_
  try simp only [Exit.then, Exit.inBlock, Exit.jump]
  exact bodyPost_ret (res1 rfl (F38.get rfl)) F38.defers ⟨rfl, M35.below⟩
 ·have hs0 : (sBy a1).length ≤ 64 := short_mem hsh (by simp)
  have hs1 : l2.length ≤ 64 := short_mem hsh (by simp)
  have hs2 : l3.length ≤ 64 := short_mem hsh (by simp)
  have hs3 : l4.length ≤ 64 := short_mem hsh (by simp)
  rw [sBy_len] at hs0
  have hP31 : p < 2147483648 := by omega
  have hQ5 : p / 2 < 4294967296 := by omega
  obtain ⟨V1, hV1⟩ : ∃ V, 4 ^ secN (p / 2) (sBy a1) l2 l3 % p = V := ⟨_, rfl⟩
  have bV1 : V1 < 4294967296 ^ 8 := by rw [← hV1]; exact hm _
  have rV1 := fun (w : World) (vp vs : Value) (hp : IsB w l2 vp) (hs : IsB w l3 vs) => rver7_any k p (p / 2) 4 hp1 hP31 h2 hQ5 gfour a1 (show a1.size ≤ 200 by omega) l2 l3 (show l2.length ≤ 200 by omega) (show l3.length ≤ 200 by omega) vp vs w hp hs
  rw [hV1] at rV1
  obtain ⟨Oa, hOa⟩ : ∃ O, texN (p / 2) [97] [l3] = O := ⟨_, rfl⟩
  have oa4 : Oa < 4294967296 := by rw [← hOa]; exact Nat.lt_of_lt_of_le (expN_bd h2 _).2 hQ4
  obtain ⟨A, hA⟩ : ∃ A, 4 ^ Oa % p = A := ⟨_, rfl⟩
  have bA : A < 4294967296 ^ 8 := by rw [← hA]; exact hm _
  obtain ⟨C, hC⟩ : ∃ C : SideN, ⟨k, p, p / 2, 4, a1, l2, 4 ^ Oa % p, 0, Oa, [], 0, fun _ => 0, fun _ => 0⟩ = C := ⟨_, rfl⟩
  have kH := shello_is k p (p / 2) 4 po hp1 hP h2 hQ gfour a1 l2 l3 (show l2.length ≤ 100000 by omega) (X := C) (A := A) (by rw [hOa]; exact hC) (by rw [hOa]; exact hA)
  obtain ⟨cP, cQ, cO, cg, cs, cl, cls⟩ : C.P = p ∧ C.Q = p / 2 ∧ C.O = Oa ∧ C.g = 4 ∧ C.s = a1 ∧ C.lp = l2 ∧ C.ls = [] := by rw [← hC]; exact ⟨rfl, rfl, rfl, rfl, rfl, rfl, rfl⟩
  obtain ⟨Ob, hOb⟩ : ∃ O, texN (p / 2) [98] [l4] = O := ⟨_, rfl⟩
  obtain ⟨Ob0, Ob1⟩ : 1 ≤ Ob ∧ Ob < p / 2 := by rw [← hOb]; exact expN_bd h2 _
  obtain ⟨ok, hok⟩ : ∃ b, offOk p (p / 2) 4 V1 A Ob = b := ⟨_, rfl⟩
  obtain ⟨S, hS⟩ : ∃ S, cond ok (zta (offS k p (p / 2) 4 a1 l3 V1 A Ob) (offN p (p / 2) 4 V1 A Ob)) zeroS = S := ⟨_, rfl⟩
  obtain ⟨B, hB⟩ : ∃ B, cond ok (offB p (p / 2) 4 V1 Ob) 0 = B := ⟨_, rfl⟩
  have kO := soffer_is k p (p / 2) 4 po hp1 p4 h2 hQ gfour ⟨1, a1, l3, V1, 0, [], 0, 0, 0⟩ bV1 (show a1.size ≤ 1000 by omega) (show l3.length ≤ 100000 by omega) A bA l4 (ok := ok) (X := S) (B := B) (by rw [hOb]; exact hok) (by rw [hOb]; exact hS) (by rw [hOb]; exact hB)
  have Bn : ok = false → B = 0 := fun h => by rw [← hB, h]; rfl
  have bB : B < 4294967296 ^ 8 := cond_lt hB (offB_lt hP0 hP) (by decide)
  clear hOa hOb
  have kWc := fun (w : World) => within7_any a7 17 (by decide) (by decide) hk7 hl7 w
  obtain ⟨K, hK, hKl⟩ : ∃ K : Nat, a7 % 17 = (K : Int) ∧ K ≤ 16 := ⟨(a7 % 17).toNat, by omega, by omega⟩
  rw [hK] at kWc
  obtain ⟨j, hj, hjl⟩ : ∃ j : Nat, a5 % 16 = (j : Int) ∧ j < 16 := ⟨(a5 % 16).toNat, by omega, by omega⟩
  refine zAx 3 [(47, .bool false), (48, .bool false), (49, .slice A8 n8 cap8)] [] dnil [] F35 fun _ F39 => ?_
  clear F35
  refine zk (w' := w35) (zjc rfl rfl rfl (F39.get (t := 48) rfl)) rfl F39 rfl (.int .i64 (l8.length : Int)) (y_len _ rfl (F39.get (t := 49) rfl) (M35.isb (k := 3) rfl) rfl) fun _ F40 => ?_
  clear F39
  by_cases h41 : 60 < (l8.length : Int)
  ·refine zk (w' := w35) (zjc rfl rfl rfl (F40.get (t := 48) rfl)) rfl F40 rfl (.bool true) (y_gtr _ _ _ _ rfl (F40.get (t := 50) rfl) rfl (decide_eq_true h41)) fun _ F42 => ?_
   clear F40
   refine zk (w' := w35) (zc rfl) rfl F42 rfl (.bool true) (run_pick_f rfl (F42.get (t := 48) rfl) (F42.get (t := 51) rfl)) fun _ F43 => ?_
   clear F42
   refine hK28 _ _ ?_
   refine wp_cond_true (F43.get (t := 52) rfl) ?_
   refine zSk fun _ hK44 => ?_
   refine zR ?_
   refine rm rfl F43 fun _ F45 => ?_
   refine hK44 _ _ ?_
   refine wp_ret ?_
   try simp only [Exit.then, Exit.inBlock, Exit.jump]
   exact bodyPost_ret (res1 rfl (F45.get rfl)) F45.defers ⟨rfl, M35.below⟩
  ·refine zk (w' := w35) (zjc rfl rfl rfl (F40.get (t := 48) rfl)) rfl F40 rfl (.bool false) (y_gtr _ _ _ _ rfl (F40.get (t := 50) rfl) rfl (decide_eq_false h41)) fun _ F46 => ?_
   clear F40
   refine zk (w' := w35) (zc rfl) rfl F46 rfl (.bool false) (run_pick_f rfl (F46.get (t := 48) rfl) (F46.get (t := 51) rfl)) fun _ F47 => ?_
   clear F46
   refine hK28 _ _ ?_
   refine wp_cond_false (F47.get (t := 52) rfl) ?_
   refine wp_skip ?_
   refine hK27 _ _ ?_
   refine zSk fun _ hK48 => ?_
   refine zR ?_
   refine rm rfl F47 fun _ F49 => ?_
   refine zw (zc rfl) rfl F49 rfl rfl (zE Tryz.func11 rfl) #[.int .i64 a0] (zdb (F49.get (t := 53) rfl)) (zda (kG w35)) ?_
   rintro _ w50 a50 ⟨rfl, b50⟩ F50
   have M50 := M35.step b50
   refine zl (zc rfl) rfl F50 rfl M50 6 (t := 29) (c := zh 0 0 0 0) (by unfold execOp; rw [z0b]; kernel_rfl) ?_
   intro g51 a51 w51 F51 M51
   clear F50 M50
   refine zu (zc rfl) rfl F51 M51 (k := 6) rfl _ _ _ rfl (F51.get (t := 19) rfl) (F51.get (t := 54) rfl) (zh k p (p / 2) 4) _ rfl (zL rfl) (z9b _ _ _ _) (zr rfl) (by kernel_rfl) ?_
   intro w52 M52
   clear M51
   refine hK48 _ _ ?_
   refine zSk fun _ hK53 => ?_
   refine zR ?_
   refine zAx 6 [(55, .string a1), (56, .slice A3 n3 cap3), (57, .agg (zh k p (p / 2) 4)), (58, .string a1), (59, .slice A2 n2 cap2), (60, .slice A3 n3 cap3)] [0] (zz (M52.blk (k := 6) rfl) dnil) [g51] F51 fun _ F54 => ?_
   clear F51
   refine zw (zc rfl) rfl F54 rfl rfl (zE Tryz.func20 rfl) #[.agg (zh k p (p / 2) 4), .string a1, .slice A2 n2 cap2, .slice A3 n3 cap3] (args4 (F54.get (t := 57) rfl) (F54.get (t := 58) rfl) (F54.get (t := 59) rfl) (F54.get (t := 60) rfl)) (zda ((rV1 w52 _ _ (M52.isb (k := 0) rfl) (M52.isb (k := 1) rfl)))) ?_
   rintro _ w55 a55 ⟨rfl, b55⟩ F55
   have M55 := M52.step b55
   refine zk (w' := w55) (zc rfl) rfl F55 rfl (.agg (recA ⟨1, a1, l3, V1, 0, [], 0, 0, 0⟩ ⟨.slice A3 n3 cap3, zN⟩)) (by unfold execOp; simp only [List.map_toArray, List.map_cons, List.map_nil, (F55.get (t := 55) rfl), (F55.get (t := 56) rfl), (F55.get (t := 61) rfl)]; kernel_rfl) fun _ F56 => ?_
   clear F55
   refine zl (zc rfl) rfl F56 rfl M55 7 (t := 33) (c := recA ⟨0, "".toUTF8, [], 0, 0, [], 0, 0, 0⟩ ⟨zN, zN⟩) (by unfold execOp; kernel_rfl) ?_
   intro g57 a57 w57 F57 M57
   clear F56 M55
   refine zu (zc rfl) rfl F57 M57 (k := 7) rfl _ _ _ rfl (F57.get (t := 20) rfl) (F57.get (t := 62) rfl) (recA ⟨1, a1, l3, V1, 0, [], 0, 0, 0⟩ ⟨.slice A3 n3 cap3, zN⟩) _ rfl (zL rfl) (recA_one (w := w57) ⟨(M57.isb (k := 1) rfl), zna _⟩) (zr rfl) (by kernel_rfl) ?_
   intro w58 M58
   clear M57
   refine hK53 _ _ ?_
   refine zSk fun _ hK59 => ?_
   refine zR ?_
   refine zk (w' := w58) (zc rfl) rfl F57 rfl _ (z8a _ _ rfl (F57.get (t := 19) rfl) (M58.blk (k := 6) rfl) (zh k p (p / 2) 4) (zgb rfl) Tryz.underlying29 rfl (by kernel_rfl)) fun _ F60 => ?_
   clear F57
   refine rm rfl F60 fun _ F61 => ?_
   refine rm rfl F61 fun _ F62 => ?_
   refine rm rfl F62 fun _ F63 => ?_
   refine zw (zc rfl) rfl F63 rfl rfl (zE Tryz.func13 rfl) #[.agg (zh k p (p / 2) 4), .string a1, .slice A2 n2 cap2, .slice A3 n3 cap3] (args4 (F63.get (t := 64) rfl) (F63.get (t := 65) rfl) (F63.get (t := 66) rfl) (F63.get (t := 67) rfl)) (kH w58 _ _ (M58.isb (k := 0) rfl) (M58.isb (k := 1) rfl)) ?_
   rintro _ w64 a64 ⟨y64, rfl, his64, hlo64, hls64, b64⟩ F64
   obtain ⟨M64, -⟩ := side_two M58 b64 8 9 his64 hlo64 hls64 (by decide)
   clear M58 hlo64 hls64 his64 b64
   refine zAx 3 [(63, .tuple #[.agg (zj C y64), numV A]), (69, .agg (zj C y64)), (70, numV A)] [] dnil [] F64 fun _ F65 => ?_
   clear F64
   refine zl (zc rfl) rfl F65 rfl M64 10 (t := 37) (c := zSA) (by unfold execOp; kernel_rfl) ?_
   intro g66 a66 w66 F66 M66
   clear F65 M64
   refine zl (zc rfl) rfl F66 rfl M66 11 (t := 27) (c := numA 0) (zx rfl) ?_
   intro g67 a67 w67 F67 M67
   clear F66 M66
   refine zu (zc rfl) rfl F67 M67 (k := 10) rfl _ _ _ rfl (F67.get (t := 21) rfl) (F67.get (t := 69) rfl) (zj C y64) _ rfl (zL rfl) (zcb (w := w67) ⟨(M67.isb (k := 8) rfl), (M67.isb (k := 9) rfl)⟩) (zr rfl) (by kernel_rfl) ?_
   intro w68 M68
   clear M67
   refine zu (zc rfl) rfl F67 M68 (k := 11) rfl _ _ _ rfl (F67.get (t := 22) rfl) (F67.get (t := 70) rfl) (numA A) _ rfl (zL rfl) (zga _) (zr rfl) ze ?_
   intro w69 M69
   clear M68
   refine hK59 _ _ ?_
   refine zSk fun _ hK70 => ?_
   refine zR ?_
   refine zAx 4 [(72, .agg (zh k p (p / 2) 4)), (73, .agg (recA ⟨1, a1, l3, V1, 0, [], 0, 0, 0⟩ ⟨.slice A3 n3 cap3, zN⟩)), (74, numV A), (75, .slice A4 n4 cap4)] [0, 1, 2] (zz (M69.blk (k := 6) rfl) (zz (M69.blk (k := 7) rfl) (zz (M69.blk (k := 11) rfl) dnil))) [g51, g57, g67] F67 fun _ F71 => ?_
   clear F67
   refine zw (zc rfl) rfl F71 rfl rfl (zE Tryz.func14 rfl) #[.agg (zh k p (p / 2) 4), .agg (recA ⟨1, a1, l3, V1, 0, [], 0, 0, 0⟩ ⟨.slice A3 n3 cap3, zN⟩), numV A, .slice A4 n4 cap4] (args4 (F71.get (t := 72) rfl) (F71.get (t := 73) rfl) (F71.get (t := 74) rfl) (F71.get (t := 75) rfl)) (kO w69 _ _ ⟨(M69.isb (k := 1) rfl), zna _⟩ (M69.isb (k := 2) rfl)) ?_
   rintro _ w72 a72 ⟨y72, rfl, his72, hlo72, hls72, b72⟩ F72
   obtain ⟨M72, -⟩ := side_two M69 b72 12 13 his72 hlo72 hls72 (by decide)
   clear M69 hlo72 hls72 his72 b72
   refine zAx 4 [(71, .tuple #[.agg (zj S y72), numV B, .bool ok]), (77, .agg (zj S y72)), (78, numV B), (79, .bool ok)] [] dnil [] F72 fun _ F73 => ?_
   clear F72
   refine zl (zc rfl) rfl F73 rfl M72 14 (t := 37) (c := zSA) (by unfold execOp; kernel_rfl) ?_
   intro g74 a74 w74 F74 M74
   clear F73 M72
   refine zl (zc rfl) rfl F74 rfl M74 15 (t := 27) (c := numA 0) (zx rfl) ?_
   intro g75 a75 w75 F75 M75
   clear F74 M74
   refine zu (zc rfl) rfl F75 M75 (k := 14) rfl _ _ _ rfl (F75.get (t := 23) rfl) (F75.get (t := 77) rfl) (zj S y72) _ rfl (zL rfl) (zcb (w := w75) ⟨(M75.isb (k := 12) rfl), (M75.isb (k := 13) rfl)⟩) (zr rfl) (by kernel_rfl) ?_
   intro w76 M76
   clear M75
   refine zu (zc rfl) rfl F75 M76 (k := 15) rfl _ _ _ rfl (F75.get (t := 24) rfl) (F75.get (t := 78) rfl) (numA B) _ rfl (zL rfl) (zga _) (zr rfl) ze ?_
   intro w77 M77
   clear M76
   refine rm rfl F75 fun _ F78 => ?_
   refine hK70 _ _ ?_
   refine zSk fun _ hK79 => ?_
   refine zSk fun _ hK80 => ?_
   refine zR ?_
   refine rm rfl F78 fun _ F81 => ?_
   cases ok
   ·refine zk (w' := w77) (zc rfl) rfl F81 rfl (.bool true) (run_not _ _ rfl (F81.get (t := 80) rfl)) fun _ F82 => ?_
    clear F81
    refine hK80 _ _ ?_
    refine wp_cond_true (F82.get (t := 81) rfl) ?_
    refine zSk fun _ hK83 => ?_
    refine zR ?_
    refine rm rfl F82 fun _ F84 => ?_
    refine hK83 _ _ ?_
    refine wp_ret ?_
    try simp only [Exit.then, Exit.inBlock, Exit.jump]
    exact bodyPost_ret (res1 rfl (F84.get rfl)) F84.defers ⟨rfl, M77.below⟩
   ·have hSt := hS
    have hBt := hB
    rw [cond_true] at hSt hBt
    obtain ⟨hkD, hDK, hDP⟩ := srp_sides hg a1 l2 l3 Ob0 Ob1 hV1 hA hC hok hBt hSt
    obtain ⟨D, hD⟩ : ∃ D, zta (prvS C l3 B) (prvN C l3 B) = D := ⟨_, rfl⟩
    rw [hD] at hDK hDP
    have kP := sprove_is C (by rw [cP]; exact po) (by rw [cP]; exact hp1) (by rw [cP]; exact p4) (by rw [cQ]; exact h2) (by rw [cQ]; exact hQ4) (by rw [cO]; exact oa4) (by rw [cg]; exact gfour) (by rw [cs]; exact (show a1.size ≤ 1000 by omega)) (by rw [cl]; exact (show l2.length ≤ 100000 by omega)) l3 (show l3.length ≤ 100000 by omega) B bB (ok := true) (X := D) (Y := D.Pr) hkD (by rw [cond_true]; exact hD) rfl
    have hSo : SideOk S := hSt ▸ shareN_ok
    have hDo : SideOk D := hD ▸ shareN_ok
    clear hD hkD hSt hBt
    obtain ⟨G1, hG1⟩ : ∃ l, sumY D.Pr = l := ⟨_, rfl⟩
    have G1l : G1.length = 16 := by rw [← hG1]; exact zpb _
    have kG1 := fun (w : World) => srbytes_any D.Pr hDo.pr w
    rw [hG1] at kG1
    obtain ⟨bzG1, hbzG1⟩ : ∃ b, G1[j]? = some b := ⟨_, List.getElem?_eq_getElem (by omega)⟩
    have tG1 := fun (w : World) (v : Value) (h : IsB w G1 v) => turned_any G1 a5 c6 j bzG1 (by rw [G1l]; exact hj) (by omega) hbzG1 (by omega) hk5 hl5 v w h
    obtain ⟨Z1, hZ1⟩ : ∃ l, G1.set j (byteI (((bzG1.toNat : Nat) : Int) + ((c6.toNat : Nat) : Int))) = l := ⟨_, rfl⟩
    rw [hZ1] at tG1
    have hSG : sumY S.Pr = G1 := by rw [← hDP]; exact hG1
    obtain ⟨G2, hG2⟩ : ∃ l, sumY (ansY S.Ky S.Pr) = l := ⟨_, rfl⟩
    have G2l : G2.length = 16 := by rw [← hG2]; exact zpb _
    have kG2 := fun (w : World) => srbytes_any (ansY S.Ky S.Pr) (zyb _) w
    rw [hG2] at kG2
    obtain ⟨bzG2, hbzG2⟩ : ∃ b, G2[j]? = some b := ⟨_, List.getElem?_eq_getElem (by omega)⟩
    have tG2 := fun (w : World) (v : Value) (h : IsB w G2 v) => turned_any G2 a5 c6 j bzG2 (by rw [G2l]; exact hj) (by omega) hbzG2 (by omega) hk5 hl5 v w h
    obtain ⟨Z2, hZ2⟩ : ∃ l, G2.set j (byteI (((bzG2.toNat : Nat) : Int) + ((c6.toNat : Nat) : Int))) = l := ⟨_, rfl⟩
    rw [hZ2] at tG2
    have hDG : sumY (ansY D.Ky D.Pr) = G2 := by rw [hDK, hDP]; exact hG2
    refine zk (w' := w77) (zc rfl) rfl F81 rfl (.bool false) (run_not _ _ rfl (F81.get (t := 80) rfl)) fun _ F85 => ?_
    clear F81
    refine hK80 _ _ ?_
    refine wp_cond_false (F85.get (t := 81) rfl) ?_
    refine wp_skip ?_
    refine hK79 _ _ ?_
    refine zSk fun _ hK86 => ?_
    refine zR ?_
    refine zAx 3 [(83, .agg (zj C y64)), (84, .slice A3 n3 cap3), (85, numV B)] [0, 1] (zz (M77.blk (k := 10) rfl) (zz (M77.blk (k := 15) rfl) dnil)) [g66, g75] F85 fun _ F87 => ?_
    clear F85
    refine zw (zc rfl) rfl F87 rfl rfl (zE Tryz.func16 rfl) #[.agg (zj C y64), .slice A3 n3 cap3, numV B] (args3 (F87.get (t := 83) rfl) (F87.get (t := 84) rfl) (F87.get (t := 85) rfl)) (kP w77 _ _ ⟨(M77.isb (k := 8) rfl), (M77.isb (k := 9) rfl)⟩ (M77.isb (k := 1) rfl)) ?_
    rintro _ w88 a88 ⟨y88, rfl, his88, hlo88, hls88, b88⟩ F88
    obtain ⟨M88, -⟩ := side_two M77 b88 16 17 his88 hlo88 hls88 (by decide)
    clear M77 hlo88 hls88 his88 b88
    refine zAx 4 [(82, .tuple #[.agg (zj D y88), .agg (zg D.Pr), .bool true]), (87, .agg (zj D y88)), (88, .agg (zg D.Pr)), (89, .bool true)] [] dnil [] F88 fun _ F89 => ?_
    clear F88
    refine zl (zc rfl) rfl F89 rfl M88 18 (t := 37) (c := zSA) (by unfold execOp; kernel_rfl) ?_
    intro g90 a90 w90 F90 M90
    clear F89 M88
    refine zl (zc rfl) rfl F90 rfl M90 19 (t := 35) (c := zg (fun _ => 0)) (by unfold execOp; kernel_rfl) ?_
    intro g91 a91 w91 F91 M91
    clear F90 M90
    refine zu (zc rfl) rfl F91 M91 (k := 18) rfl _ _ _ rfl (F91.get (t := 26) rfl) (F91.get (t := 87) rfl) (zj D y88) _ rfl (zL rfl) (zcb (w := w91) ⟨(M91.isb (k := 16) rfl), (M91.isb (k := 17) rfl)⟩) (zr rfl) (by kernel_rfl) ?_
    intro w92 M92
    clear M91
    refine zu (zc rfl) rfl F91 M92 (k := 19) rfl _ _ _ rfl (F91.get (t := 27) rfl) (F91.get (t := 88) rfl) (zg D.Pr) _ rfl (zL rfl) (zca _) (zr rfl) (by kernel_rfl) ?_
    intro w93 M93
    clear M92
    refine rm rfl F91 fun _ F94 => ?_
    refine hK86 _ _ ?_
    refine zSk fun _ hK95 => ?_
    refine zSk fun _ hK96 => ?_
    refine zR ?_
    refine zAx 2 [(90, .bool true), (91, .bool false)] [] dnil [] F94 fun _ F97 => ?_
    clear F94
    refine hK96 _ _ ?_
    refine wp_cond_false (F97.get (t := 91) rfl) ?_
    refine wp_skip ?_
    refine hK95 _ _ ?_
    refine zSk fun _ hK98 => ?_
    refine zR ?_
    refine zk (w' := w93) (zc rfl) rfl F97 rfl _ (z8a _ _ rfl (F97.get (t := 27) rfl) (M93.blk (k := 19) rfl) (zg D.Pr) (zgb rfl) Tryz.underlying35 rfl (by kernel_rfl)) fun _ F99 => ?_
    clear F97
    refine zw (zc rfl) rfl F99 rfl rfl (zE Tryz.func18 rfl) #[.agg (zg D.Pr)] (zdb (F99.get (t := 92) rfl)) ((kG1 w93)) ?_
    rintro v100 w100 a100 h100 F100
    have M100 := M93.newO h100.2 20 h100.1
    clear M93 h100
    obtain ⟨A100, c100, rfl⟩ := (M100.isO (k := 20) rfl).shape
    refine rm rfl F100 fun _ F101 => ?_
    refine hK98 _ _ ?_
    refine zSk fun _ hK102 => ?_
    refine zR ?_
    refine zk (w' := w100) (zc rfl) rfl F101 rfl _ (z8a _ _ rfl (F101.get (t := 23) rfl) (M100.blk (k := 14) rfl) (zj S y72) (zgb rfl) Tryz.underlying37 rfl (by kernel_rfl)) fun _ F103 => ?_
    clear F101
    refine rm rfl F103 fun _ F104 => ?_
    refine zw (zc rfl) rfl F104 rfl rfl (zE Tryz.func17 rfl) #[.agg (zj S y72), .slice A100 (G1).length c100] (zjb (F104.get (t := 95) rfl) (F104.get (t := 96) rfl)) (zda ((scheck_y S _ hSo G1 _ hSG w100 ⟨(M100.isb (k := 12) rfl), (M100.isb (k := 13) rfl)⟩ (M100.isO (k := 20) rfl)))) ?_
    rintro _ w105 a105 ⟨rfl, b105⟩ F105
    have M105 := M100.step b105
    refine zAx 3 [(94, .tuple #[.agg (zg (ansY S.Ky S.Pr)), .bool true]), (98, .agg (zg (ansY S.Ky S.Pr))), (99, .bool true)] [] dnil [] F105 fun _ F106 => ?_
    clear F105
    refine zl (zc rfl) rfl F106 rfl M105 21 (t := 35) (c := zg (fun _ => 0)) (by unfold execOp; kernel_rfl) ?_
    intro g107 a107 w107 F107 M107
    clear F106 M105
    refine zu (zc rfl) rfl F107 M107 (k := 21) rfl _ _ _ rfl (F107.get (t := 30) rfl) (F107.get (t := 98) rfl) (zg (ansY S.Ky S.Pr)) _ rfl (zL rfl) (zca _) (zr rfl) (by kernel_rfl) ?_
    intro w108 M108
    clear M107
    refine rm rfl F107 fun _ F109 => ?_
    refine hK102 _ _ ?_
    refine zSk fun _ hK110 => ?_
    refine zR ?_
    refine zk (w' := w108) (zc rfl) rfl F109 rfl _ (z8a _ _ rfl (F109.get (t := 30) rfl) (M108.blk (k := 21) rfl) (zg (ansY S.Ky S.Pr)) (zgb rfl) Tryz.underlying35 rfl (by kernel_rfl)) fun _ F111 => ?_
    clear F109
    refine zw (zc rfl) rfl F111 rfl rfl (zE Tryz.func18 rfl) #[.agg (zg (ansY S.Ky S.Pr))] (zdb (F111.get (t := 100) rfl)) ((kG2 w108)) ?_
    rintro v112 w112 a112 h112 F112
    have M112 := M108.newO h112.2 22 h112.1
    clear M108 h112
    obtain ⟨A112, c112, rfl⟩ := (M112.isO (k := 22) rfl).shape
    refine rm rfl F112 fun _ F113 => ?_
    refine hK110 _ _ ?_
    refine zSk fun _ hK114 => ?_
    have M115 := M112.tame (k := 20) rfl
    clear M112
    refine z6a F113 (SE [.inl (.slice A100 (G1).length c100), .inl (.int .i64 a5), .inl (.int .u8 ((c6.toNat : Nat) : Int)), .inr (fun _ => True), .inl (.slice A100 (G1).length c100), .inl (.int .i64 a7), .inl (.int .i64 (K : Int)), .inr (fun _ => True), .inl (.slice A8 n8 cap8), .inr (fun _ => True), .inl (.slice A100 (G1).length c100), .inr (fun _ => True), .inl (.int .u8 ((c6.toNat : Nat) : Int)), .inr (fun _ => True), .inr (fun _ => True)]) (JM none w fun SV pV => [(0, bytR l2 (.slice A2 n2 cap2)), (1, bytR l3 (.slice A3 n3 cap3)), (2, bytR l4 (.slice A4 n4 cap4)), (3, bytR l8 (.slice A8 n8 cap8)), (4, bytR (sBy a1) (.slice A30 ((sBy a1)).length c30)), (5, blkR g34 22 (#[.slice A30 ((sBy a1)).length c30, .slice A2 n2 cap2, .slice A3 n3 cap3, .slice A4 n4 cap4])), (6, blkR g51 29 (zh k p (p / 2) 4)), (7, blkR g57 33 (recA ⟨1, a1, l3, V1, 0, [], 0, 0, 0⟩ ⟨.slice A3 n3 cap3, zN⟩)), (8, bytR C.lp y64.vp), (9, bytR C.ls y64.vs), (10, blkR g66 37 (zj C y64)), (11, blkR g67 27 (numA A)), (12, bytR S.lp y72.vp), (13, bytR S.ls y72.vs), (14, blkR g74 37 (zj S y72)), (15, blkR g75 27 (numA B)), (16, bytR D.lp y88.vp), (17, bytR D.ls y88.vs), (18, blkR g90 37 (zj D y88)), (19, blkR g91 35 (zg D.Pr)), (20, bytR G1 (.slice A100 (G1).length c100)), (21, blkR g107 35 (zg (ansY S.Ky S.Pr))), (22, ownR G2 (.slice A112 (G2).length c112)), (23, z4a (SV 3) (ownR Z1 (pV 3))), (24, z4a (SV 7) (bytR (G1.take K) (pV 7))), (25, z6b (SV 11) (z6b (SV 14) (ownR (([] ++ G1) ++ [c6]) (pV 14)) (ownR ([] ++ G1) (pV 11))) (z4a (SV 9) (ownR [] (pV 9)))), (26, z4a (SV 13) (ownR [c6] (pV 13)))]) 15 rfl (by kernel_rfl) rfl ⟨trivial, trivial, trivial, trivial, trivial, trivial, trivial, trivial, trivial, trivial, trivial, trivial, trivial, trivial, trivial, trivial⟩ (fun p => (((((M115.step (zsa _)).triv 23).triv 24).triv 25).triv 26).sub ⟨rfl, rfl, rfl, rfl, rfl, rfl, rfl, rfl, rfl, rfl, rfl, rfl, rfl, rfl, rfl, rfl, rfl, rfl, rfl, rfl, rfl, rfl, rfl, rfl, rfl, rfl, rfl, trivial⟩) ⟨zwa F113 (by kernel_rfl), zwa F113 (by kernel_rfl), zwa F113 (by kernel_rfl), ?_, zwa F113 (by kernel_rfl), zwa F113 (by kernel_rfl), ?_, ?_, zwa F113 (by kernel_rfl), ?_, zwa F113 (by kernel_rfl), ?_, zwa F113 (by kernel_rfl), ?_, ?_, trivial⟩ ?_
    ·intro ua uw SV pV M0 hk hn hd
     have M : Mx none w uw _ := M0
     clear M0
     obtain ⟨s0, f102, q102⟩ := (show SV 0 = true ∧ ua.eval (.tmp 102) = pV 0 ∧ stE _ 0 (pV 0) from hd 102 (by decide))
     have e102 : ua.eval (.tmp 102) = .slice A100 (G1).length c100 := f102.trans q102
     obtain ⟨s1, f103, q103⟩ := (show SV 1 = true ∧ ua.eval (.tmp 103) = pV 1 ∧ stE _ 1 (pV 1) from hd 103 (by decide))
     have e103 : ua.eval (.tmp 103) = .int .i64 a5 := f103.trans q103
     obtain ⟨s2, f104, q104⟩ := (show SV 2 = true ∧ ua.eval (.tmp 104) = pV 2 ∧ stE _ 2 (pV 2) from hd 104 (by decide))
     have e104 : ua.eval (.tmp 104) = .int .u8 ((c6.toNat : Nat) : Int) := f104.trans q104
     exact zra (zc rfl) rfl #[.slice A100 (G1).length c100, .int .i64 a5, .int .u8 ((c6.toNat : Nat) : Int)] (args3 e102 e103 e104) (zE Tryz.func21 rfl) (((tG1 uw _ (M.isb (k := 20) rfl))).mono fun e w2 h => (by obtain ⟨u, h1, h2, h3⟩ := h; exact ⟨u, h1, trivial, (M.newO h3 23 h2).sub ⟨rfl, rfl, rfl, rfl, rfl, rfl, rfl, rfl, rfl, rfl, rfl, rfl, rfl, rfl, rfl, rfl, rfl, rfl, rfl, rfl, rfl, rfl, rfl, rfl, rfl, rfl, rfl, trivial⟩⟩))
    ·intro ua uw SV pV M0 hk hn hd
     have M : Mx none w uw _ := M0
     clear M0
     obtain ⟨s5, f107, q107⟩ := (show SV 5 = true ∧ ua.eval (.tmp 107) = pV 5 ∧ stE _ 5 (pV 5) from hd 107 (by decide))
     have e107 : ua.eval (.tmp 107) = .int .i64 a7 := f107.trans q107
     exact zra (zc rfl) rfl #[.int .i64 a7, .int .i64 17] (zjb e107 rfl) (zE Tryz.func22 rfl) (((same_eq ((kWc uw)))).mono fun e w2 h => ⟨_, h.1, rfl, (M.step h.2).sub ⟨rfl, rfl, rfl, rfl, rfl, rfl, rfl, rfl, rfl, rfl, rfl, rfl, rfl, rfl, rfl, rfl, rfl, rfl, rfl, rfl, rfl, rfl, rfl, rfl, rfl, rfl, rfl, trivial⟩⟩)
    ·intro ua uw SV pV M0 hk hn hd
     have M : Mx none w uw _ := M0
     clear M0
     obtain ⟨s4, f106, q106⟩ := (show SV 4 = true ∧ ua.eval (.tmp 106) = pV 4 ∧ stE _ 4 (pV 4) from hd 106 (by decide))
     have e106 : ua.eval (.tmp 106) = .slice A100 (G1).length c100 := f106.trans q106
     obtain ⟨s6, f108, q108⟩ := (show SV 6 = true ∧ ua.eval (.tmp 108) = pV 6 ∧ stE _ 6 (pV 6) from hd 108 (by decide))
     have e108 : ua.eval (.tmp 108) = .int .i64 (K : Int) := f108.trans q108
     exact hopM_exE (zc rfl) (y_slTo _ _ rfl e106 (M.isb (k := 20) rfl) e108 (j := K) rfl (by omega)) fun v h => ⟨trivial, (M.partB 24 (k := 20) rfl h.1 h.2).sub ⟨rfl, rfl, rfl, rfl, rfl, rfl, rfl, rfl, rfl, rfl, rfl, rfl, rfl, rfl, rfl, rfl, rfl, rfl, rfl, rfl, rfl, rfl, rfl, rfl, rfl, rfl, rfl, trivial⟩⟩
    ·intro ua uw SV pV M0 hk hn hd
     have M : Mx none w uw _ := M0
     clear M0
     exact hopM_exM (zc rfl) (run_lit0 M 25 rfl) fun v w2 h2 => ⟨trivial, h2.sub ⟨rfl, rfl, rfl, rfl, rfl, rfl, rfl, rfl, rfl, rfl, rfl, rfl, rfl, rfl, rfl, rfl, rfl, rfl, rfl, rfl, rfl, rfl, rfl, rfl, rfl, (eitherR_at (hn 11 (by kernel_rfl)) rfl), rfl, trivial⟩⟩
    ·intro ua uw SV pV M0 hk hn hd
     have M : Mx none w uw _ := M0
     clear M0
     obtain ⟨s9, f111, q111⟩ := (show SV 9 = true ∧ ua.eval (.tmp 111) = pV 9 ∧ stE _ 9 (pV 9) from hd 111 (by decide))
     have e111 : ua.eval (.tmp 111) = (pV 9) := f111
     obtain ⟨s10, f112, q112⟩ := (show SV 10 = true ∧ ua.eval (.tmp 112) = pV 10 ∧ stE _ 10 (pV 10) from hd 112 (by decide))
     have e112 : ua.eval (.tmp 112) = .slice A100 (G1).length c100 := f112.trans q112
     exact hopM_exM (zc rfl) (run_app M (k := 25) (z5b s9 (eitherR_r hk rfl)) _ _ rfl e111 e112 (M.isb (k := 20) rfl) (by simp; omega)) fun v w2 h2 => ⟨trivial, h2.sub ⟨rfl, rfl, rfl, rfl, rfl, rfl, rfl, rfl, rfl, rfl, rfl, rfl, rfl, rfl, rfl, rfl, rfl, rfl, rfl, rfl, rfl, rfl, rfl, rfl, rfl, (eitherR_at (hn 14 (by kernel_rfl)) rfl), rfl, trivial⟩⟩
    ·intro ua uw SV pV M0 hk hn hd
     have M : Mx none w uw _ := M0
     clear M0
     obtain ⟨s12, f114, q114⟩ := (show SV 12 = true ∧ ua.eval (.tmp 114) = pV 12 ∧ stE _ 12 (pV 12) from hd 114 (by decide))
     have e114 : ua.eval (.tmp 114) = .int .u8 ((c6.toNat : Nat) : Int) := f114.trans q114
     exact hopM_exM (zc rfl) (zoc M 26 [c6] 1 rfl (by decide) (by decide) rfl (by simp only [List.map_toArray, List.map_cons, List.map_nil, e114]; kernel_rfl)) fun v w2 h2 => ⟨trivial, h2.sub ⟨rfl, rfl, rfl, rfl, rfl, rfl, rfl, rfl, rfl, rfl, rfl, rfl, rfl, rfl, rfl, rfl, rfl, rfl, rfl, rfl, rfl, rfl, rfl, rfl, rfl, rfl, rfl, trivial⟩⟩
    ·intro ua uw SV pV M0 hk hn hd
     have M : Mx none w uw _ := M0
     clear M0
     obtain ⟨s11, f113, q113⟩ := (show SV 11 = true ∧ ua.eval (.tmp 113) = pV 11 ∧ stE _ 11 (pV 11) from hd 113 (by decide))
     have e113 : ua.eval (.tmp 113) = (pV 11) := f113
     obtain ⟨s13, f115, q115⟩ := (show SV 13 = true ∧ ua.eval (.tmp 115) = pV 13 ∧ stE _ 13 (pV 13) from hd 115 (by decide))
     have e115 : ua.eval (.tmp 115) = (pV 13) := f115
     exact hopM_exM (zc rfl) (run_app M (k := 25) (eitherR_r hk (eitherR_l s11 rfl)) _ _ rfl e113 e115 (M.isO (k := 26) (z5b s13 rfl)) (by simp; omega)) fun v w2 h2 => ⟨trivial, h2.sub ⟨rfl, rfl, rfl, rfl, rfl, rfl, rfl, rfl, rfl, rfl, rfl, rfl, rfl, rfl, rfl, rfl, rfl, rfl, rfl, rfl, rfl, rfl, rfl, rfl, rfl, (eitherR_in s11 rfl), rfl, trivial⟩⟩
    intro p116 a116 w116 M116 G116 y116
    obtain ⟨-, -, -, q3, -, -, -, q7, q8, -, -, -, -, -, q14, -⟩ := y116
    have r8 : p116 8 = .slice A8 n8 cap8 := q8
    replace M116 : Mx _ _ w116 [(0, bytR l2 (.slice A2 n2 cap2)), (1, bytR l3 (.slice A3 n3 cap3)), (2, bytR l4 (.slice A4 n4 cap4)), (3, bytR l8 (.slice A8 n8 cap8)), (4, bytR (sBy a1) (.slice A30 ((sBy a1)).length c30)), (5, blkR g34 22 (#[.slice A30 ((sBy a1)).length c30, .slice A2 n2 cap2, .slice A3 n3 cap3, .slice A4 n4 cap4])), (6, blkR g51 29 (zh k p (p / 2) 4)), (7, blkR g57 33 (recA ⟨1, a1, l3, V1, 0, [], 0, 0, 0⟩ ⟨.slice A3 n3 cap3, zN⟩)), (8, bytR C.lp y64.vp), (9, bytR C.ls y64.vs), (10, blkR g66 37 (zj C y64)), (11, blkR g67 27 (numA A)), (12, bytR S.lp y72.vp), (13, bytR S.ls y72.vs), (14, blkR g74 37 (zj S y72)), (15, blkR g75 27 (numA B)), (16, bytR D.lp y88.vp), (17, bytR D.ls y88.vs), (18, blkR g90 37 (zj D y88)), (19, blkR g91 35 (zg D.Pr)), (20, bytR G1 (.slice A100 (G1).length c100)), (21, blkR g107 35 (zg (ansY S.Ky S.Pr))), (22, ownR G2 (.slice A112 (G2).length c112)), (23, z4a true (ownR Z1 (p116 3))), (24, z4a true (bytR (G1.take K) (p116 7))), (25, z6b true (z6b true (ownR (([] ++ G1) ++ [c6]) (p116 14)) (ownR ([] ++ G1) (p116 11))) (z4a true (ownR [] (p116 9)))), (26, z4a true (ownR [c6] (p116 13)))] := M116
    simp only [List.take, layV, Nat.zero_add, Nat.reduceAdd, r8] at G116
    obtain ⟨Ap116_23, cp116_23, hp116_23⟩ := (M116.isO (k := 23) rfl).shape
    rw [hp116_23] at M116
    try rw [hp116_23] at G116
    obtain ⟨Ap116_24, cp116_24, hp116_24⟩ := (M116.isb (k := 24) rfl).shape
    rw [hp116_24] at M116
    try rw [hp116_24] at G116
    obtain ⟨Ap116_25, cp116_25, hp116_25⟩ := (M116.isO (k := 25) rfl).shape
    rw [hp116_25] at M116
    try rw [hp116_25] at G116
    obtain ⟨Ap116_26, cp116_26, hp116_26⟩ := (M116.isO (k := 26) rfl).shape
    rw [hp116_26] at M116
    try rw [hp116_26] at G116
    obtain ⟨Y1, hY1⟩ : ∃ z, (([] ++ G1) ++ [c6]) = z := ⟨_, rfl⟩
    have Y1l : Y1.length = 17 := by rw [← hY1]; simp; omega
    have M117 : Mx none w w116 [(0, bytR l2 (.slice A2 n2 cap2)), (1, bytR l3 (.slice A3 n3 cap3)), (2, bytR l4 (.slice A4 n4 cap4)), (3, bytR l8 (.slice A8 n8 cap8)), (4, bytR (sBy a1) (.slice A30 ((sBy a1)).length c30)), (5, blkR g34 22 (#[.slice A30 ((sBy a1)).length c30, .slice A2 n2 cap2, .slice A3 n3 cap3, .slice A4 n4 cap4])), (6, blkR g51 29 (zh k p (p / 2) 4)), (7, blkR g57 33 (recA ⟨1, a1, l3, V1, 0, [], 0, 0, 0⟩ ⟨.slice A3 n3 cap3, zN⟩)), (8, bytR C.lp y64.vp), (9, bytR C.ls y64.vs), (10, blkR g66 37 (zj C y64)), (11, blkR g67 27 (numA A)), (12, bytR S.lp y72.vp), (13, bytR S.ls y72.vs), (14, blkR g74 37 (zj S y72)), (15, blkR g75 27 (numA B)), (16, bytR D.lp y88.vp), (17, bytR D.ls y88.vs), (18, blkR g90 37 (zj D y88)), (19, blkR g91 35 (zg D.Pr)), (20, bytR G1 (.slice A100 (G1).length c100)), (21, blkR g107 35 (zg (ansY S.Ky S.Pr))), (22, ownR G2 (.slice A112 (G2).length c112)), (23, ownR Z1 (.slice Ap116_23 (Z1).length cp116_23)), (24, bytR (G1.take K) (.slice Ap116_24 ((G1.take K)).length cp116_24)), (25, ownR Y1 (.slice Ap116_25 (Y1).length cp116_25)), (26, ownR [c6] (.slice Ap116_26 ([c6]).length cp116_26))] := by rw [← hY1]; exact M116.sub ⟨rfl, rfl, rfl, rfl, rfl, rfl, rfl, rfl, rfl, rfl, rfl, rfl, rfl, rfl, rfl, rfl, rfl, rfl, rfl, rfl, rfl, rfl, rfl, rfl, rfl, rfl, rfl, trivial⟩
    have F117 : Fx 189 a116 [(0, .int .i64 a0), (1, .string a1), (2, .slice A2 n2 cap2), (3, .slice A3 n3 cap3), (4, .slice A4 n4 cap4), (5, .int .i64 a5), (6, .int .u8 ((c6.toNat : Nat) : Int)), (7, .int .i64 a7), (8, .slice A8 n8 cap8), (18, .bool false), (38, .bool true), (39, .bool false), (40, .string a1), (41, .slice A30 ((sBy a1)).length c30), (42, .slice A2 n2 cap2), (43, .slice A3 n3 cap3), (44, .slice A4 n4 cap4), (45, .slice (some ⟨g34, 0, none⟩) 4 4), (46, .bool true), (47, .bool false), (48, .bool false), (49, .slice A8 n8 cap8), (50, .int .i64 (l8.length : Int)), (51, .bool false), (52, .bool false), (53, .int .i64 a0), (54, .agg (zh k p (p / 2) 4)), (19, .pointer (some ⟨g51, 0, none⟩)), (55, .string a1), (56, .slice A3 n3 cap3), (57, .agg (zh k p (p / 2) 4)), (58, .string a1), (59, .slice A2 n2 cap2), (60, .slice A3 n3 cap3), (61, numV V1), (62, .agg (recA ⟨1, a1, l3, V1, 0, [], 0, 0, 0⟩ ⟨.slice A3 n3 cap3, zN⟩)), (20, .pointer (some ⟨g57, 0, none⟩)), (64, .agg (zh k p (p / 2) 4)), (65, .string a1), (66, .slice A2 n2 cap2), (67, .slice A3 n3 cap3), (68, .tuple #[.agg (zj C y64), numV A]), (63, .tuple #[.agg (zj C y64), numV A]), (69, .agg (zj C y64)), (70, numV A), (21, .pointer (some ⟨g66, 0, none⟩)), (22, .pointer (some ⟨g67, 0, none⟩)), (72, .agg (zh k p (p / 2) 4)), (73, .agg (recA ⟨1, a1, l3, V1, 0, [], 0, 0, 0⟩ ⟨.slice A3 n3 cap3, zN⟩)), (74, numV A), (75, .slice A4 n4 cap4), (76, .tuple #[.agg (zj S y72), numV B, .bool true]), (71, .tuple #[.agg (zj S y72), numV B, .bool true]), (77, .agg (zj S y72)), (78, numV B), (79, .bool true), (23, .pointer (some ⟨g74, 0, none⟩)), (24, .pointer (some ⟨g75, 0, none⟩)), (25, .bool true), (80, .bool true), (81, .bool false), (83, .agg (zj C y64)), (84, .slice A3 n3 cap3), (85, numV B), (86, .tuple #[.agg (zj D y88), .agg (zg D.Pr), .bool true]), (82, .tuple #[.agg (zj D y88), .agg (zg D.Pr), .bool true]), (87, .agg (zj D y88)), (88, .agg (zg D.Pr)), (89, .bool true), (26, .pointer (some ⟨g90, 0, none⟩)), (27, .pointer (some ⟨g91, 0, none⟩)), (28, .bool true), (90, .bool true), (91, .bool false), (92, .agg (zg D.Pr)), (93, .slice A100 (G1).length c100), (29, .slice A100 (G1).length c100), (95, .agg (zj S y72)), (96, .slice A100 (G1).length c100), (97, .tuple #[.agg (zg (ansY S.Ky S.Pr)), .bool true]), (94, .tuple #[.agg (zg (ansY S.Ky S.Pr)), .bool true]), (98, .agg (zg (ansY S.Ky S.Pr))), (99, .bool true), (30, .pointer (some ⟨g107, 0, none⟩)), (31, .bool true), (100, .agg (zg (ansY S.Ky S.Pr))), (101, .slice A112 (G2).length c112), (32, .slice A112 (G2).length c112), (105, (.slice Ap116_23 (Z1).length cp116_23)), (109, (.slice Ap116_24 ((G1.take K)).length cp116_24)), (110, .slice A8 n8 cap8), (111, (p116 9)), (113, (p116 11)), (115, (.slice Ap116_26 ([c6]).length cp116_26)), (116, (.slice Ap116_25 (Y1).length cp116_25))] [] := by rw [← hY1]; exact G116.sub ⟨rfl, rfl, rfl, rfl, rfl, rfl, rfl, rfl, rfl, rfl, rfl, rfl, rfl, rfl, rfl, rfl, rfl, rfl, rfl, rfl, rfl, rfl, rfl, rfl, rfl, rfl, rfl, rfl, rfl, rfl, rfl, rfl, rfl, rfl, rfl, rfl, rfl, rfl, rfl, rfl, rfl, rfl, rfl, rfl, rfl, rfl, rfl, rfl, rfl, rfl, rfl, rfl, rfl, rfl, rfl, rfl, rfl, rfl, rfl, rfl, rfl, rfl, rfl, rfl, rfl, rfl, rfl, rfl, rfl, rfl, rfl, rfl, rfl, rfl, rfl, rfl, rfl, rfl, rfl, rfl, rfl, rfl, rfl, rfl, rfl, rfl, rfl, rfl, rfl, rfl, rfl, rfl, rfl, rfl, rfl, trivial⟩
    clear M116 G116
    refine z3b (zc rfl) rfl F117 rfl M117 27 (t := 22) (c := #[(.slice Ap116_23 (Z1).length cp116_23), (.slice Ap116_24 ((G1.take K)).length cp116_24), .slice A8 n8 cap8, (.slice Ap116_25 (Y1).length cp116_25)]) (k := 4) (m := 4) (y_litG 54 22 (s := 1) (zv := zN) Tryz.underlying54 (by kernel_rfl) (by kernel_rfl) rfl (#[(.slice Ap116_23 (Z1).length cp116_23), (.slice Ap116_24 ((G1.take K)).length cp116_24), .slice A8 n8 cap8, (.slice Ap116_25 (Y1).length cp116_25)]) (by decide) (by decide) (by simp only [List.map_toArray, List.map_cons, List.map_nil, (F117.get (t := 105) rfl), (F117.get (t := 109) rfl), (F117.get (t := 110) rfl), (F117.get (t := 116) rfl)]; kernel_rfl)) ?_
    intro g118 a118 w118 F118 M118
    clear F117 M117
    refine rm rfl F118 fun _ F119 => ?_
    refine hK114 _ _ ?_
    refine zSk fun _ hK120 => ?_
    refine zSk fun _ hK121 => ?_
    refine zR ?_
    refine rm rfl F119 fun _ F122 => ?_
    refine hK121 _ _ ?_
    refine wp_block ?_
    have M123 := M118.tame (k := 23) rfl
    clear M118
    have M124 := M123.tame (k := 25) rfl
    clear M123
    refine loop_fx (α := Nat) (n := 189) (G := none) (w0 := w) (fun x => [(5, .int .i64 a5), (6, .int .u8 ((c6.toNat : Nat) : Int)), (7, .int .i64 a7), (8, .slice A8 n8 cap8), (23, .pointer (some ⟨g74, 0, none⟩)), (26, .pointer (some ⟨g90, 0, none⟩)), (29, .slice A100 (G1).length c100), (32, .slice A112 (G2).length c112), (33, .slice (some ⟨g118, 0, none⟩) 4 4), (34, .int .i64 (x : Int))]) (fun x => [(0, bytR l2 (.slice A2 n2 cap2)), (1, bytR l3 (.slice A3 n3 cap3)), (2, bytR l4 (.slice A4 n4 cap4)), (3, bytR l8 (.slice A8 n8 cap8)), (4, bytR (sBy a1) (.slice A30 ((sBy a1)).length c30)), (5, blkR g34 22 (#[.slice A30 ((sBy a1)).length c30, .slice A2 n2 cap2, .slice A3 n3 cap3, .slice A4 n4 cap4])), (6, blkR g51 29 (zh k p (p / 2) 4)), (7, blkR g57 33 (recA ⟨1, a1, l3, V1, 0, [], 0, 0, 0⟩ ⟨.slice A3 n3 cap3, zN⟩)), (8, bytR C.lp y64.vp), (9, bytR C.ls y64.vs), (10, blkR g66 37 (zj C y64)), (11, blkR g67 27 (numA A)), (12, bytR S.lp y72.vp), (13, bytR S.ls y72.vs), (14, blkR g74 37 (zj S y72)), (15, blkR g75 27 (numA B)), (16, bytR D.lp y88.vp), (17, bytR D.ls y88.vs), (18, blkR g90 37 (zj D y88)), (19, blkR g91 35 (zg D.Pr)), (20, bytR G1 (.slice A100 (G1).length c100)), (21, blkR g107 35 (zg (ansY S.Ky S.Pr))), (22, ownR G2 (.slice A112 (G2).length c112)), (23, bytR Z1 (.slice Ap116_23 (Z1).length cp116_23)), (24, bytR (G1.take K) (.slice Ap116_24 ((G1.take K)).length cp116_24)), (25, bytR Y1 (.slice Ap116_25 (Y1).length cp116_25)), (26, ownR [c6] (.slice Ap116_26 ([c6]).length cp116_26)), (27, blkR g118 22 (#[(.slice Ap116_23 (Z1).length cp116_23), (.slice Ap116_24 ((G1.take K)).length cp116_24), .slice A8 n8 cap8, (.slice Ap116_25 (Y1).length cp116_25)]))]) (fun k x => k = (4 - x) ∧ (x ≤ 4)) _ 0 ⟨rfl, (by decide)⟩ (F122.sub ⟨rfl, rfl, rfl, rfl, rfl, rfl, rfl, rfl, rfl, rfl, trivial⟩) (M124.sub ⟨rfl, rfl, rfl, rfl, rfl, rfl, rfl, rfl, rfl, rfl, rfl, rfl, rfl, rfl, rfl, rfl, rfl, rfl, rfl, rfl, rfl, rfl, rfl, rfl, rfl, rfl, rfl, rfl, trivial⟩) ?_
    clear F122 M124
    rintro k125 jn a125 w125 K125 ⟨ek125, I125⟩ F125 M125 hK125
    replace F125 : Fx 189 a125 [(5, .int .i64 a5), (6, .int .u8 ((c6.toNat : Nat) : Int)), (7, .int .i64 a7), (8, .slice A8 n8 cap8), (23, .pointer (some ⟨g74, 0, none⟩)), (26, .pointer (some ⟨g90, 0, none⟩)), (29, .slice A100 (G1).length c100), (32, .slice A112 (G2).length c112), (33, .slice (some ⟨g118, 0, none⟩) 4 4), (34, .int .i64 (jn : Int))] := F125
    replace M125 : Mx _ _ w125 [(0, bytR l2 (.slice A2 n2 cap2)), (1, bytR l3 (.slice A3 n3 cap3)), (2, bytR l4 (.slice A4 n4 cap4)), (3, bytR l8 (.slice A8 n8 cap8)), (4, bytR (sBy a1) (.slice A30 ((sBy a1)).length c30)), (5, blkR g34 22 (#[.slice A30 ((sBy a1)).length c30, .slice A2 n2 cap2, .slice A3 n3 cap3, .slice A4 n4 cap4])), (6, blkR g51 29 (zh k p (p / 2) 4)), (7, blkR g57 33 (recA ⟨1, a1, l3, V1, 0, [], 0, 0, 0⟩ ⟨.slice A3 n3 cap3, zN⟩)), (8, bytR C.lp y64.vp), (9, bytR C.ls y64.vs), (10, blkR g66 37 (zj C y64)), (11, blkR g67 27 (numA A)), (12, bytR S.lp y72.vp), (13, bytR S.ls y72.vs), (14, blkR g74 37 (zj S y72)), (15, blkR g75 27 (numA B)), (16, bytR D.lp y88.vp), (17, bytR D.ls y88.vs), (18, blkR g90 37 (zj D y88)), (19, blkR g91 35 (zg D.Pr)), (20, bytR G1 (.slice A100 (G1).length c100)), (21, blkR g107 35 (zg (ansY S.Ky S.Pr))), (22, ownR G2 (.slice A112 (G2).length c112)), (23, bytR Z1 (.slice Ap116_23 (Z1).length cp116_23)), (24, bytR (G1.take K) (.slice Ap116_24 ((G1.take K)).length cp116_24)), (25, bytR Y1 (.slice Ap116_25 (Y1).length cp116_25)), (26, ownR [c6] (.slice Ap116_26 ([c6]).length cp116_26)), (27, blkR g118 22 (#[(.slice Ap116_23 (Z1).length cp116_23), (.slice Ap116_24 ((G1.take K)).length cp116_24), .slice A8 n8 cap8, (.slice Ap116_25 (Y1).length cp116_25)]))] := M125
    replace I125 : jn ≤ 4 := I125
    replace ek125 : k125 = (4 - jn) := ek125
    have hj5 := I125
    refine zSk fun _ hK126 => ?_
    refine zSk fun _ hK127 => ?_
    refine zR ?_
    refine rm rfl F125 fun _ F128 => ?_
    refine rm rfl F128 fun _ F129 => ?_
    refine zk (w' := w125) (zc rfl) rfl F129 rfl (.int .i64 4) (y_lnG 54 Tryz.underlying54 _ rfl (F129.get (t := 119) rfl) rfl) fun _ F130 => ?_
    clear F129
    by_cases h131 : (jn : Int) < 4
    ·have hlt : jn < 4 := by omega
     obtain ⟨X, Ax, nx, cx, ex, M132⟩ : ∃ (X : List UInt8) (Aq : Option Addr) (mq cq : Nat), (#[(.slice Ap116_23 (Z1).length cp116_23), (.slice Ap116_24 ((G1.take K)).length cp116_24), .slice A8 n8 cap8, (.slice Ap116_25 (Y1).length cp116_25)] : Array Value)[0 + jn * 1]? = some (.slice Aq mq cq) ∧ Mx none w w125 ((900, bytR X (.slice Aq mq cq)) :: [(0, bytR l2 (.slice A2 n2 cap2)), (1, bytR l3 (.slice A3 n3 cap3)), (2, bytR l4 (.slice A4 n4 cap4)), (3, bytR l8 (.slice A8 n8 cap8)), (4, bytR (sBy a1) (.slice A30 ((sBy a1)).length c30)), (5, blkR g34 22 (#[.slice A30 ((sBy a1)).length c30, .slice A2 n2 cap2, .slice A3 n3 cap3, .slice A4 n4 cap4])), (6, blkR g51 29 (zh k p (p / 2) 4)), (7, blkR g57 33 (recA ⟨1, a1, l3, V1, 0, [], 0, 0, 0⟩ ⟨.slice A3 n3 cap3, zN⟩)), (8, bytR C.lp y64.vp), (9, bytR C.ls y64.vs), (10, blkR g66 37 (zj C y64)), (11, blkR g67 27 (numA A)), (12, bytR S.lp y72.vp), (13, bytR S.ls y72.vs), (14, blkR g74 37 (zj S y72)), (15, blkR g75 27 (numA B)), (16, bytR D.lp y88.vp), (17, bytR D.ls y88.vs), (18, blkR g90 37 (zj D y88)), (19, blkR g91 35 (zg D.Pr)), (20, bytR G1 (.slice A100 (G1).length c100)), (21, blkR g107 35 (zg (ansY S.Ky S.Pr))), (22, ownR G2 (.slice A112 (G2).length c112)), (23, bytR Z1 (.slice Ap116_23 (Z1).length cp116_23)), (24, bytR (G1.take K) (.slice Ap116_24 ((G1.take K)).length cp116_24)), (25, bytR Y1 (.slice Ap116_25 (Y1).length cp116_25)), (26, ownR [c6] (.slice Ap116_26 ([c6]).length cp116_26)), (27, blkR g118 22 (#[(.slice Ap116_23 (Z1).length cp116_23), (.slice Ap116_24 ((G1.take K)).length cp116_24), .slice A8 n8 cap8, (.slice Ap116_25 (Y1).length cp116_25)]))]) := by
      match jn, hlt with
      | 0, _ => exact ⟨_, _, _, _, rfl, M125.partB 900 (k := 23) rfl (M125.isb (k := 23) rfl) fun g h => h⟩
      | 1, _ => exact ⟨_, _, _, _, rfl, M125.partB 900 (k := 24) rfl (M125.isb (k := 24) rfl) fun g h => h⟩
      | 2, _ => exact ⟨_, _, _, _, rfl, M125.partB 900 (k := 3) rfl (M125.isb (k := 3) rfl) fun g h => h⟩
      | 3, _ => exact ⟨_, _, _, _, rfl, M125.partB 900 (k := 25) rfl (M125.isb (k := 25) rfl) fun g h => h⟩
      | n + 4, h => exact absurd h (by omega)
     clear M125
     obtain ⟨qx, hqx⟩ : ∃ x, decide (G1 = X) = x := ⟨_, rfl⟩
     refine zk (w' := w125) (zc rfl) rfl F130 rfl (.bool true) (y_lss _ _ _ _ rfl (F130.get (t := 118) rfl) (F130.get (t := 120) rfl) (decide_eq_true h131)) fun _ F133 => ?_
     clear F130
     refine hK127 _ _ ?_
     refine wp_cond_true (F133.get (t := 121) rfl) ?_
     refine wp_skip ?_
     refine hK126 _ _ ?_
     refine zSk fun _ hK134 => ?_
     refine wp_block ?_
     refine zSk fun _ hK135 => ?_
     refine z6a F133 (SE [.inl (.agg (zj S y72)), .inl (.slice (some ⟨g118, 0, none⟩) 4 4), .inl (.int .i64 (jn : Int)), .inl (.pointer (some ⟨g118, (0 + jn * 1), none⟩)), .inl (.slice Ax nx cx), .inl (.tuple #[.agg (zg (cond qx (ansY S.Ky S.Pr) (fun _ => 0))), .bool qx]), .inl (.tuple #[.agg (zg (cond qx (ansY S.Ky S.Pr) (fun _ => 0))), .bool qx]), .inl (.agg (zg (cond qx (ansY S.Ky S.Pr) (fun _ => 0)))), .inl (.bool qx), .inr (fun vE => ∃ g, vE = .pointer (some ⟨g, 0, none⟩)), .inl (undef)]) (JM none w fun SV pV => [(900, bytR X (.slice Ax nx cx)), (0, bytR l2 (.slice A2 n2 cap2)), (1, bytR l3 (.slice A3 n3 cap3)), (2, bytR l4 (.slice A4 n4 cap4)), (3, bytR l8 (.slice A8 n8 cap8)), (4, bytR (sBy a1) (.slice A30 ((sBy a1)).length c30)), (5, blkR g34 22 (#[.slice A30 ((sBy a1)).length c30, .slice A2 n2 cap2, .slice A3 n3 cap3, .slice A4 n4 cap4])), (6, blkR g51 29 (zh k p (p / 2) 4)), (7, blkR g57 33 (recA ⟨1, a1, l3, V1, 0, [], 0, 0, 0⟩ ⟨.slice A3 n3 cap3, zN⟩)), (8, bytR C.lp y64.vp), (9, bytR C.ls y64.vs), (10, blkR g66 37 (zj C y64)), (11, blkR g67 27 (numA A)), (12, bytR S.lp y72.vp), (13, bytR S.ls y72.vs), (14, blkR g74 37 (zj S y72)), (15, blkR g75 27 (numA B)), (16, bytR D.lp y88.vp), (17, bytR D.ls y88.vs), (18, blkR g90 37 (zj D y88)), (19, blkR g91 35 (zg D.Pr)), (20, bytR G1 (.slice A100 (G1).length c100)), (21, blkR g107 35 (zg (ansY S.Ky S.Pr))), (22, ownR G2 (.slice A112 (G2).length c112)), (23, bytR Z1 (.slice Ap116_23 (Z1).length cp116_23)), (24, bytR (G1.take K) (.slice Ap116_24 ((G1.take K)).length cp116_24)), (25, bytR Y1 (.slice Ap116_25 (Y1).length cp116_25)), (26, ownR [c6] (.slice Ap116_26 ([c6]).length cp116_26)), (27, blkR g118 22 (#[(.slice Ap116_23 (Z1).length cp116_23), (.slice Ap116_24 ((G1.take K)).length cp116_24), .slice A8 n8 cap8, (.slice Ap116_25 (Y1).length cp116_25)])), (28, z6b (SV 10) (ptrR 35 (zg (cond qx (ansY S.Ky S.Pr) (fun _ => 0))) (pV 9)) (z4a (SV 9) (ptrR 35 (zg (fun _ => 0)) (pV 9))))]) 11 rfl (by kernel_rfl) rfl ⟨trivial, trivial, trivial, trivial, trivial, trivial, trivial, trivial, trivial, trivial, fun _ => Iff.rfl, trivial⟩ (fun p => ((M132.step (zsa _)).triv 28).sub ⟨rfl, rfl, rfl, rfl, rfl, rfl, rfl, rfl, rfl, rfl, rfl, rfl, rfl, rfl, rfl, rfl, rfl, rfl, rfl, rfl, rfl, rfl, rfl, rfl, rfl, rfl, rfl, rfl, rfl, rfl, trivial⟩) ⟨zfb F133 (fun _ _ _ M => zz (Mx.blk (k := 14) M rfl) dnil) (some g74) (by kernel_rfl), zwa F133 (by kernel_rfl), zwa F133 (by kernel_rfl), ?_, ?_, ?_, zwa F133 (by kernel_rfl), zwa F133 (by kernel_rfl), zwa F133 (by kernel_rfl), ?_, ?_, trivial⟩ ?_
     ·intro ua uw SV pV M0 hk hn hd
      have M : Mx none w uw _ := M0
      clear M0
      obtain ⟨s1, f126, q126⟩ := (show SV 1 = true ∧ ua.eval (.tmp 126) = pV 1 ∧ stE _ 1 (pV 1) from hd 126 (by decide))
      have e126 : ua.eval (.tmp 126) = .slice (some ⟨g118, 0, none⟩) 4 4 := f126.trans q126
      obtain ⟨s2, f127, q127⟩ := (show SV 2 = true ∧ ua.eval (.tmp 127) = pV 2 ∧ stE _ 2 (pV 2) from hd 127 (by decide))
      have e127 : ua.eval (.tmp 127) = .int .i64 (jn : Int) := f127.trans q127
      exact zua (zc rfl) (.pointer (some ⟨g118, (0 + jn * 1), none⟩)) (y_ixG 54 (s := 1) Tryz.underlying54 (by kernel_rfl) _ _ rfl e126 e127 rfl hlt rfl) rfl (M.sub ⟨rfl, rfl, rfl, rfl, rfl, rfl, rfl, rfl, rfl, rfl, rfl, rfl, rfl, rfl, rfl, rfl, rfl, rfl, rfl, rfl, rfl, rfl, rfl, rfl, rfl, rfl, rfl, rfl, rfl, rfl, trivial⟩)
     ·intro ua uw SV pV M0 hk hn hd
      have M : Mx none w uw _ := M0
      clear M0
      obtain ⟨s3, f128, q128⟩ := (show SV 3 = true ∧ ua.eval (.tmp 128) = pV 3 ∧ stE _ 3 (pV 3) from hd 128 (by decide))
      have e128 : ua.eval (.tmp 128) = .pointer (some ⟨g118, (0 + jn * 1), none⟩) := f128.trans q128
      exact zua (zc rfl) (.slice Ax nx cx) (z3a _ _ rfl e128 (M.blk (k := 27) rfl) ex Tryz.underlying22 rfl) rfl (M.sub ⟨rfl, rfl, rfl, rfl, rfl, rfl, rfl, rfl, rfl, rfl, rfl, rfl, rfl, rfl, rfl, rfl, rfl, rfl, rfl, rfl, rfl, rfl, rfl, rfl, rfl, rfl, rfl, rfl, rfl, rfl, trivial⟩)
     ·intro ua uw SV pV M0 hk hn hd
      have M : Mx none w uw _ := M0
      clear M0
      obtain ⟨s0, f125, q125⟩ := (show SV 0 = true ∧ ua.eval (.tmp 125) = pV 0 ∧ stE _ 0 (pV 0) from hd 125 (by decide))
      have e125 : ua.eval (.tmp 125) = .agg (zj S y72) := f125.trans q125
      obtain ⟨s4, f129, q129⟩ := (show SV 4 = true ∧ ua.eval (.tmp 129) = pV 4 ∧ stE _ 4 (pV 4) from hd 129 (by decide))
      have e129 : ua.eval (.tmp 129) = .slice Ax nx cx := f129.trans q129
      exact zra (zc rfl) rfl #[.agg (zj S y72), .slice Ax nx cx] (zjb e125 e129) (zE Tryz.func17 rfl) (((check_any S _ hSo X _ qx (by rw [hSG]; exact hqx) uw ⟨(M.isb (k := 12) rfl), (M.isb (k := 13) rfl)⟩ (M.isb (k := 900) rfl))).mono fun e w2 h => ⟨_, h.1, rfl, (M.step h.2).sub ⟨rfl, rfl, rfl, rfl, rfl, rfl, rfl, rfl, rfl, rfl, rfl, rfl, rfl, rfl, rfl, rfl, rfl, rfl, rfl, rfl, rfl, rfl, rfl, rfl, rfl, rfl, rfl, rfl, rfl, rfl, trivial⟩⟩)
     ·intro ua uw SV pV M0 hk hn hd
      have M : Mx none w uw _ := M0
      clear M0
      exact zua (zc rfl) _ (by unfold execOp; kernel_rfl) ⟨_, rfl⟩ ((M.allocP 28 35 (zg (fun _ => 0))).sub ⟨rfl, rfl, rfl, rfl, rfl, rfl, rfl, rfl, rfl, rfl, rfl, rfl, rfl, rfl, rfl, rfl, rfl, rfl, rfl, rfl, rfl, rfl, rfl, rfl, rfl, rfl, rfl, rfl, rfl, (eitherR_at (hn 10 (by kernel_rfl)) rfl), trivial⟩)
     ·intro ua uw SV pV M0 hk hn hd
      have M : Mx none w uw _ := M0
      clear M0
      obtain ⟨s9, f35, q35⟩ := (show SV 9 = true ∧ ua.eval (.tmp 35) = pV 9 ∧ stE _ 9 (pV 9) from hd 35 (by decide))
      obtain ⟨s7, f131, q131⟩ := (show SV 7 = true ∧ ua.eval (.tmp 131) = pV 7 ∧ stE _ 7 (pV 7) from hd 131 (by decide))
      have e131 : ua.eval (.tmp 131) = .agg (zg (cond qx (ansY S.Ky S.Pr) (fun _ => 0))) := f131.trans q131
      obtain ⟨g_, r_⟩ := (show ∃ g, pV 9 = .pointer (some ⟨g, 0, none⟩) from q35)
      have M2 := M.ptrV (k := 28) (g := g_) (z5b s9 (eitherR_r hk rfl)) r_
      exact hopM_doM (zc rfl) rfl (run_st M2 (k := 28) rfl _ _ _ rfl (f35.trans r_) e131 (zg (cond qx (ansY S.Ky S.Pr) (fun _ => 0))) _ rfl (zL rfl) (zca _) (zr rfl) (by kernel_rfl)) (fun w2 h2 => (h2.toPtr (k := 28) rfl r_ rfl).sub ⟨rfl, rfl, rfl, rfl, rfl, rfl, rfl, rfl, rfl, rfl, rfl, rfl, rfl, rfl, rfl, rfl, rfl, rfl, rfl, rfl, rfl, rfl, rfl, rfl, rfl, rfl, rfl, rfl, rfl, rfl, trivial⟩) rfl
     intro p136 a136 w136 M136 G136 y136
     obtain ⟨-, -, -, -, -, -, -, -, q8, q9, -, -⟩ := y136
     obtain ⟨gp9x135, r9⟩ := (show ∃ g, p136 9 = .pointer (some ⟨g, 0, none⟩) from q9)
     have r8 : p136 8 = .bool qx := q8
     replace M136 : Mx _ _ w136 [(900, bytR X (.slice Ax nx cx)), (0, bytR l2 (.slice A2 n2 cap2)), (1, bytR l3 (.slice A3 n3 cap3)), (2, bytR l4 (.slice A4 n4 cap4)), (3, bytR l8 (.slice A8 n8 cap8)), (4, bytR (sBy a1) (.slice A30 ((sBy a1)).length c30)), (5, blkR g34 22 (#[.slice A30 ((sBy a1)).length c30, .slice A2 n2 cap2, .slice A3 n3 cap3, .slice A4 n4 cap4])), (6, blkR g51 29 (zh k p (p / 2) 4)), (7, blkR g57 33 (recA ⟨1, a1, l3, V1, 0, [], 0, 0, 0⟩ ⟨.slice A3 n3 cap3, zN⟩)), (8, bytR C.lp y64.vp), (9, bytR C.ls y64.vs), (10, blkR g66 37 (zj C y64)), (11, blkR g67 27 (numA A)), (12, bytR S.lp y72.vp), (13, bytR S.ls y72.vs), (14, blkR g74 37 (zj S y72)), (15, blkR g75 27 (numA B)), (16, bytR D.lp y88.vp), (17, bytR D.ls y88.vs), (18, blkR g90 37 (zj D y88)), (19, blkR g91 35 (zg D.Pr)), (20, bytR G1 (.slice A100 (G1).length c100)), (21, blkR g107 35 (zg (ansY S.Ky S.Pr))), (22, ownR G2 (.slice A112 (G2).length c112)), (23, bytR Z1 (.slice Ap116_23 (Z1).length cp116_23)), (24, bytR (G1.take K) (.slice Ap116_24 ((G1.take K)).length cp116_24)), (25, bytR Y1 (.slice Ap116_25 (Y1).length cp116_25)), (26, ownR [c6] (.slice Ap116_26 ([c6]).length cp116_26)), (27, blkR g118 22 (#[(.slice Ap116_23 (Z1).length cp116_23), (.slice Ap116_24 ((G1.take K)).length cp116_24), .slice A8 n8 cap8, (.slice Ap116_25 (Y1).length cp116_25)])), (28, z6b true (ptrR 35 (zg (cond qx (ansY S.Ky S.Pr) (fun _ => 0))) (p136 9)) (z4a true (ptrR 35 (zg (fun _ => 0)) (p136 9))))] := M136
     simp only [List.take, layV, Nat.zero_add, Nat.reduceAdd, r8, r9] at G136
     rw [r9] at M136
     have M136_28 := M136.ptr (k := 28) (g := gp9x135) rfl
     replace M136_28 := M136_28.toB (k := 28) (c2 := zg (cond qx (ansY S.Ky S.Pr) (fun _ => 0))) rfl rfl
     refine rm rfl G136 fun _ F137 => ?_
     refine hK135 _ _ ?_
     refine zSk fun _ hK138 => ?_
     cases qx
     ·have hD139 := (zz (M136_28.blk (k := 28) rfl) dnil)
      refine zoa F137 (SK [.inl (.bool false), .inl (.slice (some ⟨g118, 0, none⟩) 4 4), .inl (.int .i64 (jn : Int)), .inl (.pointer (some ⟨g118, (0 + jn * 1), none⟩)), .inl (.slice Ax nx cx), .inl (.string (⟨(X).toArray⟩)), .inl (.slice A100 (G1).length c100), .inl (.string (⟨(G1).toArray⟩)), .inl (.bool false), .inl (.bool false), .inl (.bool false), .inl (.bool false), .inl (.bool true), .inl (.bool true), .inl (.agg (zg (cond false (ansY S.Ky S.Pr) (fun _ => 0)))), .inl (.agg (zg (fun _ => 0))), .inl (.bool false), .inl (.bool false), .inl (.bool false)]) 19 rfl (by kernel_rfl) ⟨hop0 F137 (by kernel_rfl), hop0 F137 (by kernel_rfl), hop0 F137 (by kernel_rfl), hopR F137 [(134, .slice (some ⟨g118, 0, none⟩) 4 4), (135, .int .i64 (jn : Int))] fun ua uw hb ⟨e134, e135, _⟩ => (y_ixG 54 (s := 1) Tryz.underlying54 (by kernel_rfl) _ _ rfl e134 e135 rfl hlt rfl), hopR F137 [(136, .pointer (some ⟨g118, (0 + jn * 1), none⟩))] fun ua uw hb ⟨e136, _⟩ => (z3a _ _ rfl e136 ((M136_28.step hb).blk (k := 27) rfl) ex Tryz.underlying22 rfl), hopR F137 [(137, .slice Ax nx cx)] (v := .string (⟨(X).toArray⟩)) fun ua uw hb ⟨e137, _⟩ => (y_str _ rfl e137 ((M136_28.step hb).isb (k := 900) rfl)), hop0 F137 (by kernel_rfl), hopR F137 [(139, .slice A100 (G1).length c100)] (v := .string (⟨(G1).toArray⟩)) fun ua uw hb ⟨e139, _⟩ => (y_str _ rfl e139 ((M136_28.step hb).isb (k := 20) rfl)), hopR F137 [(138, .string (⟨(X).toArray⟩)), (140, .string (⟨(G1).toArray⟩))] (v := .bool false) fun ua uw hb ⟨e138, e140, _⟩ => (y_eqS _ _ _ rfl e138 e140 (strB7 hqx)), hopR F137 [(133, .bool false), (141, .bool false)] (v := .bool false) fun ua uw hb ⟨e133, e141, _⟩ => (y_neB _ _ rfl e133 e141 rfl), hop0 F137 (by kernel_rfl), hop0 F137 (by kernel_rfl), hop0 F137 (by kernel_rfl), hop0 F137 (by kernel_rfl), hopP F137 hD139 0 (some gp9x135) (by kernel_rfl), hopR F137 [] (v := .agg (zg (fun _ => 0))) fun ua uw hb _ => (by unfold execOp; kernel_rfl), hopR F137 [(147, .agg (zg (cond false (ansY S.Ky S.Pr) (fun _ => 0)))), (148, .agg (zg (fun _ => 0)))] (v := .bool false) fun ua uw hb ⟨e147, e148, _⟩ => (run_eq16z _ _ rfl (fun _ => 0) e147 e148), hop0 F137 (by kernel_rfl), hop0 F137 (by kernel_rfl), trivial⟩ ?_
      intro p140 a140 w140 b140 G140 y140
      obtain ⟨-, -, -, -, -, -, -, -, -, -, -, -, -, -, -, -, -, -, q18, -⟩ := y140
      have r18 : p140 18 = .bool false := q18 (by decide)
      simp only [List.take, layV, Nat.zero_add, Nat.reduceAdd, r18] at G140
      have M140 := M136_28.kc b140
      clear F137 M136_28 r18 q18
      refine hK138 _ _ ?_
      refine wp_cond_false (G140.get (t := 151) rfl) ?_
      refine wp_skip ?_
      refine hK134 _ _ ?_
      refine zR ?_
      refine rm rfl G140 fun _ F141 => ?_
      refine zk (w' := w140) (zc rfl) rfl F141 rfl (.int .i64 ((jn + 1 : Nat) : Int)) (y_addI _ _ _ _ rfl (F141.get (t := 122) rfl) rfl (by omega) (by omega)) fun _ F142 => ?_
      clear F141
      refine rm rfl F142 fun _ F143 => ?_
      subst ek125
      exact hK125 _ (jn + 1) _ _ (by omega) ⟨rfl, (by omega)⟩ (F143.sub ⟨rfl, rfl, rfl, rfl, rfl, rfl, rfl, rfl, rfl, rfl, trivial⟩) (M140.sub ⟨rfl, rfl, rfl, rfl, rfl, rfl, rfl, rfl, rfl, rfl, rfl, rfl, rfl, rfl, rfl, rfl, rfl, rfl, rfl, rfl, rfl, rfl, rfl, rfl, rfl, rfl, rfl, rfl, trivial⟩)
     ·refine zoa F137 (SK [.inl (.bool true), .inl (.slice (some ⟨g118, 0, none⟩) 4 4), .inl (.int .i64 (jn : Int)), .inl (.pointer (some ⟨g118, (0 + jn * 1), none⟩)), .inl (.slice Ax nx cx), .inl (.string (⟨(X).toArray⟩)), .inl (.slice A100 (G1).length c100), .inl (.string (⟨(G1).toArray⟩)), .inl (.bool true), .inl (.bool false), .inl (.bool false), .inl (.bool true), .inl (.bool false), .inl (.bool false), .inl (undef), .inl (undef), .inl (undef), .inl (.bool false), .inl (.bool false)]) 19 rfl (by kernel_rfl) ⟨hop0 F137 (by kernel_rfl), hop0 F137 (by kernel_rfl), hop0 F137 (by kernel_rfl), hopR F137 [(134, .slice (some ⟨g118, 0, none⟩) 4 4), (135, .int .i64 (jn : Int))] fun ua uw hb ⟨e134, e135, _⟩ => (y_ixG 54 (s := 1) Tryz.underlying54 (by kernel_rfl) _ _ rfl e134 e135 rfl hlt rfl), hopR F137 [(136, .pointer (some ⟨g118, (0 + jn * 1), none⟩))] fun ua uw hb ⟨e136, _⟩ => (z3a _ _ rfl e136 ((M136_28.step hb).blk (k := 27) rfl) ex Tryz.underlying22 rfl), hopR F137 [(137, .slice Ax nx cx)] (v := .string (⟨(X).toArray⟩)) fun ua uw hb ⟨e137, _⟩ => (y_str _ rfl e137 ((M136_28.step hb).isb (k := 900) rfl)), hop0 F137 (by kernel_rfl), hopR F137 [(139, .slice A100 (G1).length c100)] (v := .string (⟨(G1).toArray⟩)) fun ua uw hb ⟨e139, _⟩ => (y_str _ rfl e139 ((M136_28.step hb).isb (k := 20) rfl)), hopR F137 [(138, .string (⟨(X).toArray⟩)), (140, .string (⟨(G1).toArray⟩))] (v := .bool true) fun ua uw hb ⟨e138, e140, _⟩ => (y_eqS _ _ _ rfl e138 e140 (strB7 hqx)), hopR F137 [(133, .bool true), (141, .bool true)] (v := .bool false) fun ua uw hb ⟨e133, e141, _⟩ => (y_neB _ _ rfl e133 e141 rfl), hop0 F137 (by kernel_rfl), hop0 F137 (by kernel_rfl), hop0 F137 (by kernel_rfl), hop0 F137 (by kernel_rfl), hop0 F137 (by kernel_rfl), hop0 F137 (by kernel_rfl), hop0 F137 (by kernel_rfl), hop0 F137 (by kernel_rfl), hop0 F137 (by kernel_rfl), trivial⟩ ?_
      intro p145 a145 w145 b145 G145 y145
      obtain ⟨-, -, -, -, -, -, -, -, -, -, -, -, -, -, -, -, -, -, q18, -⟩ := y145
      have r18 : p145 18 = .bool false := q18 (by decide)
      simp only [List.take, layV, Nat.zero_add, Nat.reduceAdd, r18] at G145
      have M145 := M136_28.kc b145
      clear F137 M136_28 r18 q18
      refine hK138 _ _ ?_
      refine wp_cond_false (G145.get (t := 151) rfl) ?_
      refine wp_skip ?_
      refine hK134 _ _ ?_
      refine zR ?_
      refine rm rfl G145 fun _ F146 => ?_
      refine zk (w' := w145) (zc rfl) rfl F146 rfl (.int .i64 ((jn + 1 : Nat) : Int)) (y_addI _ _ _ _ rfl (F146.get (t := 122) rfl) rfl (by omega) (by omega)) fun _ F147 => ?_
      clear F146
      refine rm rfl F147 fun _ F148 => ?_
      subst ek125
      exact hK125 _ (jn + 1) _ _ (by omega) ⟨rfl, (by omega)⟩ (F148.sub ⟨rfl, rfl, rfl, rfl, rfl, rfl, rfl, rfl, rfl, rfl, trivial⟩) (M145.sub ⟨rfl, rfl, rfl, rfl, rfl, rfl, rfl, rfl, rfl, rfl, rfl, rfl, rfl, rfl, rfl, rfl, rfl, rfl, rfl, rfl, rfl, rfl, rfl, rfl, rfl, rfl, rfl, rfl, trivial⟩)
    ·refine zk (w' := w125) (zc rfl) rfl F130 rfl (.bool false) (y_lss _ _ _ _ rfl (F130.get (t := 118) rfl) (F130.get (t := 120) rfl) (decide_eq_false h131)) fun _ F149 => ?_
     clear F130
     refine hK127 _ _ ?_
     refine wp_cond_false (F149.get (t := 121) rfl) ?_
     refine wp_exit ?_
     simp only [Exit.then, Exit.inBlock, ↓reduceIte, Nat.reduceEqDiff]
     refine hK120 _ _ ?_
     refine zSk fun _ hK150 => ?_
     have M151 := M125.tame (k := 22) rfl
     clear M125
     refine z6a F149 (SE [.inl (.slice A112 (G2).length c112), .inl (.int .i64 a5), .inl (.int .u8 ((c6.toNat : Nat) : Int)), .inr (fun _ => True), .inl (.slice A112 (G2).length c112), .inl (.int .i64 a7), .inl (.int .i64 (K : Int)), .inr (fun _ => True), .inl (.slice A8 n8 cap8), .inr (fun _ => True), .inl (.slice A112 (G2).length c112), .inr (fun _ => True), .inl (.int .u8 ((c6.toNat : Nat) : Int)), .inr (fun _ => True), .inr (fun _ => True)]) (JM none w fun SV pV => [(0, bytR l2 (.slice A2 n2 cap2)), (1, bytR l3 (.slice A3 n3 cap3)), (2, bytR l4 (.slice A4 n4 cap4)), (3, bytR l8 (.slice A8 n8 cap8)), (4, bytR (sBy a1) (.slice A30 ((sBy a1)).length c30)), (5, blkR g34 22 (#[.slice A30 ((sBy a1)).length c30, .slice A2 n2 cap2, .slice A3 n3 cap3, .slice A4 n4 cap4])), (6, blkR g51 29 (zh k p (p / 2) 4)), (7, blkR g57 33 (recA ⟨1, a1, l3, V1, 0, [], 0, 0, 0⟩ ⟨.slice A3 n3 cap3, zN⟩)), (8, bytR C.lp y64.vp), (9, bytR C.ls y64.vs), (10, blkR g66 37 (zj C y64)), (11, blkR g67 27 (numA A)), (12, bytR S.lp y72.vp), (13, bytR S.ls y72.vs), (14, blkR g74 37 (zj S y72)), (15, blkR g75 27 (numA B)), (16, bytR D.lp y88.vp), (17, bytR D.ls y88.vs), (18, blkR g90 37 (zj D y88)), (19, blkR g91 35 (zg D.Pr)), (20, bytR G1 (.slice A100 (G1).length c100)), (21, blkR g107 35 (zg (ansY S.Ky S.Pr))), (22, bytR G2 (.slice A112 (G2).length c112)), (23, bytR Z1 (.slice Ap116_23 (Z1).length cp116_23)), (24, bytR (G1.take K) (.slice Ap116_24 ((G1.take K)).length cp116_24)), (25, bytR Y1 (.slice Ap116_25 (Y1).length cp116_25)), (26, ownR [c6] (.slice Ap116_26 ([c6]).length cp116_26)), (27, blkR g118 22 (#[(.slice Ap116_23 (Z1).length cp116_23), (.slice Ap116_24 ((G1.take K)).length cp116_24), .slice A8 n8 cap8, (.slice Ap116_25 (Y1).length cp116_25)])), (28, z4a (SV 3) (ownR Z2 (pV 3))), (29, z4a (SV 7) (bytR (G2.take K) (pV 7))), (30, z6b (SV 11) (z6b (SV 14) (ownR (([] ++ G2) ++ [c6]) (pV 14)) (ownR ([] ++ G2) (pV 11))) (z4a (SV 9) (ownR [] (pV 9)))), (31, z4a (SV 13) (ownR [c6] (pV 13)))]) 15 rfl (by kernel_rfl) rfl ⟨trivial, trivial, trivial, trivial, trivial, trivial, trivial, trivial, trivial, trivial, trivial, trivial, trivial, trivial, trivial, trivial⟩ (fun p => (((((M151.step (zsa _)).triv 28).triv 29).triv 30).triv 31).sub ⟨rfl, rfl, rfl, rfl, rfl, rfl, rfl, rfl, rfl, rfl, rfl, rfl, rfl, rfl, rfl, rfl, rfl, rfl, rfl, rfl, rfl, rfl, rfl, rfl, rfl, rfl, rfl, rfl, rfl, rfl, rfl, rfl, trivial⟩) ⟨zwa F149 (by kernel_rfl), zwa F149 (by kernel_rfl), zwa F149 (by kernel_rfl), ?_, zwa F149 (by kernel_rfl), zwa F149 (by kernel_rfl), ?_, ?_, zwa F149 (by kernel_rfl), ?_, zwa F149 (by kernel_rfl), ?_, zwa F149 (by kernel_rfl), ?_, ?_, trivial⟩ ?_
     ·intro ua uw SV pV M0 hk hn hd
      have M : Mx none w uw _ := M0
      clear M0
      obtain ⟨s0, f152, q152⟩ := (show SV 0 = true ∧ ua.eval (.tmp 152) = pV 0 ∧ stE _ 0 (pV 0) from hd 152 (by decide))
      have e152 : ua.eval (.tmp 152) = .slice A112 (G2).length c112 := f152.trans q152
      obtain ⟨s1, f153, q153⟩ := (show SV 1 = true ∧ ua.eval (.tmp 153) = pV 1 ∧ stE _ 1 (pV 1) from hd 153 (by decide))
      have e153 : ua.eval (.tmp 153) = .int .i64 a5 := f153.trans q153
      obtain ⟨s2, f154, q154⟩ := (show SV 2 = true ∧ ua.eval (.tmp 154) = pV 2 ∧ stE _ 2 (pV 2) from hd 154 (by decide))
      have e154 : ua.eval (.tmp 154) = .int .u8 ((c6.toNat : Nat) : Int) := f154.trans q154
      exact zra (zc rfl) rfl #[.slice A112 (G2).length c112, .int .i64 a5, .int .u8 ((c6.toNat : Nat) : Int)] (args3 e152 e153 e154) (zE Tryz.func21 rfl) (((tG2 uw _ (M.isb (k := 22) rfl))).mono fun e w2 h => (by obtain ⟨u, h1, h2, h3⟩ := h; exact ⟨u, h1, trivial, (M.newO h3 28 h2).sub ⟨rfl, rfl, rfl, rfl, rfl, rfl, rfl, rfl, rfl, rfl, rfl, rfl, rfl, rfl, rfl, rfl, rfl, rfl, rfl, rfl, rfl, rfl, rfl, rfl, rfl, rfl, rfl, rfl, rfl, rfl, rfl, rfl, trivial⟩⟩))
     ·intro ua uw SV pV M0 hk hn hd
      have M : Mx none w uw _ := M0
      clear M0
      obtain ⟨s5, f157, q157⟩ := (show SV 5 = true ∧ ua.eval (.tmp 157) = pV 5 ∧ stE _ 5 (pV 5) from hd 157 (by decide))
      have e157 : ua.eval (.tmp 157) = .int .i64 a7 := f157.trans q157
      exact zra (zc rfl) rfl #[.int .i64 a7, .int .i64 17] (zjb e157 rfl) (zE Tryz.func22 rfl) (((same_eq ((kWc uw)))).mono fun e w2 h => ⟨_, h.1, rfl, (M.step h.2).sub ⟨rfl, rfl, rfl, rfl, rfl, rfl, rfl, rfl, rfl, rfl, rfl, rfl, rfl, rfl, rfl, rfl, rfl, rfl, rfl, rfl, rfl, rfl, rfl, rfl, rfl, rfl, rfl, rfl, rfl, rfl, rfl, rfl, trivial⟩⟩)
     ·intro ua uw SV pV M0 hk hn hd
      have M : Mx none w uw _ := M0
      clear M0
      obtain ⟨s4, f156, q156⟩ := (show SV 4 = true ∧ ua.eval (.tmp 156) = pV 4 ∧ stE _ 4 (pV 4) from hd 156 (by decide))
      have e156 : ua.eval (.tmp 156) = .slice A112 (G2).length c112 := f156.trans q156
      obtain ⟨s6, f158, q158⟩ := (show SV 6 = true ∧ ua.eval (.tmp 158) = pV 6 ∧ stE _ 6 (pV 6) from hd 158 (by decide))
      have e158 : ua.eval (.tmp 158) = .int .i64 (K : Int) := f158.trans q158
      exact hopM_exE (zc rfl) (y_slTo _ _ rfl e156 (M.isb (k := 22) rfl) e158 (j := K) rfl (by omega)) fun v h => ⟨trivial, (M.partB 29 (k := 22) rfl h.1 h.2).sub ⟨rfl, rfl, rfl, rfl, rfl, rfl, rfl, rfl, rfl, rfl, rfl, rfl, rfl, rfl, rfl, rfl, rfl, rfl, rfl, rfl, rfl, rfl, rfl, rfl, rfl, rfl, rfl, rfl, rfl, rfl, rfl, rfl, trivial⟩⟩
     ·intro ua uw SV pV M0 hk hn hd
      have M : Mx none w uw _ := M0
      clear M0
      exact hopM_exM (zc rfl) (run_lit0 M 30 rfl) fun v w2 h2 => ⟨trivial, h2.sub ⟨rfl, rfl, rfl, rfl, rfl, rfl, rfl, rfl, rfl, rfl, rfl, rfl, rfl, rfl, rfl, rfl, rfl, rfl, rfl, rfl, rfl, rfl, rfl, rfl, rfl, rfl, rfl, rfl, rfl, rfl, (eitherR_at (hn 11 (by kernel_rfl)) rfl), rfl, trivial⟩⟩
     ·intro ua uw SV pV M0 hk hn hd
      have M : Mx none w uw _ := M0
      clear M0
      obtain ⟨s9, f161, q161⟩ := (show SV 9 = true ∧ ua.eval (.tmp 161) = pV 9 ∧ stE _ 9 (pV 9) from hd 161 (by decide))
      have e161 : ua.eval (.tmp 161) = (pV 9) := f161
      obtain ⟨s10, f162, q162⟩ := (show SV 10 = true ∧ ua.eval (.tmp 162) = pV 10 ∧ stE _ 10 (pV 10) from hd 162 (by decide))
      have e162 : ua.eval (.tmp 162) = .slice A112 (G2).length c112 := f162.trans q162
      exact hopM_exM (zc rfl) (run_app M (k := 30) (z5b s9 (eitherR_r hk rfl)) _ _ rfl e161 e162 (M.isb (k := 22) rfl) (by simp; omega)) fun v w2 h2 => ⟨trivial, h2.sub ⟨rfl, rfl, rfl, rfl, rfl, rfl, rfl, rfl, rfl, rfl, rfl, rfl, rfl, rfl, rfl, rfl, rfl, rfl, rfl, rfl, rfl, rfl, rfl, rfl, rfl, rfl, rfl, rfl, rfl, rfl, (eitherR_at (hn 14 (by kernel_rfl)) rfl), rfl, trivial⟩⟩
     ·intro ua uw SV pV M0 hk hn hd
      have M : Mx none w uw _ := M0
      clear M0
      obtain ⟨s12, f164, q164⟩ := (show SV 12 = true ∧ ua.eval (.tmp 164) = pV 12 ∧ stE _ 12 (pV 12) from hd 164 (by decide))
      have e164 : ua.eval (.tmp 164) = .int .u8 ((c6.toNat : Nat) : Int) := f164.trans q164
      exact hopM_exM (zc rfl) (zoc M 31 [c6] 1 rfl (by decide) (by decide) rfl (by simp only [List.map_toArray, List.map_cons, List.map_nil, e164]; kernel_rfl)) fun v w2 h2 => ⟨trivial, h2.sub ⟨rfl, rfl, rfl, rfl, rfl, rfl, rfl, rfl, rfl, rfl, rfl, rfl, rfl, rfl, rfl, rfl, rfl, rfl, rfl, rfl, rfl, rfl, rfl, rfl, rfl, rfl, rfl, rfl, rfl, rfl, rfl, rfl, trivial⟩⟩
     ·intro ua uw SV pV M0 hk hn hd
      have M : Mx none w uw _ := M0
      clear M0
      obtain ⟨s11, f163, q163⟩ := (show SV 11 = true ∧ ua.eval (.tmp 163) = pV 11 ∧ stE _ 11 (pV 11) from hd 163 (by decide))
      have e163 : ua.eval (.tmp 163) = (pV 11) := f163
      obtain ⟨s13, f165, q165⟩ := (show SV 13 = true ∧ ua.eval (.tmp 165) = pV 13 ∧ stE _ 13 (pV 13) from hd 165 (by decide))
      have e165 : ua.eval (.tmp 165) = (pV 13) := f165
      exact hopM_exM (zc rfl) (run_app M (k := 30) (eitherR_r hk (eitherR_l s11 rfl)) _ _ rfl e163 e165 (M.isO (k := 31) (z5b s13 rfl)) (by simp; omega)) fun v w2 h2 => ⟨trivial, h2.sub ⟨rfl, rfl, rfl, rfl, rfl, rfl, rfl, rfl, rfl, rfl, rfl, rfl, rfl, rfl, rfl, rfl, rfl, rfl, rfl, rfl, rfl, rfl, rfl, rfl, rfl, rfl, rfl, rfl, rfl, rfl, (eitherR_in s11 rfl), rfl, trivial⟩⟩
     intro p152 a152 w152 M152 G152 y152
     obtain ⟨-, -, -, q3, -, -, -, q7, q8, -, -, -, -, -, q14, -⟩ := y152
     have r8 : p152 8 = .slice A8 n8 cap8 := q8
     replace M152 : Mx _ _ w152 [(0, bytR l2 (.slice A2 n2 cap2)), (1, bytR l3 (.slice A3 n3 cap3)), (2, bytR l4 (.slice A4 n4 cap4)), (3, bytR l8 (.slice A8 n8 cap8)), (4, bytR (sBy a1) (.slice A30 ((sBy a1)).length c30)), (5, blkR g34 22 (#[.slice A30 ((sBy a1)).length c30, .slice A2 n2 cap2, .slice A3 n3 cap3, .slice A4 n4 cap4])), (6, blkR g51 29 (zh k p (p / 2) 4)), (7, blkR g57 33 (recA ⟨1, a1, l3, V1, 0, [], 0, 0, 0⟩ ⟨.slice A3 n3 cap3, zN⟩)), (8, bytR C.lp y64.vp), (9, bytR C.ls y64.vs), (10, blkR g66 37 (zj C y64)), (11, blkR g67 27 (numA A)), (12, bytR S.lp y72.vp), (13, bytR S.ls y72.vs), (14, blkR g74 37 (zj S y72)), (15, blkR g75 27 (numA B)), (16, bytR D.lp y88.vp), (17, bytR D.ls y88.vs), (18, blkR g90 37 (zj D y88)), (19, blkR g91 35 (zg D.Pr)), (20, bytR G1 (.slice A100 (G1).length c100)), (21, blkR g107 35 (zg (ansY S.Ky S.Pr))), (22, bytR G2 (.slice A112 (G2).length c112)), (23, bytR Z1 (.slice Ap116_23 (Z1).length cp116_23)), (24, bytR (G1.take K) (.slice Ap116_24 ((G1.take K)).length cp116_24)), (25, bytR Y1 (.slice Ap116_25 (Y1).length cp116_25)), (26, ownR [c6] (.slice Ap116_26 ([c6]).length cp116_26)), (27, blkR g118 22 (#[(.slice Ap116_23 (Z1).length cp116_23), (.slice Ap116_24 ((G1.take K)).length cp116_24), .slice A8 n8 cap8, (.slice Ap116_25 (Y1).length cp116_25)])), (28, z4a true (ownR Z2 (p152 3))), (29, z4a true (bytR (G2.take K) (p152 7))), (30, z6b true (z6b true (ownR (([] ++ G2) ++ [c6]) (p152 14)) (ownR ([] ++ G2) (p152 11))) (z4a true (ownR [] (p152 9)))), (31, z4a true (ownR [c6] (p152 13)))] := M152
     simp only [List.take, layV, Nat.zero_add, Nat.reduceAdd, r8] at G152
     obtain ⟨Ap152_28, cp152_28, hp152_28⟩ := (M152.isO (k := 28) rfl).shape
     rw [hp152_28] at M152
     try rw [hp152_28] at G152
     obtain ⟨Ap152_29, cp152_29, hp152_29⟩ := (M152.isb (k := 29) rfl).shape
     rw [hp152_29] at M152
     try rw [hp152_29] at G152
     obtain ⟨Ap152_30, cp152_30, hp152_30⟩ := (M152.isO (k := 30) rfl).shape
     rw [hp152_30] at M152
     try rw [hp152_30] at G152
     obtain ⟨Ap152_31, cp152_31, hp152_31⟩ := (M152.isO (k := 31) rfl).shape
     rw [hp152_31] at M152
     try rw [hp152_31] at G152
     obtain ⟨Y2, hY2⟩ : ∃ z, (([] ++ G2) ++ [c6]) = z := ⟨_, rfl⟩
     have Y2l : Y2.length = 17 := by rw [← hY2]; simp; omega
     have M153 : Mx none w w152 [(0, bytR l2 (.slice A2 n2 cap2)), (1, bytR l3 (.slice A3 n3 cap3)), (2, bytR l4 (.slice A4 n4 cap4)), (3, bytR l8 (.slice A8 n8 cap8)), (4, bytR (sBy a1) (.slice A30 ((sBy a1)).length c30)), (5, blkR g34 22 (#[.slice A30 ((sBy a1)).length c30, .slice A2 n2 cap2, .slice A3 n3 cap3, .slice A4 n4 cap4])), (6, blkR g51 29 (zh k p (p / 2) 4)), (7, blkR g57 33 (recA ⟨1, a1, l3, V1, 0, [], 0, 0, 0⟩ ⟨.slice A3 n3 cap3, zN⟩)), (8, bytR C.lp y64.vp), (9, bytR C.ls y64.vs), (10, blkR g66 37 (zj C y64)), (11, blkR g67 27 (numA A)), (12, bytR S.lp y72.vp), (13, bytR S.ls y72.vs), (14, blkR g74 37 (zj S y72)), (15, blkR g75 27 (numA B)), (16, bytR D.lp y88.vp), (17, bytR D.ls y88.vs), (18, blkR g90 37 (zj D y88)), (19, blkR g91 35 (zg D.Pr)), (20, bytR G1 (.slice A100 (G1).length c100)), (21, blkR g107 35 (zg (ansY S.Ky S.Pr))), (22, bytR G2 (.slice A112 (G2).length c112)), (23, bytR Z1 (.slice Ap116_23 (Z1).length cp116_23)), (24, bytR (G1.take K) (.slice Ap116_24 ((G1.take K)).length cp116_24)), (25, bytR Y1 (.slice Ap116_25 (Y1).length cp116_25)), (26, ownR [c6] (.slice Ap116_26 ([c6]).length cp116_26)), (27, blkR g118 22 (#[(.slice Ap116_23 (Z1).length cp116_23), (.slice Ap116_24 ((G1.take K)).length cp116_24), .slice A8 n8 cap8, (.slice Ap116_25 (Y1).length cp116_25)])), (28, ownR Z2 (.slice Ap152_28 (Z2).length cp152_28)), (29, bytR (G2.take K) (.slice Ap152_29 ((G2.take K)).length cp152_29)), (30, ownR Y2 (.slice Ap152_30 (Y2).length cp152_30)), (31, ownR [c6] (.slice Ap152_31 ([c6]).length cp152_31))] := by rw [← hY2]; exact M152.sub ⟨rfl, rfl, rfl, rfl, rfl, rfl, rfl, rfl, rfl, rfl, rfl, rfl, rfl, rfl, rfl, rfl, rfl, rfl, rfl, rfl, rfl, rfl, rfl, rfl, rfl, rfl, rfl, rfl, rfl, rfl, rfl, rfl, trivial⟩
     have F153 : Fx 189 a152 [(5, .int .i64 a5), (6, .int .u8 ((c6.toNat : Nat) : Int)), (7, .int .i64 a7), (8, .slice A8 n8 cap8), (23, .pointer (some ⟨g74, 0, none⟩)), (26, .pointer (some ⟨g90, 0, none⟩)), (29, .slice A100 (G1).length c100), (32, .slice A112 (G2).length c112), (33, .slice (some ⟨g118, 0, none⟩) 4 4), (34, .int .i64 (jn : Int)), (118, .int .i64 (jn : Int)), (119, .slice (some ⟨g118, 0, none⟩) 4 4), (120, .int .i64 4), (121, .bool false), (155, (.slice Ap152_28 (Z2).length cp152_28)), (159, (.slice Ap152_29 ((G2.take K)).length cp152_29)), (160, .slice A8 n8 cap8), (161, (p152 9)), (163, (p152 11)), (165, (.slice Ap152_31 ([c6]).length cp152_31)), (166, (.slice Ap152_30 (Y2).length cp152_30))] [] := by rw [← hY2]; exact G152.sub ⟨rfl, rfl, rfl, rfl, rfl, rfl, rfl, rfl, rfl, rfl, rfl, rfl, rfl, rfl, rfl, rfl, rfl, rfl, rfl, rfl, rfl, trivial⟩
     clear M152 G152
     refine z3b (zc rfl) rfl F153 rfl M153 32 (t := 22) (c := #[(.slice Ap152_28 (Z2).length cp152_28), (.slice Ap152_29 ((G2.take K)).length cp152_29), .slice A8 n8 cap8, (.slice Ap152_30 (Y2).length cp152_30)]) (k := 4) (m := 4) (y_litG 54 22 (s := 1) (zv := zN) Tryz.underlying54 (by kernel_rfl) (by kernel_rfl) rfl (#[(.slice Ap152_28 (Z2).length cp152_28), (.slice Ap152_29 ((G2.take K)).length cp152_29), .slice A8 n8 cap8, (.slice Ap152_30 (Y2).length cp152_30)]) (by decide) (by decide) (by simp only [List.map_toArray, List.map_cons, List.map_nil, (F153.get (t := 155) rfl), (F153.get (t := 159) rfl), (F153.get (t := 160) rfl), (F153.get (t := 166) rfl)]; kernel_rfl)) ?_
     intro g154 a154 w154 F154 M154
     clear F153 M153
     refine rm rfl F154 fun _ F155 => ?_
     refine hK150 _ _ ?_
     refine zSk fun _ hK156 => ?_
     refine zSk fun _ hK157 => ?_
     refine zR ?_
     refine rm rfl F155 fun _ F158 => ?_
     refine hK157 _ _ ?_
     refine wp_block ?_
     have M159 := M154.tame (k := 28) rfl
     clear M154
     have M160 := M159.tame (k := 30) rfl
     clear M159
     refine loop_fx (α := Nat) (n := 189) (G := none) (w0 := w) (fun x => [(5, .int .i64 a5), (6, .int .u8 ((c6.toNat : Nat) : Int)), (7, .int .i64 a7), (8, .slice A8 n8 cap8), (23, .pointer (some ⟨g74, 0, none⟩)), (26, .pointer (some ⟨g90, 0, none⟩)), (29, .slice A100 (G1).length c100), (32, .slice A112 (G2).length c112), (33, .slice (some ⟨g154, 0, none⟩) 4 4), (37, .int .i64 (x : Int))]) (fun x => [(0, bytR l2 (.slice A2 n2 cap2)), (1, bytR l3 (.slice A3 n3 cap3)), (2, bytR l4 (.slice A4 n4 cap4)), (3, bytR l8 (.slice A8 n8 cap8)), (4, bytR (sBy a1) (.slice A30 ((sBy a1)).length c30)), (5, blkR g34 22 (#[.slice A30 ((sBy a1)).length c30, .slice A2 n2 cap2, .slice A3 n3 cap3, .slice A4 n4 cap4])), (6, blkR g51 29 (zh k p (p / 2) 4)), (7, blkR g57 33 (recA ⟨1, a1, l3, V1, 0, [], 0, 0, 0⟩ ⟨.slice A3 n3 cap3, zN⟩)), (8, bytR C.lp y64.vp), (9, bytR C.ls y64.vs), (10, blkR g66 37 (zj C y64)), (11, blkR g67 27 (numA A)), (12, bytR S.lp y72.vp), (13, bytR S.ls y72.vs), (14, blkR g74 37 (zj S y72)), (15, blkR g75 27 (numA B)), (16, bytR D.lp y88.vp), (17, bytR D.ls y88.vs), (18, blkR g90 37 (zj D y88)), (19, blkR g91 35 (zg D.Pr)), (20, bytR G1 (.slice A100 (G1).length c100)), (21, blkR g107 35 (zg (ansY S.Ky S.Pr))), (22, bytR G2 (.slice A112 (G2).length c112)), (23, bytR Z1 (.slice Ap116_23 (Z1).length cp116_23)), (24, bytR (G1.take K) (.slice Ap116_24 ((G1.take K)).length cp116_24)), (25, bytR Y1 (.slice Ap116_25 (Y1).length cp116_25)), (26, ownR [c6] (.slice Ap116_26 ([c6]).length cp116_26)), (27, blkR g118 22 (#[(.slice Ap116_23 (Z1).length cp116_23), (.slice Ap116_24 ((G1.take K)).length cp116_24), .slice A8 n8 cap8, (.slice Ap116_25 (Y1).length cp116_25)])), (28, bytR Z2 (.slice Ap152_28 (Z2).length cp152_28)), (29, bytR (G2.take K) (.slice Ap152_29 ((G2.take K)).length cp152_29)), (30, bytR Y2 (.slice Ap152_30 (Y2).length cp152_30)), (31, ownR [c6] (.slice Ap152_31 ([c6]).length cp152_31)), (32, blkR g154 22 (#[(.slice Ap152_28 (Z2).length cp152_28), (.slice Ap152_29 ((G2.take K)).length cp152_29), .slice A8 n8 cap8, (.slice Ap152_30 (Y2).length cp152_30)]))]) (fun k x => k = (4 - x) ∧ (x ≤ 4)) _ 0 ⟨rfl, (by decide)⟩ (F158.sub ⟨rfl, rfl, rfl, rfl, rfl, rfl, rfl, rfl, rfl, rfl, trivial⟩) (M160.sub ⟨rfl, rfl, rfl, rfl, rfl, rfl, rfl, rfl, rfl, rfl, rfl, rfl, rfl, rfl, rfl, rfl, rfl, rfl, rfl, rfl, rfl, rfl, rfl, rfl, rfl, rfl, rfl, rfl, rfl, rfl, rfl, rfl, rfl, trivial⟩) ?_
     clear F158 M160
     rintro k161 jm a161 w161 K161 ⟨ek161, I161⟩ F161 M161 hK161
     replace F161 : Fx 189 a161 [(5, .int .i64 a5), (6, .int .u8 ((c6.toNat : Nat) : Int)), (7, .int .i64 a7), (8, .slice A8 n8 cap8), (23, .pointer (some ⟨g74, 0, none⟩)), (26, .pointer (some ⟨g90, 0, none⟩)), (29, .slice A100 (G1).length c100), (32, .slice A112 (G2).length c112), (33, .slice (some ⟨g154, 0, none⟩) 4 4), (37, .int .i64 (jm : Int))] := F161
     replace M161 : Mx _ _ w161 [(0, bytR l2 (.slice A2 n2 cap2)), (1, bytR l3 (.slice A3 n3 cap3)), (2, bytR l4 (.slice A4 n4 cap4)), (3, bytR l8 (.slice A8 n8 cap8)), (4, bytR (sBy a1) (.slice A30 ((sBy a1)).length c30)), (5, blkR g34 22 (#[.slice A30 ((sBy a1)).length c30, .slice A2 n2 cap2, .slice A3 n3 cap3, .slice A4 n4 cap4])), (6, blkR g51 29 (zh k p (p / 2) 4)), (7, blkR g57 33 (recA ⟨1, a1, l3, V1, 0, [], 0, 0, 0⟩ ⟨.slice A3 n3 cap3, zN⟩)), (8, bytR C.lp y64.vp), (9, bytR C.ls y64.vs), (10, blkR g66 37 (zj C y64)), (11, blkR g67 27 (numA A)), (12, bytR S.lp y72.vp), (13, bytR S.ls y72.vs), (14, blkR g74 37 (zj S y72)), (15, blkR g75 27 (numA B)), (16, bytR D.lp y88.vp), (17, bytR D.ls y88.vs), (18, blkR g90 37 (zj D y88)), (19, blkR g91 35 (zg D.Pr)), (20, bytR G1 (.slice A100 (G1).length c100)), (21, blkR g107 35 (zg (ansY S.Ky S.Pr))), (22, bytR G2 (.slice A112 (G2).length c112)), (23, bytR Z1 (.slice Ap116_23 (Z1).length cp116_23)), (24, bytR (G1.take K) (.slice Ap116_24 ((G1.take K)).length cp116_24)), (25, bytR Y1 (.slice Ap116_25 (Y1).length cp116_25)), (26, ownR [c6] (.slice Ap116_26 ([c6]).length cp116_26)), (27, blkR g118 22 (#[(.slice Ap116_23 (Z1).length cp116_23), (.slice Ap116_24 ((G1.take K)).length cp116_24), .slice A8 n8 cap8, (.slice Ap116_25 (Y1).length cp116_25)])), (28, bytR Z2 (.slice Ap152_28 (Z2).length cp152_28)), (29, bytR (G2.take K) (.slice Ap152_29 ((G2.take K)).length cp152_29)), (30, bytR Y2 (.slice Ap152_30 (Y2).length cp152_30)), (31, ownR [c6] (.slice Ap152_31 ([c6]).length cp152_31)), (32, blkR g154 22 (#[(.slice Ap152_28 (Z2).length cp152_28), (.slice Ap152_29 ((G2.take K)).length cp152_29), .slice A8 n8 cap8, (.slice Ap152_30 (Y2).length cp152_30)]))] := M161
     replace I161 : jm ≤ 4 := I161
     replace ek161 : k161 = (4 - jm) := ek161
     have hj5 := I161
     refine zSk fun _ hK162 => ?_
     refine zSk fun _ hK163 => ?_
     refine zR ?_
     refine rm rfl F161 fun _ F164 => ?_
     refine rm rfl F164 fun _ F165 => ?_
     refine zk (w' := w161) (zc rfl) rfl F165 rfl (.int .i64 4) (y_lnG 54 Tryz.underlying54 _ rfl (F165.get (t := 169) rfl) rfl) fun _ F166 => ?_
     clear F165
     by_cases h167 : (jm : Int) < 4
     ·have hlt : jm < 4 := by omega
      obtain ⟨X, Ax, nx, cx, ex, M168⟩ : ∃ (X : List UInt8) (Aq : Option Addr) (mq cq : Nat), (#[(.slice Ap152_28 (Z2).length cp152_28), (.slice Ap152_29 ((G2.take K)).length cp152_29), .slice A8 n8 cap8, (.slice Ap152_30 (Y2).length cp152_30)] : Array Value)[0 + jm * 1]? = some (.slice Aq mq cq) ∧ Mx none w w161 ((900, bytR X (.slice Aq mq cq)) :: [(0, bytR l2 (.slice A2 n2 cap2)), (1, bytR l3 (.slice A3 n3 cap3)), (2, bytR l4 (.slice A4 n4 cap4)), (3, bytR l8 (.slice A8 n8 cap8)), (4, bytR (sBy a1) (.slice A30 ((sBy a1)).length c30)), (5, blkR g34 22 (#[.slice A30 ((sBy a1)).length c30, .slice A2 n2 cap2, .slice A3 n3 cap3, .slice A4 n4 cap4])), (6, blkR g51 29 (zh k p (p / 2) 4)), (7, blkR g57 33 (recA ⟨1, a1, l3, V1, 0, [], 0, 0, 0⟩ ⟨.slice A3 n3 cap3, zN⟩)), (8, bytR C.lp y64.vp), (9, bytR C.ls y64.vs), (10, blkR g66 37 (zj C y64)), (11, blkR g67 27 (numA A)), (12, bytR S.lp y72.vp), (13, bytR S.ls y72.vs), (14, blkR g74 37 (zj S y72)), (15, blkR g75 27 (numA B)), (16, bytR D.lp y88.vp), (17, bytR D.ls y88.vs), (18, blkR g90 37 (zj D y88)), (19, blkR g91 35 (zg D.Pr)), (20, bytR G1 (.slice A100 (G1).length c100)), (21, blkR g107 35 (zg (ansY S.Ky S.Pr))), (22, bytR G2 (.slice A112 (G2).length c112)), (23, bytR Z1 (.slice Ap116_23 (Z1).length cp116_23)), (24, bytR (G1.take K) (.slice Ap116_24 ((G1.take K)).length cp116_24)), (25, bytR Y1 (.slice Ap116_25 (Y1).length cp116_25)), (26, ownR [c6] (.slice Ap116_26 ([c6]).length cp116_26)), (27, blkR g118 22 (#[(.slice Ap116_23 (Z1).length cp116_23), (.slice Ap116_24 ((G1.take K)).length cp116_24), .slice A8 n8 cap8, (.slice Ap116_25 (Y1).length cp116_25)])), (28, bytR Z2 (.slice Ap152_28 (Z2).length cp152_28)), (29, bytR (G2.take K) (.slice Ap152_29 ((G2.take K)).length cp152_29)), (30, bytR Y2 (.slice Ap152_30 (Y2).length cp152_30)), (31, ownR [c6] (.slice Ap152_31 ([c6]).length cp152_31)), (32, blkR g154 22 (#[(.slice Ap152_28 (Z2).length cp152_28), (.slice Ap152_29 ((G2.take K)).length cp152_29), .slice A8 n8 cap8, (.slice Ap152_30 (Y2).length cp152_30)]))]) := by
       match jm, hlt with
       | 0, _ => exact ⟨_, _, _, _, rfl, M161.partB 900 (k := 28) rfl (M161.isb (k := 28) rfl) fun g h => h⟩
       | 1, _ => exact ⟨_, _, _, _, rfl, M161.partB 900 (k := 29) rfl (M161.isb (k := 29) rfl) fun g h => h⟩
       | 2, _ => exact ⟨_, _, _, _, rfl, M161.partB 900 (k := 3) rfl (M161.isb (k := 3) rfl) fun g h => h⟩
       | 3, _ => exact ⟨_, _, _, _, rfl, M161.partB 900 (k := 30) rfl (M161.isb (k := 30) rfl) fun g h => h⟩
       | n + 4, h => exact absurd h (by omega)
      clear M161
      obtain ⟨qx, hqx⟩ : ∃ x, decide (G2 = X) = x := ⟨_, rfl⟩
      refine zk (w' := w161) (zc rfl) rfl F166 rfl (.bool true) (y_lss _ _ _ _ rfl (F166.get (t := 168) rfl) (F166.get (t := 170) rfl) (decide_eq_true h167)) fun _ F169 => ?_
      clear F166
      refine hK163 _ _ ?_
      refine wp_cond_true (F169.get (t := 171) rfl) ?_
      refine wp_skip ?_
      refine hK162 _ _ ?_
      refine zSk fun _ hK170 => ?_
      refine wp_block ?_
      refine zSk fun _ hK171 => ?_
      have hD172 := (zz (M168.blk (k := 18) rfl) dnil)
      refine zoa F169 (SK [.inl (.agg (zj D y88)), .inl (.slice (some ⟨g154, 0, none⟩) 4 4), .inl (.int .i64 (jm : Int)), .inl (.pointer (some ⟨g154, (0 + jm * 1), none⟩)), .inl (.slice Ax nx cx), .inl (.bool qx), .inl (.slice (some ⟨g154, 0, none⟩) 4 4), .inl (.int .i64 (jm : Int)), .inl (.pointer (some ⟨g154, (0 + jm * 1), none⟩)), .inl (.slice Ax nx cx), .inl (.string (⟨(X).toArray⟩)), .inl (.slice A112 (G2).length c112), .inl (.string (⟨(G2).toArray⟩)), .inl (.bool qx), .inl (.bool false)]) 15 rfl (by kernel_rfl) ⟨hopP F169 hD172 0 (some g90) (by kernel_rfl), hop0 F169 (by kernel_rfl), hop0 F169 (by kernel_rfl), hopR F169 [(175, .slice (some ⟨g154, 0, none⟩) 4 4), (176, .int .i64 (jm : Int))] fun ua uw hb ⟨e175, e176, _⟩ => (y_ixG 54 (s := 1) Tryz.underlying54 (by kernel_rfl) _ _ rfl e175 e176 rfl hlt rfl), hopR F169 [(177, .pointer (some ⟨g154, (0 + jm * 1), none⟩))] fun ua uw hb ⟨e177, _⟩ => (z3a _ _ rfl e177 ((M168.step hb).blk (k := 32) rfl) ex Tryz.underlying22 rfl), hopC F169 [(174, .agg (zj D y88)), (178, .slice Ax nx cx)] rfl (zE Tryz.func19 rfl) fun uw hb => (done_any D _ hDo X _ qx (by rw [hDG]; exact hqx) uw ⟨((M168.step hb).isb (k := 16) rfl), ((M168.step hb).isb (k := 17) rfl)⟩ ((M168.step hb).isb (k := 900) rfl)), hop0 F169 (by kernel_rfl), hop0 F169 (by kernel_rfl), hopR F169 [(180, .slice (some ⟨g154, 0, none⟩) 4 4), (181, .int .i64 (jm : Int))] fun ua uw hb ⟨e180, e181, _⟩ => (y_ixG 54 (s := 1) Tryz.underlying54 (by kernel_rfl) _ _ rfl e180 e181 rfl hlt rfl), hopR F169 [(182, .pointer (some ⟨g154, (0 + jm * 1), none⟩))] fun ua uw hb ⟨e182, _⟩ => (z3a _ _ rfl e182 ((M168.step hb).blk (k := 32) rfl) ex Tryz.underlying22 rfl), hopR F169 [(183, .slice Ax nx cx)] (v := .string (⟨(X).toArray⟩)) fun ua uw hb ⟨e183, _⟩ => (y_str _ rfl e183 ((M168.step hb).isb (k := 900) rfl)), hop0 F169 (by kernel_rfl), hopR F169 [(185, .slice A112 (G2).length c112)] (v := .string (⟨(G2).toArray⟩)) fun ua uw hb ⟨e185, _⟩ => (y_str _ rfl e185 ((M168.step hb).isb (k := 22) rfl)), hopR F169 [(184, .string (⟨(X).toArray⟩)), (186, .string (⟨(G2).toArray⟩))] (v := .bool qx) fun ua uw hb ⟨e184, e186, _⟩ => (y_eqS _ _ _ rfl e184 e186 (strB7 hqx)), hopR F169 [(179, .bool qx), (187, .bool qx)] (v := .bool false) fun ua uw hb ⟨e179, e187, _⟩ => (y_neB _ _ rfl e179 e187 (by cases qx <;> rfl)), trivial⟩ ?_
      intro p173 a173 w173 b173 G173 y173
      obtain ⟨-, -, -, -, -, -, -, -, -, -, -, -, -, -, q14, -⟩ := y173
      have r14 : p173 14 = .bool false := q14 (by decide)
      simp only [List.take, layV, Nat.zero_add, Nat.reduceAdd, r14] at G173
      have M173 := M168.kc b173
      clear F169 M168 r14 q14
      refine hK171 _ _ ?_
      refine wp_cond_false (G173.get (t := 188) rfl) ?_
      refine wp_skip ?_
      refine hK170 _ _ ?_
      refine zR ?_
      refine rm rfl G173 fun _ F174 => ?_
      refine zk (w' := w173) (zc rfl) rfl F174 rfl (.int .i64 ((jm + 1 : Nat) : Int)) (y_addI _ _ _ _ rfl (F174.get (t := 172) rfl) rfl (by omega) (by omega)) fun _ F175 => ?_
      clear F174
      refine rm rfl F175 fun _ F176 => ?_
      subst ek161
      exact hK161 _ (jm + 1) _ _ (by omega) ⟨rfl, (by omega)⟩ (F176.sub ⟨rfl, rfl, rfl, rfl, rfl, rfl, rfl, rfl, rfl, rfl, trivial⟩) (M173.sub ⟨rfl, rfl, rfl, rfl, rfl, rfl, rfl, rfl, rfl, rfl, rfl, rfl, rfl, rfl, rfl, rfl, rfl, rfl, rfl, rfl, rfl, rfl, rfl, rfl, rfl, rfl, rfl, rfl, rfl, rfl, rfl, rfl, rfl, trivial⟩)
     ·refine zk (w' := w161) (zc rfl) rfl F166 rfl (.bool false) (y_lss _ _ _ _ rfl (F166.get (t := 168) rfl) (F166.get (t := 170) rfl) (decide_eq_false h167)) fun _ F177 => ?_
      clear F166
      refine hK163 _ _ ?_
      refine wp_cond_false (F177.get (t := 171) rfl) ?_
      refine wp_exit ?_
      simp only [Exit.then, Exit.inBlock, ↓reduceIte, Nat.reduceEqDiff]
      refine hK156 _ _ ?_
      refine zSk fun _ hK178 => ?_
      refine zR ?_
      refine rm rfl F177 fun _ F179 => ?_
      refine hK178 _ _ ?_
      refine wp_ret ?_
      try simp only [Exit.then, Exit.inBlock, Exit.jump]
      exact bodyPost_ret (res1 rfl (F179.get rfl)) F179.defers ⟨rfl, M161.below⟩
end Go.Proofs.YtcfepoopkfhojaaGreat
