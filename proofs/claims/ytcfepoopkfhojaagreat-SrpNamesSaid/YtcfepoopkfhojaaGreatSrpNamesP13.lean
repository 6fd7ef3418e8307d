/- What SrpNames stands on, part 13. -/
import Derived.Test.YtcfepoopkfhojaaGreatSrpNamesP1
import Derived.Test.YtcfepoopkfhojaaGreatSrpNamesP2
import Derived.Test.YtcfepoopkfhojaaGreatSrpNamesP3
import Derived.Test.YtcfepoopkfhojaaGreatSrpNamesP4
import Derived.Test.YtcfepoopkfhojaaGreatSrpNamesP5
import Derived.Test.YtcfepoopkfhojaaGreatSrpNamesP6
import Derived.Test.YtcfepoopkfhojaaGreatSrpNamesP7
import Derived.Test.YtcfepoopkfhojaaGreatSrpNamesP8
import Derived.Test.YtcfepoopkfhojaaGreatSrpNamesP9
import Derived.Test.YtcfepoopkfhojaaGreatSrpNamesP10
import Derived.Test.YtcfepoopkfhojaaGreatSrpNamesP11
import Derived.Test.YtcfepoopkfhojaaGreatSrpNamesP12
set_option maxRecDepth 100000
set_option maxHeartbeats 8000000
set_option linter.unusedVariables false
set_option linter.unusedSimpArgs false
namespace Go.Proofs.YtcfepoopkfhojaaGreat
open Go.ChangeShapes Go.WideShapes Go.ChangeAt Go.RowKit
theorem side_two {G : Option Nat} {w0 w w' : World} {R : List (Nat × Res)} (M : Mx G w0 w R) (hb : Below w.heap.size w w') (i j : Nat) {x : SideN} {y : SideV} (h : SideIs w' x y) (h1 : ∀ b, bfp y.vp b → w.heap.size ≤ b) (h2 : ∀ b, bfp y.vs b → w.heap.size ≤ b) (hij : i ≠ j) : Mx G w0 w' ((j, bytR x.ls y.vs) :: (i, bytR x.lp y.vp) :: R) ∧ True :=
 ⟨(M.fresh hb i _ h.hp bytR_dep (fun g hg => ⟨h1 g hg, h.hp.lt hg⟩)).cons j _ h.hs bytR_dep (fun g hg => h.hs.lt hg) (fun e => by cases e) fun k s e hk hw g hg hs => by
  rcases hw with hw | hw
  ·cases hw
  rw [zza] at e
  split at e
  ·cases e; cases hw
  ·have := M.lt k s e g hs
   have := h2 g hg
   omega, trivial⟩
section
theorem kc_v (w : World) (vp vs : Value) (hp : IsB w [112] vp) (hs : IsB w [115] vs) : Calls Tryz.prog 12 #[.agg (zg 15 32603 16301 4), .string ({ data := #[117] }), vp, vs] w fun e w' => e = .returned (numV kV) ∧ Below w.heap.size w w' :=
 verifier_any 15 32603 16301 4 (by decide) (by decide) (by decide) (by decide) (by decide) (by decide) { data := #[117] } (by decide) [112] [115] vp vs w hp hs
theorem kc_h (w : World) (vp vd : Value) (hp : IsB w [112] vp) (hd : IsB w [49] vd) : Calls Tryz.prog 13 #[.agg (zg 15 32603 16301 4), .string ({ data := #[117] }), vp, vd] w fun e w' => ∃ v, e = .returned v ∧ ∃ y : SideV, v = .tuple #[.agg (zl kC y), numV kAA] ∧ SideIs w' kC y ∧ (∀ b, bfp y.vp b → w.heap.size ≤ b) ∧ (∀ b, bfp y.vs b → w.heap.size ≤ b) ∧ Below w.heap.size w w' :=
 (hello_any 15 32603 16301 4 (by decide) (by decide) (by decide) (by decide) (by decide) (by decide) { data := #[117] } [112] [49] vp vd (by decide) w hp hd).mono fun e w' ⟨vc, h1, h2, h3, h4⟩ => ⟨_, h1, ⟨vc, zN⟩, rfl, h2, h3, fun b hb => absurd hb (zjc b), h4⟩
theorem kc_o (w : World) (v vd : Value) (hv : IsB w [115] v) (hd : IsB w [50] vd) : Calls Tryz.prog 14 #[.agg (zg 15 32603 16301 4), .agg (recA ⟨1, { data := #[117] }, [115], kV, 0, [], 0, 0, 0⟩ ⟨v, zN⟩), numV kAA, vd] w fun e w' => ∃ v, e = .returned v ∧ ∃ y : SideV, v = .tuple #[.agg (zl kS y), numV (offB 32603 16301 4 kV kB), .bool true] ∧ SideIs w' kS y ∧ (∀ b, bfp y.vp b → w.heap.size ≤ b) ∧ (∀ b, bfp y.vs b → w.heap.size ≤ b) ∧ Below w.heap.size w w' := by
 have h := offer_any 15 32603 16301 4 (by decide) (by decide) (by decide) (by decide) (by decide) (by decide) (by decide) ⟨1, { data := #[117] }, [115], kV, 0, [], 0, 0, 0⟩ ⟨v, zN⟩ (Nat.lt_trans (Nat.mod_lt _ (by decide)) (by decide)) (by decide) (by decide) kAA (Nat.lt_trans (Nat.mod_lt _ (by decide)) (by decide)) [50] vd w ⟨hv, zva _⟩ hd
 rw [show texN 16301 [98] [[50]] = kB from rfl] at h
 simp only [kn_off, cond_true] at h
 exact h.mono fun e w' ⟨vc, h1, h2, h3, h4⟩ => ⟨_, h1, ⟨zN, vc⟩, rfl, h2, fun b hb => absurd hb (zjc b), h3, h4⟩
theorem kA_lt : kA < 4294967296 := Nat.lt_trans (expN_bd (by decide) _).2 (by decide)
theorem kc_p (w : World) (y : SideV) (vl : Value) (hx : SideIs w kC y) (hl : IsB w [115] vl) : Calls Tryz.prog 16 #[.agg (zl kC y), vl, numV (offB 32603 16301 4 kV kB)] w fun e w' => ∃ v, e = .returned v ∧ ∃ y : SideV, v = .tuple #[.agg (zl kD y), .agg (zk kD.Pr), .bool true] ∧ SideIs w' kD y ∧ (∀ b, bfp y.vp b → w.heap.size ≤ b) ∧ (∀ b, bfp y.vs b → w.heap.size ≤ b) ∧ Below w.heap.size w w' := by
 have h := prove_any kC y (show 32603 % 2 = 1 by decide) (show 1 < 32603 by decide) (show 32603 < 4294967296 by decide) (show 2 < 16301 by decide) (show 16301 ≤ 4294967296 by decide) kA_lt (show 4 < 4294967296 ^ 8 by decide) (show 1 ≤ 1000 by decide) (show 1 ≤ 100000 by decide) [115] (by decide) vl (offB 32603 16301 4 kV kB) (Nat.lt_trans (Nat.mod_lt _ (by decide)) (by decide)) w hx hl
 simp only [kn_prv, cond_true] at h
 exact h.mono fun e w' ⟨y', h1, h2⟩ => ⟨_, h1, y', rfl, h2⟩
theorem kc_c (w : World) (y : SideV) (v : Value) (hx : SideIs w kS y) (hv : IsB w (sumY kD.Pr) v) : Calls Tryz.prog 17 #[.agg (zl kS y), v] w fun e w' => e = .returned (.tuple #[.agg (zk (ansY kS.Ky kS.Pr)), .bool true]) ∧ Below w.heap.size w w' :=
 check_any kS y kn_ok.1 (sumY kD.Pr) v true (decide_eq_true (by rw [kn_Pr])) w hx hv
theorem kc_d (w : World) (y : SideV) (v : Value) (hx : SideIs w kD y) (hv : IsB w (sumY (ansY kS.Ky kS.Pr)) v) : Calls Tryz.prog 19 #[.agg (zl kD y), v] w fun e w' => e = .returned (.bool true) ∧ Below w.heap.size w w' :=
 done_any kD y kn_ok.2 _ v true (decide_eq_true (by rw [kn_Ky, kn_Pr])) w hx hv
theorem kc_b (y : Nat → Int) (hy : ∀ k, 0 ≤ y k ∧ y k < 256) (w : World) : Calls Tryz.prog 18 #[.agg (zk y)] w fun e w' => ∃ v, e = .returned v ∧ Below w.heap.size w w' ∧ IsB w' (sumY y) v :=
 (srbytes_any y hy w).mono fun e w' ⟨v, h1, h2, h3⟩ => ⟨v, h1, h3, h2.isb⟩
theorem kc_z (w : World) : Calls Tryz.prog 19 #[.agg (zl ⟨0, 0, 0, 0, "".toUTF8, [], 0, 0, 0, [], 0, fun _ => 0, fun _ => 0⟩ ⟨zN, zN⟩), zN] w fun e w' => e = .returned (.bool false) ∧ Below w.heap.size w w' :=
 done_any _ _ ⟨fun _ => ⟨Int.le_refl _, (show (0 : Int) < 256 by decide)⟩, fun _ => ⟨Int.le_refl _, (show (0 : Int) < 256 by decide)⟩⟩ [] _ false (decide_eq_false fun h => absurd (congrArg List.length h) (by rw [zyb]; decide)) w ⟨zva _, zva _⟩ (zva _)
end
theorem sknown_any  (w : World) :
  Calls Tryz.prog 9 #[] w fun e w' => e = .returned (.bool true) ∧ Below w.heap.size w w' := by
 have kG := group_3
 refine zra (args := []) 83 Tryz.func9 rfl rfl rfl ?_
 intro fa F
 have M := Mx.start w
 refine zSk fun _ hK1 => ?_
 refine zR ?_
 refine rm rfl F fun _ F2 => ?_
 refine hK1 _ _ ?_
 refine zSk fun _ hK3 => ?_
 refine zR ?_
 refine zea (zc rfl) rfl F2 rfl rfl (zE Tryz.func11 rfl) #[.int .i64 3] (z2a rfl) (zha (kG w)) ?_
 rintro _ w4 a4 ⟨rfl, b4⟩ F4
 have M4 := M.step b4
 refine zo (zc rfl) rfl F4 rfl M4 0 (t := 29) (c := zg 0 0 0 0) (by unfold execOp; rw [z1b]; kernel_rfl) ?_
 intro g5 a5 w5 F5 M5
 clear F4 M4
 refine zka (zc rfl) rfl F5 M5 (k := 0) rfl _ _ _ rfl (F5.get (t := 1) rfl) (F5.get (t := 13) rfl) (zg 15 32603 16301 4) _ rfl (zL rfl) (z8b _ _ _ _) (zx rfl) (by kernel_rfl) ?_
 intro w6 M6
 clear M5
 refine hK3 _ _ ?_
 refine zSk fun _ hK7 => ?_
 refine zR ?_
 refine z6a (zc rfl) rfl F5 rfl (run_litO M6 1 [115] 1 rfl (by decide) (by decide) rfl (by simp only [List.map_toArray, List.map_cons, List.map_nil]; kernel_rfl)) ?_
 intro v8 a8 w8 F8 M8
 clear F5 M6
 obtain ⟨A8, c8, rfl⟩ := (M8.isO (k := 1) rfl).shape
 refine z6a (zc rfl) rfl F8 rfl (run_cvL M8 (k := 1) rfl (by decide) _ rfl (F8.get (t := 14) rfl)) ?_
 intro v9 a9 w9 F9 M9
 clear F8 M8
 obtain ⟨A9, c9, rfl⟩ := (M9.isb (k := 1) rfl).shape
 refine zh (w' := w9) (zc rfl) rfl F9 rfl _ (zga _ _ rfl (F9.get (t := 1) rfl) (M9.blk (k := 0) rfl) (zg 15 32603 16301 4) (zta rfl) Tryz.underlying29 rfl (by kernel_rfl)) fun _ F10 => ?_
 clear F9
 refine z6a (zc rfl) rfl F10 rfl (run_litO M9 2 [112] 1 rfl (by decide) (by decide) rfl (by simp only [List.map_toArray, List.map_cons, List.map_nil]; kernel_rfl)) ?_
 intro v11 a11 w11 F11 M11
 clear F10 M9
 obtain ⟨A11, c11, rfl⟩ := (M11.isO (k := 2) rfl).shape
 refine z6a (zc rfl) rfl F11 rfl (run_cvL M11 (k := 2) rfl (by decide) _ rfl (F11.get (t := 17) rfl)) ?_
 intro v12 a12 w12 F12 M12
 clear F11 M11
 obtain ⟨A12, c12, rfl⟩ := (M12.isb (k := 2) rfl).shape
 refine z6a (zc rfl) rfl F12 rfl (run_litO M12 3 [115] 1 rfl (by decide) (by decide) rfl (by simp only [List.map_toArray, List.map_cons, List.map_nil]; kernel_rfl)) ?_
 intro v13 a13 w13 F13 M13
 clear F12 M12
 obtain ⟨A13, c13, rfl⟩ := (M13.isO (k := 3) rfl).shape
 refine z6a (zc rfl) rfl F13 rfl (run_cvL M13 (k := 3) rfl (by decide) _ rfl (F13.get (t := 19) rfl)) ?_
 intro v14 a14 w14 F14 M14
 clear F13 M13
 obtain ⟨A14, c14, rfl⟩ := (M14.isb (k := 3) rfl).shape
 refine zea (zc rfl) rfl F14 rfl rfl (zE Tryz.func12 rfl) #[.agg (zg 15 32603 16301 4), .string ({ data := #[117] }), .slice A12 ([112]).length c12, .slice A14 ([115]).length c14] (args4 (F14.get (t := 16) rfl) rfl (F14.get (t := 18) rfl) (F14.get (t := 20) rfl)) (zha ((kc_v w14 _ _ (M14.isb (k := 2) rfl) (M14.isb (k := 3) rfl)))) ?_
 rintro _ w15 a15 ⟨rfl, b15⟩ F15
 have M15 := M14.step b15
 refine zh (w' := w15) (zc rfl) rfl F15 rfl (.agg (recA ⟨1, ({ data := #[117] }), [115], kV, 0, [], 0, 0, 0⟩ ⟨.slice A9 ([115]).length c9, zN⟩)) (by unfold execOp; simp only [List.map_toArray, List.map_cons, List.map_nil, (F15.get (t := 15) rfl), (F15.get (t := 21) rfl)]; kernel_rfl) fun _ F16 => ?_
 clear F15
 refine zo (zc rfl) rfl F16 rfl M15 4 (t := 33) (c := recA ⟨0, "".toUTF8, [], 0, 0, [], 0, 0, 0⟩ ⟨zN, zN⟩) (by unfold execOp; kernel_rfl) ?_
 intro g17 a17 w17 F17 M17
 clear F16 M15
 refine zka (zc rfl) rfl F17 M17 (k := 4) rfl _ _ _ rfl (F17.get (t := 2) rfl) (F17.get (t := 22) rfl) (recA ⟨1, ({ data := #[117] }), [115], kV, 0, [], 0, 0, 0⟩ ⟨.slice A9 ([115]).length c9, zN⟩) _ rfl (zL rfl) (recA_one (w := w17) ⟨(M17.isb (k := 1) rfl), zva _⟩) (zx rfl) (by kernel_rfl) ?_
 intro w18 M18
 clear M17
 refine hK7 _ _ ?_
 refine zSk fun _ hK19 => ?_
 refine zR ?_
 refine zh (w' := w18) (zc rfl) rfl F17 rfl _ (zga _ _ rfl (F17.get (t := 1) rfl) (M18.blk (k := 0) rfl) (zg 15 32603 16301 4) (zta rfl) Tryz.underlying29 rfl (by kernel_rfl)) fun _ F20 => ?_
 clear F17
 refine z6a (zc rfl) rfl F20 rfl (run_litO M18 5 [112] 1 rfl (by decide) (by decide) rfl (by simp only [List.map_toArray, List.map_cons, List.map_nil]; kernel_rfl)) ?_
 intro v21 a21 w21 F21 M21
 clear F20 M18
 obtain ⟨A21, c21, rfl⟩ := (M21.isO (k := 5) rfl).shape
 refine z6a (zc rfl) rfl F21 rfl (run_cvL M21 (k := 5) rfl (by decide) _ rfl (F21.get (t := 25) rfl)) ?_
 intro v22 a22 w22 F22 M22
 clear F21 M21
 obtain ⟨A22, c22, rfl⟩ := (M22.isb (k := 5) rfl).shape
 refine z6a (zc rfl) rfl F22 rfl (run_litO M22 6 [49] 1 rfl (by decide) (by decide) rfl (by simp only [List.map_toArray, List.map_cons, List.map_nil]; kernel_rfl)) ?_
 intro v23 a23 w23 F23 M23
 clear F22 M22
 obtain ⟨A23, c23, rfl⟩ := (M23.isO (k := 6) rfl).shape
 refine z6a (zc rfl) rfl F23 rfl (run_cvL M23 (k := 6) rfl (by decide) _ rfl (F23.get (t := 27) rfl)) ?_
 intro v24 a24 w24 F24 M24
 clear F23 M23
 obtain ⟨A24, c24, rfl⟩ := (M24.isb (k := 6) rfl).shape
 refine zea (zc rfl) rfl F24 rfl rfl (zE Tryz.func13 rfl) #[.agg (zg 15 32603 16301 4), .string ({ data := #[117] }), .slice A22 ([112]).length c22, .slice A24 ([49]).length c24] (args4 (F24.get (t := 24) rfl) rfl (F24.get (t := 26) rfl) (F24.get (t := 28) rfl)) (kc_h w24 _ _ (M24.isb (k := 5) rfl) (M24.isb (k := 6) rfl)) ?_
 rintro _ w25 a25 ⟨y25, rfl, his25, hlo25, hls25, b25⟩ F25
 obtain ⟨M25, -⟩ := side_two M24 b25 7 8 his25 hlo25 hls25 (by decide)
 clear M24 hlo25 hls25 his25 b25
 refine zB 3 [(0, .bool false), (1, .pointer (some ⟨g5, 0, none⟩)), (2, .pointer (some ⟨g17, 0, none⟩)), (30, .agg (zl kC y25)), (31, numV kAA)] [] dnil [] F25 fun _ F26 => ?_
 clear F25
 refine zo (zc rfl) rfl F26 rfl M25 9 (t := 37) (c := zl ⟨0, 0, 0, 0, "".toUTF8, [], 0, 0, 0, [], 0, (fun _ => 0), (fun _ => 0)⟩ ⟨zN, zN⟩) (by unfold execOp; kernel_rfl) ?_
 intro g27 a27 w27 F27 M27
 clear F26 M25
 refine zo (zc rfl) rfl F27 rfl M27 10 (t := 27) (c := numA 0) (zba rfl) ?_
 intro g28 a28 w28 F28 M28
 clear F27 M27
 refine zka (zc rfl) rfl F28 M28 (k := 9) rfl _ _ _ rfl (F28.get (t := 3) rfl) (F28.get (t := 30) rfl) (zl kC y25) _ rfl (zL rfl) (zpb (w := w28) ⟨(M28.isb (k := 7) rfl), (M28.isb (k := 8) rfl)⟩) (zx rfl) (by kernel_rfl) ?_
 intro w29 M29
 clear M28
 refine zka (zc rfl) rfl F28 M29 (k := 10) rfl _ _ _ rfl (F28.get (t := 4) rfl) (F28.get (t := 31) rfl) (numA kAA) _ rfl (zL rfl) (zoa _) (zx rfl) ze ?_
 intro w30 M30
 clear M29
 refine hK19 _ _ ?_
 refine zSk fun _ hK31 => ?_
 refine zR ?_
 refine zh (w' := w30) (zc rfl) rfl F28 rfl _ (zga _ _ rfl (F28.get (t := 1) rfl) (M30.blk (k := 0) rfl) (zg 15 32603 16301 4) (zta rfl) Tryz.underlying29 rfl (by kernel_rfl)) fun _ F32 => ?_
 clear F28
 refine zh (w' := w30) (zc rfl) rfl F32 rfl _ (zga _ _ rfl (F32.get (t := 2) rfl) (M30.blk (k := 4) rfl) (recA ⟨1, ({ data := #[117] }), [115], kV, 0, [], 0, 0, 0⟩ ⟨.slice A9 ([115]).length c9, zN⟩) (zta rfl) Tryz.underlying33 rfl (by kernel_rfl)) fun _ F33 => ?_
 clear F32
 refine zh (w' := w30) (zc rfl) rfl F33 rfl (numV kAA) (zga _ _ rfl (F33.get (t := 4) rfl) (M30.blk (k := 10) rfl) (numA kAA) (zta rfl) Tryz.underlying27 rfl ze) fun _ F34 => ?_
 clear F33
 refine z6a (zc rfl) rfl F34 rfl (run_litO M30 11 [50] 1 rfl (by decide) (by decide) rfl (by simp only [List.map_toArray, List.map_cons, List.map_nil]; kernel_rfl)) ?_
 intro v35 a35 w35 F35 M35
 clear F34 M30
 obtain ⟨A35, c35, rfl⟩ := (M35.isO (k := 11) rfl).shape
 refine z6a (zc rfl) rfl F35 rfl (run_cvL M35 (k := 11) rfl (by decide) _ rfl (F35.get (t := 36) rfl)) ?_
 intro v36 a36 w36 F36 M36
 clear F35 M35
 obtain ⟨A36, c36, rfl⟩ := (M36.isb (k := 11) rfl).shape
 refine zea (zc rfl) rfl F36 rfl rfl (zE Tryz.func14 rfl) #[.agg (zg 15 32603 16301 4), .agg (recA ⟨1, ({ data := #[117] }), [115], kV, 0, [], 0, 0, 0⟩ ⟨.slice A9 ([115]).length c9, zN⟩), numV kAA, .slice A36 ([50]).length c36] (args4 (F36.get (t := 33) rfl) (F36.get (t := 34) rfl) (F36.get (t := 35) rfl) (F36.get (t := 37) rfl)) (kc_o w36 _ _ (M36.isb (k := 1) rfl) (M36.isb (k := 11) rfl)) ?_
 rintro _ w37 a37 ⟨y37, rfl, his37, hlo37, hls37, b37⟩ F37
 obtain ⟨M37, -⟩ := side_two M36 b37 12 13 his37 hlo37 hls37 (by decide)
 clear M36 hlo37 hls37 his37 b37
 refine zB 4 [(0, .bool false), (2, .pointer (some ⟨g17, 0, none⟩)), (3, .pointer (some ⟨g27, 0, none⟩)), (39, .agg (zl kS y37)), (40, numV (offB 32603 16301 4 kV kB)), (41, .bool true)] [] dnil [] F37 fun _ F38 => ?_
 clear F37
 refine zo (zc rfl) rfl F38 rfl M37 14 (t := 37) (c := zl ⟨0, 0, 0, 0, "".toUTF8, [], 0, 0, 0, [], 0, (fun _ => 0), (fun _ => 0)⟩ ⟨zN, zN⟩) (by unfold execOp; kernel_rfl) ?_
 intro g39 a39 w39 F39 M39
 clear F38 M37
 refine zo (zc rfl) rfl F39 rfl M39 15 (t := 27) (c := numA 0) (zba rfl) ?_
 intro g40 a40 w40 F40 M40
 clear F39 M39
 refine zka (zc rfl) rfl F40 M40 (k := 14) rfl _ _ _ rfl (F40.get (t := 5) rfl) (F40.get (t := 39) rfl) (zl kS y37) _ rfl (zL rfl) (zpb (w := w40) ⟨(M40.isb (k := 12) rfl), (M40.isb (k := 13) rfl)⟩) (zx rfl) (by kernel_rfl) ?_
 intro w41 M41
 clear M40
 refine zka (zc rfl) rfl F40 M41 (k := 15) rfl _ _ _ rfl (F40.get (t := 6) rfl) (F40.get (t := 40) rfl) (numA (offB 32603 16301 4 kV kB)) _ rfl (zL rfl) (zoa _) (zx rfl) ze ?_
 intro w42 M42
 clear M41
 refine rm rfl F40 fun _ F43 => ?_
 refine hK31 _ _ ?_
 refine zSk fun _ hK44 => ?_
 refine zR ?_
 refine zB 4 [(0, .bool false), (5, .pointer (some ⟨g39, 0, none⟩)), (7, .bool true), (43, .agg (zl kC y25)), (45, .slice A9 ([115]).length c9), (46, numV (offB 32603 16301 4 kV kB))] [0, 1, 2] (z7a (M42.blk (k := 9) rfl) (z7a (M42.blk (k := 4) rfl) (z7a (M42.blk (k := 15) rfl) dnil))) [g27, g17, g40] F43 fun _ F45 => ?_
 clear F43
 refine zea (zc rfl) rfl F45 rfl rfl (zE Tryz.func16 rfl) #[.agg (zl kC y25), .slice A9 ([115]).length c9, numV (offB 32603 16301 4 kV kB)] (args3 (F45.get (t := 43) rfl) (F45.get (t := 45) rfl) (F45.get (t := 46) rfl)) (kc_p w42 _ _ ⟨(M42.isb (k := 7) rfl), (M42.isb (k := 8) rfl)⟩ (M42.isb (k := 1) rfl)) ?_
 rintro _ w46 a46 ⟨y46, rfl, his46, hlo46, hls46, b46⟩ F46
 obtain ⟨M46, -⟩ := side_two M42 b46 16 17 his46 hlo46 hls46 (by decide)
 clear M42 hlo46 hls46 his46 b46
 refine zB 4 [(0, .bool false), (5, .pointer (some ⟨g39, 0, none⟩)), (7, .bool true), (48, .agg (zl kD y46)), (49, .agg (zk kD.Pr)), (50, .bool true)] [] dnil [] F46 fun _ F47 => ?_
 clear F46
 refine zo (zc rfl) rfl F47 rfl M46 18 (t := 37) (c := zl ⟨0, 0, 0, 0, "".toUTF8, [], 0, 0, 0, [], 0, (fun _ => 0), (fun _ => 0)⟩ ⟨zN, zN⟩) (by unfold execOp; kernel_rfl) ?_
 intro g48 a48 w48 F48 M48
 clear F47 M46
 refine zo (zc rfl) rfl F48 rfl M48 19 (t := 35) (c := zk (fun _ => 0)) (by unfold execOp; kernel_rfl) ?_
 intro g49 a49 w49 F49 M49
 clear F48 M48
 refine zka (zc rfl) rfl F49 M49 (k := 18) rfl _ _ _ rfl (F49.get (t := 8) rfl) (F49.get (t := 48) rfl) (zl kD y46) _ rfl (zL rfl) (zpb (w := w49) ⟨(M49.isb (k := 16) rfl), (M49.isb (k := 17) rfl)⟩) (zx rfl) (by kernel_rfl) ?_
 intro w50 M50
 clear M49
 refine zka (zc rfl) rfl F49 M50 (k := 19) rfl _ _ _ rfl (F49.get (t := 9) rfl) (F49.get (t := 49) rfl) (zk kD.Pr) _ rfl (zL rfl) (zla _) (zx rfl) (by kernel_rfl) ?_
 intro w51 M51
 clear M50
 refine rm rfl F49 fun _ F52 => ?_
 refine hK44 _ _ ?_
 refine zSk fun _ hK53 => ?_
 have hD54 := (z7a (M51.blk (k := 14) rfl) (z7a (M51.blk (k := 19) rfl) dnil))
 refine region_fxL F52 (SK [.inl (.agg (zl kS y37)), .inl (.agg (zk kD.Pr)), .inr (StK.bytes (sumY kD.Pr)), .inl (.tuple #[.agg (zk (ansY kS.Ky kS.Pr)), .bool true]), .inl (.tuple #[.agg (zk (ansY kS.Ky kS.Pr)), .bool true]), .inl (.agg (zk (ansY kS.Ky kS.Pr))), .inl (.bool true), .inr (StK.new w51.heap.size (zk (fun _ => 0)) 35 (by decide))]) 8 6 51 1 4 #[.agg (zk (ansY kS.Ky kS.Pr)), .bool true] (.bool true) rfl (by kernel_rfl) rfl (by kernel_rfl) (fun _ _ h => h) rfl (fun _ _ => Iff.rfl) rfl ⟨hopP F52 hD54 0 (some g39) (by kernel_rfl), hopP F52 hD54 1 (some g49) (by kernel_rfl), ?_, ?_, hop0 F52 (by kernel_rfl), hop0 F52 (by kernel_rfl), hop0 F52 (by kernel_rfl), ?_, trivial⟩ ?_
 ·intro ua uw hb hd
  have e53 : ua.eval (.tmp 53) = .agg (zk kD.Pr) := hd 53 (by decide)
  exact zda (F := (StK.bytes (sumY kD.Pr)).F) (zc rfl) hb.size rfl #[.agg (zk kD.Pr)] (z2a e53) (zE Tryz.func18 rfl) ((kc_b kD.Pr kn_ok.2.pr uw))
 ·intro ua uw hb hd
  have e52 : ua.eval (.tmp 52) = .agg (zl kS y37) := hd 52 (by decide)
  have e54 : IsB uw (sumY kD.Pr) (ua.eval (.tmp 54)) := hd 54 (by decide)
  exact zda (F := (StK.eq (.tuple #[.agg (zk (ansY kS.Ky kS.Pr)), .bool true])).F) (zc rfl) hb.size rfl #[.agg (zl kS y37), (ua.eval (.tmp 54))] (z7b e52 rfl) (zE Tryz.func17 rfl) (zsa ((kc_c uw _ _ ⟨((M51.step hb).isb (k := 12) rfl), ((M51.step hb).isb (k := 13) rfl)⟩ e54)))
 ·intro ua uw hb hd
  exact hop_new (zc rfl) hb.size hb.size (by decide) (by unfold execOp; kernel_rfl)
 intro p55 a55 w55 b55 G55 y55
 obtain ⟨-, -, -, -, -, q5, q6, q7, -⟩ := y55
 obtain ⟨gn7x54, r7, hg7, hc7⟩ := q7 (by decide)
 replace r7 : p55 7 = .pointer (some ⟨gn7x54, 0, none⟩) := r7
 have r5 : p55 5 = .agg (zk (ansY kS.Ky kS.Pr)) := q5 (by decide)
 have r6 : p55 6 = .bool true := q6 (by decide)
 simp only [List.take, layV, Nat.zero_add, Nat.reduceAdd, r5, r6, r7] at G55
 have M55 := M51.newb b55.below 20 hg7 hc7
 clear hg7 hc7 r7
 clear F52 M51 r5 q5 r6 q6
 refine st_ex M55 (k := 20) rfl _ _ _ rfl (G55.get (t := 11) rfl) (G55.get (t := 56) rfl) (zk (ansY kS.Ky kS.Pr)) _ rfl (zL rfl) (zla _) (zx rfl) (by kernel_rfl) ?_
 intro w56 M56
 clear M55
 refine rm rfl G55 fun _ F57 => ?_
 refine hK53 _ _ ?_
 refine zSk fun _ hK58 => ?_
 have hD59 := (z7a (M56.blk (k := 18) rfl) (z7a (M56.blk (k := 20) rfl) (z7a (M56.blk (k := 14) rfl) dnil)))
 refine zec F57 (SK [.inl (.agg (zl ⟨0, 0, 0, 0, "".toUTF8, [], 0, 0, 0, [], 0, (fun _ => 0), (fun _ => 0)⟩ ⟨zN, zN⟩)), .inl (.bool false), .inl (.bool true), .inl (.bool true), .inl (.bool true), .inl (.bool true), .inl (.bool true), .inl (.bool true), .inl (.bool true), .inl (.bool true), .inl (.bool true), .inl (.bool true), .inl (.bool true), .inl (.agg (zl kD y46)), .inl (.agg (zk (ansY kS.Ky kS.Pr))), .inr (StK.bytes (sumY (ansY kS.Ky kS.Pr))), .inl (.bool true), .inl (.bool true), .inl (.bool true), .inl (.pointer (some ⟨g48, 60, none⟩)), .inl (.agg (zk kD.Ky)), .inl (.pointer (some ⟨g39, 60, none⟩)), .inl (.agg (zk kS.Ky)), .inl (.bool true), .inl (.bool true), .inl (.bool true)]) 26 rfl (by kernel_rfl) ⟨?_, ?_, hop0 F57 (by kernel_rfl), hop0 F57 (by kernel_rfl), hop0 F57 (by kernel_rfl), hop0 F57 (by kernel_rfl), hop0 F57 (by kernel_rfl), hop0 F57 (by kernel_rfl), hop0 F57 (by kernel_rfl), hop0 F57 (by kernel_rfl), hop0 F57 (by kernel_rfl), hop0 F57 (by kernel_rfl), hop0 F57 (by kernel_rfl), hopP F57 hD59 0 (some g48) (by kernel_rfl), hopP F57 hD59 1 (some gn7x54) (by kernel_rfl), ?_, ?_, hop0 F57 (by kernel_rfl), hop0 F57 (by kernel_rfl), hop0 F57 (by kernel_rfl), hopP F57 hD59 0 (some g48) (by kernel_rfl), hop0 F57 (by kernel_rfl), hopP F57 hD59 2 (some g39) (by kernel_rfl), ?_, hop0 F57 (by kernel_rfl), hop0 F57 (by kernel_rfl), trivial⟩ ?_
 ·intro ua uw hb hd
  exact zaa (F := (StK.eq (.agg (zl ⟨0, 0, 0, 0, "".toUTF8, [], 0, 0, 0, [], 0, (fun _ => 0), (fun _ => 0)⟩ ⟨zN, zN⟩))).F) (zc rfl) (.agg (zl ⟨0, 0, 0, 0, "".toUTF8, [], 0, 0, 0, [], 0, (fun _ => 0), (fun _ => 0)⟩ ⟨zN, zN⟩)) (by unfold execOp; kernel_rfl) rfl
 ·intro ua uw hb hd
  have e58 : ua.eval (.tmp 58) = .agg (zl ⟨0, 0, 0, 0, "".toUTF8, [], 0, 0, 0, [], 0, (fun _ => 0), (fun _ => 0)⟩ ⟨zN, zN⟩) := hd 58 (by decide)
  exact zda (F := (StK.eq (.bool false)).F) (zc rfl) hb.size rfl #[.agg (zl ⟨0, 0, 0, 0, "".toUTF8, [], 0, 0, 0, [], 0, (fun _ => 0), (fun _ => 0)⟩ ⟨zN, zN⟩), zN] (z7b e58 rfl) (zE Tryz.func19 rfl) (zsa ((kc_z uw)))
 ·intro ua uw hb hd
  have eg : ua.eval (.tmp 70) = .bool true := hd 70 (by decide)
  have e72 : ua.eval (.tmp 72) = .agg (zk (ansY kS.Ky kS.Pr)) := hd 72 (by decide)
  exact zda (F := (StK.bytes (sumY (ansY kS.Ky kS.Pr))).F) (wanted_yes rfl rfl rfl eg) hb.size rfl #[.agg (zk (ansY kS.Ky kS.Pr))] (z2a e72) (zE Tryz.func18 rfl) ((kc_b (ansY kS.Ky kS.Pr) (zdc _) uw))
 ·intro ua uw hb hd
  have eg : ua.eval (.tmp 70) = .bool true := hd 70 (by decide)
  have e71 : ua.eval (.tmp 71) = .agg (zl kD y46) := hd 71 (by decide)
  have e73 : IsB uw (sumY (ansY kS.Ky kS.Pr)) (ua.eval (.tmp 73)) := hd 73 (by decide)
  exact zda (F := (StK.eq (.bool true)).F) (wanted_yes rfl rfl rfl eg) hb.size rfl #[.agg (zl kD y46), (ua.eval (.tmp 73))] (z7b e71 rfl) (zE Tryz.func19 rfl) (zsa ((kc_d uw _ _ ⟨((M56.step hb).isb (k := 16) rfl), ((M56.step hb).isb (k := 17) rfl)⟩ e73)))
 ·intro ua uw hb hd
  have eg : ua.eval (.tmp 76) = .bool true := hd 76 (by decide)
  have e78 : ua.eval (.tmp 78) = .agg (zk kD.Ky) := hd 78 (by decide)
  have e80 : ua.eval (.tmp 80) = .agg (zk kS.Ky) := hd 80 (by decide)
  exact zaa (F := (StK.eq (.bool true)).F) (wanted_yes rfl rfl rfl eg) (.bool true) (run_eq16 _ _ rfl kS.Ky (e78.trans (by rw [kn_Ky])) e80) rfl
 intro p60 a60 w60 b60 G60 y60
 obtain ⟨-, -, -, -, -, -, -, -, -, -, -, -, -, -, -, -, -, -, -, -, -, -, -, -, -, q25, -⟩ := y60
 have r25 : p60 25 = .bool true := q25 (by decide)
 simp only [List.take, layV, Nat.zero_add, Nat.reduceAdd, r25] at G60
 have M60 := M56.kc b60
 clear F57 M56 r25 q25
 refine hK58 _ _ ?_
 refine wp_ret ?_
 try simp only [Exit.then, Exit.inBlock, Exit.jump]
 exact bodyPost_ret (res1 rfl (G60.get (t := 0) rfl)) G60.defers ⟨rfl, M60.below⟩
theorem within7_any (a n : Int) (hn : 0 < n) (hn' : n < 9223372036854775808) (ha : -9223372036854775808 ≤ a) (ha' : a < 9223372036854775808) (w : World) :
  Calls Tryz.prog 22 #[.int .i64 a, .int .i64 n] w fun e w' => e = .returned (.int .i64 (a % n)) ∧ w = w' := by
 obtain ⟨h1, h2, h3, h4⟩ := tmod_case a n hn
 have hz : (n == 0) = false := by simp; omega
 by_cases h : a.tmod n < 0
 ·have H := hid (h2 h)
  clear h1 h2
  go_enter Tryz.func22, Tryz.ntmps22
  go_wp2
  go_ret
  exact ⟨congrArg (fun x => Ending.returned (.int .i64 x)) H.out, rfl⟩
 ·have H := hid (h1 (by omega))
  clear h1 h2
  go_enter Tryz.func22, Tryz.ntmps22
  go_wp2
  go_ret
  exact ⟨congrArg (fun x => Ending.returned (.int .i64 x)) H.out, rfl⟩
theorem y_addS7 {a : Act} {w : World} {o : Oper} (ty tz : TypeId) (x y : Operand) {s t : ByteArray} (ho : o.op = .binOp .add ty x y tz) (hx : a.eval x = .string s) (hy : a.eval y = .string t) (hs : s.size + t.size ≤ 128) : (execOp a.eval o).run Tryz.prog w = .ok (.value (.string (s ++ t))) w := by
 have h : s.size + t.size ≤ 9223372036854775807 := by omega
 unfold execOp; simp only [ho, hx, hy]; simp [go_sem, h]
theorem SrpNames_walk (a0 : Int) (hk0 : -9223372036854775808 ≤ a0) (hl0 : a0 < 9223372036854775808)
  (a1 : ByteArray) (hS1 : a1.size ≤ maxLen)
  (a2 : ByteArray) (hS2 : a2.size ≤ maxLen)
  (A3 : Option Addr) (n3 cap3 : Nat) (l3 : List UInt8) (hn3 : l3.length = n3) (hc3 : n3 ≤ cap3) (hm3 : cap3 ≤ maxLen) (hz3 : A3 = none → cap3 = 0)
  (A4 : Option Addr) (n4 cap4 : Nat) (l4 : List UInt8) (hn4 : l4.length = n4) (hc4 : n4 ≤ cap4) (hm4 : cap4 ≤ maxLen) (hz4 : A4 = none → cap4 = 0)
  (a5 : Int) (hk5 : -9223372036854775808 ≤ a5) (hl5 : a5 < 9223372036854775808) (w : World) (hr3 : Rd w A3 l3) (hr4 : Rd w A4 l4) :
  Calls Tryz.prog 7 #[.int .i64 a0, .string a1, .string a2, .slice A3 n3 cap3, .slice A4 n4 cap4, .int .i64 a5] w fun e w' => e = .returned (.bool true) ∧ Below w.heap.size w w' := by
 have ib3 : IsB w l3 (.slice A3 n3 cap3) := hr3.isB' hn3 hc3 hm3 hz3
 have ib4 : IsB w l4 (.slice A4 n4 cap4) := hr4.isB' hn4 hc4 hm4 hz4
 obtain ⟨k, p, hg, kG⟩ := group_any hk0 hl0
 obtain ⟨hpa, hpb⟩ : 4000 < p ∧ p < 16777216 := ⟨hg.2.2.2.1, hg.2.2.2.2.1⟩
 have po : p % 2 = 1 := hg.2.2.1
 have hp1 : 1 < p := by omega
 have p4 : p < 4294967296 := by omega
 have hP : p < 4294967296 ^ 8 := Nat.lt_trans p4 (by decide)
 have h2 : 2 < p / 2 := by omega
 have hQ4 : p / 2 ≤ 4294967296 := by omega
 have hQ : p / 2 < 4294967296 ^ 8 := Nat.lt_of_le_of_lt hQ4 (by decide)
 have hP0 : 0 < p := by omega
 have hm : ∀ x, x % p < 4294967296 ^ 8 := fun x => Nat.lt_trans (Nat.mod_lt _ hP0) hP
 have gfour : (4 : Nat) < 4294967296 ^ 8 := by decide
 obtain ⟨sh, hsh⟩ : ∃ b, shortB [(sBy a1), (sBy a2), l3, l4] = b := ⟨_, rfl⟩
 refine zra (args := [.int .i64 a0, .string a1, .string a2, .slice A3 n3 cap3, .slice A4 n4 cap4, .int .i64 a5]) 78 Tryz.func7 rfl rfl rfl ?_
 intro fa F
 have M := Mx.start w
 replace M := M.argB 0 ib3 (fun g e => by cases e)
 replace M := M.argB 1 ib4 (fun g e => by cases e)
 refine zSk fun _ hK21 => ?_
 refine zR ?_
 refine rm rfl F fun _ F22 => ?_
 refine hK21 _ _ ?_
 refine zSk fun _ hK23 => ?_
 refine zSk fun _ hK24 => ?_
 refine zR ?_
 refine zea (zc rfl) rfl F22 rfl rfl (zE Tryz.func9 rfl) #[] (args0) (zha (sknown_any w)) ?_
 rintro _ w25 a25 ⟨rfl, b25⟩ F25
 have M25 := M.step b25
 refine zh (w' := w25) (zc rfl) rfl F25 rfl (.bool false) (run_not _ _ rfl (F25.get (t := 18) rfl)) fun _ F26 => ?_
 clear F25
 refine hK24 _ _ ?_
 refine wp_cond_false (F26.get (t := 19) rfl) ?_
 refine wp_skip ?_
 refine hK23 _ _ ?_
 refine zSk fun _ hK27 => ?_
 refine zSk fun _ hK28 => ?_
 refine zR ?_
 refine rm rfl F26 fun _ F29 => ?_
 refine z6a (zc rfl) rfl F29 rfl (run_cvSm M25 2 _ rfl (F29.get (t := 20) rfl) hS1) ?_
 intro v30 a30 w30 F30 M30
 clear F29 M25
 have fr30 := M30.frN (k := 2) rfl
 replace M30 := M30.unN (k := 2) rfl
 obtain ⟨A30, c30, rfl⟩ := (M30.isb (k := 2) rfl).shape
 refine rm rfl F30 fun _ F31 => ?_
 refine z6a (zc rfl) rfl F31 rfl (run_cvSm M30 3 _ rfl (F31.get (t := 22) rfl) hS2) ?_
 intro v32 a32 w32 F32 M32
 clear F31 M30
 have fr32 := M32.frN (k := 3) rfl
 replace M32 := M32.unN (k := 3) rfl
 obtain ⟨A32, c32, rfl⟩ := (M32.isb (k := 3) rfl).shape
 refine rm rfl F32 fun _ F33 => ?_
 refine rm rfl F33 fun _ F34 => ?_
 refine z3b (zc rfl) rfl F34 rfl M32 4 (t := 22) (c := #[.slice A30 ((sBy a1)).length c30, .slice A32 ((sBy a2)).length c32, .slice A3 n3 cap3, .slice A4 n4 cap4]) (k := 4) (m := 4) (y_litG 54 22 (s := 1) (zv := zN) Tryz.underlying54 (by kernel_rfl) (by kernel_rfl) rfl (#[.slice A30 ((sBy a1)).length c30, .slice A32 ((sBy a2)).length c32, .slice A3 n3 cap3, .slice A4 n4 cap4]) (by decide) (by decide) (by simp only [List.map_toArray, List.map_cons, List.map_nil, (F34.get (t := 21) rfl), (F34.get (t := 23) rfl), (F34.get (t := 24) rfl), (F34.get (t := 25) rfl)]; kernel_rfl)) ?_
 intro g35 a35 w35 F35 M35
 clear F34 M32
 refine zea (zc rfl) rfl F35 rfl rfl (zE Tryz.func10 rfl) #[.slice (some ⟨g35, 0, none⟩) 4 4] (z2a (F35.get (t := 26) rfl)) (zha ((hsh ▸ short_any [(sBy a1), (sBy a2), l3, l4] _ w35 (isP_blk (M35.blk (k := 4) rfl) rfl rfl (show 4 ≤ 1000 by decide) (fun j l hj => by
   match j, hj with
   | 0, hj => obtain rfl : (sBy a1) = l := Option.some.inj hj; exact ⟨_, rfl, (M35.isb (k := 2) rfl)⟩
   | 1, hj => obtain rfl : (sBy a2) = l := Option.some.inj hj; exact ⟨_, rfl, (M35.isb (k := 3) rfl)⟩
   | 2, hj => obtain rfl : l3 = l := Option.some.inj hj; exact ⟨_, rfl, (M35.isb (k := 0) rfl)⟩
   | 3, hj => obtain rfl : l4 = l := Option.some.inj hj; exact ⟨_, rfl, (M35.isb (k := 1) rfl)⟩
   | n + 4, hj => cases hj))))) ?_
 rintro _ w36 a36 ⟨rfl, b36⟩ F36
 have M36 := M35.step b36
 cases sh
 ·refine zh (w' := w36) (zc rfl) rfl F36 rfl (.bool true) (run_not _ _ rfl (F36.get (t := 27) rfl)) fun _ F37 => ?_
  clear F36
  refine hK28 _ _ ?_
  refine wp_cond_true (F37.get (t := 28) rfl) ?_
  refine zSk fun _ hK38 => ?_
  refine zR ?_
  refine rm rfl F37 fun _ F39 => ?_
  refine hK38 _ _ ?_
  refine wp_ret ?_
  try simp only [Exit.then, Exit.inBlock, Exit.jump]
  exact bodyPost_ret (res1 rfl (F39.get rfl)) F39.defers ⟨rfl, M36.below⟩
 ·have hs0 : (sBy a1).length ≤ 64 := short_mem hsh (by simp)
  have hs1 : (sBy a2).length ≤ 64 := short_mem hsh (by simp)
  have hs2 : l3.length ≤ 64 := short_mem hsh (by simp)
  have hs3 : l4.length ≤ 64 := short_mem hsh (by simp)
  rw [sBy_len] at hs0 hs1
  have hP31 : p < 2147483648 := by omega
  have hQ5 : p / 2 < 4294967296 := by omega
  obtain ⟨K, hK, Kl⟩ : ∃ j : Nat, a5 % ((l3.length : Int) + 1) = (j : Int) ∧ j ≤ l3.length := ⟨(a5 % ((l3.length : Int) + 1)).toNat, by have := Int.emod_nonneg a5 (show ((l3.length : Int) + 1) ≠ 0 by omega); omega, by have := Int.emod_nonneg a5 (show ((l3.length : Int) + 1) ≠ 0 by omega); have := Int.emod_lt_of_pos a5 (show 0 < ((l3.length : Int) + 1) by omega); omega⟩
  have kW := fun (w : World) => within7_any a5 ((l3.length : Int) + 1) (by omega) (by omega) hk5 hl5 w
  rw [hK] at kW
  obtain ⟨T3, hT3⟩ : ∃ t : ByteArray, a1 ++ ⟨(l3.take K).toArray⟩ = t := ⟨_, rfl⟩
  have hT3a : a1.size + (⟨(l3.take K).toArray⟩ : ByteArray).size ≤ 128 := by show a1.size + (l3.take K).toArray.size ≤ 128; rw [List.size_toArray, List.length_take]; omega
  have hT3s : T3.size ≤ 128 := by rw [← hT3, ByteArray.size_append]; exact hT3a
  have hdr : (l3.drop K).length ≤ 64 := by rw [List.length_drop]; omega
  obtain ⟨V0, hV0⟩ : ∃ V, 4 ^ secN (p / 2) (sBy a1) l3 l4 % p = V := ⟨_, rfl⟩
  have bV0 : V0 < 4294967296 ^ 8 := by rw [← hV0]; exact hm _
  have kV0 := fun (w : World) (vp vs : Value) (hp : IsB w l3 vp) (hs : IsB w l4 vs) => verifier_any k p (p / 2) 4 po hp1 hP h2 hQ gfour a1 (show a1.size ≤ 1000 by omega) l3 l4 vp vs w hp hs
  rw [hV0] at kV0
  have rV0 := fun (w : World) (vp vs : Value) (hp : IsB w l3 vp) (hs : IsB w l4 vs) => rver7_any k p (p / 2) 4 hp1 hP31 h2 hQ5 gfour a1 (show a1.size ≤ 200 by omega) l3 l4 (show l3.length ≤ 200 by omega) (show l4.length ≤ 200 by omega) vp vs w hp hs
  rw [hV0] at rV0
  obtain ⟨V1, hV1⟩ : ∃ V, 4 ^ secN (p / 2) (sBy a2) l3 l4 % p = V := ⟨_, rfl⟩
  have bV1 : V1 < 4294967296 ^ 8 := by rw [← hV1]; exact hm _
  have kV1 := fun (w : World) (vp vs : Value) (hp : IsB w l3 vp) (hs : IsB w l4 vs) => verifier_any k p (p / 2) 4 po hp1 hP h2 hQ gfour a2 (show a2.size ≤ 1000 by omega) l3 l4 vp vs w hp hs
  rw [hV1] at kV1
  have rV1 := fun (w : World) (vp vs : Value) (hp : IsB w l3 vp) (hs : IsB w l4 vs) => rver7_any k p (p / 2) 4 hp1 hP31 h2 hQ5 gfour a2 (show a2.size ≤ 200 by omega) l3 l4 (show l3.length ≤ 200 by omega) (show l4.length ≤ 200 by omega) vp vs w hp hs
  rw [hV1] at rV1
  obtain ⟨V2, hV2⟩ : ∃ V, 4 ^ secN (p / 2) (sBy T3) (l3.drop K) l4 % p = V := ⟨_, rfl⟩
  have bV2 : V2 < 4294967296 ^ 8 := by rw [← hV2]; exact hm _
  have kV2 := fun (w : World) (vp vs : Value) (hp : IsB w (l3.drop K) vp) (hs : IsB w l4 vs) => verifier_any k p (p / 2) 4 po hp1 hP h2 hQ gfour T3 (show T3.size ≤ 1000 by omega) (l3.drop K) l4 vp vs w hp hs
  rw [hV2] at kV2
  have rV2 := fun (w : World) (vp vs : Value) (hp : IsB w (l3.drop K) vp) (hs : IsB w l4 vs) => rver7_any k p (p / 2) 4 hp1 hP31 h2 hQ5 gfour T3 (show T3.size ≤ 200 by omega) (l3.drop K) l4 (show (l3.drop K).length ≤ 200 by omega) (show l4.length ≤ 200 by omega) vp vs w hp hs
  rw [hV2] at rV2
  refine zh (w' := w36) (zc rfl) rfl F36 rfl (.bool false) (run_not _ _ rfl (F36.get (t := 27) rfl)) fun _ F40 => ?_
  clear F36
  refine hK28 _ _ ?_
  refine wp_cond_false (F40.get (t := 28) rfl) ?_
  refine wp_skip ?_
  refine hK27 _ _ ?_
  refine zSk fun _ hK41 => ?_
  refine zR ?_
  refine rm rfl F40 fun _ F42 => ?_
  refine zea (zc rfl) rfl F42 rfl rfl (zE Tryz.func11 rfl) #[.int .i64 a0] (z2a (F42.get (t := 29) rfl)) (zha (kG w36)) ?_
  rintro _ w43 a43 ⟨rfl, b43⟩ F43
  have M43 := M36.step b43
  refine zo (zc rfl) rfl F43 rfl M43 5 (t := 29) (c := zg 0 0 0 0) (by unfold execOp; rw [z1b]; kernel_rfl) ?_
  intro g44 a44 w44 F44 M44
  clear F43 M43
  refine zka (zc rfl) rfl F44 M44 (k := 5) rfl _ _ _ rfl (F44.get (t := 13) rfl) (F44.get (t := 30) rfl) (zg k p (p / 2) 4) _ rfl (zL rfl) (z8b _ _ _ _) (zx rfl) (by kernel_rfl) ?_
  intro w45 M45
  clear M44
  refine hK41 _ _ ?_
  refine zSk fun _ hK46 => ?_
  refine zR ?_
  refine rm rfl F44 fun _ F47 => ?_
  refine rm rfl F47 fun _ F48 => ?_
  refine zh (w' := w45) (zc rfl) rfl F48 rfl (.int .i64 (l3.length : Int)) (y_len _ rfl (F48.get (t := 32) rfl) (M45.isb (k := 0) rfl) rfl) fun _ F49 => ?_
  clear F48
  refine zh (w' := w45) (zc rfl) rfl F49 rfl (.int .i64 ((l3.length : Int) + 1)) (y_addI _ _ _ _ rfl (F49.get (t := 33) rfl) rfl rfl (by omega)) fun _ F50 => ?_
  clear F49
  refine zea (zc rfl) rfl F50 rfl rfl (zE Tryz.func22 rfl) #[.int .i64 a5, .int .i64 ((l3.length : Int) + 1)] (z7b (F50.get (t := 31) rfl) (F50.get (t := 34) rfl)) (zha ((kW w45))) ?_
  rintro _ w51 a51 ⟨rfl, rfl⟩ F51
  refine rm rfl F51 fun _ F52 => ?_
  refine hK46 _ _ ?_
  refine zSk fun _ hK53 => ?_
  refine zR ?_
  refine rm rfl F52 fun _ F54 => ?_
  refine rm rfl F54 fun _ F55 => ?_
  refine rm rfl F55 fun _ F56 => ?_
  refine rm rfl F56 fun _ F57 => ?_
  refine rm rfl F57 fun _ F58 => ?_
  refine wl_runE (zc rfl) rfl F58 rfl (y_slTo _ _ rfl (F58.get (t := 39) rfl) (M45.isb (k := 0) rfl) (F58.get (t := 40) rfl) (j := K) rfl Kl) ?_
  intro v59 a59 h59 F59
  clear F58
  have M59 := M45.partB 6 (k := 0) rfl h59.1 h59.2
  clear M45
  obtain ⟨A59, c59, rfl⟩ := (M59.isb (k := 6) rfl).shape
  refine zh (w' := w45) (zc rfl) rfl F59 rfl (.string (⟨((l3.take K)).toArray⟩)) (y_str _ rfl (F59.get (t := 41) rfl) (M59.isb (k := 6) rfl)) fun _ F60 => ?_
  clear F59
  refine zh (w' := w45) (zc rfl) rfl F60 rfl (.string T3) (hT3 ▸ y_addS7 _ _ _ _ rfl (F60.get (t := 38) rfl) (F60.get (t := 42) rfl) hT3a) fun _ F61 => ?_
  clear F60
  refine z3b (zc rfl) rfl F61 rfl M59 7 (t := 9) (c := #[.string a1, .string a2, .string T3]) (k := 3) (m := 3) (y_litG 66 9 (s := 1) (zv := .string "".toUTF8) Tryz.underlying66 (by kernel_rfl) (by kernel_rfl) rfl (#[.string a1, .string a2, .string T3]) (by decide) (by decide) (by simp only [List.map_toArray, List.map_cons, List.map_nil, (F61.get (t := 36) rfl), (F61.get (t := 37) rfl), (F61.get (t := 43) rfl)]; kernel_rfl)) ?_
  intro g62 a62 w62 F62 M62
  clear F61 M59
  refine rm rfl F62 fun _ F63 => ?_
  refine hK53 _ _ ?_
  refine zSk fun _ hK64 => ?_
  refine zR ?_
  refine rm rfl F63 fun _ F65 => ?_
  refine rm rfl F65 fun _ F66 => ?_
  refine rm rfl F66 fun _ F67 => ?_
  refine rm rfl F67 fun _ F68 => ?_
  refine wl_runE (zc rfl) rfl F68 rfl (y_slFrom _ _ rfl (F68.get (t := 47) rfl) (M62.isb (k := 0) rfl) (F68.get (t := 48) rfl) (i := K) rfl Kl) ?_
  intro v69 a69 h69 F69
  clear F68
  have M69 := M62.partB 8 (k := 0) rfl h69.1 h69.2
  clear M62
  obtain ⟨A69, c69, rfl⟩ := (M69.isb (k := 8) rfl).shape
  refine z3b (zc rfl) rfl F69 rfl M69 9 (t := 22) (c := #[.slice A3 n3 cap3, .slice A3 n3 cap3, .slice A69 ((l3.drop K)).length c69]) (k := 3) (m := 3) (y_litG 54 22 (s := 1) (zv := zN) Tryz.underlying54 (by kernel_rfl) (by kernel_rfl) rfl (#[.slice A3 n3 cap3, .slice A3 n3 cap3, .slice A69 ((l3.drop K)).length c69]) (by decide) (by decide) (by simp only [List.map_toArray, List.map_cons, List.map_nil, (F69.get (t := 45) rfl), (F69.get (t := 46) rfl), (F69.get (t := 49) rfl)]; kernel_rfl)) ?_
  intro g70 a70 w70 F70 M70
  clear F69 M69
  refine rm rfl F70 fun _ F71 => ?_
  refine hK64 _ _ ?_
  refine zSk fun _ hK72 => ?_
  refine zSk fun _ hK73 => ?_
  refine zR ?_
  refine rm rfl F71 fun _ F74 => ?_
  refine hK73 _ _ ?_
  refine wp_block ?_
  refine loop_fx (α := Nat) (n := 78) (G := none) (w0 := w) (fun x => [(4, .slice A4 n4 cap4), (13, .pointer (some ⟨g44, 0, none⟩)), (15, .slice (some ⟨g62, 0, none⟩) 3 3), (16, .slice (some ⟨g70, 0, none⟩) 3 3), (17, .int .i64 (x : Int))]) (fun x => [(0, bytR l3 (.slice A3 n3 cap3)), (1, bytR l4 (.slice A4 n4 cap4)), (2, bytR (sBy a1) (.slice A30 ((sBy a1)).length c30)), (3, bytR (sBy a2) (.slice A32 ((sBy a2)).length c32)), (4, blkR g35 22 (#[.slice A30 ((sBy a1)).length c30, .slice A32 ((sBy a2)).length c32, .slice A3 n3 cap3, .slice A4 n4 cap4])), (5, blkR g44 29 (zg k p (p / 2) 4)), (6, bytR (l3.take K) (.slice A59 ((l3.take K)).length c59)), (7, blkR g62 9 (#[.string a1, .string a2, .string T3])), (8, bytR (l3.drop K) (.slice A69 ((l3.drop K)).length c69)), (9, blkR g70 22 (#[.slice A3 n3 cap3, .slice A3 n3 cap3, .slice A69 ((l3.drop K)).length c69]))]) (fun k x => k = (3 - x) ∧ (x ≤ 3)) _ 0 ⟨rfl, (by decide)⟩ (F74.sub ⟨rfl, rfl, rfl, rfl, rfl, trivial⟩) (M70.sub ⟨rfl, rfl, rfl, rfl, rfl, rfl, rfl, rfl, rfl, rfl, trivial⟩) ?_
  clear F74 M70
  rintro k75 jn a75 w75 K75 ⟨ek75, I75⟩ F75 M75 hK75
  replace F75 : Fx 78 a75 [(4, .slice A4 n4 cap4), (13, .pointer (some ⟨g44, 0, none⟩)), (15, .slice (some ⟨g62, 0, none⟩) 3 3), (16, .slice (some ⟨g70, 0, none⟩) 3 3), (17, .int .i64 (jn : Int))] := F75
  replace M75 : Mx _ _ w75 [(0, bytR l3 (.slice A3 n3 cap3)), (1, bytR l4 (.slice A4 n4 cap4)), (2, bytR (sBy a1) (.slice A30 ((sBy a1)).length c30)), (3, bytR (sBy a2) (.slice A32 ((sBy a2)).length c32)), (4, blkR g35 22 (#[.slice A30 ((sBy a1)).length c30, .slice A32 ((sBy a2)).length c32, .slice A3 n3 cap3, .slice A4 n4 cap4])), (5, blkR g44 29 (zg k p (p / 2) 4)), (6, bytR (l3.take K) (.slice A59 ((l3.take K)).length c59)), (7, blkR g62 9 (#[.string a1, .string a2, .string T3])), (8, bytR (l3.drop K) (.slice A69 ((l3.drop K)).length c69)), (9, blkR g70 22 (#[.slice A3 n3 cap3, .slice A3 n3 cap3, .slice A69 ((l3.drop K)).length c69]))] := M75
  replace I75 : jn ≤ 3 := I75
  replace ek75 : k75 = (3 - jn) := ek75
  by_cases hj0 : jn = 0
  ·subst hj0
   replace F75 : Fx _ _ [(4, .slice A4 n4 cap4), (13, .pointer (some ⟨g44, 0, none⟩)), (15, .slice (some ⟨g62, 0, none⟩) 3 3), (16, .slice (some ⟨g70, 0, none⟩) 3 3), (17, .int .i64 0)] := F75
   refine zSk fun _ hK77 => ?_
   refine zSk fun _ hK78 => ?_
   refine zR ?_
   refine zAx 2 [(51, .int .i64 0), (52, .bool true)] [] dnil [] F75 fun _ F79 => ?_
   clear F75
   refine hK78 _ _ ?_
   refine wp_cond_true (F79.get (t := 52) rfl) ?_
   refine wp_skip ?_
   refine hK77 _ _ ?_
   refine zSk fun _ hK80 => ?_
   refine wp_block ?_
   refine zSk fun _ hK81 => ?_
   have hD82 := (z7a (M75.blk (k := 5) rfl) dnil)
   refine zec F79 (SK [.inl (.agg (zg k p (p / 2) 4)), .inl (.slice (some ⟨g62, 0, none⟩) 3 3), .inl (.int .i64 0), .inl (.pointer (some ⟨g62, 0, none⟩)), .inl (.string a1), .inl (.slice (some ⟨g70, 0, none⟩) 3 3), .inl (.int .i64 0), .inl (.pointer (some ⟨g70, 0, none⟩)), .inl (.slice A3 n3 cap3), .inl (.slice A4 n4 cap4), .inl (numV V0), .inl (.agg (zg k p (p / 2) 4)), .inl (.slice (some ⟨g62, 0, none⟩) 3 3), .inl (.int .i64 0), .inl (.pointer (some ⟨g62, 0, none⟩)), .inl (.string a1), .inl (.slice (some ⟨g70, 0, none⟩) 3 3), .inl (.int .i64 0), .inl (.pointer (some ⟨g70, 0, none⟩)), .inl (.slice A3 n3 cap3), .inl (.slice A4 n4 cap4), .inl (numV V0), .inl (.bool false)]) 23 rfl (by kernel_rfl) ⟨hopP F79 hD82 0 (some g44) (by kernel_rfl), hop0 F79 (by kernel_rfl), hop0 F79 (by kernel_rfl), ?_, ?_, hop0 F79 (by kernel_rfl), hop0 F79 (by kernel_rfl), ?_, ?_, hop0 F79 (by kernel_rfl), ?_, hopP F79 hD82 0 (some g44) (by kernel_rfl), hop0 F79 (by kernel_rfl), hop0 F79 (by kernel_rfl), ?_, ?_, hop0 F79 (by kernel_rfl), hop0 F79 (by kernel_rfl), ?_, ?_, hop0 F79 (by kernel_rfl), ?_, ?_, trivial⟩ ?_
   ·intro ua uw hb hd
    have e56 : ua.eval (.tmp 56) = .slice (some ⟨g62, 0, none⟩) 3 3 := hd 56 (by decide)
    have e57 : ua.eval (.tmp 57) = .int .i64 0 := hd 57 (by decide)
    exact zaa (F := (StK.eq (.pointer (some ⟨g62, 0, none⟩))).F) (zc rfl) (.pointer (some ⟨g62, 0, none⟩)) (y_ixG 66 (s := 1) Tryz.underlying66 (by kernel_rfl) _ _ rfl e56 e57 rfl (by decide) rfl) rfl
   ·intro ua uw hb hd
    have e58 : ua.eval (.tmp 58) = .pointer (some ⟨g62, 0, none⟩) := hd 58 (by decide)
    exact zaa (F := (StK.eq (.string a1)).F) (zc rfl) (.string a1) (y_ld1 _ _ rfl e58 ((M75.step hb).blk (k := 7) rfl) rfl Tryz.underlying9 rfl) rfl
   ·intro ua uw hb hd
    have e60 : ua.eval (.tmp 60) = .slice (some ⟨g70, 0, none⟩) 3 3 := hd 60 (by decide)
    have e61 : ua.eval (.tmp 61) = .int .i64 0 := hd 61 (by decide)
    exact zaa (F := (StK.eq (.pointer (some ⟨g70, 0, none⟩))).F) (zc rfl) (.pointer (some ⟨g70, 0, none⟩)) (y_ixG 54 (s := 1) Tryz.underlying54 (by kernel_rfl) _ _ rfl e60 e61 rfl (by decide) rfl) rfl
   ·intro ua uw hb hd
    have e62 : ua.eval (.tmp 62) = .pointer (some ⟨g70, 0, none⟩) := hd 62 (by decide)
    exact zaa (F := (StK.eq (.slice A3 n3 cap3)).F) (zc rfl) (.slice A3 n3 cap3) (y_ld1 _ _ rfl e62 ((M75.step hb).blk (k := 9) rfl) rfl Tryz.underlying22 rfl) rfl
   ·intro ua uw hb hd
    have e55 : ua.eval (.tmp 55) = .agg (zg k p (p / 2) 4) := hd 55 (by decide)
    have e59 : ua.eval (.tmp 59) = .string a1 := hd 59 (by decide)
    have e63 : ua.eval (.tmp 63) = .slice A3 n3 cap3 := hd 63 (by decide)
    have e64 : ua.eval (.tmp 64) = .slice A4 n4 cap4 := hd 64 (by decide)
    exact zda (F := (StK.eq (numV V0)).F) (zc rfl) hb.size rfl #[.agg (zg k p (p / 2) 4), .string a1, .slice A3 n3 cap3, .slice A4 n4 cap4] (args4 e55 e59 e63 e64) (zE Tryz.func12 rfl) (zsa ((kV0 uw _ _ ((M75.step hb).isb (k := 0) rfl) ((M75.step hb).isb (k := 1) rfl))))
   ·intro ua uw hb hd
    have e67 : ua.eval (.tmp 67) = .slice (some ⟨g62, 0, none⟩) 3 3 := hd 67 (by decide)
    have e68 : ua.eval (.tmp 68) = .int .i64 0 := hd 68 (by decide)
    exact zaa (F := (StK.eq (.pointer (some ⟨g62, 0, none⟩))).F) (zc rfl) (.pointer (some ⟨g62, 0, none⟩)) (y_ixG 66 (s := 1) Tryz.underlying66 (by kernel_rfl) _ _ rfl e67 e68 rfl (by decide) rfl) rfl
   ·intro ua uw hb hd
    have e69 : ua.eval (.tmp 69) = .pointer (some ⟨g62, 0, none⟩) := hd 69 (by decide)
    exact zaa (F := (StK.eq (.string a1)).F) (zc rfl) (.string a1) (y_ld1 _ _ rfl e69 ((M75.step hb).blk (k := 7) rfl) rfl Tryz.underlying9 rfl) rfl
   ·intro ua uw hb hd
    have e71 : ua.eval (.tmp 71) = .slice (some ⟨g70, 0, none⟩) 3 3 := hd 71 (by decide)
    have e72 : ua.eval (.tmp 72) = .int .i64 0 := hd 72 (by decide)
    exact zaa (F := (StK.eq (.pointer (some ⟨g70, 0, none⟩))).F) (zc rfl) (.pointer (some ⟨g70, 0, none⟩)) (y_ixG 54 (s := 1) Tryz.underlying54 (by kernel_rfl) _ _ rfl e71 e72 rfl (by decide) rfl) rfl
   ·intro ua uw hb hd
    have e73 : ua.eval (.tmp 73) = .pointer (some ⟨g70, 0, none⟩) := hd 73 (by decide)
    exact zaa (F := (StK.eq (.slice A3 n3 cap3)).F) (zc rfl) (.slice A3 n3 cap3) (y_ld1 _ _ rfl e73 ((M75.step hb).blk (k := 9) rfl) rfl Tryz.underlying22 rfl) rfl
   ·intro ua uw hb hd
    have e66 : ua.eval (.tmp 66) = .agg (zg k p (p / 2) 4) := hd 66 (by decide)
    have e70 : ua.eval (.tmp 70) = .string a1 := hd 70 (by decide)
    have e74 : ua.eval (.tmp 74) = .slice A3 n3 cap3 := hd 74 (by decide)
    have e75 : ua.eval (.tmp 75) = .slice A4 n4 cap4 := hd 75 (by decide)
    exact zda (F := (StK.eq (numV V0)).F) (zc rfl) hb.size rfl #[.agg (zg k p (p / 2) 4), .string a1, .slice A3 n3 cap3, .slice A4 n4 cap4] (args4 e66 e70 e74 e75) (zE Tryz.func20 rfl) (zsa ((rV0 uw _ _ ((M75.step hb).isb (k := 0) rfl) ((M75.step hb).isb (k := 1) rfl))))
   ·intro ua uw hb hd
    have e65 : ua.eval (.tmp 65) = numV V0 := hd 65 (by decide)
    have e76 : ua.eval (.tmp 76) = numV V0 := hd 76 (by decide)
    exact zaa (F := (StK.eq (.bool false)).F) (zc rfl) (.bool false) (y_neA _ _ _ _ rfl e65 e76 (by kernel_rfl) (eqn_same V0 _)) rfl
   intro p83 a83 w83 b83 G83 y83
   obtain ⟨-, -, -, -, -, -, -, -, -, -, -, -, -, -, -, -, -, -, -, -, -, -, q22, -⟩ := y83
   have r22 : p83 22 = .bool false := q22 (by decide)
   simp only [List.take, layV, Nat.zero_add, Nat.reduceAdd, r22] at G83
   have M83 := M75.kc b83
   clear F79 M75 r22 q22
   refine hK81 _ _ ?_
   refine wp_cond_false (G83.get (t := 77) rfl) ?_
   refine wp_skip ?_
   refine hK80 _ _ ?_
   refine zR ?_
   refine rm rfl G83 fun _ F84 => ?_
   refine zh (w' := w83) (zc rfl) rfl F84 rfl (.int .i64 1) (y_addI _ _ _ _ rfl (F84.get (t := 53) rfl) rfl rfl (by omega)) fun _ F85 => ?_
   clear F84
   refine rm rfl F85 fun _ F86 => ?_
   subst ek75
   exact hK75 _ 1 _ _ (by decide) ⟨rfl, (by decide)⟩ (F86.sub ⟨rfl, rfl, rfl, rfl, rfl, trivial⟩) (M83.sub ⟨rfl, rfl, rfl, rfl, rfl, rfl, rfl, rfl, rfl, rfl, trivial⟩)
  by_cases hj1 : jn = 1
  ·subst hj1
   replace F75 : Fx _ _ [(4, .slice A4 n4 cap4), (13, .pointer (some ⟨g44, 0, none⟩)), (15, .slice (some ⟨g62, 0, none⟩) 3 3), (16, .slice (some ⟨g70, 0, none⟩) 3 3), (17, .int .i64 1)] := F75
   refine zSk fun _ hK88 => ?_
   refine zSk fun _ hK89 => ?_
   refine zR ?_
   refine zAx 2 [(51, .int .i64 1), (52, .bool true)] [] dnil [] F75 fun _ F90 => ?_
   clear F75
   refine hK89 _ _ ?_
   refine wp_cond_true (F90.get (t := 52) rfl) ?_
   refine wp_skip ?_
   refine hK88 _ _ ?_
   refine zSk fun _ hK91 => ?_
   refine wp_block ?_
   refine zSk fun _ hK92 => ?_
   have hD93 := (z7a (M75.blk (k := 5) rfl) dnil)
   refine zec F90 (SK [.inl (.agg (zg k p (p / 2) 4)), .inl (.slice (some ⟨g62, 0, none⟩) 3 3), .inl (.int .i64 1), .inl (.pointer (some ⟨g62, 1, none⟩)), .inl (.string a2), .inl (.slice (some ⟨g70, 0, none⟩) 3 3), .inl (.int .i64 1), .inl (.pointer (some ⟨g70, 1, none⟩)), .inl (.slice A3 n3 cap3), .inl (.slice A4 n4 cap4), .inl (numV V1), .inl (.agg (zg k p (p / 2) 4)), .inl (.slice (some ⟨g62, 0, none⟩) 3 3), .inl (.int .i64 1), .inl (.pointer (some ⟨g62, 1, none⟩)), .inl (.string a2), .inl (.slice (some ⟨g70, 0, none⟩) 3 3), .inl (.int .i64 1), .inl (.pointer (some ⟨g70, 1, none⟩)), .inl (.slice A3 n3 cap3), .inl (.slice A4 n4 cap4), .inl (numV V1), .inl (.bool false)]) 23 rfl (by kernel_rfl) ⟨hopP F90 hD93 0 (some g44) (by kernel_rfl), hop0 F90 (by kernel_rfl), hop0 F90 (by kernel_rfl), ?_, ?_, hop0 F90 (by kernel_rfl), hop0 F90 (by kernel_rfl), ?_, ?_, hop0 F90 (by kernel_rfl), ?_, hopP F90 hD93 0 (some g44) (by kernel_rfl), hop0 F90 (by kernel_rfl), hop0 F90 (by kernel_rfl), ?_, ?_, hop0 F90 (by kernel_rfl), hop0 F90 (by kernel_rfl), ?_, ?_, hop0 F90 (by kernel_rfl), ?_, ?_, trivial⟩ ?_
   ·intro ua uw hb hd
    have e56 : ua.eval (.tmp 56) = .slice (some ⟨g62, 0, none⟩) 3 3 := hd 56 (by decide)
    have e57 : ua.eval (.tmp 57) = .int .i64 1 := hd 57 (by decide)
    exact zaa (F := (StK.eq (.pointer (some ⟨g62, 1, none⟩))).F) (zc rfl) (.pointer (some ⟨g62, 1, none⟩)) (y_ixG 66 (s := 1) Tryz.underlying66 (by kernel_rfl) _ _ rfl e56 e57 rfl (by decide) rfl) rfl
   ·intro ua uw hb hd
    have e58 : ua.eval (.tmp 58) = .pointer (some ⟨g62, 1, none⟩) := hd 58 (by decide)
    exact zaa (F := (StK.eq (.string a2)).F) (zc rfl) (.string a2) (y_ld1 _ _ rfl e58 ((M75.step hb).blk (k := 7) rfl) rfl Tryz.underlying9 rfl) rfl
   ·intro ua uw hb hd
    have e60 : ua.eval (.tmp 60) = .slice (some ⟨g70, 0, none⟩) 3 3 := hd 60 (by decide)
    have e61 : ua.eval (.tmp 61) = .int .i64 1 := hd 61 (by decide)
    exact zaa (F := (StK.eq (.pointer (some ⟨g70, 1, none⟩))).F) (zc rfl) (.pointer (some ⟨g70, 1, none⟩)) (y_ixG 54 (s := 1) Tryz.underlying54 (by kernel_rfl) _ _ rfl e60 e61 rfl (by decide) rfl) rfl
   ·intro ua uw hb hd
    have e62 : ua.eval (.tmp 62) = .pointer (some ⟨g70, 1, none⟩) := hd 62 (by decide)
    exact zaa (F := (StK.eq (.slice A3 n3 cap3)).F) (zc rfl) (.slice A3 n3 cap3) (y_ld1 _ _ rfl e62 ((M75.step hb).blk (k := 9) rfl) rfl Tryz.underlying22 rfl) rfl
   ·intro ua uw hb hd
    have e55 : ua.eval (.tmp 55) = .agg (zg k p (p / 2) 4) := hd 55 (by decide)
    have e59 : ua.eval (.tmp 59) = .string a2 := hd 59 (by decide)
    have e63 : ua.eval (.tmp 63) = .slice A3 n3 cap3 := hd 63 (by decide)
    have e64 : ua.eval (.tmp 64) = .slice A4 n4 cap4 := hd 64 (by decide)
    exact zda (F := (StK.eq (numV V1)).F) (zc rfl) hb.size rfl #[.agg (zg k p (p / 2) 4), .string a2, .slice A3 n3 cap3, .slice A4 n4 cap4] (args4 e55 e59 e63 e64) (zE Tryz.func12 rfl) (zsa ((kV1 uw _ _ ((M75.step hb).isb (k := 0) rfl) ((M75.step hb).isb (k := 1) rfl))))
   ·intro ua uw hb hd
    have e67 : ua.eval (.tmp 67) = .slice (some ⟨g62, 0, none⟩) 3 3 := hd 67 (by decide)
    have e68 : ua.eval (.tmp 68) = .int .i64 1 := hd 68 (by decide)
    exact zaa (F := (StK.eq (.pointer (some ⟨g62, 1, none⟩))).F) (zc rfl) (.pointer (some ⟨g62, 1, none⟩)) (y_ixG 66 (s := 1) Tryz.underlying66 (by kernel_rfl) _ _ rfl e67 e68 rfl (by decide) rfl) rfl
   ·intro ua uw hb hd
    have e69 : ua.eval (.tmp 69) = .pointer (some ⟨g62, 1, none⟩) := hd 69 (by decide)
    exact zaa (F := (StK.eq (.string a2)).F) (zc rfl) (.string a2) (y_ld1 _ _ rfl e69 ((M75.step hb).blk (k := 7) rfl) rfl Tryz.underlying9 rfl) rfl
   ·intro ua uw hb hd
    have e71 : ua.eval (.tmp 71) = .slice (some ⟨g70, 0, none⟩) 3 3 := hd 71 (by decide)
    have e72 : ua.eval (.tmp 72) = .int .i64 1 := hd 72 (by decide)
    exact zaa (F := (StK.eq (.pointer (some ⟨g70, 1, none⟩))).F) (zc rfl) (.pointer (some ⟨g70, 1, none⟩)) (y_ixG 54 (s := 1) Tryz.underlying54 (by kernel_rfl) _ _ rfl e71 e72 rfl (by decide) rfl) rfl
   ·intro ua uw hb hd
    have e73 : ua.eval (.tmp 73) = .pointer (some ⟨g70, 1, none⟩) := hd 73 (by decide)
    exact zaa (F := (StK.eq (.slice A3 n3 cap3)).F) (zc rfl) (.slice A3 n3 cap3) (y_ld1 _ _ rfl e73 ((M75.step hb).blk (k := 9) rfl) rfl Tryz.underlying22 rfl) rfl
   ·intro ua uw hb hd
    have e66 : ua.eval (.tmp 66) = .agg (zg k p (p / 2) 4) := hd 66 (by decide)
    have e70 : ua.eval (.tmp 70) = .string a2 := hd 70 (by decide)
    have e74 : ua.eval (.tmp 74) = .slice A3 n3 cap3 := hd 74 (by decide)
    have e75 : ua.eval (.tmp 75) = .slice A4 n4 cap4 := hd 75 (by decide)
    exact zda (F := (StK.eq (numV V1)).F) (zc rfl) hb.size rfl #[.agg (zg k p (p / 2) 4), .string a2, .slice A3 n3 cap3, .slice A4 n4 cap4] (args4 e66 e70 e74 e75) (zE Tryz.func20 rfl) (zsa ((rV1 uw _ _ ((M75.step hb).isb (k := 0) rfl) ((M75.step hb).isb (k := 1) rfl))))
   ·intro ua uw hb hd
    have e65 : ua.eval (.tmp 65) = numV V1 := hd 65 (by decide)
    have e76 : ua.eval (.tmp 76) = numV V1 := hd 76 (by decide)
    exact zaa (F := (StK.eq (.bool false)).F) (zc rfl) (.bool false) (y_neA _ _ _ _ rfl e65 e76 (by kernel_rfl) (eqn_same V1 _)) rfl
   intro p94 a94 w94 b94 G94 y94
   obtain ⟨-, -, -, -, -, -, -, -, -, -, -, -, -, -, -, -, -, -, -, -, -, -, q22, -⟩ := y94
   have r22 : p94 22 = .bool false := q22 (by decide)
   simp only [List.take, layV, Nat.zero_add, Nat.reduceAdd, r22] at G94
   have M94 := M75.kc b94
   clear F90 M75 r22 q22
   refine hK92 _ _ ?_
   refine wp_cond_false (G94.get (t := 77) rfl) ?_
   refine wp_skip ?_
   refine hK91 _ _ ?_
   refine zR ?_
   refine rm rfl G94 fun _ F95 => ?_
   refine zh (w' := w94) (zc rfl) rfl F95 rfl (.int .i64 2) (y_addI _ _ _ _ rfl (F95.get (t := 53) rfl) rfl rfl (by omega)) fun _ F96 => ?_
   clear F95
   refine rm rfl F96 fun _ F97 => ?_
   subst ek75
   exact hK75 _ 2 _ _ (by decide) ⟨rfl, (by decide)⟩ (F97.sub ⟨rfl, rfl, rfl, rfl, rfl, trivial⟩) (M94.sub ⟨rfl, rfl, rfl, rfl, rfl, rfl, rfl, rfl, rfl, rfl, trivial⟩)
  by_cases hj2 : jn = 2
  ·subst hj2
   replace F75 : Fx _ _ [(4, .slice A4 n4 cap4), (13, .pointer (some ⟨g44, 0, none⟩)), (15, .slice (some ⟨g62, 0, none⟩) 3 3), (16, .slice (some ⟨g70, 0, none⟩) 3 3), (17, .int .i64 2)] := F75
   refine zSk fun _ hK99 => ?_
   refine zSk fun _ hK100 => ?_
   refine zR ?_
   refine zAx 2 [(51, .int .i64 2), (52, .bool true)] [] dnil [] F75 fun _ F101 => ?_
   clear F75
   refine hK100 _ _ ?_
   refine wp_cond_true (F101.get (t := 52) rfl) ?_
   refine wp_skip ?_
   refine hK99 _ _ ?_
   refine zSk fun _ hK102 => ?_
   refine wp_block ?_
   refine zSk fun _ hK103 => ?_
   have hD104 := (z7a (M75.blk (k := 5) rfl) dnil)
   refine zec F101 (SK [.inl (.agg (zg k p (p / 2) 4)), .inl (.slice (some ⟨g62, 0, none⟩) 3 3), .inl (.int .i64 2), .inl (.pointer (some ⟨g62, 2, none⟩)), .inl (.string T3), .inl (.slice (some ⟨g70, 0, none⟩) 3 3), .inl (.int .i64 2), .inl (.pointer (some ⟨g70, 2, none⟩)), .inl (.slice A69 ((l3.drop K)).length c69), .inl (.slice A4 n4 cap4), .inl (numV V2), .inl (.agg (zg k p (p / 2) 4)), .inl (.slice (some ⟨g62, 0, none⟩) 3 3), .inl (.int .i64 2), .inl (.pointer (some ⟨g62, 2, none⟩)), .inl (.string T3), .inl (.slice (some ⟨g70, 0, none⟩) 3 3), .inl (.int .i64 2), .inl (.pointer (some ⟨g70, 2, none⟩)), .inl (.slice A69 ((l3.drop K)).length c69), .inl (.slice A4 n4 cap4), .inl (numV V2), .inl (.bool false)]) 23 rfl (by kernel_rfl) ⟨hopP F101 hD104 0 (some g44) (by kernel_rfl), hop0 F101 (by kernel_rfl), hop0 F101 (by kernel_rfl), ?_, ?_, hop0 F101 (by kernel_rfl), hop0 F101 (by kernel_rfl), ?_, ?_, hop0 F101 (by kernel_rfl), ?_, hopP F101 hD104 0 (some g44) (by kernel_rfl), hop0 F101 (by kernel_rfl), hop0 F101 (by kernel_rfl), ?_, ?_, hop0 F101 (by kernel_rfl), hop0 F101 (by kernel_rfl), ?_, ?_, hop0 F101 (by kernel_rfl), ?_, ?_, trivial⟩ ?_
   ·intro ua uw hb hd
    have e56 : ua.eval (.tmp 56) = .slice (some ⟨g62, 0, none⟩) 3 3 := hd 56 (by decide)
    have e57 : ua.eval (.tmp 57) = .int .i64 2 := hd 57 (by decide)
    exact zaa (F := (StK.eq (.pointer (some ⟨g62, 2, none⟩))).F) (zc rfl) (.pointer (some ⟨g62, 2, none⟩)) (y_ixG 66 (s := 1) Tryz.underlying66 (by kernel_rfl) _ _ rfl e56 e57 rfl (by decide) rfl) rfl
   ·intro ua uw hb hd
    have e58 : ua.eval (.tmp 58) = .pointer (some ⟨g62, 2, none⟩) := hd 58 (by decide)
    exact zaa (F := (StK.eq (.string T3)).F) (zc rfl) (.string T3) (y_ld1 _ _ rfl e58 ((M75.step hb).blk (k := 7) rfl) rfl Tryz.underlying9 rfl) rfl
   ·intro ua uw hb hd
    have e60 : ua.eval (.tmp 60) = .slice (some ⟨g70, 0, none⟩) 3 3 := hd 60 (by decide)
    have e61 : ua.eval (.tmp 61) = .int .i64 2 := hd 61 (by decide)
    exact zaa (F := (StK.eq (.pointer (some ⟨g70, 2, none⟩))).F) (zc rfl) (.pointer (some ⟨g70, 2, none⟩)) (y_ixG 54 (s := 1) Tryz.underlying54 (by kernel_rfl) _ _ rfl e60 e61 rfl (by decide) rfl) rfl
   ·intro ua uw hb hd
    have e62 : ua.eval (.tmp 62) = .pointer (some ⟨g70, 2, none⟩) := hd 62 (by decide)
    exact zaa (F := (StK.eq (.slice A69 ((l3.drop K)).length c69)).F) (zc rfl) (.slice A69 ((l3.drop K)).length c69) (y_ld1 _ _ rfl e62 ((M75.step hb).blk (k := 9) rfl) rfl Tryz.underlying22 rfl) rfl
   ·intro ua uw hb hd
    have e55 : ua.eval (.tmp 55) = .agg (zg k p (p / 2) 4) := hd 55 (by decide)
    have e59 : ua.eval (.tmp 59) = .string T3 := hd 59 (by decide)
    have e63 : ua.eval (.tmp 63) = .slice A69 ((l3.drop K)).length c69 := hd 63 (by decide)
    have e64 : ua.eval (.tmp 64) = .slice A4 n4 cap4 := hd 64 (by decide)
    exact zda (F := (StK.eq (numV V2)).F) (zc rfl) hb.size rfl #[.agg (zg k p (p / 2) 4), .string T3, .slice A69 ((l3.drop K)).length c69, .slice A4 n4 cap4] (args4 e55 e59 e63 e64) (zE Tryz.func12 rfl) (zsa ((kV2 uw _ _ ((M75.step hb).isb (k := 8) rfl) ((M75.step hb).isb (k := 1) rfl))))
   ·intro ua uw hb hd
    have e67 : ua.eval (.tmp 67) = .slice (some ⟨g62, 0, none⟩) 3 3 := hd 67 (by decide)
    have e68 : ua.eval (.tmp 68) = .int .i64 2 := hd 68 (by decide)
    exact zaa (F := (StK.eq (.pointer (some ⟨g62, 2, none⟩))).F) (zc rfl) (.pointer (some ⟨g62, 2, none⟩)) (y_ixG 66 (s := 1) Tryz.underlying66 (by kernel_rfl) _ _ rfl e67 e68 rfl (by decide) rfl) rfl
   ·intro ua uw hb hd
    have e69 : ua.eval (.tmp 69) = .pointer (some ⟨g62, 2, none⟩) := hd 69 (by decide)
    exact zaa (F := (StK.eq (.string T3)).F) (zc rfl) (.string T3) (y_ld1 _ _ rfl e69 ((M75.step hb).blk (k := 7) rfl) rfl Tryz.underlying9 rfl) rfl
   ·intro ua uw hb hd
    have e71 : ua.eval (.tmp 71) = .slice (some ⟨g70, 0, none⟩) 3 3 := hd 71 (by decide)
    have e72 : ua.eval (.tmp 72) = .int .i64 2 := hd 72 (by decide)
    exact zaa (F := (StK.eq (.pointer (some ⟨g70, 2, none⟩))).F) (zc rfl) (.pointer (some ⟨g70, 2, none⟩)) (y_ixG 54 (s := 1) Tryz.underlying54 (by kernel_rfl) _ _ rfl e71 e72 rfl (by decide) rfl) rfl
   ·intro ua uw hb hd
    have e73 : ua.eval (.tmp 73) = .pointer (some ⟨g70, 2, none⟩) := hd 73 (by decide)
    exact zaa (F := (StK.eq (.slice A69 ((l3.drop K)).length c69)).F) (zc rfl) (.slice A69 ((l3.drop K)).length c69) (y_ld1 _ _ rfl e73 ((M75.step hb).blk (k := 9) rfl) rfl Tryz.underlying22 rfl) rfl
   ·intro ua uw hb hd
    have e66 : ua.eval (.tmp 66) = .agg (zg k p (p / 2) 4) := hd 66 (by decide)
    have e70 : ua.eval (.tmp 70) = .string T3 := hd 70 (by decide)
    have e74 : ua.eval (.tmp 74) = .slice A69 ((l3.drop K)).length c69 := hd 74 (by decide)
    have e75 : ua.eval (.tmp 75) = .slice A4 n4 cap4 := hd 75 (by decide)
    exact zda (F := (StK.eq (numV V2)).F) (zc rfl) hb.size rfl #[.agg (zg k p (p / 2) 4), .string T3, .slice A69 ((l3.drop K)).length c69, .slice A4 n4 cap4] (args4 e66 e70 e74 e75) (zE Tryz.func20 rfl) (zsa ((rV2 uw _ _ ((M75.step hb).isb (k := 8) rfl) ((M75.step hb).isb (k := 1) rfl))))
   ·intro ua uw hb hd
    have e65 : ua.eval (.tmp 65) = numV V2 := hd 65 (by decide)
    have e76 : ua.eval (.tmp 76) = numV V2 := hd 76 (by decide)
    exact zaa (F := (StK.eq (.bool false)).F) (zc rfl) (.bool false) (y_neA _ _ _ _ rfl e65 e76 (by kernel_rfl) (eqn_same V2 _)) rfl
   intro p105 a105 w105 b105 G105 y105
   obtain ⟨-, -, -, -, -, -, -, -, -, -, -, -, -, -, -, -, -, -, -, -, -, -, q22, -⟩ := y105
   have r22 : p105 22 = .bool false := q22 (by decide)
   simp only [List.take, layV, Nat.zero_add, Nat.reduceAdd, r22] at G105
   have M105 := M75.kc b105
   clear F101 M75 r22 q22
   refine hK103 _ _ ?_
   refine wp_cond_false (G105.get (t := 77) rfl) ?_
   refine wp_skip ?_
   refine hK102 _ _ ?_
   refine zR ?_
   refine rm rfl G105 fun _ F106 => ?_
   refine zh (w' := w105) (zc rfl) rfl F106 rfl (.int .i64 3) (y_addI _ _ _ _ rfl (F106.get (t := 53) rfl) rfl rfl (by omega)) fun _ F107 => ?_
   clear F106
   refine rm rfl F107 fun _ F108 => ?_
   subst ek75
   exact hK75 _ 3 _ _ (by decide) ⟨rfl, (by decide)⟩ (F108.sub ⟨rfl, rfl, rfl, rfl, rfl, trivial⟩) (M105.sub ⟨rfl, rfl, rfl, rfl, rfl, rfl, rfl, rfl, rfl, rfl, trivial⟩)
  have hjN : jn = 3 := by omega
  subst hjN
  replace F75 : Fx _ _ [(4, .slice A4 n4 cap4), (13, .pointer (some ⟨g44, 0, none⟩)), (15, .slice (some ⟨g62, 0, none⟩) 3 3), (16, .slice (some ⟨g70, 0, none⟩) 3 3), (17, .int .i64 3)] := F75
  refine zSk fun _ hK109 => ?_
  refine zSk fun _ hK110 => ?_
  refine zR ?_
  refine zAx 2 [(51, .int .i64 3), (52, .bool false)] [] dnil [] F75 fun _ F111 => ?_
  clear F75
  refine hK110 _ _ ?_
  refine wp_cond_false (F111.get (t := 52) rfl) ?_
  refine wp_exit ?_
  simp only [Exit.then, Exit.inBlock, ↓reduceIte, Nat.reduceEqDiff]
  refine hK72 _ _ ?_
  refine zSk fun _ hK112 => ?_
  refine zR ?_
  refine rm rfl F111 fun _ F113 => ?_
  refine hK112 _ _ ?_
  refine wp_ret ?_
  try simp only [Exit.then, Exit.inBlock, Exit.jump]
  exact bodyPost_ret (res1 rfl (F113.get rfl)) F113.defers ⟨rfl, M75.below⟩
end Go.Proofs.YtcfepoopkfhojaaGreat
