/- What SrpSecrets stands on, part 13. -/
import Derived.Test.YtcfepoopkfhojaaGreatSrpSecretsP1
import Derived.Test.YtcfepoopkfhojaaGreatSrpSecretsP2
import Derived.Test.YtcfepoopkfhojaaGreatSrpSecretsP3
import Derived.Test.YtcfepoopkfhojaaGreatSrpSecretsP4
import Derived.Test.YtcfepoopkfhojaaGreatSrpSecretsP5
import Derived.Test.YtcfepoopkfhojaaGreatSrpSecretsP6
import Derived.Test.YtcfepoopkfhojaaGreatSrpSecretsP7
import Derived.Test.YtcfepoopkfhojaaGreatSrpSecretsP8
import Derived.Test.YtcfepoopkfhojaaGreatSrpSecretsP9
import Derived.Test.YtcfepoopkfhojaaGreatSrpSecretsP10
import Derived.Test.YtcfepoopkfhojaaGreatSrpSecretsP11
import Derived.Test.YtcfepoopkfhojaaGreatSrpSecretsP12
set_option maxRecDepth 100000
set_option maxHeartbeats 8000000
set_option linter.unusedVariables false
set_option linter.unusedSimpArgs false
namespace Go.Proofs.YtcfepoopkfhojaaGreat
open Go.ChangeShapes Go.WideShapes Go.ChangeAt Go.RowKit
theorem kn_off : offOk 32603 16301 4 kV kAA kB = true := by decide +kernel
def kC : SideN := ⟨15, 32603, 16301, 4, { data := #[117] }, [112], kAA, 0, kA, [], 0, fun _ => 0, fun _ => 0⟩
theorem kn_prv : prvOk kC [115] (offB 32603 16301 4 kV kB) = true := by decide +kernel
theorem kn_num : offN 32603 16301 4 kV kAA kB = prvN kC [115] (offB 32603 16301 4 kV kB) := by decide +kernel
noncomputable def kS : SideN := zjb (offS 15 32603 16301 4 { data := #[117] } [115] kV kAA kB) (offN 32603 16301 4 kV kAA kB)
noncomputable def kD : SideN := zjb (prvS kC [115] (offB 32603 16301 4 kV kB)) (prvN kC [115] (offB 32603 16301 4 kV kB))
theorem kn_Ky : kD.Ky = kS.Ky := by
 unfold kD kS zjb
 rw [kn_num]
theorem kn_Pr : kD.Pr = kS.Pr := by
 unfold kD kS zjb
 rw [kn_num]; rfl
theorem kn_ok : SideOk kS ∧ SideOk kD := ⟨⟨zmc _, zmc _⟩, ⟨zmc _, zmc _⟩⟩
theorem make_kp {K p : Nat} (g0 : 12 ≤ K) (g1 : K ≤ 24) (p4 : 4 ≤ p) (po : p % 2 = 1) (pl : p < 2 ^ K) (ps : safeB (p : Int) = true) (pn : ∀ x : Int, (p : Int) < x → x < 2 ^ K → safeB x = false) : zkc 31 #[.int .i64 (K : Int)] (.tuple #[.agg (zg (K : Int) p (p / 2) 4), .bool true]) := fun w => by
 have hl : 2 ^ K ≤ 2 ^ 24 := Nat.pow_le_pow_right (by decide) (by omega)
 have hp : p < 16777216 := Nat.lt_of_lt_of_le pl hl
 have e : ((2 : Int) ^ K) = ((2 ^ K : Nat) : Int) := by simp
 have hq : ((p / 2 : Nat) : Int) = (p : Int) / 2 := by omega
 refine (rgmake_any (K : Int) (p : Int) (by omega) (by omega) (fun _ => ⟨by omega, by omega, by rw [Int.toNat_natCast, e]; exact_mod_cast pl, ps, by rw [Int.toNat_natCast]; exact pn⟩) w).mono ?_
 rintro e' w' ⟨V, rfl, hV, hb⟩
 rcases hV with ⟨-, hV⟩ | ⟨hn, -⟩
 ·exact ⟨by rw [hV, Int.toNat_natCast, ← hq, Int.toNat_natCast], hb⟩
 ·omega
theorem make15 : zkc 31 #[.int .i64 15] (.tuple #[.agg (zg 15 32603 16301 4), .bool true]) := by
 obtain ⟨ps, pn⟩ := tab_of (k := 15) (p := 32603) (D := 180) (E := 127) (by decide) (by decide) (by decide) (by decide) (by decide) tab15
 exact make_kp (K := 15) (p := 32603) (by decide) (by decide) (by decide) (by decide) (by decide) ps pn
theorem group_of {n : Int} {t : Nat} {k : Int} {p : Nat} (ht : t < 9) (kw : ∀ w, Calls Tryz.prog 32 #[.int .i64 n, .int .i64 9] w fun e w' => e = .returned (.int .i64 (t : Int)) ∧ w = w')
  (hk : (#[.int .i64 12, .int .i64 13, .int .i64 14, .int .i64 15, .int .i64 16, .int .i64 17, .int .i64 18, .int .i64 20, .int .i64 24] : Array Value)[t]? = some (.int .i64 k)) (hr : zkc 31 #[.int .i64 k] (.tuple #[.agg (zg k p (p / 2) 4), .bool true])) (w : World) :
  Calls Tryz.prog 11 #[.int .i64 n] w fun e w' => e = .returned (.agg (zg k p (p / 2) 4)) ∧ Below w.heap.size w w' := by
 refine zqa (args := [.int .i64 n]) 15 Tryz.func11 rfl rfl rfl ?_
 intro fa F
 have M := Mx.start w
 refine zSk fun _ hK1 => ?_
 refine zR ?_
 refine zl (zc rfl) rfl F rfl M 0 (t := 29) (c := zg 0 0 0 0) (by unfold execOp; rw [z3b]; kernel_rfl) ?_
 intro g2 a2 w2 F2 M2
 clear F M
 refine hK1 _ _ ?_
 refine zSk fun _ hK3 => ?_
 refine zR ?_
 refine zhc (zc rfl) rfl F2 rfl M2 1 (t := 3) (c := #[.int .i64 12, .int .i64 13, .int .i64 14, .int .i64 15, .int .i64 16, .int .i64 17, .int .i64 18, .int .i64 20, .int .i64 24]) (k := 9) (m := 9) (y_litI rfl #[.int .i64 12, .int .i64 13, .int .i64 14, .int .i64 15, .int .i64 16, .int .i64 17, .int .i64 18, .int .i64 20, .int .i64 24] rfl (by decide) (by decide) (by simp only [List.map_toArray, List.map_cons, List.map_nil]; kernel_rfl)) ?_
 intro g4 a4 w4 F4 M4
 clear F2 M2
 refine zh (w' := w4) (zc rfl) rfl F4 rfl (.int .i64 n) (zca _ (.inl rfl) (F4.get (t := 0) rfl)) fun _ F5 => ?_
 clear F4
 refine zga (zc rfl) rfl F5 rfl rfl (zE Tryz.func32 rfl) #[.int .i64 n, .int .i64 9] (zlb (F5.get (t := 7) rfl) rfl) (zka (kw w4)) ?_
 rintro _ w6 a6 ⟨rfl, rfl⟩ F6
 refine zh (w' := w4) (zc rfl) rfl F6 rfl (.pointer (some ⟨g4, t, none⟩)) (y_ixI _ _ rfl (F6.get (t := 6) rfl) (F6.get (t := 8) rfl) rfl ht (Nat.zero_add t)) fun _ F7 => ?_
 clear F6
 refine zh (w' := w4) (zc rfl) rfl F7 rfl (.int .i64 k) (y_ld1 _ _ rfl (F7.get (t := 9) rfl) (M4.blk (k := 1) rfl) hk Tryz.underlying3 rfl) fun _ F8 => ?_
 clear F7
 refine zga (zc rfl) rfl F8 rfl rfl (zE Tryz.func31 rfl) #[.int .i64 k] (zya (F8.get (t := 10) rfl)) (zka (hr w4)) ?_
 rintro _ w9 a9 ⟨rfl, b9⟩ F9
 have M9 := M4.step b9
 refine zh (w' := w9) (zc rfl) rfl F9 rfl (.tuple #[.agg (zg k p (p / 2) 4), .bool true]) (zca _ (.inl rfl) (F9.get (t := 11) rfl)) fun _ F10 => ?_
 clear F9
 refine zh (w' := w9) (zc rfl) rfl F10 rfl (.agg (zg k p (p / 2) 4)) (y_ext _ _ rfl (F10.get (t := 5) rfl) rfl) fun _ F11 => ?_
 clear F10
 refine zh (w' := w9) (zc rfl) rfl F11 rfl (.bool true) (y_ext _ _ rfl (F11.get (t := 5) rfl) rfl) fun _ F12 => ?_
 clear F11
 refine zl (zc rfl) rfl F12 rfl M9 2 (t := 29) (c := zg 0 0 0 0) (by unfold execOp; rw [z3b]; kernel_rfl) ?_
 intro g13 a13 w13 F13 M13
 clear F12 M9
 refine zha (zc rfl) rfl F13 M13 (k := 2) rfl _ _ _ rfl (F13.get (t := 3) rfl) (F13.get (t := 12) rfl) (zg k p (p / 2) 4) _ rfl (zL rfl) (zdc _ _ _ _) (zz rfl) (by kernel_rfl) ?_
 intro w14 M14
 clear M13
 refine zh (w' := w14) (zc rfl) rfl F13 rfl (.bool true) (zca _ (.inr rfl) (F13.get (t := 13) rfl)) fun _ F15 => ?_
 clear F13
 refine hK3 _ _ ?_
 refine zSk fun _ hK16 => ?_
 refine zR ?_
 refine zh (w' := w14) (zc rfl) rfl F15 rfl _ (zea _ _ rfl (F15.get (t := 3) rfl) (M14.blk (k := 2) rfl) (zg k p (p / 2) 4) (zoa rfl) Tryz.underlying29 rfl (by kernel_rfl)) fun _ F17 => ?_
 clear F15
 refine zha (zc rfl) rfl F17 M14 (k := 0) rfl _ _ _ rfl (F17.get (t := 2) rfl) (F17.get (t := 14) rfl) (zg k p (p / 2) 4) _ rfl (zL rfl) (zdc _ _ _ _) (zz rfl) (by kernel_rfl) ?_
 intro w18 M18
 clear M14
 refine hK16 _ _ ?_
 refine wp_ret ?_
 try simp only [Exit.then, Exit.inBlock]
 exact bodyPost_ret (results_cell_row rfl _ _ _ _ _ (0, 0) _ (F17.get rfl) (M18.blk (k := 0) rfl) Tryz.underlying29 rfl (by kernel_rfl)) F17.defers ⟨rfl, M18.below⟩
theorem group_3 (w : World) : Calls Tryz.prog 11 #[.int .i64 3] w fun e w' => e = .returned (.agg (zg 15 32603 16301 4)) ∧ Below w.heap.size w w' :=
 group_of (n := 3) (t := 3) (k := 15) (p := 32603) (by decide) (fun w => gwithin_any 3 9 (by decide) (by decide) (by decide) (by decide) w) rfl make15 w
theorem side_two {G : Option Nat} {w0 w w' : World} {R : List (Nat × Res)} (M : Mx G w0 w R) (hb : Below w.heap.size w w') (i j : Nat) {x : SideN} {y : SideV} (h : SideIs w' x y) (h1 : ∀ b, bfp y.vp b → w.heap.size ≤ b) (h2 : ∀ b, bfp y.vs b → w.heap.size ≤ b) (hij : i ≠ j) : Mx G w0 w' ((j, bytR x.ls y.vs) :: (i, bytR x.lp y.vp) :: R) ∧ True :=
 ⟨(M.fresh hb i _ h.hp bytR_dep (fun g hg => ⟨h1 g hg, h.hp.lt hg⟩)).cons j _ h.hs bytR_dep (fun g hg => h.hs.lt hg) (fun e => by cases e) fun k s e hk hw g hg hs => by
  rcases hw with hw | hw
  ·cases hw
  rw [z3a] at e
  split at e
  ·cases e; cases hw
  ·have := M.lt k s e g hs
   have := h2 g hg
   omega, trivial⟩
section
theorem kc_v (w : World) (vp vs : Value) (hp : IsB w [112] vp) (hs : IsB w [115] vs) : Calls Tryz.prog 12 #[.agg (zg 15 32603 16301 4), .string ({ data := #[117] }), vp, vs] w fun e w' => e = .returned (numV kV) ∧ Below w.heap.size w w' :=
 verifier_any 15 32603 16301 4 (by decide) (by decide) (by decide) (by decide) (by decide) (by decide) { data := #[117] } (by decide) [112] [115] vp vs w hp hs
theorem kc_h (w : World) (vp vd : Value) (hp : IsB w [112] vp) (hd : IsB w [49] vd) : Calls Tryz.prog 13 #[.agg (zg 15 32603 16301 4), .string ({ data := #[117] }), vp, vd] w fun e w' => ∃ v, e = .returned v ∧ ∃ y : SideV, v = .tuple #[.agg (zk kC y), numV kAA] ∧ SideIs w' kC y ∧ (∀ b, bfp y.vp b → w.heap.size ≤ b) ∧ (∀ b, bfp y.vs b → w.heap.size ≤ b) ∧ Below w.heap.size w w' :=
 (hello_any 15 32603 16301 4 (by decide) (by decide) (by decide) (by decide) (by decide) (by decide) { data := #[117] } [112] [49] vp vd (by decide) w hp hd).mono fun e w' ⟨vc, h1, h2, h3, h4⟩ => ⟨_, h1, ⟨vc, zN⟩, rfl, h2, h3, fun b hb => absurd hb (zic b), h4⟩
theorem kc_o (w : World) (v vd : Value) (hv : IsB w [115] v) (hd : IsB w [50] vd) : Calls Tryz.prog 14 #[.agg (zg 15 32603 16301 4), .agg (recA ⟨1, { data := #[117] }, [115], kV, 0, [], 0, 0, 0⟩ ⟨v, zN⟩), numV kAA, vd] w fun e w' => ∃ v, e = .returned v ∧ ∃ y : SideV, v = .tuple #[.agg (zk kS y), numV (offB 32603 16301 4 kV kB), .bool true] ∧ SideIs w' kS y ∧ (∀ b, bfp y.vp b → w.heap.size ≤ b) ∧ (∀ b, bfp y.vs b → w.heap.size ≤ b) ∧ Below w.heap.size w w' := by
 have h := offer_any 15 32603 16301 4 (by decide) (by decide) (by decide) (by decide) (by decide) (by decide) (by decide) ⟨1, { data := #[117] }, [115], kV, 0, [], 0, 0, 0⟩ ⟨v, zN⟩ (Nat.lt_trans (Nat.mod_lt _ (by decide)) (by decide)) (by decide) (by decide) kAA (Nat.lt_trans (Nat.mod_lt _ (by decide)) (by decide)) [50] vd w ⟨hv, zva _⟩ hd
 rw [show texN 16301 [98] [[50]] = kB from rfl] at h
 simp only [kn_off, cond_true] at h
 exact h.mono fun e w' ⟨vc, h1, h2, h3, h4⟩ => ⟨_, h1, ⟨zN, vc⟩, rfl, h2, fun b hb => absurd hb (zic b), h3, h4⟩
theorem kA_lt : kA < 4294967296 := Nat.lt_trans (expN_bd (by decide) _).2 (by decide)
theorem kc_p (w : World) (y : SideV) (vl : Value) (hx : SideIs w kC y) (hl : IsB w [115] vl) : Calls Tryz.prog 16 #[.agg (zk kC y), vl, numV (offB 32603 16301 4 kV kB)] w fun e w' => ∃ v, e = .returned v ∧ ∃ y : SideV, v = .tuple #[.agg (zk kD y), .agg (zo kD.Pr), .bool true] ∧ SideIs w' kD y ∧ (∀ b, bfp y.vp b → w.heap.size ≤ b) ∧ (∀ b, bfp y.vs b → w.heap.size ≤ b) ∧ Below w.heap.size w w' := by
 have h := prove_any kC y (show 32603 % 2 = 1 by decide) (show 1 < 32603 by decide) (show 32603 < 4294967296 by decide) (show 2 < 16301 by decide) (show 16301 ≤ 4294967296 by decide) kA_lt (show 4 < 4294967296 ^ 8 by decide) (show 1 ≤ 1000 by decide) (show 1 ≤ 100000 by decide) [115] (by decide) vl (offB 32603 16301 4 kV kB) (Nat.lt_trans (Nat.mod_lt _ (by decide)) (by decide)) w hx hl
 simp only [kn_prv, cond_true] at h
 exact h.mono fun e w' ⟨y', h1, h2⟩ => ⟨_, h1, y', rfl, h2⟩
theorem kc_c (w : World) (y : SideV) (v : Value) (hx : SideIs w kS y) (hv : IsB w (sumY kD.Pr) v) : Calls Tryz.prog 17 #[.agg (zk kS y), v] w fun e w' => e = .returned (.tuple #[.agg (zo (ansY kS.Ky kS.Pr)), .bool true]) ∧ Below w.heap.size w w' :=
 check_any kS y kn_ok.1 (sumY kD.Pr) v true (decide_eq_true (by rw [kn_Pr])) w hx hv
theorem kc_d (w : World) (y : SideV) (v : Value) (hx : SideIs w kD y) (hv : IsB w (sumY (ansY kS.Ky kS.Pr)) v) : Calls Tryz.prog 19 #[.agg (zk kD y), v] w fun e w' => e = .returned (.bool true) ∧ Below w.heap.size w w' :=
 done_any kD y kn_ok.2 _ v true (decide_eq_true (by rw [kn_Ky, kn_Pr])) w hx hv
theorem kc_b (y : Nat → Int) (hy : ∀ k, 0 ≤ y k ∧ y k < 256) (w : World) : Calls Tryz.prog 18 #[.agg (zo y)] w fun e w' => ∃ v, e = .returned v ∧ Below w.heap.size w w' ∧ IsB w' (sumY y) v :=
 (srbytes_any y hy w).mono fun e w' ⟨v, h1, h2, h3⟩ => ⟨v, h1, h3, h2.isb⟩
theorem kc_z (w : World) : Calls Tryz.prog 19 #[.agg (zk ⟨0, 0, 0, 0, "".toUTF8, [], 0, 0, 0, [], 0, fun _ => 0, fun _ => 0⟩ ⟨zN, zN⟩), zN] w fun e w' => e = .returned (.bool false) ∧ Below w.heap.size w w' :=
 done_any _ _ ⟨fun _ => ⟨Int.le_refl _, (show (0 : Int) < 256 by decide)⟩, fun _ => ⟨Int.le_refl _, (show (0 : Int) < 256 by decide)⟩⟩ [] _ false (decide_eq_false fun h => absurd (congrArg List.length h) (by rw [zac]; decide)) w ⟨zva _, zva _⟩ (zva _)
end
theorem sknown_any  (w : World) :
  Calls Tryz.prog 9 #[] w fun e w' => e = .returned (.bool true) ∧ Below w.heap.size w w' := by
 have kG := group_3
 refine zqa (args := []) 83 Tryz.func9 rfl rfl rfl ?_
 intro fa F
 have M := Mx.start w
 refine zSk fun _ hK1 => ?_
 refine zR ?_
 refine rm rfl F fun _ F2 => ?_
 refine hK1 _ _ ?_
 refine zSk fun _ hK3 => ?_
 refine zR ?_
 refine zga (zc rfl) rfl F2 rfl rfl (zE Tryz.func11 rfl) #[.int .i64 3] (zya rfl) (zka (kG w)) ?_
 rintro _ w4 a4 ⟨rfl, b4⟩ F4
 have M4 := M.step b4
 refine zl (zc rfl) rfl F4 rfl M4 0 (t := 29) (c := zg 0 0 0 0) (by unfold execOp; rw [z3b]; kernel_rfl) ?_
 intro g5 a5 w5 F5 M5
 clear F4 M4
 refine zha (zc rfl) rfl F5 M5 (k := 0) rfl _ _ _ rfl (F5.get (t := 1) rfl) (F5.get (t := 13) rfl) (zg 15 32603 16301 4) _ rfl (zL rfl) (zdc _ _ _ _) (zz rfl) (by kernel_rfl) ?_
 intro w6 M6
 clear M5
 refine hK3 _ _ ?_
 refine zSk fun _ hK7 => ?_
 refine zR ?_
 refine zkb (zc rfl) rfl F5 rfl (run_litO M6 1 [115] 1 rfl (by decide) (by decide) rfl (by simp only [List.map_toArray, List.map_cons, List.map_nil]; kernel_rfl)) ?_
 intro v8 a8 w8 F8 M8
 clear F5 M6
 obtain ⟨A8, c8, rfl⟩ := (M8.isO (k := 1) rfl).shape
 refine zkb (zc rfl) rfl F8 rfl (run_cvL M8 (k := 1) rfl (by decide) _ rfl (F8.get (t := 14) rfl)) ?_
 intro v9 a9 w9 F9 M9
 clear F8 M8
 obtain ⟨A9, c9, rfl⟩ := (M9.isb (k := 1) rfl).shape
 refine zh (w' := w9) (zc rfl) rfl F9 rfl _ (zea _ _ rfl (F9.get (t := 1) rfl) (M9.blk (k := 0) rfl) (zg 15 32603 16301 4) (zoa rfl) Tryz.underlying29 rfl (by kernel_rfl)) fun _ F10 => ?_
 clear F9
 refine zkb (zc rfl) rfl F10 rfl (run_litO M9 2 [112] 1 rfl (by decide) (by decide) rfl (by simp only [List.map_toArray, List.map_cons, List.map_nil]; kernel_rfl)) ?_
 intro v11 a11 w11 F11 M11
 clear F10 M9
 obtain ⟨A11, c11, rfl⟩ := (M11.isO (k := 2) rfl).shape
 refine zkb (zc rfl) rfl F11 rfl (run_cvL M11 (k := 2) rfl (by decide) _ rfl (F11.get (t := 17) rfl)) ?_
 intro v12 a12 w12 F12 M12
 clear F11 M11
 obtain ⟨A12, c12, rfl⟩ := (M12.isb (k := 2) rfl).shape
 refine zkb (zc rfl) rfl F12 rfl (run_litO M12 3 [115] 1 rfl (by decide) (by decide) rfl (by simp only [List.map_toArray, List.map_cons, List.map_nil]; kernel_rfl)) ?_
 intro v13 a13 w13 F13 M13
 clear F12 M12
 obtain ⟨A13, c13, rfl⟩ := (M13.isO (k := 3) rfl).shape
 refine zkb (zc rfl) rfl F13 rfl (run_cvL M13 (k := 3) rfl (by decide) _ rfl (F13.get (t := 19) rfl)) ?_
 intro v14 a14 w14 F14 M14
 clear F13 M13
 obtain ⟨A14, c14, rfl⟩ := (M14.isb (k := 3) rfl).shape
 refine zga (zc rfl) rfl F14 rfl rfl (zE Tryz.func12 rfl) #[.agg (zg 15 32603 16301 4), .string ({ data := #[117] }), .slice A12 ([112]).length c12, .slice A14 ([115]).length c14] (args4 (F14.get (t := 16) rfl) rfl (F14.get (t := 18) rfl) (F14.get (t := 20) rfl)) (zka ((kc_v w14 _ _ (M14.isb (k := 2) rfl) (M14.isb (k := 3) rfl)))) ?_
 rintro _ w15 a15 ⟨rfl, b15⟩ F15
 have M15 := M14.step b15
 refine zh (w' := w15) (zc rfl) rfl F15 rfl (.agg (recA ⟨1, ({ data := #[117] }), [115], kV, 0, [], 0, 0, 0⟩ ⟨.slice A9 ([115]).length c9, zN⟩)) (by unfold execOp; simp only [List.map_toArray, List.map_cons, List.map_nil, (F15.get (t := 15) rfl), (F15.get (t := 21) rfl)]; kernel_rfl) fun _ F16 => ?_
 clear F15
 refine zl (zc rfl) rfl F16 rfl M15 4 (t := 33) (c := recA ⟨0, "".toUTF8, [], 0, 0, [], 0, 0, 0⟩ ⟨zN, zN⟩) (by unfold execOp; kernel_rfl) ?_
 intro g17 a17 w17 F17 M17
 clear F16 M15
 refine zha (zc rfl) rfl F17 M17 (k := 4) rfl _ _ _ rfl (F17.get (t := 2) rfl) (F17.get (t := 22) rfl) (recA ⟨1, ({ data := #[117] }), [115], kV, 0, [], 0, 0, 0⟩ ⟨.slice A9 ([115]).length c9, zN⟩) _ rfl (zL rfl) (recA_one (w := w17) ⟨(M17.isb (k := 1) rfl), zva _⟩) (zz rfl) (by kernel_rfl) ?_
 intro w18 M18
 clear M17
 refine hK7 _ _ ?_
 refine zSk fun _ hK19 => ?_
 refine zR ?_
 refine zh (w' := w18) (zc rfl) rfl F17 rfl _ (zea _ _ rfl (F17.get (t := 1) rfl) (M18.blk (k := 0) rfl) (zg 15 32603 16301 4) (zoa rfl) Tryz.underlying29 rfl (by kernel_rfl)) fun _ F20 => ?_
 clear F17
 refine zkb (zc rfl) rfl F20 rfl (run_litO M18 5 [112] 1 rfl (by decide) (by decide) rfl (by simp only [List.map_toArray, List.map_cons, List.map_nil]; kernel_rfl)) ?_
 intro v21 a21 w21 F21 M21
 clear F20 M18
 obtain ⟨A21, c21, rfl⟩ := (M21.isO (k := 5) rfl).shape
 refine zkb (zc rfl) rfl F21 rfl (run_cvL M21 (k := 5) rfl (by decide) _ rfl (F21.get (t := 25) rfl)) ?_
 intro v22 a22 w22 F22 M22
 clear F21 M21
 obtain ⟨A22, c22, rfl⟩ := (M22.isb (k := 5) rfl).shape
 refine zkb (zc rfl) rfl F22 rfl (run_litO M22 6 [49] 1 rfl (by decide) (by decide) rfl (by simp only [List.map_toArray, List.map_cons, List.map_nil]; kernel_rfl)) ?_
 intro v23 a23 w23 F23 M23
 clear F22 M22
 obtain ⟨A23, c23, rfl⟩ := (M23.isO (k := 6) rfl).shape
 refine zkb (zc rfl) rfl F23 rfl (run_cvL M23 (k := 6) rfl (by decide) _ rfl (F23.get (t := 27) rfl)) ?_
 intro v24 a24 w24 F24 M24
 clear F23 M23
 obtain ⟨A24, c24, rfl⟩ := (M24.isb (k := 6) rfl).shape
 refine zga (zc rfl) rfl F24 rfl rfl (zE Tryz.func13 rfl) #[.agg (zg 15 32603 16301 4), .string ({ data := #[117] }), .slice A22 ([112]).length c22, .slice A24 ([49]).length c24] (args4 (F24.get (t := 24) rfl) rfl (F24.get (t := 26) rfl) (F24.get (t := 28) rfl)) (kc_h w24 _ _ (M24.isb (k := 5) rfl) (M24.isb (k := 6) rfl)) ?_
 rintro _ w25 a25 ⟨y25, rfl, his25, hlo25, hls25, b25⟩ F25
 obtain ⟨M25, -⟩ := side_two M24 b25 7 8 his25 hlo25 hls25 (by decide)
 clear M24 hlo25 hls25 his25 b25
 refine zB 3 [(0, .bool false), (1, .pointer (some ⟨g5, 0, none⟩)), (2, .pointer (some ⟨g17, 0, none⟩)), (30, .agg (zk kC y25)), (31, numV kAA)] [] dnil [] F25 fun _ F26 => ?_
 clear F25
 refine zl (zc rfl) rfl F26 rfl M25 9 (t := 37) (c := zk ⟨0, 0, 0, 0, "".toUTF8, [], 0, 0, 0, [], 0, (fun _ => 0), (fun _ => 0)⟩ ⟨zN, zN⟩) (by unfold execOp; kernel_rfl) ?_
 intro g27 a27 w27 F27 M27
 clear F26 M25
 refine zl (zc rfl) rfl F27 rfl M27 10 (t := 27) (c := numA 0) (zda rfl) ?_
 intro g28 a28 w28 F28 M28
 clear F27 M27
 refine zha (zc rfl) rfl F28 M28 (k := 9) rfl _ _ _ rfl (F28.get (t := 3) rfl) (F28.get (t := 30) rfl) (zk kC y25) _ rfl (zL rfl) (znb (w := w28) ⟨(M28.isb (k := 7) rfl), (M28.isb (k := 8) rfl)⟩) (zz rfl) (by kernel_rfl) ?_
 intro w29 M29
 clear M28
 refine zha (zc rfl) rfl F28 M29 (k := 10) rfl _ _ _ rfl (F28.get (t := 4) rfl) (F28.get (t := 31) rfl) (numA kAA) _ rfl (zL rfl) (zma _) (zz rfl) zd ?_
 intro w30 M30
 clear M29
 refine hK19 _ _ ?_
 refine zSk fun _ hK31 => ?_
 refine zR ?_
 refine zh (w' := w30) (zc rfl) rfl F28 rfl _ (zea _ _ rfl (F28.get (t := 1) rfl) (M30.blk (k := 0) rfl) (zg 15 32603 16301 4) (zoa rfl) Tryz.underlying29 rfl (by kernel_rfl)) fun _ F32 => ?_
 clear F28
 refine zh (w' := w30) (zc rfl) rfl F32 rfl _ (zea _ _ rfl (F32.get (t := 2) rfl) (M30.blk (k := 4) rfl) (recA ⟨1, ({ data := #[117] }), [115], kV, 0, [], 0, 0, 0⟩ ⟨.slice A9 ([115]).length c9, zN⟩) (zoa rfl) Tryz.underlying33 rfl (by kernel_rfl)) fun _ F33 => ?_
 clear F32
 refine zh (w' := w30) (zc rfl) rfl F33 rfl (numV kAA) (zea _ _ rfl (F33.get (t := 4) rfl) (M30.blk (k := 10) rfl) (numA kAA) (zoa rfl) Tryz.underlying27 rfl zd) fun _ F34 => ?_
 clear F33
 refine zkb (zc rfl) rfl F34 rfl (run_litO M30 11 [50] 1 rfl (by decide) (by decide) rfl (by simp only [List.map_toArray, List.map_cons, List.map_nil]; kernel_rfl)) ?_
 intro v35 a35 w35 F35 M35
 clear F34 M30
 obtain ⟨A35, c35, rfl⟩ := (M35.isO (k := 11) rfl).shape
 refine zkb (zc rfl) rfl F35 rfl (run_cvL M35 (k := 11) rfl (by decide) _ rfl (F35.get (t := 36) rfl)) ?_
 intro v36 a36 w36 F36 M36
 clear F35 M35
 obtain ⟨A36, c36, rfl⟩ := (M36.isb (k := 11) rfl).shape
 refine zga (zc rfl) rfl F36 rfl rfl (zE Tryz.func14 rfl) #[.agg (zg 15 32603 16301 4), .agg (recA ⟨1, ({ data := #[117] }), [115], kV, 0, [], 0, 0, 0⟩ ⟨.slice A9 ([115]).length c9, zN⟩), numV kAA, .slice A36 ([50]).length c36] (args4 (F36.get (t := 33) rfl) (F36.get (t := 34) rfl) (F36.get (t := 35) rfl) (F36.get (t := 37) rfl)) (kc_o w36 _ _ (M36.isb (k := 1) rfl) (M36.isb (k := 11) rfl)) ?_
 rintro _ w37 a37 ⟨y37, rfl, his37, hlo37, hls37, b37⟩ F37
 obtain ⟨M37, -⟩ := side_two M36 b37 12 13 his37 hlo37 hls37 (by decide)
 clear M36 hlo37 hls37 his37 b37
 refine zB 4 [(0, .bool false), (2, .pointer (some ⟨g17, 0, none⟩)), (3, .pointer (some ⟨g27, 0, none⟩)), (39, .agg (zk kS y37)), (40, numV (offB 32603 16301 4 kV kB)), (41, .bool true)] [] dnil [] F37 fun _ F38 => ?_
 clear F37
 refine zl (zc rfl) rfl F38 rfl M37 14 (t := 37) (c := zk ⟨0, 0, 0, 0, "".toUTF8, [], 0, 0, 0, [], 0, (fun _ => 0), (fun _ => 0)⟩ ⟨zN, zN⟩) (by unfold execOp; kernel_rfl) ?_
 intro g39 a39 w39 F39 M39
 clear F38 M37
 refine zl (zc rfl) rfl F39 rfl M39 15 (t := 27) (c := numA 0) (zda rfl) ?_
 intro g40 a40 w40 F40 M40
 clear F39 M39
 refine zha (zc rfl) rfl F40 M40 (k := 14) rfl _ _ _ rfl (F40.get (t := 5) rfl) (F40.get (t := 39) rfl) (zk kS y37) _ rfl (zL rfl) (znb (w := w40) ⟨(M40.isb (k := 12) rfl), (M40.isb (k := 13) rfl)⟩) (zz rfl) (by kernel_rfl) ?_
 intro w41 M41
 clear M40
 refine zha (zc rfl) rfl F40 M41 (k := 15) rfl _ _ _ rfl (F40.get (t := 6) rfl) (F40.get (t := 40) rfl) (numA (offB 32603 16301 4 kV kB)) _ rfl (zL rfl) (zma _) (zz rfl) zd ?_
 intro w42 M42
 clear M41
 refine rm rfl F40 fun _ F43 => ?_
 refine hK31 _ _ ?_
 refine zSk fun _ hK44 => ?_
 refine zR ?_
 refine zB 4 [(0, .bool false), (5, .pointer (some ⟨g39, 0, none⟩)), (7, .bool true), (43, .agg (zk kC y25)), (45, .slice A9 ([115]).length c9), (46, numV (offB 32603 16301 4 kV kB))] [0, 1, 2] (zza (M42.blk (k := 9) rfl) (zza (M42.blk (k := 4) rfl) (zza (M42.blk (k := 15) rfl) dnil))) [g27, g17, g40] F43 fun _ F45 => ?_
 clear F43
 refine zga (zc rfl) rfl F45 rfl rfl (zE Tryz.func16 rfl) #[.agg (zk kC y25), .slice A9 ([115]).length c9, numV (offB 32603 16301 4 kV kB)] (z7b (F45.get (t := 43) rfl) (F45.get (t := 45) rfl) (F45.get (t := 46) rfl)) (kc_p w42 _ _ ⟨(M42.isb (k := 7) rfl), (M42.isb (k := 8) rfl)⟩ (M42.isb (k := 1) rfl)) ?_
 rintro _ w46 a46 ⟨y46, rfl, his46, hlo46, hls46, b46⟩ F46
 obtain ⟨M46, -⟩ := side_two M42 b46 16 17 his46 hlo46 hls46 (by decide)
 clear M42 hlo46 hls46 his46 b46
 refine zB 4 [(0, .bool false), (5, .pointer (some ⟨g39, 0, none⟩)), (7, .bool true), (48, .agg (zk kD y46)), (49, .agg (zo kD.Pr)), (50, .bool true)] [] dnil [] F46 fun _ F47 => ?_
 clear F46
 refine zl (zc rfl) rfl F47 rfl M46 18 (t := 37) (c := zk ⟨0, 0, 0, 0, "".toUTF8, [], 0, 0, 0, [], 0, (fun _ => 0), (fun _ => 0)⟩ ⟨zN, zN⟩) (by unfold execOp; kernel_rfl) ?_
 intro g48 a48 w48 F48 M48
 clear F47 M46
 refine zl (zc rfl) rfl F48 rfl M48 19 (t := 35) (c := zo (fun _ => 0)) (by unfold execOp; kernel_rfl) ?_
 intro g49 a49 w49 F49 M49
 clear F48 M48
 refine zha (zc rfl) rfl F49 M49 (k := 18) rfl _ _ _ rfl (F49.get (t := 8) rfl) (F49.get (t := 48) rfl) (zk kD y46) _ rfl (zL rfl) (znb (w := w49) ⟨(M49.isb (k := 16) rfl), (M49.isb (k := 17) rfl)⟩) (zz rfl) (by kernel_rfl) ?_
 intro w50 M50
 clear M49
 refine zha (zc rfl) rfl F49 M50 (k := 19) rfl _ _ _ rfl (F49.get (t := 9) rfl) (F49.get (t := 49) rfl) (zo kD.Pr) _ rfl (zL rfl) (zua _) (zz rfl) (by kernel_rfl) ?_
 intro w51 M51
 clear M50
 refine rm rfl F49 fun _ F52 => ?_
 refine hK44 _ _ ?_
 refine zSk fun _ hK53 => ?_
 have hD54 := (zza (M51.blk (k := 14) rfl) (zza (M51.blk (k := 19) rfl) dnil))
 refine region_fxL F52 (SK [.inl (.agg (zk kS y37)), .inl (.agg (zo kD.Pr)), .inr (StK.bytes (sumY kD.Pr)), .inl (.tuple #[.agg (zo (ansY kS.Ky kS.Pr)), .bool true]), .inl (.tuple #[.agg (zo (ansY kS.Ky kS.Pr)), .bool true]), .inl (.agg (zo (ansY kS.Ky kS.Pr))), .inl (.bool true), .inr (StK.new w51.heap.size (zo (fun _ => 0)) 35 (by decide))]) 8 6 51 1 4 #[.agg (zo (ansY kS.Ky kS.Pr)), .bool true] (.bool true) rfl (by kernel_rfl) rfl (by kernel_rfl) (fun _ _ h => h) rfl (fun _ _ => Iff.rfl) rfl ⟨hopP F52 hD54 0 (some g39) (by kernel_rfl), hopP F52 hD54 1 (some g49) (by kernel_rfl), ?_, ?_, hop0 F52 (by kernel_rfl), hop0 F52 (by kernel_rfl), hop0 F52 (by kernel_rfl), ?_, trivial⟩ ?_
 ·intro ua uw hb hd
  have e53 : ua.eval (.tmp 53) = .agg (zo kD.Pr) := hd 53 (by decide)
  exact zu (F := (StK.bytes (sumY kD.Pr)).F) (zc rfl) hb.size rfl #[.agg (zo kD.Pr)] (zya e53) (zE Tryz.func18 rfl) ((kc_b kD.Pr kn_ok.2.pr uw))
 ·intro ua uw hb hd
  have e52 : ua.eval (.tmp 52) = .agg (zk kS y37) := hd 52 (by decide)
  have e54 : IsB uw (sumY kD.Pr) (ua.eval (.tmp 54)) := hd 54 (by decide)
  exact zu (F := (StK.eq (.tuple #[.agg (zo (ansY kS.Ky kS.Pr)), .bool true])).F) (zc rfl) hb.size rfl #[.agg (zk kS y37), (ua.eval (.tmp 54))] (zlb e52 rfl) (zE Tryz.func17 rfl) (zfa ((kc_c uw _ _ ⟨((M51.step hb).isb (k := 12) rfl), ((M51.step hb).isb (k := 13) rfl)⟩ e54)))
 ·intro ua uw hb hd
  exact hop_new (zc rfl) hb.size hb.size (by decide) (by unfold execOp; kernel_rfl)
 intro p55 a55 w55 b55 G55 y55
 obtain ⟨-, -, -, -, -, q5, q6, q7, -⟩ := y55
 obtain ⟨gn7x54, r7, hg7, hc7⟩ := q7 (by decide)
 replace r7 : p55 7 = .pointer (some ⟨gn7x54, 0, none⟩) := r7
 have r5 : p55 5 = .agg (zo (ansY kS.Ky kS.Pr)) := q5 (by decide)
 have r6 : p55 6 = .bool true := q6 (by decide)
 simp only [List.take, layV, Nat.zero_add, Nat.reduceAdd, r5, r6, r7] at G55
 have M55 := M51.newb b55.below 20 hg7 hc7
 clear hg7 hc7 r7
 clear F52 M51 r5 q5 r6 q6
 refine st_ex M55 (k := 20) rfl _ _ _ rfl (G55.get (t := 11) rfl) (G55.get (t := 56) rfl) (zo (ansY kS.Ky kS.Pr)) _ rfl (zL rfl) (zua _) (zz rfl) (by kernel_rfl) ?_
 intro w56 M56
 clear M55
 refine rm rfl G55 fun _ F57 => ?_
 refine hK53 _ _ ?_
 refine zSk fun _ hK58 => ?_
 have hD59 := (zza (M56.blk (k := 18) rfl) (zza (M56.blk (k := 20) rfl) (zza (M56.blk (k := 14) rfl) dnil)))
 refine zub F57 (SK [.inl (.agg (zk ⟨0, 0, 0, 0, "".toUTF8, [], 0, 0, 0, [], 0, (fun _ => 0), (fun _ => 0)⟩ ⟨zN, zN⟩)), .inl (.bool false), .inl (.bool true), .inl (.bool true), .inl (.bool true), .inl (.bool true), .inl (.bool true), .inl (.bool true), .inl (.bool true), .inl (.bool true), .inl (.bool true), .inl (.bool true), .inl (.bool true), .inl (.agg (zk kD y46)), .inl (.agg (zo (ansY kS.Ky kS.Pr))), .inr (StK.bytes (sumY (ansY kS.Ky kS.Pr))), .inl (.bool true), .inl (.bool true), .inl (.bool true), .inl (.pointer (some ⟨g48, 60, none⟩)), .inl (.agg (zo kD.Ky)), .inl (.pointer (some ⟨g39, 60, none⟩)), .inl (.agg (zo kS.Ky)), .inl (.bool true), .inl (.bool true), .inl (.bool true)]) 26 rfl (by kernel_rfl) ⟨?_, ?_, hop0 F57 (by kernel_rfl), hop0 F57 (by kernel_rfl), hop0 F57 (by kernel_rfl), hop0 F57 (by kernel_rfl), hop0 F57 (by kernel_rfl), hop0 F57 (by kernel_rfl), hop0 F57 (by kernel_rfl), hop0 F57 (by kernel_rfl), hop0 F57 (by kernel_rfl), hop0 F57 (by kernel_rfl), hop0 F57 (by kernel_rfl), hopP F57 hD59 0 (some g48) (by kernel_rfl), hopP F57 hD59 1 (some gn7x54) (by kernel_rfl), ?_, ?_, hop0 F57 (by kernel_rfl), hop0 F57 (by kernel_rfl), hop0 F57 (by kernel_rfl), hopP F57 hD59 0 (some g48) (by kernel_rfl), hop0 F57 (by kernel_rfl), hopP F57 hD59 2 (some g39) (by kernel_rfl), ?_, hop0 F57 (by kernel_rfl), hop0 F57 (by kernel_rfl), trivial⟩ ?_
 ·intro ua uw hb hd
  exact zq (F := (StK.eq (.agg (zk ⟨0, 0, 0, 0, "".toUTF8, [], 0, 0, 0, [], 0, (fun _ => 0), (fun _ => 0)⟩ ⟨zN, zN⟩))).F) (zc rfl) (.agg (zk ⟨0, 0, 0, 0, "".toUTF8, [], 0, 0, 0, [], 0, (fun _ => 0), (fun _ => 0)⟩ ⟨zN, zN⟩)) (by unfold execOp; kernel_rfl) rfl
 ·intro ua uw hb hd
  have e58 : ua.eval (.tmp 58) = .agg (zk ⟨0, 0, 0, 0, "".toUTF8, [], 0, 0, 0, [], 0, (fun _ => 0), (fun _ => 0)⟩ ⟨zN, zN⟩) := hd 58 (by decide)
  exact zu (F := (StK.eq (.bool false)).F) (zc rfl) hb.size rfl #[.agg (zk ⟨0, 0, 0, 0, "".toUTF8, [], 0, 0, 0, [], 0, (fun _ => 0), (fun _ => 0)⟩ ⟨zN, zN⟩), zN] (zlb e58 rfl) (zE Tryz.func19 rfl) (zfa ((kc_z uw)))
 ·intro ua uw hb hd
  have eg : ua.eval (.tmp 70) = .bool true := hd 70 (by decide)
  have e72 : ua.eval (.tmp 72) = .agg (zo (ansY kS.Ky kS.Pr)) := hd 72 (by decide)
  exact zu (F := (StK.bytes (sumY (ansY kS.Ky kS.Pr))).F) (zx rfl rfl rfl eg) hb.size rfl #[.agg (zo (ansY kS.Ky kS.Pr))] (zya e72) (zE Tryz.func18 rfl) ((kc_b (ansY kS.Ky kS.Pr) (zmc _) uw))
 ·intro ua uw hb hd
  have eg : ua.eval (.tmp 70) = .bool true := hd 70 (by decide)
  have e71 : ua.eval (.tmp 71) = .agg (zk kD y46) := hd 71 (by decide)
  have e73 : IsB uw (sumY (ansY kS.Ky kS.Pr)) (ua.eval (.tmp 73)) := hd 73 (by decide)
  exact zu (F := (StK.eq (.bool true)).F) (zx rfl rfl rfl eg) hb.size rfl #[.agg (zk kD y46), (ua.eval (.tmp 73))] (zlb e71 rfl) (zE Tryz.func19 rfl) (zfa ((kc_d uw _ _ ⟨((M56.step hb).isb (k := 16) rfl), ((M56.step hb).isb (k := 17) rfl)⟩ e73)))
 ·intro ua uw hb hd
  have eg : ua.eval (.tmp 76) = .bool true := hd 76 (by decide)
  have e78 : ua.eval (.tmp 78) = .agg (zo kD.Ky) := hd 78 (by decide)
  have e80 : ua.eval (.tmp 80) = .agg (zo kS.Ky) := hd 80 (by decide)
  exact zq (F := (StK.eq (.bool true)).F) (zx rfl rfl rfl eg) (.bool true) (run_eq16 _ _ rfl kS.Ky (e78.trans (by rw [kn_Ky])) e80) rfl
 intro p60 a60 w60 b60 G60 y60
 obtain ⟨-, -, -, -, -, -, -, -, -, -, -, -, -, -, -, -, -, -, -, -, -, -, -, -, -, q25, -⟩ := y60
 have r25 : p60 25 = .bool true := q25 (by decide)
 simp only [List.take, layV, Nat.zero_add, Nat.reduceAdd, r25] at G60
 have M60 := M56.kc b60
 clear F57 M56 r25 q25
 refine hK58 _ _ ?_
 refine wp_ret ?_
 try simp only [Exit.then, Exit.inBlock, Exit.jump]
 exact bodyPost_ret (res1 rfl (G60.get (t := 0) rfl)) G60.defers ⟨rfl, M60.below⟩
theorem SrpSecrets_walk (a0 : Int) (hk0 : -9223372036854775808 ≤ a0) (hl0 : a0 < 9223372036854775808)
  (A1 : Option Addr) (n1 cap1 : Nat) (l1 : List UInt8) (hn1 : l1.length = n1) (hc1 : n1 ≤ cap1) (hm1 : cap1 ≤ maxLen) (hz1 : A1 = none → cap1 = 0)
  (A2 : Option Addr) (n2 cap2 : Nat) (l2 : List UInt8) (hn2 : l2.length = n2) (hc2 : n2 ≤ cap2) (hm2 : cap2 ≤ maxLen) (hz2 : A2 = none → cap2 = 0)
  (A3 : Option Addr) (n3 cap3 : Nat) (l3 : List UInt8) (hn3 : l3.length = n3) (hc3 : n3 ≤ cap3) (hm3 : cap3 ≤ maxLen) (hz3 : A3 = none → cap3 = 0)
  (A4 : Option Addr) (n4 cap4 : Nat) (l4 : List UInt8) (hn4 : l4.length = n4) (hc4 : n4 ≤ cap4) (hm4 : cap4 ≤ maxLen) (hz4 : A4 = none → cap4 = 0) (w : World) (hr1 : Rd w A1 l1) (hr2 : Rd w A2 l2) (hr3 : Rd w A3 l3) (hr4 : Rd w A4 l4) :
  Calls Tryz.prog 6 #[.int .i64 a0, .slice A1 n1 cap1, .slice A2 n2 cap2, .slice A3 n3 cap3, .slice A4 n4 cap4] w fun e w' => e = .returned (.bool true) ∧ Below w.heap.size w w' := by
 have ib1 : IsB w l1 (.slice A1 n1 cap1) := hr1.isB' hn1 hc1 hm1 hz1
 have ib2 : IsB w l2 (.slice A2 n2 cap2) := hr2.isB' hn2 hc2 hm2 hz2
 have ib3 : IsB w l3 (.slice A3 n3 cap3) := hr3.isB' hn3 hc3 hm3 hz3
 have ib4 : IsB w l4 (.slice A4 n4 cap4) := hr4.isB' hn4 hc4 hm4 hz4
 obtain ⟨k, p, hg, kG⟩ := group_any hk0 hl0
 obtain ⟨hpa, hpb⟩ : 4000 < p ∧ p < 16777216 := ⟨hg.2.2.2.1, hg.2.2.2.2.1⟩
 have po : p % 2 = 1 := hg.2.2.1
 have hp1 : 1 < p := by omega
 have p4 : p < 4294967296 := by omega
 have hP : p < 4294967296 ^ 8 := Nat.lt_trans p4 (by decide)
 have h2 : 2 < p / 2 := by omega
 have hQ4 : p / 2 ≤ 4294967296 := by omega
 have hQ : p / 2 < 4294967296 ^ 8 := Nat.lt_of_le_of_lt hQ4 (by decide)
 have hP0 : 0 < p := by omega
 have hm : ∀ x, x % p < 4294967296 ^ 8 := fun x => Nat.lt_trans (Nat.mod_lt _ hP0) hP
 have gfour : (4 : Nat) < 4294967296 ^ 8 := by decide
 obtain ⟨sh, hsh⟩ : ∃ b, shortB [l1, l2, l3, l4] = b := ⟨_, rfl⟩
 refine zqa (args := [.int .i64 a0, .slice A1 n1 cap1, .slice A2 n2 cap2, .slice A3 n3 cap3, .slice A4 n4 cap4]) 123 Tryz.func6 rfl rfl rfl ?_
 intro fa F
 have M := Mx.start w
 replace M := M.argB 0 ib1 (fun g e => by cases e)
 replace M := M.argB 1 ib2 (fun g e => by cases e)
 replace M := M.argB 2 ib3 (fun g e => by cases e)
 replace M := M.argB 3 ib4 (fun g e => by cases e)
 refine zSk fun _ hK21 => ?_
 refine zR ?_
 refine rm rfl F fun _ F22 => ?_
 refine hK21 _ _ ?_
 refine zSk fun _ hK23 => ?_
 refine zSk fun _ hK24 => ?_
 refine zR ?_
 refine zga (zc rfl) rfl F22 rfl rfl (zE Tryz.func9 rfl) #[] (args0) (zka (sknown_any w)) ?_
 rintro _ w25 a25 ⟨rfl, b25⟩ F25
 have M25 := M.step b25
 refine zh (w' := w25) (zc rfl) rfl F25 rfl (.bool false) (zqc _ _ rfl (F25.get (t := 21) rfl)) fun _ F26 => ?_
 clear F25
 refine hK24 _ _ ?_
 refine wp_cond_false (F26.get (t := 22) rfl) ?_
 refine wp_skip ?_
 refine hK23 _ _ ?_
 refine zSk fun _ hK27 => ?_
 refine zSk fun _ hK28 => ?_
 refine zR ?_
 refine rm rfl F26 fun _ F29 => ?_
 refine rm rfl F29 fun _ F30 => ?_
 refine rm rfl F30 fun _ F31 => ?_
 refine rm rfl F31 fun _ F32 => ?_
 refine zhc (zc rfl) rfl F32 rfl M25 4 (t := 22) (c := #[.slice A1 n1 cap1, .slice A2 n2 cap2, .slice A3 n3 cap3, .slice A4 n4 cap4]) (k := 4) (m := 4) (y_litG 54 22 (s := 1) (zv := zN) Tryz.underlying54 (by kernel_rfl) (by kernel_rfl) rfl (#[.slice A1 n1 cap1, .slice A2 n2 cap2, .slice A3 n3 cap3, .slice A4 n4 cap4]) (by decide) (by decide) (by simp only [List.map_toArray, List.map_cons, List.map_nil, (F32.get (t := 23) rfl), (F32.get (t := 24) rfl), (F32.get (t := 25) rfl), (F32.get (t := 26) rfl)]; kernel_rfl)) ?_
 intro g33 a33 w33 F33 M33
 clear F32 M25
 refine zga (zc rfl) rfl F33 rfl rfl (zE Tryz.func10 rfl) #[.slice (some ⟨g33, 0, none⟩) 4 4] (zya (F33.get (t := 27) rfl)) (zka ((hsh ▸ short_any [l1, l2, l3, l4] _ w33 (isP_blk (M33.blk (k := 4) rfl) rfl rfl (show 4 ≤ 1000 by decide) (fun j l hj => by
   match j, hj with
   | 0, hj => obtain rfl : l1 = l := Option.some.inj hj; exact ⟨_, rfl, (M33.isb (k := 0) rfl)⟩
   | 1, hj => obtain rfl : l2 = l := Option.some.inj hj; exact ⟨_, rfl, (M33.isb (k := 1) rfl)⟩
   | 2, hj => obtain rfl : l3 = l := Option.some.inj hj; exact ⟨_, rfl, (M33.isb (k := 2) rfl)⟩
   | 3, hj => obtain rfl : l4 = l := Option.some.inj hj; exact ⟨_, rfl, (M33.isb (k := 3) rfl)⟩
   | n + 4, hj => cases hj))))) ?_
 rintro _ w34 a34 ⟨rfl, b34⟩ F34
 have M34 := M33.step b34
 cases sh
 ·refine zh (w' := w34) (zc rfl) rfl F34 rfl (.bool true) (zqc _ _ rfl (F34.get (t := 28) rfl)) fun _ F35 => ?_
  clear F34
  refine hK28 _ _ ?_
  refine wp_cond_true (F35.get (t := 29) rfl) ?_
  refine zSk fun _ hK36 => ?_
  refine zR ?_
  refine rm rfl F35 fun _ F37 => ?_
  refine hK36 _ _ ?_
  refine wp_ret ?_
  try simp only [Exit.then, Exit.inBlock, Exit.jump]
  exact bodyPost_ret (res1 rfl (F37.get rfl)) F37.defers ⟨rfl, M34.below⟩
 ·have hs0 : l1.length ≤ 64 := short_mem hsh (by simp)
  have hs1 : l2.length ≤ 64 := short_mem hsh (by simp)
  have hs2 : l3.length ≤ 64 := short_mem hsh (by simp)
  have hs3 : l4.length ≤ 64 := short_mem hsh (by simp)
  have hP31 : p < 2147483648 := by omega
  have hQ5 : p / 2 < 4294967296 := by omega
  obtain ⟨V1, hV1⟩ : ∃ V, 4 ^ secN (p / 2) (sBy ({ data := #[117] } : ByteArray)) l1 l2 % p = V := ⟨_, rfl⟩
  have bV1 : V1 < 4294967296 ^ 8 := by rw [← hV1]; exact hm _
  have kV1 := fun (w : World) (vp vs : Value) (hp : IsB w l1 vp) (hs : IsB w l2 vs) => verifier_any k p (p / 2) 4 po hp1 hP h2 hQ gfour ({ data := #[117] } : ByteArray) (show 1 ≤ 1000 by decide) l1 l2 vp vs w hp hs
  rw [hV1] at kV1
  obtain ⟨Oa, hOa⟩ : ∃ O, texN (p / 2) [97] [l3] = O := ⟨_, rfl⟩
  have oa4 : Oa < 4294967296 := by rw [← hOa]; exact Nat.lt_of_lt_of_le (expN_bd h2 _).2 hQ4
  obtain ⟨A, hA⟩ : ∃ A, 4 ^ Oa % p = A := ⟨_, rfl⟩
  have bA : A < 4294967296 ^ 8 := by rw [← hA]; exact hm _
  obtain ⟨C, hC⟩ : ∃ C : SideN, ⟨k, p, p / 2, 4, ({ data := #[117] } : ByteArray), l1, 4 ^ Oa % p, 0, Oa, [], 0, fun _ => 0, fun _ => 0⟩ = C := ⟨_, rfl⟩
  have kH := shello_is k p (p / 2) 4 po hp1 hP h2 hQ gfour ({ data := #[117] } : ByteArray) l1 l3 (show l1.length ≤ 100000 by omega) (X := C) (A := A) (by rw [hOa]; exact hC) (by rw [hOa]; exact hA)
  obtain ⟨cP, cQ, cO, cg, cs, cl⟩ : C.P = p ∧ C.Q = p / 2 ∧ C.O = Oa ∧ C.g = 4 ∧ C.s = ({ data := #[117] } : ByteArray) ∧ C.lp = l1 := by rw [← hC]; exact ⟨rfl, rfl, rfl, rfl, rfl, rfl⟩
  obtain ⟨Ob, hOb⟩ : ∃ O, texN (p / 2) [98] [l4] = O := ⟨_, rfl⟩
  obtain ⟨Ob0, Ob1⟩ : 1 ≤ Ob ∧ Ob < p / 2 := by rw [← hOb]; exact expN_bd h2 _
  obtain ⟨ok, hok⟩ : ∃ b, offOk p (p / 2) 4 V1 A Ob = b := ⟨_, rfl⟩
  obtain ⟨S, hS⟩ : ∃ S, cond ok (zjb (offS k p (p / 2) 4 ({ data := #[117] } : ByteArray) l2 V1 A Ob) (offN p (p / 2) 4 V1 A Ob)) zeroS = S := ⟨_, rfl⟩
  obtain ⟨B, hB⟩ : ∃ B, cond ok (offB p (p / 2) 4 V1 Ob) 0 = B := ⟨_, rfl⟩
  have kO := soffer_is k p (p / 2) 4 po hp1 p4 h2 hQ gfour ⟨1, ({ data := #[117] } : ByteArray), l2, V1, 0, [], 0, 0, 0⟩ bV1 (show 1 ≤ 1000 by decide) (show l2.length ≤ 100000 by omega) A bA l4 (ok := ok) (X := S) (B := B) (by rw [hOb]; exact hok) (by rw [hOb]; exact hS) (by rw [hOb]; exact hB)
  have Bn : ok = false → B = 0 := fun h => by rw [← hB, h]; rfl
  have bB : B < 4294967296 ^ 8 := cond_lt hB (offB_lt hP0 hP) (by decide)
  obtain ⟨U, hU⟩ : ∃ U, uN (p / 2) A B = U := ⟨_, rfl⟩
  have bU : U < 4294967296 ^ 8 := by rw [← hU]; exact Nat.lt_trans (expN_bd h2 _).2 hQ
  have kU := fun (w : World) (u : Value) (h : IsP w [[117], zt A, zt B] u) => rexp7_any k p (p / 2) 4 h2 hQ5 [[117], zt A, zt B] (show 3 ≤ 6 by decide) (by simp [z0a]) u w h
  rw [show expN (p / 2) (sumY (outF (macW [] [[117], zt A, zt B]))) = U from hU] at kU
  have kEa := fun (w : World) (u : Value) (h : IsP w [[97], l3] u) => rexp7_any k p (p / 2) 4 h2 hQ5 [[97], l3] (show 2 ≤ 6 by decide) (by simp only [List.mem_cons, List.not_mem_nil, or_false, forall_eq_or_imp, forall_eq]; exact ⟨by decide, by omega⟩) u w h
  rw [show expN (p / 2) (sumY (outF (macW [] [[97], l3]))) = Oa from hOa] at kEa
  have kEb := fun (w : World) (u : Value) (h : IsP w [[98], l4] u) => rexp7_any k p (p / 2) 4 h2 hQ5 [[98], l4] (show 2 ≤ 6 by decide) (by simp only [List.mem_cons, List.not_mem_nil, or_false, forall_eq_or_imp, forall_eq]; exact ⟨by decide, by omega⟩) u w h
  rw [show expN (p / 2) (sumY (outF (macW [] [[98], l4]))) = Ob from hOb] at kEb
  obtain ⟨T1, hT1⟩ : ∃ T, V1 ^ U % p = T := ⟨_, rfl⟩
  have bT1 : T1 < 4294967296 ^ 8 := by rw [← hT1]; exact hm _
  obtain ⟨T2, hT2⟩ : ∃ T, A * T1 % p = T := ⟨_, rfl⟩
  have bT2 : T2 < 4294967296 ^ 8 := by rw [← hT2]; exact hm _
  obtain ⟨N, hN⟩ : ∃ N, T2 ^ Ob % p = N := ⟨_, rfl⟩
  have hp31 : p < 2147483648 := hP31
  have kR1 := fun w => rraise_any k p (p / 2) 4 hp1 hP31 V1 U bV1 bU w
  rw [hT1] at kR1
  have kM := fun w => rtimes_any k p (p / 2) 4 hp1 hP31 A T1 bA bT1 w
  rw [hT2] at kM
  have kR2 := fun w => rraise_any k p (p / 2) 4 hp1 hP31 T2 Ob bT2 (Nat.lt_trans Ob1 hQ) w
  rw [hN] at kR2
  have kR3 := fun w => rraise_any k p (p / 2) 4 hp1 hP31 4 Oa gfour (Nat.lt_trans oa4 (by decide)) w
  rw [hA, ← cO] at kR3
  obtain ⟨Z, hZ⟩ : ∃ S, macW [] [[107, 101, 121], zt N] = S := ⟨_, rfl⟩
  have kK := fun (w : World) (u : Value) (h : IsP w [[107, 101, 121], zt N] u) => srof_b h (show 2 ≤ 6 by decide) (by simp [z0a])
  rw [hZ] at kK
  have kHas := fun w => rhas_any k p (p / 2) 4 hp1 hP31 V1 bV1 hQ w
  have hfin : ok = true → S.O = Ob ∧ S.Ky = outF Z ∧ hasB V1 p (p / 2) = true := fun h => by
   rw [h] at hok hS hB
   rw [cond_true] at hS hB
   refine ⟨by rw [← hS]; rfl, ?_, ?_⟩
   ·rw [← hS, ← hZ, ← hN, ← hT2, ← hT1, ← hU, ← hB]; rfl
   ·unfold offOk at hok
    simp only [Bool.and_eq_true] at hok
    exact hok.1.2
  clear hOa hA hC hOb hok hS hB hV1 hU hT1 hT2 hN hZ
  refine zh (w' := w34) (zc rfl) rfl F34 rfl (.bool false) (zqc _ _ rfl (F34.get (t := 28) rfl)) fun _ F38 => ?_
  clear F34
  refine hK28 _ _ ?_
  refine wp_cond_false (F38.get (t := 29) rfl) ?_
  refine wp_skip ?_
  refine hK27 _ _ ?_
  refine zSk fun _ hK39 => ?_
  refine zR ?_
  refine rm rfl F38 fun _ F40 => ?_
  refine zga (zc rfl) rfl F40 rfl rfl (zE Tryz.func11 rfl) #[.int .i64 a0] (zya (F40.get (t := 30) rfl)) (zka (kG w34)) ?_
  rintro _ w41 a41 ⟨rfl, b41⟩ F41
  have M41 := M34.step b41
  refine zl (zc rfl) rfl F41 rfl M41 5 (t := 29) (c := zg 0 0 0 0) (by unfold execOp; rw [z3b]; kernel_rfl) ?_
  intro g42 a42 w42 F42 M42
  clear F41 M41
  refine zha (zc rfl) rfl F42 M42 (k := 5) rfl _ _ _ rfl (F42.get (t := 11) rfl) (F42.get (t := 31) rfl) (zg k p (p / 2) 4) _ rfl (zL rfl) (zdc _ _ _ _) (zz rfl) (by kernel_rfl) ?_
  intro w43 M43
  clear M42
  refine hK39 _ _ ?_
  refine zSk fun _ hK44 => ?_
  refine zR ?_
  refine zh (w' := w43) (zc rfl) rfl F42 rfl _ (zea _ _ rfl (F42.get (t := 11) rfl) (M43.blk (k := 5) rfl) (zg k p (p / 2) 4) (zoa rfl) Tryz.underlying29 rfl (by kernel_rfl)) fun _ F45 => ?_
  clear F42
  refine rm rfl F45 fun _ F46 => ?_
  refine rm rfl F46 fun _ F47 => ?_
  refine zga (zc rfl) rfl F47 rfl rfl (zE Tryz.func12 rfl) #[.agg (zg k p (p / 2) 4), .string ({ data := #[117] }), .slice A1 n1 cap1, .slice A2 n2 cap2] (args4 (F47.get (t := 32) rfl) rfl (F47.get (t := 33) rfl) (F47.get (t := 34) rfl)) (zka ((kV1 w43 _ _ (M43.isb (k := 0) rfl) (M43.isb (k := 1) rfl)))) ?_
  rintro _ w48 a48 ⟨rfl, b48⟩ F48
  have M48 := M43.step b48
  refine zl (zc rfl) rfl F48 rfl M48 6 (t := 27) (c := numA 0) (zda rfl) ?_
  intro g49 a49 w49 F49 M49
  clear F48 M48
  refine zha (zc rfl) rfl F49 M49 (k := 6) rfl _ _ _ rfl (F49.get (t := 12) rfl) (F49.get (t := 35) rfl) (numA V1) _ rfl (zL rfl) (zma _) (zz rfl) zd ?_
  intro w50 M50
  clear M49
  refine hK44 _ _ ?_
  refine zSk fun _ hK51 => ?_
  refine zR ?_
  refine zh (w' := w50) (zc rfl) rfl F49 rfl _ (zea _ _ rfl (F49.get (t := 11) rfl) (M50.blk (k := 5) rfl) (zg k p (p / 2) 4) (zoa rfl) Tryz.underlying29 rfl (by kernel_rfl)) fun _ F52 => ?_
  clear F49
  refine rm rfl F52 fun _ F53 => ?_
  refine rm rfl F53 fun _ F54 => ?_
  refine zga (zc rfl) rfl F54 rfl rfl (zE Tryz.func13 rfl) #[.agg (zg k p (p / 2) 4), .string ({ data := #[117] }), .slice A1 n1 cap1, .slice A3 n3 cap3] (args4 (F54.get (t := 37) rfl) rfl (F54.get (t := 38) rfl) (F54.get (t := 39) rfl)) (kH w50 _ _ (M50.isb (k := 0) rfl) (M50.isb (k := 2) rfl)) ?_
  rintro _ w55 a55 ⟨y55, rfl, his55, hlo55, hls55, b55⟩ F55
  obtain ⟨M55, -⟩ := side_two M50 b55 7 8 his55 hlo55 hls55 (by decide)
  clear M50 hlo55 hls55 his55 b55
  refine zAx 3 [(36, .tuple #[.agg (zk C y55), numV A]), (41, .agg (zk C y55)), (42, numV A)] [] dnil [] F55 fun _ F56 => ?_
  clear F55
  refine zl (zc rfl) rfl F56 rfl M55 9 (t := 37) (c := zk ⟨0, 0, 0, 0, "".toUTF8, [], 0, 0, 0, [], 0, (fun _ => 0), (fun _ => 0)⟩ ⟨zN, zN⟩) (by unfold execOp; kernel_rfl) ?_
  intro g57 a57 w57 F57 M57
  clear F56 M55
  refine zl (zc rfl) rfl F57 rfl M57 10 (t := 27) (c := numA 0) (zda rfl) ?_
  intro g58 a58 w58 F58 M58
  clear F57 M57
  refine zha (zc rfl) rfl F58 M58 (k := 9) rfl _ _ _ rfl (F58.get (t := 13) rfl) (F58.get (t := 41) rfl) (zk C y55) _ rfl (zL rfl) (znb (w := w58) ⟨(M58.isb (k := 7) rfl), (M58.isb (k := 8) rfl)⟩) (zz rfl) (by kernel_rfl) ?_
  intro w59 M59
  clear M58
  refine zha (zc rfl) rfl F58 M59 (k := 10) rfl _ _ _ rfl (F58.get (t := 14) rfl) (F58.get (t := 42) rfl) (numA A) _ rfl (zL rfl) (zma _) (zz rfl) zd ?_
  intro w60 M60
  clear M59
  refine hK51 _ _ ?_
  refine zSk fun _ hK61 => ?_
  refine zR ?_
  refine zAx 3 [(44, .agg (zg k p (p / 2) 4)), (45, .slice A2 n2 cap2), (46, numV V1)] [0, 1] (zza (M60.blk (k := 5) rfl) (zza (M60.blk (k := 6) rfl) dnil)) [g42, g49] F58 fun _ F62 => ?_
  clear F58
  refine zh (w' := w60) (zc rfl) rfl F62 rfl (.agg (recA ⟨1, ({ data := #[117] }), l2, V1, 0, [], 0, 0, 0⟩ ⟨.slice A2 n2 cap2, zN⟩)) (by unfold execOp; simp only [List.map_toArray, List.map_cons, List.map_nil, (F62.get (t := 45) rfl), (F62.get (t := 46) rfl)]; kernel_rfl) fun _ F63 => ?_
  clear F62
  refine zh (w' := w60) (zc rfl) rfl F63 rfl (numV A) (zea _ _ rfl (F63.get (t := 14) rfl) (M60.blk (k := 10) rfl) (numA A) (zoa rfl) Tryz.underlying27 rfl zd) fun _ F64 => ?_
  clear F63
  refine rm rfl F64 fun _ F65 => ?_
  refine zga (zc rfl) rfl F65 rfl rfl (zE Tryz.func14 rfl) #[.agg (zg k p (p / 2) 4), .agg (recA ⟨1, ({ data := #[117] }), l2, V1, 0, [], 0, 0, 0⟩ ⟨.slice A2 n2 cap2, zN⟩), numV A, .slice A4 n4 cap4] (args4 (F65.get (t := 44) rfl) (F65.get (t := 47) rfl) (F65.get (t := 48) rfl) (F65.get (t := 49) rfl)) (kO w60 _ _ ⟨(M60.isb (k := 1) rfl), zva _⟩ (M60.isb (k := 3) rfl)) ?_
  rintro _ w66 a66 ⟨y66, rfl, his66, hlo66, hls66, b66⟩ F66
  obtain ⟨M66, -⟩ := side_two M60 b66 11 12 his66 hlo66 hls66 (by decide)
  clear M60 hlo66 hls66 his66 b66
  refine zAx 4 [(43, .tuple #[.agg (zk S y66), numV B, .bool ok]), (51, .agg (zk S y66)), (52, numV B), (53, .bool ok)] [] dnil [] F66 fun _ F67 => ?_
  clear F66
  refine zl (zc rfl) rfl F67 rfl M66 13 (t := 37) (c := zk ⟨0, 0, 0, 0, "".toUTF8, [], 0, 0, 0, [], 0, (fun _ => 0), (fun _ => 0)⟩ ⟨zN, zN⟩) (by unfold execOp; kernel_rfl) ?_
  intro g68 a68 w68 F68 M68
  clear F67 M66
  refine zl (zc rfl) rfl F68 rfl M68 14 (t := 27) (c := numA 0) (zda rfl) ?_
  intro g69 a69 w69 F69 M69
  clear F68 M68
  refine zha (zc rfl) rfl F69 M69 (k := 13) rfl _ _ _ rfl (F69.get (t := 15) rfl) (F69.get (t := 51) rfl) (zk S y66) _ rfl (zL rfl) (znb (w := w69) ⟨(M69.isb (k := 11) rfl), (M69.isb (k := 12) rfl)⟩) (zz rfl) (by kernel_rfl) ?_
  intro w70 M70
  clear M69
  refine zha (zc rfl) rfl F69 M70 (k := 14) rfl _ _ _ rfl (F69.get (t := 16) rfl) (F69.get (t := 52) rfl) (numA B) _ rfl (zL rfl) (zma _) (zz rfl) zd ?_
  intro w71 M71
  clear M70
  refine rm rfl F69 fun _ F72 => ?_
  refine hK61 _ _ ?_
  refine zSk fun _ hK73 => ?_
  refine zSk fun _ hK74 => ?_
  refine zR ?_
  refine rm rfl F72 fun _ F75 => ?_
  cases ok
  ·refine zh (w' := w71) (zc rfl) rfl F75 rfl (.bool true) (zqc _ _ rfl (F75.get (t := 54) rfl)) fun _ F76 => ?_
   clear F75
   refine hK74 _ _ ?_
   refine wp_cond_true (F76.get (t := 55) rfl) ?_
   refine zSk fun _ hK77 => ?_
   refine zR ?_
   refine rm rfl F76 fun _ F78 => ?_
   refine hK77 _ _ ?_
   refine wp_ret ?_
   try simp only [Exit.then, Exit.inBlock, Exit.jump]
   exact bodyPost_ret (res1 rfl (F78.get rfl)) F78.defers ⟨rfl, M71.below⟩
  ·rw [← (hfin rfl).1] at kR2
   have kHas2 := kHas
   rw [(hfin rfl).2.2] at kHas2
   refine zh (w' := w71) (zc rfl) rfl F75 rfl (.bool false) (zqc _ _ rfl (F75.get (t := 54) rfl)) fun _ F79 => ?_
   clear F75
   refine hK74 _ _ ?_
   refine wp_cond_false (F79.get (t := 55) rfl) ?_
   refine wp_skip ?_
   refine hK73 _ _ ?_
   refine zSk fun _ hK80 => ?_
   have hD81 := (zza (M71.blk (k := 5) rfl) (zza (M71.blk (k := 10) rfl) (zza (M71.blk (k := 14) rfl) dnil)))
   refine zub F79 (SK [.inl (.agg (zg k p (p / 2) 4)), .inr (StK.lit w71.heap.size [117]), .inr (StK.lit w71.heap.size [117]), .inl (numV A), .inr (StK.bytes (zt A)), .inl (numV B), .inr (StK.bytes (zt B)), .inr (StK.parts [[117], (zt A), (zt B)]), .inl (numV U), .inr (StK.new w71.heap.size (numA 0) 27 (by decide))]) 10 rfl (by kernel_rfl) ⟨hopP F79 hD81 0 (some g42) (by kernel_rfl), ?_, ?_, hopP F79 hD81 1 (some g58) (by kernel_rfl), ?_, hopP F79 hD81 2 (some g69) (by kernel_rfl), ?_, ?_, ?_, ?_, trivial⟩ ?_
   ·intro ua uw hb hd
    exact hop_lit (zc rfl) hb.size [117] (by decide) (by decide) _ rfl (by simp only [List.map_toArray, List.map_cons, List.map_nil]; kernel_rfl)
   ·intro ua uw hb hd
    have l57 : LitB w71.heap.size uw [117] (ua.eval (.tmp 57)) := hd 57 (by decide)
    have e57 := l57.isB
    exact hop_convK (zc rfl) _ rfl l57
   ·intro ua uw hb hd
    have e59 : ua.eval (.tmp 59) = numV A := hd 59 (by decide)
    exact zu (F := (StK.bytes (zt A)).F) (zc rfl) hb.size rfl #[numV A] (zya e59) (zE Tryz.func26 rfl) ((rb_r A uw))
   ·intro ua uw hb hd
    have e61 : ua.eval (.tmp 61) = numV B := hd 61 (by decide)
    exact zu (F := (StK.bytes (zt B)).F) (zc rfl) hb.size rfl #[numV B] (zya e61) (zE Tryz.func26 rfl) ((rb_r B uw))
   ·intro ua uw hb hd
    have l58 : LitB w71.heap.size uw [117] (ua.eval (.tmp 58)) := hd 58 (by decide)
    have e58 := l58.isB
    have e60 : IsB uw (zt A) (ua.eval (.tmp 60)) := hd 60 (by decide)
    have e62 : IsB uw (zt B) (ua.eval (.tmp 62)) := hd 62 (by decide)
    exact hop_parts3 (zc rfl) hb.size (.tmp 58) (.tmp 60) (.tmp 62) rfl e58 e60 e62
   ·intro ua uw hb hd
    have e56 : ua.eval (.tmp 56) = .agg (zg k p (p / 2) 4) := hd 56 (by decide)
    have e63 : IsP uw [[117], (zt A), (zt B)] (ua.eval (.tmp 63)) := hd 63 (by decide)
    exact zu (F := (StK.eq (numV U)).F) (zc rfl) hb.size rfl #[.agg (zg k p (p / 2) 4), (ua.eval (.tmp 63))] (zlb e56 rfl) (zE Tryz.func25 rfl) (zfa ((kU _ _ e63)))
   ·intro ua uw hb hd
    exact hop_new (zc rfl) hb.size hb.size (by decide) (zda rfl)
   intro p82 a82 w82 b82 G82 y82
   obtain ⟨-, -, -, -, -, -, -, -, q8, q9, -⟩ := y82
   obtain ⟨gn9x81, r9, hg9, hc9⟩ := q9 (by decide)
   replace r9 : p82 9 = .pointer (some ⟨gn9x81, 0, none⟩) := r9
   have r8 : p82 8 = numV U := q8 (by decide)
   simp only [List.take, layV, Nat.zero_add, Nat.reduceAdd, r8, r9] at G82
   have M82 := M71.newb b82.below 15 hg9 hc9
   clear hg9 hc9 r9
   clear F79 M71 r8 q8
   refine zha (zc rfl) rfl G82 M82 (k := 15) rfl _ _ _ rfl (G82.get (t := 18) rfl) (G82.get (t := 64) rfl) (numA U) _ rfl (zL rfl) (zma _) (zz rfl) zd ?_
   intro w83 M83
   clear M82
   refine hK80 _ _ ?_
   refine zSk fun _ hK84 => ?_
   have hD85 := (zza (M83.blk (k := 5) rfl) (zza (M83.blk (k := 10) rfl) (zza (M83.blk (k := 6) rfl) (zza (M83.blk (k := 15) rfl) (zza (M83.blk (k := 13) rfl) dnil)))))
   refine zub G82 (SK [.inl (.agg (zg k p (p / 2) 4)), .inl (.agg (zg k p (p / 2) 4)), .inl (numV A), .inl (.agg (zg k p (p / 2) 4)), .inl (numV V1), .inl (numV U), .inl (numV T1), .inl (numV T2), .inl (.pointer (some ⟨g68, 43, none⟩)), .inl (numV S.O), .inl (numV N), .inr (StK.new w83.heap.size (numA 0) 27 (by decide))]) 12 rfl (by kernel_rfl) ⟨hopP G82 hD85 0 (some g42) (by kernel_rfl), hopP G82 hD85 0 (some g42) (by kernel_rfl), hopP G82 hD85 1 (some g58) (by kernel_rfl), hopP G82 hD85 0 (some g42) (by kernel_rfl), hopP G82 hD85 2 (some g49) (by kernel_rfl), hopP G82 hD85 3 (some gn9x81) (by kernel_rfl), ?_, ?_, hop0 G82 (by kernel_rfl), hopP G82 hD85 4 (some g68) (by kernel_rfl), ?_, ?_, trivial⟩ ?_
   ·intro ua uw hb hd
    have e68 : ua.eval (.tmp 68) = .agg (zg k p (p / 2) 4) := hd 68 (by decide)
    have e69 : ua.eval (.tmp 69) = numV V1 := hd 69 (by decide)
    have e70 : ua.eval (.tmp 70) = numV U := hd 70 (by decide)
    exact zu (F := (StK.eq (numV T1)).F) (zc rfl) hb.size rfl #[.agg (zg k p (p / 2) 4), numV V1, numV U] (z7b e68 e69 e70) (zE Tryz.func27 rfl) (zfa (kR1 uw))
   ·intro ua uw hb hd
    have e66 : ua.eval (.tmp 66) = .agg (zg k p (p / 2) 4) := hd 66 (by decide)
    have e67 : ua.eval (.tmp 67) = numV A := hd 67 (by decide)
    have e71 : ua.eval (.tmp 71) = numV T1 := hd 71 (by decide)
    exact zu (F := (StK.eq (numV T2)).F) (zc rfl) hb.size rfl #[.agg (zg k p (p / 2) 4), numV A, numV T1] (z7b e66 e67 e71) (zE Tryz.func28 rfl) (zfa (kM uw))
   ·intro ua uw hb hd
    have e65 : ua.eval (.tmp 65) = .agg (zg k p (p / 2) 4) := hd 65 (by decide)
    have e72 : ua.eval (.tmp 72) = numV T2 := hd 72 (by decide)
    have e74 : ua.eval (.tmp 74) = numV S.O := hd 74 (by decide)
    exact zu (F := (StK.eq (numV N)).F) (zc rfl) hb.size rfl #[.agg (zg k p (p / 2) 4), numV T2, numV S.O] (z7b e65 e72 e74) (zE Tryz.func27 rfl) (zfa (kR2 uw))
   ·intro ua uw hb hd
    exact hop_new (zc rfl) hb.size hb.size (by decide) (zda rfl)
   intro p86 a86 w86 b86 G86 y86
   obtain ⟨-, -, -, -, -, -, -, -, -, -, q10, q11, -⟩ := y86
   obtain ⟨gn11x85, r11, hg11, hc11⟩ := q11 (by decide)
   replace r11 : p86 11 = .pointer (some ⟨gn11x85, 0, none⟩) := r11
   have r10 : p86 10 = numV N := q10 (by decide)
   simp only [List.take, layV, Nat.zero_add, Nat.reduceAdd, r10, r11] at G86
   have M86 := M83.newb b86.below 16 hg11 hc11
   clear hg11 hc11 r11
   clear G82 M83 r10 q10
   refine zha (zc rfl) rfl G86 M86 (k := 16) rfl _ _ _ rfl (G86.get (t := 19) rfl) (G86.get (t := 75) rfl) (numA N) _ rfl (zL rfl) (zma _) (zz rfl) zd ?_
   intro w87 M87
   clear M86
   refine hK84 _ _ ?_
   refine zSk fun _ hK88 => ?_
   have hD89 := (zza (M87.blk (k := 16) rfl) dnil)
   refine region_fxU G86 (SK [.inr (StK.lit w87.heap.size [107, 101, 121]), .inr (StK.lit w87.heap.size [107, 101, 121]), .inl (numV N), .inr (StK.bytes (zt N)), .inr (StK.parts [[107, 101, 121], (zt N)]), .inl (.agg (zo (outF Z)))]) 6 (by kernel_rfl) rfl ⟨?_, ?_, hopP G86 hD89 0 (some gn11x85) (by kernel_rfl), ?_, ?_, ?_, trivial⟩ ?_
   ·intro ua uw hb hd
    exact hop_lit (zc rfl) hb.size [107, 101, 121] (by decide) (by decide) _ rfl (by simp only [List.map_toArray, List.map_cons, List.map_nil]; kernel_rfl)
   ·intro ua uw hb hd
    have l76 : LitB w87.heap.size uw [107, 101, 121] (ua.eval (.tmp 76)) := hd 76 (by decide)
    have e76 := l76.isB
    exact hop_convK (zc rfl) _ rfl l76
   ·intro ua uw hb hd
    have e78 : ua.eval (.tmp 78) = numV N := hd 78 (by decide)
    exact zu (F := (StK.bytes (zt N)).F) (zc rfl) hb.size rfl #[numV N] (zya e78) (zE Tryz.func26 rfl) ((rb_r N uw))
   ·intro ua uw hb hd
    have l77 : LitB w87.heap.size uw [107, 101, 121] (ua.eval (.tmp 77)) := hd 77 (by decide)
    have e77 := l77.isB
    have e79 : IsB uw (zt N) (ua.eval (.tmp 79)) := hd 79 (by decide)
    exact hop_parts2 (zc rfl) hb.size (.tmp 77) (.tmp 79) rfl e77 e79
   ·intro ua uw hb hd
    have e80 : IsP uw [[107, 101, 121], (zt N)] (ua.eval (.tmp 80)) := hd 80 (by decide)
    exact zu (F := (StK.eq (.agg (zo (outF Z)))).F) (zc rfl) hb.size rfl #[(ua.eval (.tmp 80))] (zya rfl) (zE Tryz.func29 rfl) (zfa ((kK _ _ e80)))
   intro p90 a90 w90 b90 G90 y90
   obtain ⟨-, -, -, -, -, q5, -⟩ := y90
   have r5 : p90 5 = .agg (zo (outF Z)) := q5 (by decide)
   simp only [List.take, layV, Nat.zero_add, Nat.reduceAdd, r5] at G90
   have M90 := M87.kc b90
   clear G86 M87 r5 q5
   refine zl (zc rfl) rfl G90 rfl M90 17 (t := 35) (c := zo (fun _ => 0)) (by unfold execOp; kernel_rfl) ?_
   intro g91 a91 w91 F91 M91
   clear G90 M90
   refine zha (zc rfl) rfl F91 M91 (k := 17) rfl _ _ _ rfl (F91.get (t := 20) rfl) (F91.get (t := 81) rfl) (zo (outF Z)) _ rfl (zL rfl) (zua _) (zz rfl) (by kernel_rfl) ?_
   intro w92 M92
   clear M91
   refine hK88 _ _ ?_
   refine zSk fun _ hK93 => ?_
   have hD94 := (zza (M92.blk (k := 10) rfl) (zza (M92.blk (k := 5) rfl) (zza (M92.blk (k := 9) rfl) (zza (M92.blk (k := 13) rfl) (zza (M92.blk (k := 17) rfl) (zza (M92.blk (k := 6) rfl) dnil))))))
   refine zub F91 (SK [.inl (numV A), .inl (.agg (zg k p (p / 2) 4)), .inl (.pointer (some ⟨g42, 17, none⟩)), .inl (numV 4), .inl (.pointer (some ⟨g57, 43, none⟩)), .inl (numV C.O), .inl (numV A), .inl (.bool true), .inl (.bool true), .inl (.pointer (some ⟨g57, 43, none⟩)), .inl (numV C.O), .inl (.agg (zg k p (p / 2) 4)), .inr (StK.lit w92.heap.size [97]), .inr (StK.lit w92.heap.size [97]), .inl (.slice A3 n3 cap3), .inr (StK.parts [[97], l3]), .inl (numV Oa), .inl (.bool true), .inl (.bool true), .inl (.bool true), .inl (.pointer (some ⟨g68, 43, none⟩)), .inl (numV S.O), .inl (.agg (zg k p (p / 2) 4)), .inr (StK.lit w92.heap.size [98]), .inr (StK.lit w92.heap.size [98]), .inl (.slice A4 n4 cap4), .inr (StK.parts [[98], l4]), .inl (numV Ob), .inl (.bool true), .inl (.bool true), .inl (.bool true), .inl (.pointer (some ⟨g68, 60, none⟩)), .inl (.agg (zo S.Ky)), .inl (.agg (zo (outF Z))), .inl (.bool true), .inl (.bool true), .inl (.bool true), .inl (.agg (zg k p (p / 2) 4)), .inl (numV V1), .inl (.bool true), .inl (.bool true), .inl (.bool true)]) 42 rfl (by kernel_rfl) ⟨hopP F91 hD94 0 (some g58) (by kernel_rfl), hopP F91 hD94 1 (some g42) (by kernel_rfl), hop0 F91 (by kernel_rfl), hopP F91 hD94 1 (some g42) (by kernel_rfl), hop0 F91 (by kernel_rfl), hopP F91 hD94 2 (some g57) (by kernel_rfl), ?_, ?_, hop0 F91 (by kernel_rfl), hop0 F91 (by kernel_rfl), hopP F91 hD94 2 (some g57) (by kernel_rfl), hopP F91 hD94 1 (some g42) (by kernel_rfl), ?_, ?_, hop0 F91 (by kernel_rfl), ?_, ?_, ?_, hop0 F91 (by kernel_rfl), hop0 F91 (by kernel_rfl), hop0 F91 (by kernel_rfl), hopP F91 hD94 3 (some g68) (by kernel_rfl), hopP F91 hD94 1 (some g42) (by kernel_rfl), ?_, ?_, hop0 F91 (by kernel_rfl), ?_, ?_, ?_, hop0 F91 (by kernel_rfl), hop0 F91 (by kernel_rfl), hop0 F91 (by kernel_rfl), hopP F91 hD94 3 (some g68) (by kernel_rfl), hopP F91 hD94 4 (some g91) (by kernel_rfl), ?_, hop0 F91 (by kernel_rfl), hop0 F91 (by kernel_rfl), hopP F91 hD94 1 (some g42) (by kernel_rfl), hopP F91 hD94 5 (some g49) (by kernel_rfl), ?_, hop0 F91 (by kernel_rfl), hop0 F91 (by kernel_rfl), trivial⟩ ?_
   ·intro ua uw hb hd
    have e83 : ua.eval (.tmp 83) = .agg (zg k p (p / 2) 4) := hd 83 (by decide)
    have e85 : ua.eval (.tmp 85) = numV 4 := hd 85 (by decide)
    have e87 : ua.eval (.tmp 87) = numV C.O := hd 87 (by decide)
    exact zu (F := (StK.eq (numV A)).F) (zc rfl) hb.size rfl #[.agg (zg k p (p / 2) 4), numV 4, numV C.O] (z7b e83 e85 e87) (zE Tryz.func27 rfl) (zfa (kR3 uw))
   ·intro ua uw hb hd
    have e82 : ua.eval (.tmp 82) = numV A := hd 82 (by decide)
    have e88 : ua.eval (.tmp 88) = numV A := hd 88 (by decide)
    exact zq (F := (StK.eq (.bool true)).F) (zc rfl) (.bool true) (y_eqA _ _ _ _ rfl e82 e88 (by kernel_rfl) (eqn_same A _)) rfl
   ·intro ua uw hb hd
    have eg : ua.eval (.tmp 90) = .bool true := hd 90 (by decide)
    exact hop_lit (zx rfl rfl rfl eg) hb.size [97] (by decide) (by decide) _ rfl (by simp only [List.map_toArray, List.map_cons, List.map_nil]; kernel_rfl)
   ·intro ua uw hb hd
    have eg : ua.eval (.tmp 90) = .bool true := hd 90 (by decide)
    have l94 : LitB w92.heap.size uw [97] (ua.eval (.tmp 94)) := hd 94 (by decide)
    have e94 := l94.isB
    exact hop_convK (zx rfl rfl rfl eg) _ rfl l94
   ·intro ua uw hb hd
    have eg : ua.eval (.tmp 90) = .bool true := hd 90 (by decide)
    have l95 : LitB w92.heap.size uw [97] (ua.eval (.tmp 95)) := hd 95 (by decide)
    have e95 := l95.isB
    have e96 : ua.eval (.tmp 96) = .slice A3 n3 cap3 := hd 96 (by decide)
    exact hop_parts2 (zx rfl rfl rfl eg) hb.size (.tmp 95) (.tmp 96) rfl e95 (by rw [e96]; exact ((M92.step hb).isb (k := 2) rfl))
   ·intro ua uw hb hd
    have eg : ua.eval (.tmp 90) = .bool true := hd 90 (by decide)
    have e93 : ua.eval (.tmp 93) = .agg (zg k p (p / 2) 4) := hd 93 (by decide)
    have e97 : IsP uw [[97], l3] (ua.eval (.tmp 97)) := hd 97 (by decide)
    exact zu (F := (StK.eq (numV Oa)).F) (zx rfl rfl rfl eg) hb.size rfl #[.agg (zg k p (p / 2) 4), (ua.eval (.tmp 97))] (zlb e93 rfl) (zE Tryz.func25 rfl) (zfa ((kEa _ _ e97)))
   ·intro ua uw hb hd
    have eg : ua.eval (.tmp 90) = .bool true := hd 90 (by decide)
    have e92 : ua.eval (.tmp 92) = numV C.O := hd 92 (by decide)
    have e98 : ua.eval (.tmp 98) = numV Oa := hd 98 (by decide)
    exact zq (F := (StK.eq (.bool true)).F) (zx rfl rfl rfl eg) (.bool true) (y_eqA _ _ _ _ rfl e92 e98 (by kernel_rfl) (eqn_of cO _)) rfl
   ·intro ua uw hb hd
    have eg : ua.eval (.tmp 101) = .bool true := hd 101 (by decide)
    exact hop_lit (zx rfl rfl rfl eg) hb.size [98] (by decide) (by decide) _ rfl (by simp only [List.map_toArray, List.map_cons, List.map_nil]; kernel_rfl)
   ·intro ua uw hb hd
    have eg : ua.eval (.tmp 101) = .bool true := hd 101 (by decide)
    have l105 : LitB w92.heap.size uw [98] (ua.eval (.tmp 105)) := hd 105 (by decide)
    have e105 := l105.isB
    exact hop_convK (zx rfl rfl rfl eg) _ rfl l105
   ·intro ua uw hb hd
    have eg : ua.eval (.tmp 101) = .bool true := hd 101 (by decide)
    have l106 : LitB w92.heap.size uw [98] (ua.eval (.tmp 106)) := hd 106 (by decide)
    have e106 := l106.isB
    have e107 : ua.eval (.tmp 107) = .slice A4 n4 cap4 := hd 107 (by decide)
    exact hop_parts2 (zx rfl rfl rfl eg) hb.size (.tmp 106) (.tmp 107) rfl e106 (by rw [e107]; exact ((M92.step hb).isb (k := 3) rfl))
   ·intro ua uw hb hd
    have eg : ua.eval (.tmp 101) = .bool true := hd 101 (by decide)
    have e104 : ua.eval (.tmp 104) = .agg (zg k p (p / 2) 4) := hd 104 (by decide)
    have e108 : IsP uw [[98], l4] (ua.eval (.tmp 108)) := hd 108 (by decide)
    exact zu (F := (StK.eq (numV Ob)).F) (zx rfl rfl rfl eg) hb.size rfl #[.agg (zg k p (p / 2) 4), (ua.eval (.tmp 108))] (zlb e104 rfl) (zE Tryz.func25 rfl) (zfa ((kEb _ _ e108)))
   ·intro ua uw hb hd
    have eg : ua.eval (.tmp 101) = .bool true := hd 101 (by decide)
    have e103 : ua.eval (.tmp 103) = numV S.O := hd 103 (by decide)
    have e109 : ua.eval (.tmp 109) = numV Ob := hd 109 (by decide)
    exact zq (F := (StK.eq (.bool true)).F) (zx rfl rfl rfl eg) (.bool true) (y_eqA _ _ _ _ rfl e103 e109 (by kernel_rfl) (eqn_of (hfin rfl).1 _)) rfl
   ·intro ua uw hb hd
    have eg : ua.eval (.tmp 112) = .bool true := hd 112 (by decide)
    have e114 : ua.eval (.tmp 114) = .agg (zo S.Ky) := hd 114 (by decide)
    have e115 : ua.eval (.tmp 115) = .agg (zo (outF Z)) := hd 115 (by decide)
    exact zq (F := (StK.eq (.bool true)).F) (zx rfl rfl rfl eg) (.bool true) (run_eq16 _ _ rfl (outF Z) (e114.trans (by rw [(hfin rfl).2.1])) e115) rfl
   ·intro ua uw hb hd
    have eg : ua.eval (.tmp 118) = .bool true := hd 118 (by decide)
    have e119 : ua.eval (.tmp 119) = .agg (zg k p (p / 2) 4) := hd 119 (by decide)
    have e120 : ua.eval (.tmp 120) = numV V1 := hd 120 (by decide)
    exact zu (F := (StK.eq (.bool true)).F) (zx rfl rfl rfl eg) hb.size rfl #[.agg (zg k p (p / 2) 4), numV V1] (zlb e119 e120) (zE Tryz.func30 rfl) (zfa ((kHas2 uw)))
   intro p95 a95 w95 b95 G95 y95
   obtain ⟨-, -, -, -, -, -, -, -, -, -, -, -, -, -, -, -, -, -, -, -, -, -, -, -, -, -, -, -, -, -, -, -, -, -, -, -, -, -, -, -, -, q41, -⟩ := y95
   have r41 : p95 41 = .bool true := q41 (by decide)
   simp only [List.take, layV, Nat.zero_add, Nat.reduceAdd, r41] at G95
   have M95 := M92.kc b95
   clear F91 M92 r41 q41
   refine hK93 _ _ ?_
   refine wp_ret ?_
   try simp only [Exit.then, Exit.inBlock, Exit.jump]
   exact bodyPost_ret (res1 rfl (G95.get (t := 10) rfl)) G95.defers ⟨rfl, M95.below⟩
end Go.Proofs.YtcfepoopkfhojaaGreat
