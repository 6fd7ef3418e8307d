/- What SrpKR stands on, part 13. -/
import Derived.Test.YtcfepoopkfhojaaGreatSrpKRP1
import Derived.Test.YtcfepoopkfhojaaGreatSrpKRP2
import Derived.Test.YtcfepoopkfhojaaGreatSrpKRP3
import Derived.Test.YtcfepoopkfhojaaGreatSrpKRP4
import Derived.Test.YtcfepoopkfhojaaGreatSrpKRP5
import Derived.Test.YtcfepoopkfhojaaGreatSrpKRP6
import Derived.Test.YtcfepoopkfhojaaGreatSrpKRP7
import Derived.Test.YtcfepoopkfhojaaGreatSrpKRP8
import Derived.Test.YtcfepoopkfhojaaGreatSrpKRP9
import Derived.Test.YtcfepoopkfhojaaGreatSrpKRP10
import Derived.Test.YtcfepoopkfhojaaGreatSrpKRP11
import Derived.Test.YtcfepoopkfhojaaGreatSrpKRP12
set_option maxRecDepth 100000
set_option maxHeartbeats 8000000
set_option linter.unusedVariables false
set_option linter.unusedSimpArgs false
namespace Go.Proofs.YtcfepoopkfhojaaGreat
open Go.ChangeShapes Go.WideShapes Go.ChangeAt Go.RowKit
theorem make_kp {K p : Nat} (g0 : 12 ≤ K) (g1 : K ≤ 24) (p4 : 4 ≤ p) (po : p % 2 = 1) (pl : p < 2 ^ K) (ps : safeB (p : Int) = true) (pn : ∀ x : Int, (p : Int) < x → x < 2 ^ K → safeB x = false) : zic 31 #[.int .i64 (K : Int)] (.tuple #[.agg (zg (K : Int) p (p / 2) 4), .bool true]) := fun w => by
 have hl : 2 ^ K ≤ 2 ^ 24 := Nat.pow_le_pow_right (by decide) (by omega)
 have hp : p < 16777216 := Nat.lt_of_lt_of_le pl hl
 have e : ((2 : Int) ^ K) = ((2 ^ K : Nat) : Int) := by simp
 have hq : ((p / 2 : Nat) : Int) = (p : Int) / 2 := by omega
 refine (rgmake_any (K : Int) (p : Int) (by omega) (by omega) (fun _ => ⟨by omega, by omega, by rw [Int.toNat_natCast, e]; exact_mod_cast pl, ps, by rw [Int.toNat_natCast]; exact pn⟩) w).mono ?_
 rintro e' w' ⟨V, rfl, hV, hb⟩
 rcases hV with ⟨-, hV⟩ | ⟨hn, -⟩
 ·exact ⟨by rw [hV, Int.toNat_natCast, ← hq, Int.toNat_natCast], hb⟩
 ·omega
theorem make15 : zic 31 #[.int .i64 15] (.tuple #[.agg (zg 15 32603 16301 4), .bool true]) := by
 obtain ⟨ps, pn⟩ := tab_of (k := 15) (p := 32603) (D := 180) (E := 127) (by decide) (by decide) (by decide) (by decide) (by decide) tab15
 exact make_kp (K := 15) (p := 32603) (by decide) (by decide) (by decide) (by decide) (by decide) ps pn
theorem group_of {n : Int} {t : Nat} {k : Int} {p : Nat} (ht : t < 9) (kw : ∀ w, Calls Tryz.prog 32 #[.int .i64 n, .int .i64 9] w fun e w' => e = .returned (.int .i64 (t : Int)) ∧ w = w')
  (hk : (#[.int .i64 12, .int .i64 13, .int .i64 14, .int .i64 15, .int .i64 16, .int .i64 17, .int .i64 18, .int .i64 20, .int .i64 24] : Array Value)[t]? = some (.int .i64 k)) (hr : zic 31 #[.int .i64 k] (.tuple #[.agg (zg k p (p / 2) 4), .bool true])) (w : World) :
  Calls Tryz.prog 11 #[.int .i64 n] w fun e w' => e = .returned (.agg (zg k p (p / 2) 4)) ∧ Below w.heap.size w w' := by
 refine zea (args := [.int .i64 n]) 15 Tryz.func11 rfl rfl rfl ?_
 intro fa F
 have M := Mx.start w
 refine zSk fun _ hK1 => ?_
 refine zR ?_
 refine zh (zc rfl) rfl F rfl M 0 (t := 29) (c := zg 0 0 0 0) (by unfold execOp; rw [z2b]; kernel_rfl) ?_
 intro g2 a2 w2 F2 M2
 clear F M
 refine hK1 _ _ ?_
 refine zSk fun _ hK3 => ?_
 refine zR ?_
 refine zfc (zc rfl) rfl F2 rfl M2 1 (t := 3) (c := #[.int .i64 12, .int .i64 13, .int .i64 14, .int .i64 15, .int .i64 16, .int .i64 17, .int .i64 18, .int .i64 20, .int .i64 24]) (k := 9) (m := 9) (y_litI rfl #[.int .i64 12, .int .i64 13, .int .i64 14, .int .i64 15, .int .i64 16, .int .i64 17, .int .i64 18, .int .i64 20, .int .i64 24] rfl (by decide) (by decide) (by simp only [List.map_toArray, List.map_cons, List.map_nil]; kernel_rfl)) ?_
 intro g4 a4 w4 F4 M4
 clear F2 M2
 refine zk (w' := w4) (zc rfl) rfl F4 rfl (.int .i64 n) (run_mv _ (.inl rfl) (F4.get (t := 0) rfl)) fun _ F5 => ?_
 clear F4
 refine zba (zc rfl) rfl F5 rfl rfl (zE Tryz.func32 rfl) #[.int .i64 n, .int .i64 9] (z2a (F5.get (t := 7) rfl) rfl) (zga (kw w4)) ?_
 rintro _ w6 a6 ⟨rfl, rfl⟩ F6
 refine zk (w' := w4) (zc rfl) rfl F6 rfl (.pointer (some ⟨g4, t, none⟩)) (y_ixI _ _ rfl (F6.get (t := 6) rfl) (F6.get (t := 8) rfl) rfl ht (Nat.zero_add t)) fun _ F7 => ?_
 clear F6
 refine zk (w' := w4) (zc rfl) rfl F7 rfl (.int .i64 k) (zib _ _ rfl (F7.get (t := 9) rfl) (M4.blk (k := 1) rfl) hk Tryz.underlying3 rfl) fun _ F8 => ?_
 clear F7
 refine zba (zc rfl) rfl F8 rfl rfl (zE Tryz.func31 rfl) #[.int .i64 k] (zta (F8.get (t := 10) rfl)) (zga (hr w4)) ?_
 rintro _ w9 a9 ⟨rfl, b9⟩ F9
 have M9 := M4.step b9
 refine zk (w' := w9) (zc rfl) rfl F9 rfl (.tuple #[.agg (zg k p (p / 2) 4), .bool true]) (run_mv _ (.inl rfl) (F9.get (t := 11) rfl)) fun _ F10 => ?_
 clear F9
 refine zk (w' := w9) (zc rfl) rfl F10 rfl (.agg (zg k p (p / 2) 4)) (y_ext _ _ rfl (F10.get (t := 5) rfl) rfl) fun _ F11 => ?_
 clear F10
 refine zk (w' := w9) (zc rfl) rfl F11 rfl (.bool true) (y_ext _ _ rfl (F11.get (t := 5) rfl) rfl) fun _ F12 => ?_
 clear F11
 refine zh (zc rfl) rfl F12 rfl M9 2 (t := 29) (c := zg 0 0 0 0) (by unfold execOp; rw [z2b]; kernel_rfl) ?_
 intro g13 a13 w13 F13 M13
 clear F12 M9
 refine zw (zc rfl) rfl F13 M13 (k := 2) rfl _ _ _ rfl (F13.get (t := 3) rfl) (F13.get (t := 12) rfl) (zg k p (p / 2) 4) _ rfl (zL rfl) (z9b _ _ _ _) (zp rfl) (by kernel_rfl) ?_
 intro w14 M14
 clear M13
 refine zk (w' := w14) (zc rfl) rfl F13 rfl (.bool true) (run_mv _ (.inr rfl) (F13.get (t := 13) rfl)) fun _ F15 => ?_
 clear F13
 refine hK3 _ _ ?_
 refine zSk fun _ hK16 => ?_
 refine zR ?_
 refine zk (w' := w14) (zc rfl) rfl F15 rfl _ (zdb _ _ rfl (F15.get (t := 3) rfl) (M14.blk (k := 2) rfl) (zg k p (p / 2) 4) (zeb rfl) Tryz.underlying29 rfl (by kernel_rfl)) fun _ F17 => ?_
 clear F15
 refine zw (zc rfl) rfl F17 M14 (k := 0) rfl _ _ _ rfl (F17.get (t := 2) rfl) (F17.get (t := 14) rfl) (zg k p (p / 2) 4) _ rfl (zL rfl) (z9b _ _ _ _) (zp rfl) (by kernel_rfl) ?_
 intro w18 M18
 clear M14
 refine hK16 _ _ ?_
 refine wp_ret ?_
 try simp only [Exit.then, Exit.inBlock]
 exact bodyPost_ret (results_cell_row rfl _ _ _ _ _ (0, 0) _ (F17.get rfl) (M18.blk (k := 0) rfl) Tryz.underlying29 rfl (by kernel_rfl)) F17.defers ⟨rfl, M18.below⟩
theorem group_3 (w : World) : Calls Tryz.prog 11 #[.int .i64 3] w fun e w' => e = .returned (.agg (zg 15 32603 16301 4)) ∧ Below w.heap.size w w' :=
 group_of (n := 3) (t := 3) (k := 15) (p := 32603) (by decide) (fun w => gwithin_any 3 9 (by decide) (by decide) (by decide) (by decide) w) rfl make15 w
theorem side_two {G : Option Nat} {w0 w w' : World} {R : List (Nat × Res)} (M : Mx G w0 w R) (hb : Below w.heap.size w w') (i j : Nat) {x : SideN} {y : SideV} (h : SideIs w' x y) (h1 : ∀ b, bfp y.vp b → w.heap.size ≤ b) (h2 : ∀ b, bfp y.vs b → w.heap.size ≤ b) (hij : i ≠ j) : Mx G w0 w' ((j, bytR x.ls y.vs) :: (i, bytR x.lp y.vp) :: R) ∧ True :=
 ⟨(M.fresh hb i _ h.hp bytR_dep (fun g hg => ⟨h1 g hg, h.hp.lt hg⟩)).cons j _ h.hs bytR_dep (fun g hg => h.hs.lt hg) (fun e => by cases e) fun k s e hk hw g hg hs => by
  rcases hw with hw | hw
  ·cases hw
  rw [zza] at e
  split at e
  ·cases e; cases hw
  ·have := M.lt k s e g hs
   have := h2 g hg
   omega, trivial⟩
section
theorem kc_v (w : World) (vp vs : Value) (hp : IsB w [112] vp) (hs : IsB w [115] vs) : Calls Tryz.prog 12 #[.agg (zg 15 32603 16301 4), .string ({ data := #[117] }), vp, vs] w fun e w' => e = .returned (numV kV) ∧ Below w.heap.size w w' :=
 verifier_any 15 32603 16301 4 (by decide) (by decide) (by decide) (by decide) (by decide) (by decide) { data := #[117] } (by decide) [112] [115] vp vs w hp hs
theorem kc_h (w : World) (vp vd : Value) (hp : IsB w [112] vp) (hd : IsB w [49] vd) : Calls Tryz.prog 13 #[.agg (zg 15 32603 16301 4), .string ({ data := #[117] }), vp, vd] w fun e w' => ∃ v, e = .returned v ∧ ∃ y : SideV, v = .tuple #[.agg (zl kC y), numV kAA] ∧ SideIs w' kC y ∧ (∀ b, bfp y.vp b → w.heap.size ≤ b) ∧ (∀ b, bfp y.vs b → w.heap.size ≤ b) ∧ Below w.heap.size w w' :=
 (hello_any 15 32603 16301 4 (by decide) (by decide) (by decide) (by decide) (by decide) (by decide) { data := #[117] } [112] [49] vp vd (by decide) w hp hd).mono fun e w' ⟨vc, h1, h2, h3, h4⟩ => ⟨_, h1, ⟨vc, zN⟩, rfl, h2, h3, fun b hb => absurd hb (zec b), h4⟩
theorem kc_o (w : World) (v vd : Value) (hv : IsB w [115] v) (hd : IsB w [50] vd) : Calls Tryz.prog 14 #[.agg (zg 15 32603 16301 4), .agg (recA ⟨1, { data := #[117] }, [115], kV, 0, [], 0, 0, 0⟩ ⟨v, zN⟩), numV kAA, vd] w fun e w' => ∃ v, e = .returned v ∧ ∃ y : SideV, v = .tuple #[.agg (zl kS y), numV (offB 32603 16301 4 kV kB), .bool true] ∧ SideIs w' kS y ∧ (∀ b, bfp y.vp b → w.heap.size ≤ b) ∧ (∀ b, bfp y.vs b → w.heap.size ≤ b) ∧ Below w.heap.size w w' := by
 have h := offer_any 15 32603 16301 4 (by decide) (by decide) (by decide) (by decide) (by decide) (by decide) (by decide) ⟨1, { data := #[117] }, [115], kV, 0, [], 0, 0, 0⟩ ⟨v, zN⟩ (Nat.lt_trans (Nat.mod_lt _ (by decide)) (by decide)) (by decide) (by decide) kAA (Nat.lt_trans (Nat.mod_lt _ (by decide)) (by decide)) [50] vd w ⟨hv, zja _⟩ hd
 rw [show texN 16301 [98] [[50]] = kB from rfl] at h
 simp only [kn_off, cond_true] at h
 exact h.mono fun e w' ⟨vc, h1, h2, h3, h4⟩ => ⟨_, h1, ⟨zN, vc⟩, rfl, h2, fun b hb => absurd hb (zec b), h3, h4⟩
theorem kA_lt : kA < 4294967296 := Nat.lt_trans (zkc (by decide) _).2 (by decide)
theorem kc_p (w : World) (y : SideV) (vl : Value) (hx : SideIs w kC y) (hl : IsB w [115] vl) : Calls Tryz.prog 16 #[.agg (zl kC y), vl, numV (offB 32603 16301 4 kV kB)] w fun e w' => ∃ v, e = .returned v ∧ ∃ y : SideV, v = .tuple #[.agg (zl kD y), .agg (zi kD.Pr), .bool true] ∧ SideIs w' kD y ∧ (∀ b, bfp y.vp b → w.heap.size ≤ b) ∧ (∀ b, bfp y.vs b → w.heap.size ≤ b) ∧ Below w.heap.size w w' := by
 have h := prove_any kC y (show 32603 % 2 = 1 by decide) (show 1 < 32603 by decide) (show 32603 < 4294967296 by decide) (show 2 < 16301 by decide) (show 16301 ≤ 4294967296 by decide) kA_lt (show 4 < 4294967296 ^ 8 by decide) (show 1 ≤ 1000 by decide) (show 1 ≤ 100000 by decide) [115] (by decide) vl (offB 32603 16301 4 kV kB) (Nat.lt_trans (Nat.mod_lt _ (by decide)) (by decide)) w hx hl
 simp only [kn_prv, cond_true] at h
 exact h.mono fun e w' ⟨y', h1, h2⟩ => ⟨_, h1, y', rfl, h2⟩
theorem kc_c (w : World) (y : SideV) (v : Value) (hx : SideIs w kS y) (hv : IsB w (sumY kD.Pr) v) : Calls Tryz.prog 17 #[.agg (zl kS y), v] w fun e w' => e = .returned (.tuple #[.agg (zi (ansY kS.Ky kS.Pr)), .bool true]) ∧ Below w.heap.size w w' :=
 check_any kS y kn_ok.1 (sumY kD.Pr) v true (decide_eq_true (by rw [kn_Pr])) w hx hv
theorem kc_d (w : World) (y : SideV) (v : Value) (hx : SideIs w kD y) (hv : IsB w (sumY (ansY kS.Ky kS.Pr)) v) : Calls Tryz.prog 19 #[.agg (zl kD y), v] w fun e w' => e = .returned (.bool true) ∧ Below w.heap.size w w' :=
 done_any kD y kn_ok.2 _ v true (decide_eq_true (by rw [kn_Ky, kn_Pr])) w hx hv
theorem kc_b (y : Nat → Int) (hy : ∀ k, 0 ≤ y k ∧ y k < 256) (w : World) : Calls Tryz.prog 18 #[.agg (zi y)] w fun e w' => ∃ v, e = .returned v ∧ Below w.heap.size w w' ∧ IsB w' (sumY y) v :=
 (srbytes_any y hy w).mono fun e w' ⟨v, h1, h2, h3⟩ => ⟨v, h1, h3, h2.isb⟩
theorem kc_z (w : World) : Calls Tryz.prog 19 #[.agg (zl ⟨0, 0, 0, 0, "".toUTF8, [], 0, 0, 0, [], 0, fun _ => 0, fun _ => 0⟩ ⟨zN, zN⟩), zN] w fun e w' => e = .returned (.bool false) ∧ Below w.heap.size w w' :=
 done_any _ _ ⟨fun _ => ⟨Int.le_refl _, (show (0 : Int) < 256 by decide)⟩, fun _ => ⟨Int.le_refl _, (show (0 : Int) < 256 by decide)⟩⟩ [] _ false (decide_eq_false fun h => absurd (congrArg List.length h) (by rw [zpb]; decide)) w ⟨zja _, zja _⟩ (zja _)
end
theorem sknown_any  (w : World) :
  Calls Tryz.prog 9 #[] w fun e w' => e = .returned (.bool true) ∧ Below w.heap.size w w' := by
 have kG := group_3
 refine zea (args := []) 83 Tryz.func9 rfl rfl rfl ?_
 intro fa F
 have M := Mx.start w
 refine zSk fun _ hK1 => ?_
 refine zR ?_
 refine rm rfl F fun _ F2 => ?_
 refine hK1 _ _ ?_
 refine zSk fun _ hK3 => ?_
 refine zR ?_
 refine zba (zc rfl) rfl F2 rfl rfl (zE Tryz.func11 rfl) #[.int .i64 3] (zta rfl) (zga (kG w)) ?_
 rintro _ w4 a4 ⟨rfl, b4⟩ F4
 have M4 := M.step b4
 refine zh (zc rfl) rfl F4 rfl M4 0 (t := 29) (c := zg 0 0 0 0) (by unfold execOp; rw [z2b]; kernel_rfl) ?_
 intro g5 a5 w5 F5 M5
 clear F4 M4
 refine zw (zc rfl) rfl F5 M5 (k := 0) rfl _ _ _ rfl (F5.get (t := 1) rfl) (F5.get (t := 13) rfl) (zg 15 32603 16301 4) _ rfl (zL rfl) (z9b _ _ _ _) (zp rfl) (by kernel_rfl) ?_
 intro w6 M6
 clear M5
 refine hK3 _ _ ?_
 refine zSk fun _ hK7 => ?_
 refine zR ?_
 refine zcb (zc rfl) rfl F5 rfl (run_litO M6 1 [115] 1 rfl (by decide) (by decide) rfl (by simp only [List.map_toArray, List.map_cons, List.map_nil]; kernel_rfl)) ?_
 intro v8 a8 w8 F8 M8
 clear F5 M6
 obtain ⟨A8, c8, rfl⟩ := (M8.isO (k := 1) rfl).shape
 refine zcb (zc rfl) rfl F8 rfl (run_cvL M8 (k := 1) rfl (by decide) _ rfl (F8.get (t := 14) rfl)) ?_
 intro v9 a9 w9 F9 M9
 clear F8 M8
 obtain ⟨A9, c9, rfl⟩ := (M9.isb (k := 1) rfl).shape
 refine zk (w' := w9) (zc rfl) rfl F9 rfl _ (zdb _ _ rfl (F9.get (t := 1) rfl) (M9.blk (k := 0) rfl) (zg 15 32603 16301 4) (zeb rfl) Tryz.underlying29 rfl (by kernel_rfl)) fun _ F10 => ?_
 clear F9
 refine zcb (zc rfl) rfl F10 rfl (run_litO M9 2 [112] 1 rfl (by decide) (by decide) rfl (by simp only [List.map_toArray, List.map_cons, List.map_nil]; kernel_rfl)) ?_
 intro v11 a11 w11 F11 M11
 clear F10 M9
 obtain ⟨A11, c11, rfl⟩ := (M11.isO (k := 2) rfl).shape
 refine zcb (zc rfl) rfl F11 rfl (run_cvL M11 (k := 2) rfl (by decide) _ rfl (F11.get (t := 17) rfl)) ?_
 intro v12 a12 w12 F12 M12
 clear F11 M11
 obtain ⟨A12, c12, rfl⟩ := (M12.isb (k := 2) rfl).shape
 refine zcb (zc rfl) rfl F12 rfl (run_litO M12 3 [115] 1 rfl (by decide) (by decide) rfl (by simp only [List.map_toArray, List.map_cons, List.map_nil]; kernel_rfl)) ?_
 intro v13 a13 w13 F13 M13
 clear F12 M12
 obtain ⟨A13, c13, rfl⟩ := (M13.isO (k := 3) rfl).shape
 refine zcb (zc rfl) rfl F13 rfl (run_cvL M13 (k := 3) rfl (by decide) _ rfl (F13.get (t := 19) rfl)) ?_
 intro v14 a14 w14 F14 M14
 clear F13 M13
 obtain ⟨A14, c14, rfl⟩ := (M14.isb (k := 3) rfl).shape
 refine zba (zc rfl) rfl F14 rfl rfl (zE Tryz.func12 rfl) #[.agg (zg 15 32603 16301 4), .string ({ data := #[117] }), .slice A12 ([112]).length c12, .slice A14 ([115]).length c14] (args4 (F14.get (t := 16) rfl) rfl (F14.get (t := 18) rfl) (F14.get (t := 20) rfl)) (zga ((kc_v w14 _ _ (M14.isb (k := 2) rfl) (M14.isb (k := 3) rfl)))) ?_
 rintro _ w15 a15 ⟨rfl, b15⟩ F15
 have M15 := M14.step b15
 refine zk (w' := w15) (zc rfl) rfl F15 rfl (.agg (recA ⟨1, ({ data := #[117] }), [115], kV, 0, [], 0, 0, 0⟩ ⟨.slice A9 ([115]).length c9, zN⟩)) (by unfold execOp; simp only [List.map_toArray, List.map_cons, List.map_nil, (F15.get (t := 15) rfl), (F15.get (t := 21) rfl)]; kernel_rfl) fun _ F16 => ?_
 clear F15
 refine zh (zc rfl) rfl F16 rfl M15 4 (t := 33) (c := recA ⟨0, "".toUTF8, [], 0, 0, [], 0, 0, 0⟩ ⟨zN, zN⟩) (by unfold execOp; kernel_rfl) ?_
 intro g17 a17 w17 F17 M17
 clear F16 M15
 refine zw (zc rfl) rfl F17 M17 (k := 4) rfl _ _ _ rfl (F17.get (t := 2) rfl) (F17.get (t := 22) rfl) (recA ⟨1, ({ data := #[117] }), [115], kV, 0, [], 0, 0, 0⟩ ⟨.slice A9 ([115]).length c9, zN⟩) _ rfl (zL rfl) (recA_one (w := w17) ⟨(M17.isb (k := 1) rfl), zja _⟩) (zp rfl) (by kernel_rfl) ?_
 intro w18 M18
 clear M17
 refine hK7 _ _ ?_
 refine zSk fun _ hK19 => ?_
 refine zR ?_
 refine zk (w' := w18) (zc rfl) rfl F17 rfl _ (zdb _ _ rfl (F17.get (t := 1) rfl) (M18.blk (k := 0) rfl) (zg 15 32603 16301 4) (zeb rfl) Tryz.underlying29 rfl (by kernel_rfl)) fun _ F20 => ?_
 clear F17
 refine zcb (zc rfl) rfl F20 rfl (run_litO M18 5 [112] 1 rfl (by decide) (by decide) rfl (by simp only [List.map_toArray, List.map_cons, List.map_nil]; kernel_rfl)) ?_
 intro v21 a21 w21 F21 M21
 clear F20 M18
 obtain ⟨A21, c21, rfl⟩ := (M21.isO (k := 5) rfl).shape
 refine zcb (zc rfl) rfl F21 rfl (run_cvL M21 (k := 5) rfl (by decide) _ rfl (F21.get (t := 25) rfl)) ?_
 intro v22 a22 w22 F22 M22
 clear F21 M21
 obtain ⟨A22, c22, rfl⟩ := (M22.isb (k := 5) rfl).shape
 refine zcb (zc rfl) rfl F22 rfl (run_litO M22 6 [49] 1 rfl (by decide) (by decide) rfl (by simp only [List.map_toArray, List.map_cons, List.map_nil]; kernel_rfl)) ?_
 intro v23 a23 w23 F23 M23
 clear F22 M22
 obtain ⟨A23, c23, rfl⟩ := (M23.isO (k := 6) rfl).shape
 refine zcb (zc rfl) rfl F23 rfl (run_cvL M23 (k := 6) rfl (by decide) _ rfl (F23.get (t := 27) rfl)) ?_
 intro v24 a24 w24 F24 M24
 clear F23 M23
 obtain ⟨A24, c24, rfl⟩ := (M24.isb (k := 6) rfl).shape
 refine zba (zc rfl) rfl F24 rfl rfl (zE Tryz.func13 rfl) #[.agg (zg 15 32603 16301 4), .string ({ data := #[117] }), .slice A22 ([112]).length c22, .slice A24 ([49]).length c24] (args4 (F24.get (t := 24) rfl) rfl (F24.get (t := 26) rfl) (F24.get (t := 28) rfl)) (kc_h w24 _ _ (M24.isb (k := 5) rfl) (M24.isb (k := 6) rfl)) ?_
 rintro _ w25 a25 ⟨y25, rfl, his25, hlo25, hls25, b25⟩ F25
 obtain ⟨M25, -⟩ := side_two M24 b25 7 8 his25 hlo25 hls25 (by decide)
 clear M24 hlo25 hls25 his25 b25
 refine zB 3 [(0, .bool false), (1, .pointer (some ⟨g5, 0, none⟩)), (2, .pointer (some ⟨g17, 0, none⟩)), (30, .agg (zl kC y25)), (31, numV kAA)] [] dnil [] F25 fun _ F26 => ?_
 clear F25
 refine zh (zc rfl) rfl F26 rfl M25 9 (t := 37) (c := zSA) (by unfold execOp; kernel_rfl) ?_
 intro g27 a27 w27 F27 M27
 clear F26 M25
 refine zh (zc rfl) rfl F27 rfl M27 10 (t := 27) (c := numA 0) (zx rfl) ?_
 intro g28 a28 w28 F28 M28
 clear F27 M27
 refine zw (zc rfl) rfl F28 M28 (k := 9) rfl _ _ _ rfl (F28.get (t := 3) rfl) (F28.get (t := 30) rfl) (zl kC y25) _ rfl (zL rfl) (zva (w := w28) ⟨(M28.isb (k := 7) rfl), (M28.isb (k := 8) rfl)⟩) (zp rfl) (by kernel_rfl) ?_
 intro w29 M29
 clear M28
 refine zw (zc rfl) rfl F28 M29 (k := 10) rfl _ _ _ rfl (F28.get (t := 4) rfl) (F28.get (t := 31) rfl) (numA kAA) _ rfl (zL rfl) (zaa _) (zp rfl) ze ?_
 intro w30 M30
 clear M29
 refine hK19 _ _ ?_
 refine zSk fun _ hK31 => ?_
 refine zR ?_
 refine zk (w' := w30) (zc rfl) rfl F28 rfl _ (zdb _ _ rfl (F28.get (t := 1) rfl) (M30.blk (k := 0) rfl) (zg 15 32603 16301 4) (zeb rfl) Tryz.underlying29 rfl (by kernel_rfl)) fun _ F32 => ?_
 clear F28
 refine zk (w' := w30) (zc rfl) rfl F32 rfl _ (zdb _ _ rfl (F32.get (t := 2) rfl) (M30.blk (k := 4) rfl) (recA ⟨1, ({ data := #[117] }), [115], kV, 0, [], 0, 0, 0⟩ ⟨.slice A9 ([115]).length c9, zN⟩) (zeb rfl) Tryz.underlying33 rfl (by kernel_rfl)) fun _ F33 => ?_
 clear F32
 refine zk (w' := w30) (zc rfl) rfl F33 rfl (numV kAA) (zdb _ _ rfl (F33.get (t := 4) rfl) (M30.blk (k := 10) rfl) (numA kAA) (zeb rfl) Tryz.underlying27 rfl ze) fun _ F34 => ?_
 clear F33
 refine zcb (zc rfl) rfl F34 rfl (run_litO M30 11 [50] 1 rfl (by decide) (by decide) rfl (by simp only [List.map_toArray, List.map_cons, List.map_nil]; kernel_rfl)) ?_
 intro v35 a35 w35 F35 M35
 clear F34 M30
 obtain ⟨A35, c35, rfl⟩ := (M35.isO (k := 11) rfl).shape
 refine zcb (zc rfl) rfl F35 rfl (run_cvL M35 (k := 11) rfl (by decide) _ rfl (F35.get (t := 36) rfl)) ?_
 intro v36 a36 w36 F36 M36
 clear F35 M35
 obtain ⟨A36, c36, rfl⟩ := (M36.isb (k := 11) rfl).shape
 refine zba (zc rfl) rfl F36 rfl rfl (zE Tryz.func14 rfl) #[.agg (zg 15 32603 16301 4), .agg (recA ⟨1, ({ data := #[117] }), [115], kV, 0, [], 0, 0, 0⟩ ⟨.slice A9 ([115]).length c9, zN⟩), numV kAA, .slice A36 ([50]).length c36] (args4 (F36.get (t := 33) rfl) (F36.get (t := 34) rfl) (F36.get (t := 35) rfl) (F36.get (t := 37) rfl)) (kc_o w36 _ _ (M36.isb (k := 1) rfl) (M36.isb (k := 11) rfl)) ?_
 rintro _ w37 a37 ⟨y37, rfl, his37, hlo37, hls37, b37⟩ F37
 obtain ⟨M37, -⟩ := side_two M36 b37 12 13 his37 hlo37 hls37 (by decide)
 clear M36 hlo37 hls37 his37 b37
 refine zB 4 [(0, .bool false), (2, .pointer (some ⟨g17, 0, none⟩)), (3, .pointer (some ⟨g27, 0, none⟩)), (39, .agg (zl kS y37)), (40, numV (offB 32603 16301 4 kV kB)), (41, .bool true)] [] dnil [] F37 fun _ F38 => ?_
 clear F37
 refine zh (zc rfl) rfl F38 rfl M37 14 (t := 37) (c := zSA) (by unfold execOp; kernel_rfl) ?_
 intro g39 a39 w39 F39 M39
 clear F38 M37
 refine zh (zc rfl) rfl F39 rfl M39 15 (t := 27) (c := numA 0) (zx rfl) ?_
 intro g40 a40 w40 F40 M40
 clear F39 M39
 refine zw (zc rfl) rfl F40 M40 (k := 14) rfl _ _ _ rfl (F40.get (t := 5) rfl) (F40.get (t := 39) rfl) (zl kS y37) _ rfl (zL rfl) (zva (w := w40) ⟨(M40.isb (k := 12) rfl), (M40.isb (k := 13) rfl)⟩) (zp rfl) (by kernel_rfl) ?_
 intro w41 M41
 clear M40
 refine zw (zc rfl) rfl F40 M41 (k := 15) rfl _ _ _ rfl (F40.get (t := 6) rfl) (F40.get (t := 40) rfl) (numA (offB 32603 16301 4 kV kB)) _ rfl (zL rfl) (zaa _) (zp rfl) ze ?_
 intro w42 M42
 clear M41
 refine rm rfl F40 fun _ F43 => ?_
 refine hK31 _ _ ?_
 refine zSk fun _ hK44 => ?_
 refine zR ?_
 refine zB 4 [(0, .bool false), (5, .pointer (some ⟨g39, 0, none⟩)), (7, .bool true), (43, .agg (zl kC y25)), (45, .slice A9 ([115]).length c9), (46, numV (offB 32603 16301 4 kV kB))] [0, 1, 2] (zr (M42.blk (k := 9) rfl) (zr (M42.blk (k := 4) rfl) (zr (M42.blk (k := 15) rfl) dnil))) [g27, g17, g40] F43 fun _ F45 => ?_
 clear F43
 refine zba (zc rfl) rfl F45 rfl rfl (zE Tryz.func16 rfl) #[.agg (zl kC y25), .slice A9 ([115]).length c9, numV (offB 32603 16301 4 kV kB)] (args3 (F45.get (t := 43) rfl) (F45.get (t := 45) rfl) (F45.get (t := 46) rfl)) (kc_p w42 _ _ ⟨(M42.isb (k := 7) rfl), (M42.isb (k := 8) rfl)⟩ (M42.isb (k := 1) rfl)) ?_
 rintro _ w46 a46 ⟨y46, rfl, his46, hlo46, hls46, b46⟩ F46
 obtain ⟨M46, -⟩ := side_two M42 b46 16 17 his46 hlo46 hls46 (by decide)
 clear M42 hlo46 hls46 his46 b46
 refine zB 4 [(0, .bool false), (5, .pointer (some ⟨g39, 0, none⟩)), (7, .bool true), (48, .agg (zl kD y46)), (49, .agg (zi kD.Pr)), (50, .bool true)] [] dnil [] F46 fun _ F47 => ?_
 clear F46
 refine zh (zc rfl) rfl F47 rfl M46 18 (t := 37) (c := zSA) (by unfold execOp; kernel_rfl) ?_
 intro g48 a48 w48 F48 M48
 clear F47 M46
 refine zh (zc rfl) rfl F48 rfl M48 19 (t := 35) (c := zi (fun _ => 0)) (by unfold execOp; kernel_rfl) ?_
 intro g49 a49 w49 F49 M49
 clear F48 M48
 refine zw (zc rfl) rfl F49 M49 (k := 18) rfl _ _ _ rfl (F49.get (t := 8) rfl) (F49.get (t := 48) rfl) (zl kD y46) _ rfl (zL rfl) (zva (w := w49) ⟨(M49.isb (k := 16) rfl), (M49.isb (k := 17) rfl)⟩) (zp rfl) (by kernel_rfl) ?_
 intro w50 M50
 clear M49
 refine zw (zc rfl) rfl F49 M50 (k := 19) rfl _ _ _ rfl (F49.get (t := 9) rfl) (F49.get (t := 49) rfl) (zi kD.Pr) _ rfl (zL rfl) (zfa _) (zp rfl) (by kernel_rfl) ?_
 intro w51 M51
 clear M50
 refine rm rfl F49 fun _ F52 => ?_
 refine hK44 _ _ ?_
 refine zSk fun _ hK53 => ?_
 have hD54 := (zr (M51.blk (k := 14) rfl) (zr (M51.blk (k := 19) rfl) dnil))
 refine region_fxL F52 (SK [.inl (.agg (zl kS y37)), .inl (.agg (zi kD.Pr)), .inr (StK.bytes (sumY kD.Pr)), .inl (.tuple #[.agg (zi (ansY kS.Ky kS.Pr)), .bool true]), .inl (.tuple #[.agg (zi (ansY kS.Ky kS.Pr)), .bool true]), .inl (.agg (zi (ansY kS.Ky kS.Pr))), .inl (.bool true), .inr (StK.new w51.heap.size (zi (fun _ => 0)) 35 (by decide))]) 8 6 51 1 4 #[.agg (zi (ansY kS.Ky kS.Pr)), .bool true] (.bool true) rfl (by kernel_rfl) rfl (by kernel_rfl) (fun _ _ h => h) rfl (fun _ _ => Iff.rfl) rfl ⟨hopP F52 hD54 0 (some g39) (by kernel_rfl), hopP F52 hD54 1 (some g49) (by kernel_rfl), ?_, ?_, hop0 F52 (by kernel_rfl), hop0 F52 (by kernel_rfl), hop0 F52 (by kernel_rfl), ?_, trivial⟩ ?_
 ·intro ua uw hb hd
  have e53 : ua.eval (.tmp 53) = .agg (zi kD.Pr) := hd 53 (by decide)
  exact zz (F := (StK.bytes (sumY kD.Pr)).F) (zc rfl) hb.size rfl #[.agg (zi kD.Pr)] (zta e53) (zE Tryz.func18 rfl) ((kc_b kD.Pr kn_ok.2.pr uw))
 ·intro ua uw hb hd
  have e52 : ua.eval (.tmp 52) = .agg (zl kS y37) := hd 52 (by decide)
  have e54 : IsB uw (sumY kD.Pr) (ua.eval (.tmp 54)) := hd 54 (by decide)
  exact zz (F := (StK.eq (.tuple #[.agg (zi (ansY kS.Ky kS.Pr)), .bool true])).F) (zc rfl) hb.size rfl #[.agg (zl kS y37), (ua.eval (.tmp 54))] (z2a e52 rfl) (zE Tryz.func17 rfl) (zqa ((kc_c uw _ _ ⟨((M51.step hb).isb (k := 12) rfl), ((M51.step hb).isb (k := 13) rfl)⟩ e54)))
 ·intro ua uw hb hd
  exact hop_new (zc rfl) hb.size hb.size (by decide) (by unfold execOp; kernel_rfl)
 intro p55 a55 w55 b55 G55 y55
 obtain ⟨-, -, -, -, -, q5, q6, q7, -⟩ := y55
 obtain ⟨gn7x54, r7, hg7, hc7⟩ := q7 (by decide)
 replace r7 : p55 7 = .pointer (some ⟨gn7x54, 0, none⟩) := r7
 have r5 : p55 5 = .agg (zi (ansY kS.Ky kS.Pr)) := q5 (by decide)
 have r6 : p55 6 = .bool true := q6 (by decide)
 simp only [List.take, layV, Nat.zero_add, Nat.reduceAdd, r5, r6, r7] at G55
 have M55 := M51.newb b55.below 20 hg7 hc7
 clear hg7 hc7 r7
 clear F52 M51 r5 q5 r6 q6
 refine st_ex M55 (k := 20) rfl _ _ _ rfl (G55.get (t := 11) rfl) (G55.get (t := 56) rfl) (zi (ansY kS.Ky kS.Pr)) _ rfl (zL rfl) (zfa _) (zp rfl) (by kernel_rfl) ?_
 intro w56 M56
 clear M55
 refine rm rfl G55 fun _ F57 => ?_
 refine hK53 _ _ ?_
 refine zSk fun _ hK58 => ?_
 have hD59 := (zr (M56.blk (k := 18) rfl) (zr (M56.blk (k := 20) rfl) (zr (M56.blk (k := 14) rfl) dnil)))
 refine zha F57 (SK [.inl (.agg (zSA)), .inl (.bool false), .inl (.bool true), .inl (.bool true), .inl (.bool true), .inl (.bool true), .inl (.bool true), .inl (.bool true), .inl (.bool true), .inl (.bool true), .inl (.bool true), .inl (.bool true), .inl (.bool true), .inl (.agg (zl kD y46)), .inl (.agg (zi (ansY kS.Ky kS.Pr))), .inr (StK.bytes (sumY (ansY kS.Ky kS.Pr))), .inl (.bool true), .inl (.bool true), .inl (.bool true), .inl (.pointer (some ⟨g48, 60, none⟩)), .inl (.agg (zi kD.Ky)), .inl (.pointer (some ⟨g39, 60, none⟩)), .inl (.agg (zi kS.Ky)), .inl (.bool true), .inl (.bool true), .inl (.bool true)]) 26 rfl (by kernel_rfl) ⟨hopR F57 [] (v := .agg (zSA)) fun ua uw hb _ => (by unfold execOp; kernel_rfl), ?_, hop0 F57 (by kernel_rfl), hop0 F57 (by kernel_rfl), hop0 F57 (by kernel_rfl), hop0 F57 (by kernel_rfl), hop0 F57 (by kernel_rfl), hop0 F57 (by kernel_rfl), hop0 F57 (by kernel_rfl), hop0 F57 (by kernel_rfl), hop0 F57 (by kernel_rfl), hop0 F57 (by kernel_rfl), hop0 F57 (by kernel_rfl), hopP F57 hD59 0 (some g48) (by kernel_rfl), hopP F57 hD59 1 (some gn7x54) (by kernel_rfl), ?_, ?_, hop0 F57 (by kernel_rfl), hop0 F57 (by kernel_rfl), hop0 F57 (by kernel_rfl), hopP F57 hD59 0 (some g48) (by kernel_rfl), hop0 F57 (by kernel_rfl), hopP F57 hD59 2 (some g39) (by kernel_rfl), hopR F57 [(78, .agg (zi kD.Ky)), (80, .agg (zi kS.Ky))] (v := .bool true) fun ua uw hb ⟨e78, e80, _⟩ => (run_eq16 _ _ rfl kS.Ky (e78.trans (by rw [kn_Ky])) e80), hop0 F57 (by kernel_rfl), hop0 F57 (by kernel_rfl), trivial⟩ ?_
 ·intro ua uw hb hd
  have e58 : ua.eval (.tmp 58) = .agg (zSA) := hd 58 (by decide)
  exact zz (F := (StK.eq (.bool false)).F) (zc rfl) hb.size rfl #[.agg (zSA), zN] (z2a e58 rfl) (zE Tryz.func19 rfl) (zqa ((kc_z uw)))
 ·intro ua uw hb hd
  have eg : ua.eval (.tmp 70) = .bool true := hd 70 (by decide)
  have e72 : ua.eval (.tmp 72) = .agg (zi (ansY kS.Ky kS.Pr)) := hd 72 (by decide)
  exact zz (F := (StK.bytes (sumY (ansY kS.Ky kS.Pr))).F) (zwb rfl rfl rfl eg) hb.size rfl #[.agg (zi (ansY kS.Ky kS.Pr))] (zta e72) (zE Tryz.func18 rfl) ((kc_b (ansY kS.Ky kS.Pr) (zrb _) uw))
 ·intro ua uw hb hd
  have eg : ua.eval (.tmp 70) = .bool true := hd 70 (by decide)
  have e71 : ua.eval (.tmp 71) = .agg (zl kD y46) := hd 71 (by decide)
  have e73 : IsB uw (sumY (ansY kS.Ky kS.Pr)) (ua.eval (.tmp 73)) := hd 73 (by decide)
  exact zz (F := (StK.eq (.bool true)).F) (zwb rfl rfl rfl eg) hb.size rfl #[.agg (zl kD y46), (ua.eval (.tmp 73))] (z2a e71 rfl) (zE Tryz.func19 rfl) (zqa ((kc_d uw _ _ ⟨((M56.step hb).isb (k := 16) rfl), ((M56.step hb).isb (k := 17) rfl)⟩ e73)))
 intro p60 a60 w60 b60 G60 y60
 obtain ⟨-, -, -, -, -, -, -, -, -, -, -, -, -, -, -, -, -, -, -, -, -, -, -, -, -, q25, -⟩ := y60
 have r25 : p60 25 = .bool true := q25 (by decide)
 simp only [List.take, layV, Nat.zero_add, Nat.reduceAdd, r25] at G60
 have M60 := M56.kc b60
 clear F57 M56 r25 q25
 refine hK58 _ _ ?_
 refine wp_ret ?_
 try simp only [Exit.then, Exit.inBlock, Exit.jump]
 exact bodyPost_ret (res1 rfl (G60.get (t := 0) rfl)) G60.defers ⟨rfl, M60.below⟩
end Go.Proofs.YtcfepoopkfhojaaGreat
