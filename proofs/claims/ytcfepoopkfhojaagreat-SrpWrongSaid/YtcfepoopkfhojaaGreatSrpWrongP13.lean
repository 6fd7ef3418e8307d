/- What SrpWrong stands on, part 13. -/
import Derived.Test.YtcfepoopkfhojaaGreatSrpWrongP1
import Derived.Test.YtcfepoopkfhojaaGreatSrpWrongP2
import Derived.Test.YtcfepoopkfhojaaGreatSrpWrongP3
import Derived.Test.YtcfepoopkfhojaaGreatSrpWrongP4
import Derived.Test.YtcfepoopkfhojaaGreatSrpWrongP5
import Derived.Test.YtcfepoopkfhojaaGreatSrpWrongP6
import Derived.Test.YtcfepoopkfhojaaGreatSrpWrongP7
import Derived.Test.YtcfepoopkfhojaaGreatSrpWrongP8
import Derived.Test.YtcfepoopkfhojaaGreatSrpWrongP9
import Derived.Test.YtcfepoopkfhojaaGreatSrpWrongP10
import Derived.Test.YtcfepoopkfhojaaGreatSrpWrongP11
import Derived.Test.YtcfepoopkfhojaaGreatSrpWrongP12
set_option maxRecDepth 100000
set_option maxHeartbeats 8000000
set_option linter.unusedVariables false
set_option linter.unusedSimpArgs false
namespace Go.Proofs.YtcfepoopkfhojaaGreat
open Go.ChangeShapes Go.WideShapes Go.ChangeAt Go.RowKit
theorem rprove7_any (x : SideN) (y : SideV) (h1 : 1 < x.P) (hP : x.P < 2147483648) (h2 : 2 < x.Q) (hQ5 : x.Q < 4294967296) (hO : x.O < 4294967296) (hg : x.g < 4294967296 ^ 8) (ht : x.s.size ≤ 200) (hpl : x.lp.length ≤ 200) (l : List UInt8) (hll : l.length ≤ 200) (vl : Value) (b : Nat) (hb : b < 4294967296 ^ 8) (w : World) (hx : SideIs w x y) (hd : IsB w l vl) :
  Calls Tryz.prog 24 #[.agg (zk x y), vl, numV b] w fun e w' => ∃ y', e = .returned (.tuple #[.agg (zk (cond (prvOk x l b) (zja (prvS x l b) (prvN x l b)) zeroS) y'), .agg (zi (cond (prvOk x l b) (zja (prvS x l b) (prvN x l b)) zeroS).Pr), .bool (prvOk x l b)]) ∧ SShp y' ∧ Below w.heap.size w w' := by
 have hP0 : 0 < x.P := by omega
 have hQ0 : 0 < x.Q := by omega
 have hP8 : x.P < 4294967296 ^ 8 := Nat.lt_trans hP (by decide)
 have hQ : x.Q < 4294967296 ^ 8 := Nat.lt_trans hQ5 (by decide)
 have hm : ∀ q, q % x.P < 4294967296 ^ 8 := fun q => Nat.lt_trans (Nat.mod_lt _ hP0) hP8
 obtain ⟨X, hX⟩ : ∃ X, prvX x l = X := ⟨_, rfl⟩
 have hXl : X < 4294967296 ^ 8 := by rw [← hX]; exact Nat.lt_trans (z8b h2 _).2 hQ
 have kX := fun (w : World) (vp vs : Value) (hp : IsB w x.lp vp) (hs : IsB w l vs) => rx7_any x.k x.P x.Q x.g h2 hQ5 x.s ht x.lp l hpl hll vp vs w hp hs
 rw [show secN x.Q (sBy x.s) x.lp l = X from hX] at kX
 have kR1 := fun w => zqc x.k x.P x.Q x.g h1 hP x.g X hg hXl w
 obtain ⟨G1, hG1⟩ : ∃ G1, x.g ^ X % x.P = G1 := ⟨_, rfl⟩
 have hG1l : G1 < 4294967296 ^ 8 := by rw [← hG1]; exact hm _
 obtain ⟨K, hK⟩ : ∃ K, kN x.Q = K := ⟨_, rfl⟩
 have hKl : K < 4294967296 ^ 8 := by rw [← hK]; exact Nat.lt_trans (z8b h2 _).2 hQ
 have kK := fun w => rk7_any x.k x.P x.Q x.g h2 hQ5 w
 rw [hK] at kK
 have kC := fun w => rtimes_any x.k x.P x.Q x.g h1 hP K G1 hKl hG1l w
 obtain ⟨C, hC⟩ : ∃ C, K * G1 % x.P = C := ⟨_, rfl⟩
 have hCP : C < x.P := by rw [← hC]; exact Nat.mod_lt _ hP0
 have kS := fun w => rsub_any x.P C hP8 (Nat.lt_trans hCP hP8) w
 obtain ⟨u1, hu1⟩ : ∃ u1, lentI x.P C = u1 := ⟨_, rfl⟩
 obtain ⟨S1, hS1⟩ : ∃ S1, x.P - C = S1 := ⟨_, rfl⟩
 rw [hu1, show subN x.P C = S1 by unfold subN; rw [if_pos (by omega), hS1]] at kS
 have hS14 : S1 < 4294967296 := by omega
 obtain ⟨Bs, hBs⟩ : ∃ Bs, (b + S1) % x.P = Bs := ⟨_, rfl⟩
 have hBsl : Bs < 4294967296 ^ 8 := by rw [← hBs]; exact hm _
 have hB : prvB x.P x.Q x.g X b = Bs := by unfold prvB; rw [hG1, hK, hC, hS1, hBs]
 obtain ⟨b3, hb3⟩ : ∃ q, hasB Bs x.P x.Q = q := ⟨_, rfl⟩
 have kH := fun w => rhas_any x.k x.P x.Q x.g h1 hP Bs hBsl hQ w
 rw [hb3] at kH
 rw [hC] at kC
 rw [hG1] at kR1
 obtain ⟨U, hU⟩ : ∃ U, uN x.Q x.A b = U := ⟨_, rfl⟩
 have hUl : U < 4294967296 ^ 8 := by rw [← hU]; exact Nat.lt_trans (z8b h2 _).2 hQ
 have kU := fun w => ru7_any x.k x.P x.Q x.g h2 hQ5 x.A b w
 rw [hU] at kU
 have kMu := fun w => rmul_any U X hUl hXl w
 have hq : U * X % 4294967296 ^ 8 + U * X / 4294967296 ^ 8 * 4294967296 ^ 8 = U * X := by rw [Nat.mul_comm (U * X / _)]; exact Nat.mod_add_div _ _
 have kRe := fun w => rrest_pos (U * X % 4294967296 ^ 8) (U * X / 4294967296 ^ 8) x.Q (Nat.mod_lt _ (by decide)) (Nat.div_lt_of_lt_mul (Nat.mul_lt_mul'' hUl hXl)) hQ hQ0 w
 rw [hq] at kRe
 obtain ⟨Mo, hMo⟩ : ∃ Mo, U * X % x.Q = Mo := ⟨_, rfl⟩
 have hMo4 : Mo < 4294967296 := by rw [← hMo]; exact Nat.lt_trans (Nat.mod_lt _ hQ0) hQ5
 rw [hMo] at kRe
 obtain ⟨L, hL⟩ : ∃ L, U * X % 4294967296 ^ 8 = L := ⟨_, rfl⟩
 obtain ⟨H, hH⟩ : ∃ H, U * X / 4294967296 ^ 8 = H := ⟨_, rfl⟩
 rw [hL, hH] at kMu kRe
 have kT2 := fun w => rsum7_any x.O Mo x.Q hO hMo4 hQ0 hQ w
 obtain ⟨E, hE⟩ : ∃ E, (x.O + Mo) % x.Q = E := ⟨_, rfl⟩
 have hEl : E < 4294967296 ^ 8 := by rw [← hE]; exact Nat.lt_trans (Nat.mod_lt _ hQ0) hQ
 rw [hE] at kT2
 have kR3 := fun w => zqc x.k x.P x.Q x.g h1 hP Bs E hBsl hEl w
 obtain ⟨N, hN⟩ : ∃ N, Bs ^ E % x.P = N := ⟨_, rfl⟩
 rw [hN] at kR3
 have hoN : prvN x l b = N := by unfold prvN; rw [hX, hB, hU, hMo, hE, hN]
 have hoK : prvOk x l b = (!decide (b = 0) && decide (b < x.P) && b3) := by unfold prvOk; rw [hX, hB, hb3]
 rw [hoN, hoK]
 obtain ⟨D, hD⟩ : ∃ D, cmpI b x.P = D := ⟨_, rfl⟩
 have kCm := fun w => rcmp_any b x.P hb hP8 w
 rw [hD] at kCm
 have hDb : 0 ≤ D ↔ ¬ b < x.P := by
  rw [← hD]; unfold cmpI
  by_cases h : b < x.P
  ·rw [if_pos h]; exact ⟨fun h => absurd h (by decide), fun h2 => absurd h h2⟩
  ·rw [if_neg h]; exact ⟨fun _ => h, fun _ => by split <;> decide⟩
 clear hoN hoK hN hE hH hL hMo hq hX hK hU hC hG1 hS1 hb3 hu1 hD hB
 unfold prvS
 obtain ⟨vp, vs⟩ := y
 obtain ⟨Ap, cp, rfl⟩ := id hx.hp.shape
 obtain ⟨As, cs, rfl⟩ := id hx.hs.shape
 obtain ⟨Al, cl, rfl⟩ := id hd.shape
 refine zea (args := [.agg (zk x ⟨.slice Ap x.lp.length cp, .slice As x.ls.length cs⟩), .slice Al l.length cl, numV b]) 103 Tryz.func24 rfl rfl rfl ?_
 intro fa F
 have M := Mx.start w
 replace M := M.argB 0 hx.hp (fun g e => by cases e)
 replace M := M.argB 1 hx.hs (fun g e => by cases e)
 replace M := M.argB 2 hd (fun g e => by cases e)
 refine zT fun _ hK1 => zh (zc rfl) rfl F rfl M 3 (t := 42) (c := zk x ⟨.slice Ap x.lp.length cp, .slice As x.ls.length cs⟩) (by unfold execOp; simp only [(F.get (t := 0) rfl)]; kernel_rfl) ?_
 intro g2 a2 w2 F2 M2
 refine zh (zc rfl) rfl F2 rfl M2 4 (t := 27) (c := numA b) (by unfold execOp; simp only [(F2.get (t := 2) rfl)]; kernel_rfl) ?_
 intro g3 a3 w3 F3 M3
 refine zh (zc rfl) rfl F3 rfl M3 5 (t := 42) (c := zSA) (by unfold execOp; kernel_rfl) ?_
 intro g4 a4 w4 F4 M4
 refine zh (zc rfl) rfl F4 rfl M4 6 (t := 35) (c := zi (fun _ => 0)) (by unfold execOp; kernel_rfl) ?_
 intro g5 a5 w5 F5 M5
 refine rm rfl F5 fun _ F6 => hK1 _ _ (zT fun _ hK7 => zAx 2 [(19, .pointer (some ⟨g2, 0, none⟩)), (20, .agg (zg x.k x.P x.Q x.g))] [0] (zp (M5.blk (k := 3) rfl) dnil) [g2] F6 fun _ F8 => ?_)
 refine zh (zc rfl) rfl F8 rfl M5 7 (t := 29) (c := zg 0 0 0 0) (by unfold execOp; rw [zxb]; kernel_rfl) ?_
 intro g9 a9 w9 F9 M9
 refine zr (zc rfl) rfl F9 M9 (k := 7) rfl _ _ _ rfl (F9.get (t := 9) rfl) (F9.get (t := 20) rfl) (zg x.k x.P x.Q x.g) _ rfl (zL rfl) (z3b _ _ _ _) (zo rfl) (by kernel_rfl) ?_
 intro w10 M10
 refine hK7 _ _ (zSk fun _ hK11 => zT fun _ hK12 => zj (w' := w10) (zc rfl) rfl F9 rfl (numV b) (zxa _ _ rfl (F9.get (t := 5) rfl) (M10.blk (k := 4) rfl) (numA b) (z1a rfl) Tryz.underlying27 rfl zd) fun _ F13 => ?_)
 refine zj (w' := w10) (zc rfl) rfl F13 rfl (numV 0) (zlc rfl) fun _ F14 => ?_
 by_cases h15 : b = 0
 ·refine zj (w' := w10) (zc rfl) rfl F14 rfl (.bool true) (y_eqA _ _ _ _ rfl (F14.get (t := 21) rfl) (F14.get (t := 22) rfl) (by kernel_rfl) (eqn_is h15 _)) fun _ F16 => ?_
  refine zAx 7 [(24, .bool true), (25, undef), (26, undef), (27, undef), (28, undef), (29, undef), (30, .bool true)] [] dnil [] F16 fun _ F17 => ?_
  refine hK12 _ _ (wp_cond_true (F17.get (t := 30) rfl) (zT fun _ hK18 => zj (w' := w10) (zc rfl) rfl F17 rfl (.agg (zSA)) (by unfold execOp; kernel_rfl) fun _ F19 => ?_))
  refine zj (w' := w10) (zc rfl) rfl F19 rfl (.agg (zi (fun _ => 0))) (by unfold execOp; kernel_rfl) fun _ F20 => ?_
  refine zr (zc rfl) rfl F20 M10 (k := 5) rfl _ _ _ rfl (F20.get (t := 6) rfl) (F20.get (t := 31) rfl) (zSA) _ rfl (zL rfl) (zpa (w := w10) ⟨(zfa _), (zfa _)⟩) (zo rfl) (by kernel_rfl) ?_
  intro w21 M21
  refine zr (zc rfl) rfl F20 M21 (k := 6) rfl _ _ _ rfl (F20.get (t := 7) rfl) (F20.get (t := 32) rfl) (zi (fun _ => 0)) _ rfl (zL rfl) (zda _) (zo rfl) (by kernel_rfl) ?_
  intro w22 M22
  refine rm rfl F20 fun _ F23 => hK18 _ _ (wp_ret ?_)
  try simp only [Exit.then, Exit.inBlock, Exit.jump]
  exact bodyPost_ret (res2ct rfl (F23.get rfl) (M22.blk (k := 5) rfl) (F23.get rfl) (M22.blk (k := 6) rfl) (F23.get rfl) Tryz.underlying42 rfl (by kernel_rfl) Tryz.underlying35 rfl (by kernel_rfl)) F23.defers (by simp only [Bool.false_and, Bool.true_and, Bool.and_false, Bool.and_true, Bool.not_true, Bool.not_false, cond_true, cond_false, decide_eq_true h15]; exact ⟨_, rfl, ⟨⟨_, _, _, rfl⟩, _, _, _, rfl⟩, M22.below⟩)
 ·refine zj (w' := w10) (zc rfl) rfl F14 rfl (.bool false) (y_eqA _ _ _ _ rfl (F14.get (t := 21) rfl) (F14.get (t := 22) rfl) (by kernel_rfl) (eqn_no hb h15 _)) fun _ F24 => ?_
  refine zAx 4 [(24, .bool false), (25, numV b), (26, .pointer (some ⟨g9, 1, none⟩)), (27, numV x.P)] [0, 1] (zp (M10.blk (k := 4) rfl) (zp (M10.blk (k := 7) rfl) dnil)) [g3, g9] F24 fun _ F25 => ?_
  refine zaa (zob rfl rfl rfl (F25.get (t := 24) rfl)) rfl F25 rfl rfl (zE Tryz.func55 rfl) #[numV b, numV x.P] (z3a (F25.get (t := 25) rfl) (F25.get (t := 27) rfl)) (zca (kCm w10)) ?_
  rintro _ w26 a26 ⟨rfl, b26⟩ F26
  have M26 := M10.step b26
  by_cases h27 : 0 ≤ D
  ·have hbP : ¬ b < x.P := hDb.1 h27
   refine zj (w' := w26) (zob rfl rfl rfl (F26.get (t := 24) rfl)) rfl F26 rfl (.bool true) (y_geq _ _ _ _ rfl (F26.get (t := 28) rfl) rfl (decide_eq_true h27)) fun _ F28 => ?_
   refine zj (w' := w26) (zc rfl) rfl F28 rfl (.bool true) (run_pick_f rfl (F28.get (t := 24) rfl) (F28.get (t := 29) rfl)) fun _ F29 => ?_
   refine hK12 _ _ (wp_cond_true (F29.get (t := 30) rfl) (zT fun _ hK30 => zj (w' := w26) (zc rfl) rfl F29 rfl (.agg (zSA)) (by unfold execOp; kernel_rfl) fun _ F31 => ?_))
   refine zj (w' := w26) (zc rfl) rfl F31 rfl (.agg (zi (fun _ => 0))) (by unfold execOp; kernel_rfl) fun _ F32 => ?_
   refine zr (zc rfl) rfl F32 M26 (k := 5) rfl _ _ _ rfl (F32.get (t := 6) rfl) (F32.get (t := 31) rfl) (zSA) _ rfl (zL rfl) (zpa (w := w26) ⟨(zfa _), (zfa _)⟩) (zo rfl) (by kernel_rfl) ?_
   intro w33 M33
   refine zr (zc rfl) rfl F32 M33 (k := 6) rfl _ _ _ rfl (F32.get (t := 7) rfl) (F32.get (t := 32) rfl) (zi (fun _ => 0)) _ rfl (zL rfl) (zda _) (zo rfl) (by kernel_rfl) ?_
   intro w34 M34
   refine rm rfl F32 fun _ F35 => hK30 _ _ (wp_ret ?_)
   try simp only [Exit.then, Exit.inBlock, Exit.jump]
   exact bodyPost_ret (res2ct rfl (F35.get rfl) (M34.blk (k := 5) rfl) (F35.get rfl) (M34.blk (k := 6) rfl) (F35.get rfl) Tryz.underlying42 rfl (by kernel_rfl) Tryz.underlying35 rfl (by kernel_rfl)) F35.defers (by simp only [Bool.false_and, Bool.true_and, Bool.and_false, Bool.and_true, Bool.not_true, Bool.not_false, cond_true, cond_false, decide_eq_false h15, decide_eq_false hbP]; exact ⟨_, rfl, ⟨⟨_, _, _, rfl⟩, _, _, _, rfl⟩, M34.below⟩)
  ·have hbP : b < x.P := Decidable.byContradiction fun h9 => h27 (hDb.2 h9)
   have kT := fun w => rsum7_any b S1 x.P (Nat.lt_trans hbP (by omega)) hS14 hP0 hP8 w
   rw [hBs] at kT
   refine zj (w' := w26) (zob rfl rfl rfl (F26.get (t := 24) rfl)) rfl F26 rfl (.bool false) (y_geq _ _ _ _ rfl (F26.get (t := 28) rfl) rfl (decide_eq_false h27)) fun _ F36 => ?_
   refine zj (w' := w26) (zc rfl) rfl F36 rfl (.bool false) (run_pick_f rfl (F36.get (t := 24) rfl) (F36.get (t := 29) rfl)) fun _ F37 => ?_
   refine hK12 _ _ (wp_cond_false (F37.get (t := 30) rfl) (wp_skip (hK11 _ _ (zT fun _ hK38 => zAx 6 [(33, .agg (zg x.k x.P x.Q x.g)), (34, .pointer (some ⟨g2, 25, none⟩)), (35, .string x.s), (36, .pointer (some ⟨g2, 26, none⟩)), (37, .slice Ap x.lp.length cp), (38, .slice Al l.length cl)] [0, 1, 1] (zp (M26.blk (k := 7) rfl) (zp (M26.blk (k := 3) rfl) dnil)) [g9, g2, g2] F37 fun _ F39 => ?_))))
   refine zaa (zc rfl) rfl F39 rfl rfl (zE Tryz.func54 rfl) #[.agg (zg x.k x.P x.Q x.g), .string x.s, .slice Ap x.lp.length cp, .slice Al l.length cl] (args4 (F39.get (t := 33) rfl) (F39.get (t := 35) rfl) (F39.get (t := 37) rfl) (F39.get (t := 38) rfl)) (zca ((kX w26 _ _ (M26.isb (k := 0) rfl) (M26.isb (k := 2) rfl)))) ?_
   rintro _ w40 a40 ⟨rfl, b40⟩ F40
   have M40 := M26.step b40
   refine zh (zc rfl) rfl F40 rfl M40 8 (t := 27) (c := numA 0) (zu rfl) ?_
   intro g41 a41 w41 F41 M41
   refine zr (zc rfl) rfl F41 M41 (k := 8) rfl _ _ _ rfl (F41.get (t := 10) rfl) (F41.get (t := 39) rfl) (numA X) _ rfl (zL rfl) (zy _) (zo rfl) zd ?_
   intro w42 M42
   refine hK38 _ _ (zSk fun _ hK43 => ?_)
   have hD44 := (zp (M42.blk (k := 7) rfl) (zp (M42.blk (k := 8) rfl) dnil))
   refine zha F41 (SK [.inl (.agg (zg x.k x.P x.Q x.g)), .inl (.agg (zg x.k x.P x.Q x.g)), .inl (numV K), .inl (.agg (zg x.k x.P x.Q x.g)), .inl (.pointer (some ⟨g9, 17, none⟩)), .inl (numV x.g), .inl (numV X), .inl (numV G1), .inl (numV C), .inr (StK.new w42.heap.size (numA 0) 27 (by decide))]) 10 rfl (by kernel_rfl) ⟨hopP F41 hD44 0 (some g9) (by kernel_rfl), hopP F41 hD44 0 (some g9) (by kernel_rfl), hopC F41 [(41, .agg (zg x.k x.P x.Q x.g))] rfl (zE Tryz.func44 rfl) fun uw hb => kK uw, hopP F41 hD44 0 (some g9) (by kernel_rfl), hop0 F41 (by kernel_rfl), hopP F41 hD44 0 (some g9) (by kernel_rfl), hopP F41 hD44 1 (some g41) (by kernel_rfl), hopC F41 [(43, .agg (zg x.k x.P x.Q x.g)), (45, numV x.g), (46, numV X)] rfl (zE Tryz.func27 rfl) fun uw hb => kR1 uw, hopC F41 [(40, .agg (zg x.k x.P x.Q x.g)), (42, numV K), (47, numV G1)] rfl (zE Tryz.func28 rfl) fun uw hb => kC uw, ?_, trivial⟩ ?_
   ·intro ua uw hb hd
    exact hop_new (zc rfl) hb.size hb.size (by decide) (zu rfl)
   intro p45 a45 w45 b45 G45 y45
   obtain ⟨-, -, -, -, -, -, -, -, q8, q9, -⟩ := y45
   obtain ⟨gn9x44, r9, hg9, hc9⟩ := q9 (by decide)
   replace r9 : p45 9 = .pointer (some ⟨gn9x44, 0, none⟩) := r9
   have r8 : p45 8 = numV C := q8 (by decide)
   simp only [List.take, layV, Nat.zero_add, Nat.reduceAdd, r8, r9] at G45
   have M45 := M42.newb b45.below 9 hg9 hc9
   clear hg9 hc9 r9
   clear F41 M42 r8 q8
   refine zr (zc rfl) rfl G45 M45 (k := 9) rfl _ _ _ rfl (G45.get (t := 11) rfl) (G45.get (t := 48) rfl) (numA C) _ rfl (zL rfl) (zy _) (zo rfl) zd ?_
   intro w46 M46
   refine hK43 _ _ (zT fun _ hK47 => zAx 3 [(50, .pointer (some ⟨g9, 1, none⟩)), (51, numV x.P), (52, numV C)] [0, 1] (zp (M46.blk (k := 7) rfl) (zp (M46.blk (k := 9) rfl) dnil)) [g9, gn9x44] G45 fun _ F48 => ?_)
   clear G45
   refine zaa (zc rfl) rfl F48 rfl rfl (zE Tryz.func56 rfl) #[numV x.P, numV C] (z3a (F48.get (t := 51) rfl) (F48.get (t := 52) rfl)) (zca (kS w46)) ?_
   rintro _ w49 a49 ⟨rfl, b49⟩ F49
   have M49 := M46.step b49
   refine zAx 3 [(49, .tuple #[numV S1, .int .u32 u1]), (54, numV S1), (55, .int .u32 u1)] [] dnil [] F49 fun _ F50 => ?_
   refine zh (zc rfl) rfl F50 rfl M49 10 (t := 27) (c := numA 0) (zu rfl) ?_
   intro g51 a51 w51 F51 M51
   refine zr (zc rfl) rfl F51 M51 (k := 10) rfl _ _ _ rfl (F51.get (t := 12) rfl) (F51.get (t := 54) rfl) (numA S1) _ rfl (zL rfl) (zy _) (zo rfl) zd ?_
   intro w52 M52
   refine rm rfl F51 fun _ F53 => hK47 _ _ (zT fun _ hK54 => zAx 4 [(56, numV b), (57, numV S1), (58, .pointer (some ⟨g9, 1, none⟩)), (59, numV x.P)] [0, 1, 2] (zp (M52.blk (k := 4) rfl) (zp (M52.blk (k := 10) rfl) (zp (M52.blk (k := 7) rfl) dnil))) [g3, g51, g9] F53 fun _ F55 => ?_)
   refine zaa (zc rfl) rfl F55 rfl rfl (zE Tryz.func43 rfl) #[numV b, numV S1, numV x.P] (args3 (F55.get (t := 56) rfl) (F55.get (t := 57) rfl) (F55.get (t := 59) rfl)) (zca (kT w52)) ?_
   rintro _ w56 a56 ⟨rfl, b56⟩ F56
   have M56 := M52.step b56
   refine zh (zc rfl) rfl F56 rfl M56 11 (t := 27) (c := numA 0) (zu rfl) ?_
   intro g57 a57 w57 F57 M57
   refine zr (zc rfl) rfl F57 M57 (k := 11) rfl _ _ _ rfl (F57.get (t := 14) rfl) (F57.get (t := 60) rfl) (numA Bs) _ rfl (zL rfl) (zy _) (zo rfl) zd ?_
   intro w58 M58
   refine hK54 _ _ (zSk fun _ hK59 => zT fun _ hK60 => zj (w' := w58) (zc rfl) rfl F57 rfl _ (zxa _ _ rfl (F57.get (t := 9) rfl) (M58.blk (k := 7) rfl) (zg x.k x.P x.Q x.g) (z1a rfl) Tryz.underlying29 rfl (by kernel_rfl)) fun _ F61 => ?_)
   refine zj (w' := w58) (zc rfl) rfl F61 rfl (numV Bs) (zxa _ _ rfl (F61.get (t := 14) rfl) (M58.blk (k := 11) rfl) (numA Bs) (z1a rfl) Tryz.underlying27 rfl zd) fun _ F62 => ?_
   refine zaa (zc rfl) rfl F62 rfl rfl (zE Tryz.func30 rfl) #[.agg (zg x.k x.P x.Q x.g), numV Bs] (z3a (F62.get (t := 61) rfl) (F62.get (t := 62) rfl)) (zca (kH w58)) ?_
   rintro _ w63 a63 ⟨rfl, b63⟩ F63
   have M63 := M58.step b63
   cases b3
   ·refine zj (w' := w63) (zc rfl) rfl F63 rfl (.bool true) (zfc _ _ rfl (F63.get (t := 63) rfl)) fun _ F64 => ?_
    refine hK60 _ _ (wp_cond_true (F64.get (t := 64) rfl) (zT fun _ hK65 => zj (w' := w63) (zc rfl) rfl F64 rfl (.agg (zSA)) (by unfold execOp; kernel_rfl) fun _ F66 => ?_))
    refine zj (w' := w63) (zc rfl) rfl F66 rfl (.agg (zi (fun _ => 0))) (by unfold execOp; kernel_rfl) fun _ F67 => ?_
    refine zr (zc rfl) rfl F67 M63 (k := 5) rfl _ _ _ rfl (F67.get (t := 6) rfl) (F67.get (t := 65) rfl) (zSA) _ rfl (zL rfl) (zpa (w := w63) ⟨(zfa _), (zfa _)⟩) (zo rfl) (by kernel_rfl) ?_
    intro w68 M68
    refine zr (zc rfl) rfl F67 M68 (k := 6) rfl _ _ _ rfl (F67.get (t := 7) rfl) (F67.get (t := 66) rfl) (zi (fun _ => 0)) _ rfl (zL rfl) (zda _) (zo rfl) (by kernel_rfl) ?_
    intro w69 M69
    refine rm rfl F67 fun _ F70 => hK65 _ _ (wp_ret ?_)
    try simp only [Exit.then, Exit.inBlock, Exit.jump]
    exact bodyPost_ret (res2ct rfl (F70.get rfl) (M69.blk (k := 5) rfl) (F70.get rfl) (M69.blk (k := 6) rfl) (F70.get rfl) Tryz.underlying42 rfl (by kernel_rfl) Tryz.underlying35 rfl (by kernel_rfl)) F70.defers (by simp only [Bool.false_and, Bool.true_and, Bool.and_false, Bool.and_true, Bool.not_true, Bool.not_false, cond_true, cond_false, decide_eq_false h15, decide_eq_true hbP]; exact ⟨_, rfl, ⟨⟨_, _, _, rfl⟩, _, _, _, rfl⟩, M69.below⟩)
   ·refine zj (w' := w63) (zc rfl) rfl F63 rfl (.bool false) (zfc _ _ rfl (F63.get (t := 63) rfl)) fun _ F71 => ?_
    refine hK60 _ _ (wp_cond_false (F71.get (t := 64) rfl) (wp_skip (hK59 _ _ (zT fun _ hK72 => zAx 3 [(67, numV b), (68, .slice Al l.length cl), (69, .pointer (some ⟨g2, 35, none⟩))] [0] (zp (M63.blk (k := 4) rfl) dnil) [g3] F71 fun _ F73 => ?_))))
    refine zr (zc rfl) rfl F73 M63 (k := 3) rfl _ _ _ rfl (F73.get (t := 69) rfl) (F73.get (t := 67) rfl) (numA b) (zk ⟨x.k, x.P, x.Q, x.g, x.s, x.lp, x.A, b, x.O, x.ls, x.V, x.Ky, x.Pr⟩ ⟨.slice Ap x.lp.length cp, .slice As x.ls.length cs⟩) rfl (zL rfl) (zy _) (by kernel_rfl) zd ?_
    intro w74 M74
    refine zj (w' := w74) (zc rfl) rfl F73 rfl (.pointer (some ⟨g2, 51, none⟩)) (y_fa (off := 51) rfl (F73.get (t := 3) rfl) (by kernel_rfl) rfl) fun _ F75 => ?_
    refine zr (zc rfl) rfl F75 M74 (k := 3) rfl _ _ _ rfl (F75.get (t := 70) rfl) (F75.get (t := 68) rfl) (#[.slice Al l.length cl]) (zk (zPS x l b) ⟨.slice Ap x.lp.length cp, .slice Al l.length cl⟩) rfl (zL rfl) (one_slc rfl) (by kernel_rfl) (by kernel_rfl) ?_
    intro w76 M76
    refine hK72 _ _ (zSk fun _ hK77 => ?_)
    refine z4a F75 (SE [.inl (.agg (zg x.k x.P x.Q x.g)), .inl (.pointer (some ⟨g2, 27, none⟩)), .inl (numV x.A), .inl (numV b), .inl (numV U), .inl (numV X), .inl (.tuple #[numV L, numV H]), .inl (.tuple #[numV L, numV H]), .inl (numV L), .inl (numV H), .inr (fun vE => ∃ g, vE = .pointer (some ⟨g, 0, none⟩)), .inr (fun vE => ∃ g, vE = .pointer (some ⟨g, 0, none⟩)), .inl (undef)]) (JM none w fun SV pV => [(0, bytR x.lp (.slice Ap x.lp.length cp)), (1, bytR x.ls (.slice As x.ls.length cs)), (2, bytR l (.slice Al l.length cl)), (3, blkR g2 42 (zk (zPS x l b) ⟨.slice Ap x.lp.length cp, .slice Al l.length cl⟩)), (4, blkR g3 27 (numA b)), (5, blkR g4 42 (zSA)), (6, blkR g5 35 (zi (fun _ => 0))), (7, blkR g9 29 (zg x.k x.P x.Q x.g)), (8, blkR g41 27 (numA X)), (9, blkR gn9x44 27 (numA C)), (10, blkR g51 27 (numA S1)), (11, blkR g57 27 (numA Bs)), (12, eitherR (SV 12) (ptrR 27 (numA L) (pV 10)) (z7b (SV 10) (ptrR 27 (numA 0) (pV 10)))), (13, z7b (SV 11) (ptrR 27 (numA 0) (pV 11)))]) 13 rfl (by kernel_rfl) rfl ⟨trivial, trivial, trivial, trivial, trivial, trivial, trivial, trivial, trivial, trivial, trivial, trivial, fun _ => Iff.rfl, trivial⟩ (fun p => (((M76.step (zta _)).triv 12).triv 13).sub ⟨rfl, rfl, rfl, rfl, rfl, rfl, rfl, rfl, rfl, rfl, rfl, rfl, rfl, rfl, trivial⟩) ⟨z0a F75 (fun _ _ _ M => zp (Mx.blk (k := 7) M rfl) dnil) (some g9) (by kernel_rfl), zeb F75 (by kernel_rfl), z0a F75 (fun _ _ _ M => zp (Mx.blk (k := 3) M rfl) dnil) (some g2) (by kernel_rfl), z0a F75 (fun _ _ _ M => zp (Mx.blk (k := 4) M rfl) dnil) (some g3) (by kernel_rfl), ?_, z0a F75 (fun _ _ _ M => zp (Mx.blk (k := 8) M rfl) dnil) (some g41) (by kernel_rfl), ?_, zeb F75 (by kernel_rfl), zeb F75 (by kernel_rfl), zeb F75 (by kernel_rfl), ?_, ?_, ?_, trivial⟩ ?_
    ·intro ua uw SV pV (M : Mx none w uw _) hk hn hd
     have e72 : ua.eval (.tmp 72) = .agg (zg x.k x.P x.Q x.g) := zQ1 (hd 72 (by decide))
     have e74 : ua.eval (.tmp 74) = numV x.A := zQ1 (hd 74 (by decide))
     have e75 : ua.eval (.tmp 75) = numV b := zQ1 (hd 75 (by decide))
     exact zza (zc rfl) rfl #[.agg (zg x.k x.P x.Q x.g), numV x.A, numV b] (args3 e72 e74 e75) (zE Tryz.func45 rfl) ((kU uw).mono fun e w2 h => ⟨_, h.1, rfl, (M.step h.2).sub ⟨rfl, rfl, rfl, rfl, rfl, rfl, rfl, rfl, rfl, rfl, rfl, rfl, rfl, rfl, trivial⟩⟩)
    ·intro ua uw SV pV (M : Mx none w uw _) hk hn hd
     have e76 : ua.eval (.tmp 76) = numV U := zQ1 (hd 76 (by decide))
     have e77 : ua.eval (.tmp 77) = numV X := zQ1 (hd 77 (by decide))
     exact zza (zc rfl) rfl #[numV U, numV X] (z3a e76 e77) (zE Tryz.func57 rfl) ((kMu uw).mono fun e w2 h => ⟨_, h.1, rfl, (M.step h.2).sub ⟨rfl, rfl, rfl, rfl, rfl, rfl, rfl, rfl, rfl, rfl, rfl, rfl, rfl, rfl, trivial⟩⟩)
    ·intro ua uw SV pV (M : Mx none w uw _) hk hn hd
     exact zra (zc rfl) _ (zu rfl) ⟨_, rfl⟩ ((M.allocP 12 27 (numA 0)).sub ⟨rfl, rfl, rfl, rfl, rfl, rfl, rfl, rfl, rfl, rfl, rfl, rfl, (eitherR_at (hn 12 (by kernel_rfl)) rfl), rfl, trivial⟩)
    ·intro ua uw SV pV (M : Mx none w uw _) hk hn hd
     exact zra (zc rfl) _ (zu rfl) ⟨_, rfl⟩ ((M.allocP 13 27 (numA 0)).sub ⟨rfl, rfl, rfl, rfl, rfl, rfl, rfl, rfl, rfl, rfl, rfl, rfl, rfl, rfl, trivial⟩)
    ·intro ua uw SV pV (M : Mx none w uw _) hk hn hd
     obtain ⟨s10, f15, q15⟩ := (show SV 10 = true ∧ ua.eval (.tmp 15) = pV 10 ∧ stE _ 10 (pV 10) from hd 15 (by decide))
     have e79 : ua.eval (.tmp 79) = numV L := zQ1 (hd 79 (by decide))
     obtain ⟨g_, r_⟩ := (show ∃ g, pV 10 = .pointer (some ⟨g, 0, none⟩) from q15)
     have M2 := M.ptrV (k := 12) (g := g_) (condR_look s10 (eitherR_r hk rfl)) r_
     exact hopM_doM (zc rfl) rfl (run_st M2 (k := 12) rfl _ _ _ rfl (f15.trans r_) e79 (numA L) _ rfl (zL rfl) (zy _) (zo rfl) zd) (fun w2 h2 => (h2.toPtr (k := 12) rfl r_ rfl).sub ⟨rfl, rfl, rfl, rfl, rfl, rfl, rfl, rfl, rfl, rfl, rfl, rfl, rfl, rfl, trivial⟩) rfl
    intro p78 a78 w78 M78 G78 y78
    obtain ⟨-, -, -, -, -, -, -, -, -, q9, q10, q11, -, -⟩ := y78
    obtain ⟨gp10x77, r10⟩ := (show ∃ g, p78 10 = .pointer (some ⟨g, 0, none⟩) from q10)
    obtain ⟨gp11x77, r11⟩ := (show ∃ g, p78 11 = .pointer (some ⟨g, 0, none⟩) from q11)
    have r9 : p78 9 = numV H := q9
    replace M78 : Mx _ _ w78 [(0, bytR x.lp (.slice Ap x.lp.length cp)), (1, bytR x.ls (.slice As x.ls.length cs)), (2, bytR l (.slice Al l.length cl)), (3, blkR g2 42 (zk (zPS x l b) ⟨.slice Ap x.lp.length cp, .slice Al l.length cl⟩)), (4, blkR g3 27 (numA b)), (5, blkR g4 42 (zSA)), (6, blkR g5 35 (zi (fun _ => 0))), (7, blkR g9 29 (zg x.k x.P x.Q x.g)), (8, blkR g41 27 (numA X)), (9, blkR gn9x44 27 (numA C)), (10, blkR g51 27 (numA S1)), (11, blkR g57 27 (numA Bs)), (12, eitherR true (ptrR 27 (numA L) (p78 10)) (z7b true (ptrR 27 (numA 0) (p78 10)))), (13, z7b true (ptrR 27 (numA 0) (p78 11)))] := M78
    simp only [List.take, layV, Nat.zero_add, Nat.reduceAdd, r9, r10, r11] at G78
    rw [r10, r11] at M78
    have M78_12 := M78.ptr (k := 12) (g := gp10x77) rfl
    replace M78_12 := M78_12.toB (k := 12) (c2 := numA L) rfl rfl
    have M78_13 := M78_12.ptr (k := 13) (g := gp11x77) rfl
    refine zr (zc rfl) rfl G78 M78_13 (k := 13) rfl _ _ _ rfl (G78.get (t := 16) rfl) (G78.get (t := 80) rfl) (numA H) _ rfl (zL rfl) (zy _) (zo rfl) zd ?_
    intro w79 M79
    clear M78_13
    refine hK77 _ _ (zT fun _ hK80 => zAx 4 [(82, numV L), (83, numV H), (84, .pointer (some ⟨g9, 9, none⟩)), (85, numV x.Q)] [0, 1, 2] (zp (M79.blk (k := 12) rfl) (zp (M79.blk (k := 13) rfl) (zp (M79.blk (k := 7) rfl) dnil))) [gp10x77, gp11x77, g9] G78 fun _ F81 => ?_)
    clear G78
    refine zaa (zc rfl) rfl F81 rfl rfl (zE Tryz.func58 rfl) #[numV L, numV H, numV x.Q] (args3 (F81.get (t := 82) rfl) (F81.get (t := 83) rfl) (F81.get (t := 85) rfl)) (zca (kRe w79)) ?_
    rintro _ w82 a82 ⟨rfl, b82⟩ F82
    have M82 := M79.step b82
    refine zAx 3 [(81, .tuple #[numV Mo, .bool true]), (87, numV Mo), (88, .bool true)] [] dnil [] F82 fun _ F83 => ?_
    refine zh (zc rfl) rfl F83 rfl M82 14 (t := 27) (c := numA 0) (zu rfl) ?_
    intro g84 a84 w84 F84 M84
    refine zr (zc rfl) rfl F84 M84 (k := 14) rfl _ _ _ rfl (F84.get (t := 17) rfl) (F84.get (t := 87) rfl) (numA Mo) _ rfl (zL rfl) (zy _) (zo rfl) zd ?_
    intro w85 M85
    refine rm rfl F84 fun _ F86 => hK80 _ _ (zSk fun _ hK87 => ?_)
    have hD88 := (zp (M85.blk (k := 3) rfl) (zp (M85.blk (k := 7) rfl) (zp (M85.blk (k := 11) rfl) (zp (M85.blk (k := 14) rfl) dnil))))
    refine zha F86 (SK [.inl (.agg (zk (zPS x l b) ⟨.slice Ap x.lp.length cp, .slice Al l.length cl⟩)), .inl (.agg (zg x.k x.P x.Q x.g)), .inl (numV Bs), .inl (.pointer (some ⟨g2, 43, none⟩)), .inl (numV x.O), .inl (numV Mo), .inl (.pointer (some ⟨g9, 9, none⟩)), .inl (numV x.Q), .inl (numV E), .inl (numV N), .inl (.agg (zk (zja (zPS x l b) N) ⟨.slice Ap x.lp.length cp, .slice Al l.length cl⟩))]) 11 rfl (by kernel_rfl) ⟨hopP F86 hD88 0 (some g2) (by kernel_rfl), hopP F86 hD88 1 (some g9) (by kernel_rfl), hopP F86 hD88 2 (some g57) (by kernel_rfl), hop0 F86 (by kernel_rfl), hopP F86 hD88 0 (some g2) (by kernel_rfl), hopP F86 hD88 3 (some g84) (by kernel_rfl), hop0 F86 (by kernel_rfl), hopP F86 hD88 1 (some g9) (by kernel_rfl), hopC F86 [(93, numV x.O), (94, numV Mo), (96, numV x.Q)] rfl (zE Tryz.func43 rfl) fun uw hb => kT2 uw, hopC F86 [(90, .agg (zg x.k x.P x.Q x.g)), (91, numV Bs), (97, numV E)] rfl (zE Tryz.func27 rfl) fun uw hb => kR3 uw, hopC F86 [(89, .agg (zk (zPS x l b) ⟨.slice Ap x.lp.length cp, .slice Al l.length cl⟩)), (98, numV N)] rfl (zE Tryz.func46 rfl) fun uw hb => (rkeyed7_any (zPS x l b) ⟨.slice Ap x.lp.length cp, .slice Al l.length cl⟩ N ht hll uw ⟨((M85.step hb).isb (k := 0) rfl), ((M85.step hb).isb (k := 2) rfl)⟩), trivial⟩ ?_
    intro p89 a89 w89 b89 G89 y89
    obtain ⟨-, -, -, -, -, -, -, -, -, -, q10, -⟩ := y89
    have r10 : p89 10 = .agg (zk (zja (zPS x l b) N) ⟨.slice Ap x.lp.length cp, .slice Al l.length cl⟩) := q10 (by decide)
    simp only [List.take, layV, Nat.zero_add, Nat.reduceAdd, r10] at G89
    have M89 := M85.kc b89
    clear F86 M85 r10 q10
    refine zr (zc rfl) rfl G89 M89 (k := 3) rfl _ _ _ rfl (G89.get (t := 3) rfl) (G89.get (t := 99) rfl) (zk (zja (zPS x l b) N) ⟨.slice Ap x.lp.length cp, .slice Al l.length cl⟩) _ rfl (zL rfl) (zpa (w := w89) ⟨(M89.isb (k := 0) rfl), (M89.isb (k := 2) rfl)⟩) (zo rfl) (by kernel_rfl) ?_
    intro w90 M90
    refine hK87 _ _ (zSk fun _ hK91 => ?_)
    refine z4a G89 (SE [.inl (.agg (zk (zja (zPS x l b) N) ⟨.slice Ap x.lp.length cp, .slice Al l.length cl⟩)), .inl (.pointer (some ⟨g2, 76, none⟩)), .inl (.agg (zi ((zja (zPS x l b) N).Pr))), .inl (undef)]) (JM none w fun SV pV => [(0, bytR x.lp (.slice Ap x.lp.length cp)), (1, bytR x.ls (.slice As x.ls.length cs)), (2, bytR l (.slice Al l.length cl)), (3, blkR g2 42 (zk (zja (zPS x l b) N) ⟨.slice Ap x.lp.length cp, .slice Al l.length cl⟩)), (4, blkR g3 27 (numA b)), (5, blkR g4 42 (zk (cond (SV 3) ((zja (zPS x l b) N) : SideN) ⟨0, 0, 0, 0, "".toUTF8, [], 0, 0, 0, [], 0, (fun _ => 0), (fun _ => 0)⟩) (cond (SV 3) (⟨.slice Ap x.lp.length cp, .slice Al l.length cl⟩ : SideV) ⟨zN, zN⟩))), (6, blkR g5 35 (zi (fun _ => 0))), (7, blkR g9 29 (zg x.k x.P x.Q x.g)), (8, blkR g41 27 (numA X)), (9, blkR gn9x44 27 (numA C)), (10, blkR g51 27 (numA S1)), (11, blkR g57 27 (numA Bs)), (12, blkR gp10x77 27 (numA L)), (13, blkR gp11x77 27 (numA H)), (14, blkR g84 27 (numA Mo))]) 4 rfl (by kernel_rfl) rfl ⟨trivial, trivial, trivial, fun _ => Iff.rfl, trivial⟩ (fun p => (M90.step (zta _)).sub ⟨rfl, rfl, rfl, rfl, rfl, rfl, rfl, rfl, rfl, rfl, rfl, rfl, rfl, rfl, rfl, trivial⟩) ⟨z0a G89 (fun _ _ _ M => zp (Mx.blk (k := 3) M rfl) dnil) (some g2) (by kernel_rfl), zeb G89 (by kernel_rfl), z0a G89 (fun _ _ _ M => zp (Mx.blk (k := 3) M rfl) dnil) (some g2) (by kernel_rfl), ?_, trivial⟩ ?_
    ·intro ua uw SV pV (M : Mx none w uw _) hk hn hd
     have e6 : ua.eval (.tmp 6) = .pointer (some ⟨g4, 0, none⟩) := (show ua.eval (.tmp 6) = _ from hd 6 (by decide)).trans (G89.get (t := 6) rfl)
     have e100 : ua.eval (.tmp 100) = .agg (zk (zja (zPS x l b) N) ⟨.slice Ap x.lp.length cp, .slice Al l.length cl⟩) := zQ1 (hd 100 (by decide))
     exact hopM_doM (zc rfl) rfl (run_st M (k := 5) rfl _ _ _ rfl e6 e100 (zk (zja (zPS x l b) N) ⟨.slice Ap x.lp.length cp, .slice Al l.length cl⟩) _ rfl (zL rfl) (zpa (w := w90) ⟨(M90.isb (k := 0) rfl), (M90.isb (k := 2) rfl)⟩) (zo rfl) (by kernel_rfl)) (fun w2 h2 => h2.sub ⟨rfl, rfl, rfl, rfl, rfl, rfl, rfl, rfl, rfl, rfl, rfl, rfl, rfl, rfl, rfl, trivial⟩) rfl
    intro p92 a92 w92 M92 G92 y92
    obtain ⟨-, -, q2, -, -⟩ := y92
    have r2 : p92 2 = .agg (zi ((zja (zPS x l b) N).Pr)) := q2
    replace M92 : Mx _ _ w92 [(0, bytR x.lp (.slice Ap x.lp.length cp)), (1, bytR x.ls (.slice As x.ls.length cs)), (2, bytR l (.slice Al l.length cl)), (3, blkR g2 42 (zk (zja (zPS x l b) N) ⟨.slice Ap x.lp.length cp, .slice Al l.length cl⟩)), (4, blkR g3 27 (numA b)), (5, blkR g4 42 (zk (zja (zPS x l b) N) ⟨.slice Ap x.lp.length cp, .slice Al l.length cl⟩)), (6, blkR g5 35 (zi (fun _ => 0))), (7, blkR g9 29 (zg x.k x.P x.Q x.g)), (8, blkR g41 27 (numA X)), (9, blkR gn9x44 27 (numA C)), (10, blkR g51 27 (numA S1)), (11, blkR g57 27 (numA Bs)), (12, blkR gp10x77 27 (numA L)), (13, blkR gp11x77 27 (numA H)), (14, blkR g84 27 (numA Mo))] := M92
    simp only [List.take, layV, Nat.zero_add, Nat.reduceAdd, r2] at G92
    refine zr (zc rfl) rfl G92 M92 (k := 6) rfl _ _ _ rfl (G92.get (t := 7) rfl) (G92.get (t := 102) rfl) (zi ((zja (zPS x l b) N).Pr)) _ rfl (zL rfl) (zda _) (zo rfl) (by kernel_rfl) ?_
    intro w93 M93
    refine rm rfl G92 fun _ F94 => hK91 _ _ (wp_ret ?_)
    try simp only [Exit.then, Exit.inBlock, Exit.jump]
    exact bodyPost_ret (res2ct rfl (F94.get rfl) (M93.blk (k := 5) rfl) (F94.get rfl) (M93.blk (k := 6) rfl) (F94.get rfl) Tryz.underlying42 rfl (by kernel_rfl) Tryz.underlying35 rfl (by kernel_rfl)) F94.defers (by simp only [Bool.false_and, Bool.true_and, Bool.and_false, Bool.and_true, Bool.not_true, Bool.not_false, cond_true, cond_false, decide_eq_false h15, decide_eq_true hbP]; exact ⟨_, rfl, ⟨⟨_, _, _, rfl⟩, _, _, _, rfl⟩, M93.below⟩)
theorem group_t {n : Int} (h0 : -9223372036854775808 ≤ n) (h1 : n < 9223372036854775808) : ∃ t : Nat, t < 9 ∧ ∀ w, Calls Tryz.prog 32 #[.int .i64 n, .int .i64 9] w fun e w' => e = .returned (.int .i64 (t : Int)) ∧ w = w' := by
 refine ⟨(n % 9).toNat, by omega, fun w => ?_⟩
 have := gwithin_any n 9 (by omega) (by omega) h0 h1 w
 rw [show (((n % 9).toNat : Nat) : Int) = n % 9 by omega]
 exact this
def GOk (k : Int) (p : Nat) : Prop := 12 ≤ k ∧ k ≤ 24 ∧ p % 2 = 1 ∧ 4000 < p ∧ p < 16777216 ∧ primeB (p : Int) = true ∧ primeB ((p / 2 : Nat) : Int) = true
theorem group_at {t : Nat} (ht : t < 9) : ∃ (k : Int) (p : Nat), (#[.int .i64 12, .int .i64 13, .int .i64 14, .int .i64 15, .int .i64 16, .int .i64 17, .int .i64 18, .int .i64 20, .int .i64 24] : Array Value)[t]? = some (.int .i64 k) ∧
  zic 31 #[.int .i64 k] (.tuple #[.agg (zg k p (p / 2) 4), .bool true]) ∧ GOk k p := by
 have key : ∀ K : Nat, 12 ≤ K → K ≤ 24 → ∃ p : Nat, zic 31 #[.int .i64 (K : Int)] (.tuple #[.agg (zg (K : Int) p (p / 2) 4), .bool true]) ∧ GOk (K : Int) p := fun K g0 g1 => by
  obtain ⟨p, p4, po, pl, ps, pn⟩ := tabs (k := K) (by omega) (by omega)
  have hl : 2 ^ K ≤ 2 ^ 24 := Nat.pow_le_pow_right (by decide) (by omega)
  have hp : p < 16777216 := Nat.lt_of_lt_of_le pl hl
  have e : ((2 : Int) ^ K) = ((2 ^ K : Nat) : Int) := by simp
  have hpr : primeB ((p : Int) / 2) = true ∧ primeB (p : Int) = true := by
   unfold safeB at ps
   simpa using ps
  have hq : ((p / 2 : Nat) : Int) = (p : Int) / 2 := by omega
  refine ⟨p, fun w => ?_, by omega, by omega, po, ?_, hp, hpr.2, by rw [hq]; exact hpr.1⟩
  ·refine (rgmake_any (K : Int) (p : Int) (by omega) (by omega) (fun _ => ⟨by omega, by omega, by rw [Int.toNat_natCast, e]; exact_mod_cast pl, ps, by rw [Int.toNat_natCast]; exact pn⟩) w).mono ?_
   rintro e' w' ⟨V, rfl, hV, hb⟩
   rcases hV with ⟨-, hV⟩ | ⟨hn, -⟩
   ·exact ⟨by rw [hV, Int.toNat_natCast, ← hq, Int.toNat_natCast], hb⟩
   ·omega
  ·refine Nat.lt_of_not_le fun hle => ?_
   have h40 : ((4079 : Nat) : Int) < 2 ^ K := by
    rw [e]
    have : 2 ^ 12 ≤ 2 ^ K := Nat.pow_le_pow_right (by decide) g0
    omega
   have := pn ((4079 : Nat) : Int) (by omega) h40
   rw [(tab_of (k := 12) (p := 4079) (D := 63) (E := 45) (by decide) (by decide) (by decide) (by decide) (by decide) tab12).1] at this
   cases this
 have : t = 0 ∨ t = 1 ∨ t = 2 ∨ t = 3 ∨ t = 4 ∨ t = 5 ∨ t = 6 ∨ t = 7 ∨ t = 8 := by omega
 rcases this with rfl | rfl | rfl | rfl | rfl | rfl | rfl | rfl | rfl
 ·obtain ⟨p, h1, h2⟩ := key 12 (by decide) (by decide)
  exact ⟨12, p, rfl, h1, h2⟩
 ·obtain ⟨p, h1, h2⟩ := key 13 (by decide) (by decide)
  exact ⟨13, p, rfl, h1, h2⟩
 ·obtain ⟨p, h1, h2⟩ := key 14 (by decide) (by decide)
  exact ⟨14, p, rfl, h1, h2⟩
 ·obtain ⟨p, h1, h2⟩ := key 15 (by decide) (by decide)
  exact ⟨15, p, rfl, h1, h2⟩
 ·obtain ⟨p, h1, h2⟩ := key 16 (by decide) (by decide)
  exact ⟨16, p, rfl, h1, h2⟩
 ·obtain ⟨p, h1, h2⟩ := key 17 (by decide) (by decide)
  exact ⟨17, p, rfl, h1, h2⟩
 ·obtain ⟨p, h1, h2⟩ := key 18 (by decide) (by decide)
  exact ⟨18, p, rfl, h1, h2⟩
 ·obtain ⟨p, h1, h2⟩ := key 20 (by decide) (by decide)
  exact ⟨20, p, rfl, h1, h2⟩
 ·obtain ⟨p, h1, h2⟩ := key 24 (by decide) (by decide)
  exact ⟨24, p, rfl, h1, h2⟩
theorem group_any {n : Int} (h0 : -9223372036854775808 ≤ n) (h1 : n < 9223372036854775808) : ∃ (k : Int) (p : Nat), GOk k p ∧ zic 11 #[.int .i64 n] (.agg (zg k p (p / 2) 4)) := by
 obtain ⟨t, ht, kw⟩ := group_t h0 h1
 obtain ⟨k, p, hk, hr, hg⟩ := group_at ht
 refine ⟨k, p, hg, fun w => ?_⟩
 refine zea (args := [.int .i64 n]) 15 Tryz.func11 rfl rfl rfl ?_
 intro fa F
 have M := Mx.start w
 refine zT fun _ hK1 => zh (zc rfl) rfl F rfl M 0 (t := 29) (c := zg 0 0 0 0) (by unfold execOp; rw [zxb]; kernel_rfl) ?_
 intro g2 a2 w2 F2 M2
 refine hK1 _ _ (zT fun _ hK3 => zhc (zc rfl) rfl F2 rfl M2 1 (t := 3) (c := #[.int .i64 12, .int .i64 13, .int .i64 14, .int .i64 15, .int .i64 16, .int .i64 17, .int .i64 18, .int .i64 20, .int .i64 24]) (k := 9) (m := 9) (y_litI rfl #[.int .i64 12, .int .i64 13, .int .i64 14, .int .i64 15, .int .i64 16, .int .i64 17, .int .i64 18, .int .i64 20, .int .i64 24] rfl (by decide) (by decide) (by simp only [List.map_toArray, List.map_cons, List.map_nil]; kernel_rfl)) ?_)
 intro g4 a4 w4 F4 M4
 refine zj (w' := w4) (zc rfl) rfl F4 rfl (.int .i64 n) (run_mv _ (.inl rfl) (F4.get (t := 0) rfl)) fun _ F5 => ?_
 refine zaa (zc rfl) rfl F5 rfl rfl (zE Tryz.func32 rfl) #[.int .i64 n, .int .i64 9] (z3a (F5.get (t := 7) rfl) rfl) (zca (kw w4)) ?_
 rintro _ w6 a6 ⟨rfl, rfl⟩ F6
 refine zj (w' := w4) (zc rfl) rfl F6 rfl (.pointer (some ⟨g4, t, none⟩)) (y_ixI _ _ rfl (F6.get (t := 6) rfl) (F6.get (t := 8) rfl) rfl ht (Nat.zero_add t)) fun _ F7 => ?_
 refine zj (w' := w4) (zc rfl) rfl F7 rfl (.int .i64 k) (zkb _ _ rfl (F7.get (t := 9) rfl) (M4.blk (k := 1) rfl) hk Tryz.underlying3 rfl) fun _ F8 => ?_
 refine zaa (zc rfl) rfl F8 rfl rfl (zE Tryz.func31 rfl) #[.int .i64 k] (zwa (F8.get (t := 10) rfl)) (zca (hr w4)) ?_
 rintro _ w9 a9 ⟨rfl, b9⟩ F9
 have M9 := M4.step b9
 refine zj (w' := w9) (zc rfl) rfl F9 rfl (.tuple #[.agg (zg k p (p / 2) 4), .bool true]) (run_mv _ (.inl rfl) (F9.get (t := 11) rfl)) fun _ F10 => ?_
 refine zj (w' := w9) (zc rfl) rfl F10 rfl (.agg (zg k p (p / 2) 4)) (y_ext _ _ rfl (F10.get (t := 5) rfl) rfl) fun _ F11 => ?_
 refine zj (w' := w9) (zc rfl) rfl F11 rfl (.bool true) (y_ext _ _ rfl (F11.get (t := 5) rfl) rfl) fun _ F12 => ?_
 refine zh (zc rfl) rfl F12 rfl M9 2 (t := 29) (c := zg 0 0 0 0) (by unfold execOp; rw [zxb]; kernel_rfl) ?_
 intro g13 a13 w13 F13 M13
 refine zr (zc rfl) rfl F13 M13 (k := 2) rfl _ _ _ rfl (F13.get (t := 3) rfl) (F13.get (t := 12) rfl) (zg k p (p / 2) 4) _ rfl (zL rfl) (z3b _ _ _ _) (zo rfl) (by kernel_rfl) ?_
 intro w14 M14
 refine zj (w' := w14) (zc rfl) rfl F13 rfl (.bool true) (run_mv _ (.inr rfl) (F13.get (t := 13) rfl)) fun _ F15 => ?_
 refine hK3 _ _ (zT fun _ hK16 => zj (w' := w14) (zc rfl) rfl F15 rfl _ (zxa _ _ rfl (F15.get (t := 3) rfl) (M14.blk (k := 2) rfl) (zg k p (p / 2) 4) (z1a rfl) Tryz.underlying29 rfl (by kernel_rfl)) fun _ F17 => ?_)
 refine zr (zc rfl) rfl F17 M14 (k := 0) rfl _ _ _ rfl (F17.get (t := 2) rfl) (F17.get (t := 14) rfl) (zg k p (p / 2) 4) _ rfl (zL rfl) (z3b _ _ _ _) (zo rfl) (by kernel_rfl) ?_
 intro w18 M18
 refine hK16 _ _ (wp_ret ?_)
 try simp only [Exit.then, Exit.inBlock]
 exact bodyPost_ret (results_cell_row rfl _ _ _ _ _ (0, 0) _ (F17.get rfl) (M18.blk (k := 0) rfl) Tryz.underlying29 rfl (by kernel_rfl)) F17.defers ⟨rfl, M18.below⟩
end Go.Proofs.YtcfepoopkfhojaaGreat
namespace Go.Proofs.YtcfepoopkfhojaaGreat
def ch : Nat → Nat → Nat
 | _, 0 => 1
 | 0, _ + 1 => 0
 | n + 1, k + 1 => ch n k + ch n (k + 1)
end Go.Proofs.YtcfepoopkfhojaaGreat
namespace Go.Proofs.YtcfepoopkfhojaaGreat
open Go.ChangeShapes Go.WideShapes Go.ChangeAt Go.RowKit
theorem run_lenT7 {a : Act} {w : World} {o : Oper} (T : TypeId) (hu : Tryz.prog.underlying T = some (.slice (Tryz.prog.elem T))) (x : Operand) (ho : o.op = .call { callee := .builtin .len, args := #[x], argTypes := #[T] }) {A : Option Addr} {n c : Nat} (hx : a.eval x = .slice A n c) : (execOp a.eval o).run Tryz.prog w = .ok (.value (.int .i64 (n : Int))) w := y_lnG T hu x ho hx rfl
theorem y_ixP7 {a : Act} {w : World} {o : Oper} {A : Option Addr} {c : Nat} {L : List (List UInt8)} (y k : Operand) (ho : o.op = .indexAddr 54 y k) (hx : a.eval y = .slice A L.length c) (hB : IsP w L (.slice A L.length c)) {z : Int} {i : Nat} (hk : a.eval k = .int .i64 z) (hz : z = (i : Int)) (hi : i < L.length) : (execOp a.eval o).run Tryz.prog w = .ok (.value (ixV (.slice A L.length c) i)) w := by
 subst hz
 obtain ⟨A', c', e, h1, h2, h3⟩ := hB
 injection e with e1 e2 e3
 subst e1 e3
 obtain ⟨b, q, rfl, hb, hc⟩ := h3 (by omega)
 unfold execOp
 simp only [ho, hx, hk]
 have h0 : ¬ ((i : Int) < 0) := by omega
 have h5 : (i : Int) < (L.length : Int) := by omega
 simp [go_sem, h0, h5, hi, ixV, zva]
theorem part_ld7 {w : World} {A : Option Addr} {c : Nat} {L : List (List UInt8)} {l : List UInt8} (hB : IsP w L (.slice A L.length c)) {i : Nat} (hl : L[i]? = some l) :
  ∃ B d, IsB w l (.slice B l.length d) ∧ ∀ (a : Act) (o : Oper) (y : Operand), o.op = .load 22 y → a.eval y = ixV (.slice A L.length c) i → (execOp a.eval o).run Tryz.prog w = .ok (.value (.slice B l.length d)) w := by
 obtain ⟨A', c', e, h1, h2, h3⟩ := hB
 injection e with e1 e2 e3
 subst e1 e3
 have hi : i < L.length := (List.getElem?_eq_some_iff.1 hl).1
 obtain ⟨b, q, rfl, hb, hc⟩ := h3 (by omega)
 obtain ⟨B, d, hcell, q2, q3, q4, q5⟩ := hc i l hl
 refine ⟨B, d, ⟨B, d, rfl, q2, q3, q4, q5⟩, fun a o y ho hx => ?_⟩
 have hx' : a.eval y = .pointer (some ⟨b, q + i, none⟩) := by rw [hx]; simp [ixV, zva]
 have h6 : (isAgg 22).run Tryz.prog w = .ok false w := by
  unfold isAgg
  simp only [Sem.run_bind, run_underlying Tryz.underlying22, Result.andThen_ok]
  rfl
 unfold execOp
 simp only [ho, hx', Instr.loadAt, Instr.sureAddr, loadVar, Sem.run_bind, Sem.run_pure, Result.andThen_ok, h6, Bool.false_eq_true, if_false]
 simp [hcell, Result.andThen]
def shortB (L : List (List UInt8)) : Bool := L.all fun l => decide (l.length ≤ 64)
theorem short_any (L : List (List UInt8)) (u : Value) (w : World) (hu : IsP w L u) :
  Calls Tryz.prog 10 #[u] w fun e w' => e = .returned (.bool (shortB L)) ∧ Below w.heap.size w w' := by
 obtain ⟨A0, c0, rfl, hc1, hc2, hP⟩ := id hu
 have hLm : L.length ≤ 9223372036854775807 := by
  have := hc2
  unfold maxLen at this
  omega
 refine zea (args := [.slice A0 L.length c0]) 16 Tryz.func10 rfl rfl rfl ?_
 intro fa F
 have M := Mx.start w
 refine zT fun _ hK1 => rm rfl F fun _ F2 => hK1 _ _ (zSk fun _ hK3 => zT fun _ hK4 => rm rfl F2 fun _ F5 => hK4 _ _ (wp_block (loop_fx (α := Nat) (n := 16) (G := none) (w0 := w) (fun x => [(0, .slice A0 L.length c0), (3, .int .i64 (x : Int))]) (fun x => []) (fun k x => k = (L.length - x) ∧ (x ≤ L.length ∧ ∀ (j : Nat) (l : List UInt8), j < x → L[j]? = some l → l.length ≤ 64)) _ 0 ⟨rfl, ⟨Nat.zero_le _, fun j l h => absurd h (Nat.not_lt_zero j)⟩⟩ (F5.sub ⟨rfl, rfl, trivial⟩) (M.sub trivial) ?_)))
 rintro k6 jn a6 w6 K6 ⟨ek6, I6⟩ F6 M6 hK6
 replace F6 : Fx 16 a6 [(0, .slice A0 L.length c0), (3, .int .i64 (jn : Int))] := F6
 replace M6 : Mx _ _ w6 [] := M6
 replace I6 : jn ≤ L.length ∧ ∀ (j : Nat) (l : List UInt8), j < jn → L[j]? = some l → l.length ≤ 64 := I6
 replace ek6 : k6 = (L.length - jn) := ek6
 obtain ⟨hj, hk2⟩ := I6
 refine zSk fun _ hK7 => zT fun _ hK8 => rm rfl F6 fun _ F9 => rm rfl F9 fun _ F10 => zj (w' := w6) (zc rfl) rfl F10 rfl (.int .i64 (L.length : Int)) (run_lenT7 54 Tryz.underlying54 _ rfl (F10.get (t := 5) rfl)) fun _ F11 => ?_
 by_cases h12 : (jn : Int) < (L.length : Int)
 ·have hlt : jn < L.length := by omega
  obtain ⟨l1, hl1⟩ : ∃ l, L[jn]? = some l := ⟨_, List.getElem?_eq_getElem hlt⟩
  obtain ⟨B1, d1, hB1, hld⟩ := part_ld7 (hu.step M6.below) hl1
  refine zj (w' := w6) (zc rfl) rfl F11 rfl (.bool true) (y_lss _ _ _ _ rfl (F11.get (t := 4) rfl) (F11.get (t := 6) rfl) (decide_eq_true h12)) fun _ F13 => ?_
  refine hK8 _ _ (wp_cond_true (F13.get (t := 7) rfl) (wp_skip (hK7 _ _ (zSk fun _ hK14 => wp_block (zT fun _ hK15 => rm rfl F13 fun _ F16 => rm rfl F16 fun _ F17 => zj (w' := w6) (zc rfl) rfl F17 rfl (ixV (.slice A0 L.length c0) jn) (y_ixP7 _ _ rfl (F17.get (t := 10) rfl) (hu.step M6.below) (F17.get (t := 11) rfl) rfl hlt) fun _ F18 => ?_)))))
  refine zj (w' := w6) (zc rfl) rfl F18 rfl (.slice B1 l1.length d1) (hld _ _ _ rfl (F18.get (t := 12) rfl)) fun _ F19 => ?_
  refine zj (w' := w6) (zc rfl) rfl F19 rfl (.int .i64 (l1.length : Int)) (y_len _ rfl (F19.get (t := 13) rfl) hB1 rfl) fun _ F20 => ?_
  by_cases h21 : 64 < (l1.length : Int)
  ·have hno : shortB L = false := by
    cases e : shortB L with
    | false => rfl
    | true =>
     have := of_decide_eq_true (List.all_eq_true.1 e l1 (List.mem_of_getElem? hl1))
     omega
   refine zj (w' := w6) (zc rfl) rfl F20 rfl (.bool true) (y_gtr _ _ _ _ rfl (F20.get (t := 14) rfl) rfl (decide_eq_true h21)) fun _ F22 => ?_
   refine hK15 _ _ (wp_cond_true (F22.get (t := 15) rfl) (zT fun _ hK23 => rm rfl F22 fun _ F24 => hK23 _ _ (wp_ret ?_)))
   try simp only [Exit.then, Exit.inBlock, Exit.jump]
   exact bodyPost_ret (res1 rfl (F24.get rfl)) F24.defers ⟨by rw [hno], M6.below⟩
  ·have hl64 : l1.length ≤ 64 := by omega
   refine zj (w' := w6) (zc rfl) rfl F20 rfl (.bool false) (y_gtr _ _ _ _ rfl (F20.get (t := 14) rfl) rfl (decide_eq_false h21)) fun _ F25 => ?_
   refine hK15 _ _ (wp_cond_false (F25.get (t := 15) rfl) (wp_skip (hK14 _ _ (zR (rm rfl F25 fun _ F26 => zj (w' := w6) (zc rfl) rfl F26 rfl (.int .i64 ((jn + 1 : Nat) : Int)) (y_addI _ _ _ _ rfl (F26.get (t := 8) rfl) rfl (by omega) (by omega)) fun _ F27 => ?_)))))
   refine rm rfl F27 fun _ F28 => ?_
   subst ek6
   exact hK6 _ (jn + 1) _ _ (by omega) ⟨rfl, ⟨by omega, fun j l hj2 hl => by
     by_cases e : j = jn
     ·subst e; rw [hl1] at hl; rw [← Option.some.inj hl]; exact hl64
     ·exact hk2 j l (by omega) hl⟩⟩ (F28.sub ⟨rfl, rfl, trivial⟩) (M6.sub trivial)
 ·have hall : shortB L = true := List.all_eq_true.2 fun l hl => by
   obtain ⟨j, hj, e⟩ := List.getElem_of_mem hl
   exact decide_eq_true (hk2 j l (by omega) (by rw [List.getElem?_eq_getElem hj, e]))
  refine zj (w' := w6) (zc rfl) rfl F11 rfl (.bool false) (y_lss _ _ _ _ rfl (F11.get (t := 4) rfl) (F11.get (t := 6) rfl) (decide_eq_false h12)) fun _ F29 => ?_
  refine hK8 _ _ (wp_cond_false (F29.get (t := 7) rfl) (wp_exit ?_))
  simp only [Exit.then, Exit.inBlock, ↓reduceIte, Nat.reduceEqDiff]
  refine hK3 _ _ (zT fun _ hK30 => rm rfl F29 fun _ F31 => hK30 _ _ (wp_ret ?_))
  try simp only [Exit.then, Exit.inBlock, Exit.jump]
  exact bodyPost_ret (res1 rfl (F31.get rfl)) F31.defers ⟨by rw [hall], M6.below⟩
end Go.Proofs.YtcfepoopkfhojaaGreat
namespace Go.Proofs.YtcfepoopkfhojaaGreat
open Go.ChangeShapes Go.WideShapes Go.ChangeAt Go.RowKit Go.Shelf
theorem ok_if {w : World} {p : Prop} [Decidable p] {b : Bool} : (if p then (Result.ok b w : Result Bool) else Result.ok false w) = Result.ok (decide p && b) w := by
 split <;> simp_all
theorem eq16_gen {y z : Nat → Int} (hy : ∀ k, 0 ≤ y k ∧ y k < 256) (hz : ∀ k, 0 ≤ z k ∧ z k < 256) (w : World) : (Op.equalIn 10000 35 (.agg (zi y)) (.agg (zi z))).run Tryz.prog w = .ok (decide (sumY y = sumY z)) w := by
 have hs : sumY y = sumY z ↔ (y 0 = z 0 ∧ y 1 = z 1 ∧ y 2 = z 2 ∧ y 3 = z 3 ∧ y 4 = z 4 ∧ y 5 = z 5 ∧ y 6 = z 6 ∧ y 7 = z 7 ∧ y 8 = z 8 ∧ y 9 = z 9 ∧ y 10 = z 10 ∧ y 11 = z 11 ∧ y 12 = z 12 ∧ y 13 = z 13 ∧ y 14 = z 14 ∧ y 15 = z 15) := by
  constructor
  ·intro h
   have e : zi y = zi z := by rw [← sumY_bvs hy, h, sumY_bvs hz]
   simpa [zi] using e
  ·rintro ⟨h0, h1, h2, h3, h4, h5, h6, h7, h8, h9, h10, h11, h12, h13, h14, h15⟩
   simp [sumY, List.range, List.range.loop, h0, h1, h2, h3, h4, h5, h6, h7, h8, h9, h10, h11, h12, h13, h14, h15]
 rw [Op.equalIn]
 simp only [Sem.run_bind, run_underlying Tryz.underlying35, Result.andThen_ok, sizeOf_u8]
 simp only [Std.Legacy.Range.forIn_eq_forIn_range', Std.Legacy.Range.size, List.range']
 simp [part, zi, eq_u8, ok_if]
 rw [Bool.eq_iff_iff]
 simp [hs]
theorem run_eq16b {a : Act} {w : World} {o : Oper} (x y : Operand) (ho : o.op = .binOp .eql 35 x y 35) {u v : Nat → Int} (hx : a.eval x = .agg (zi u)) (hy : a.eval y = .agg (zi v)) (hu : ∀ k, 0 ≤ u k ∧ u k < 256) (hv : ∀ k, 0 ≤ v k ∧ v k < 256) {q : Bool} (hq : decide (sumY u = sumY v) = q) : (execOp a.eval o).run Tryz.prog w = .ok (.value (.bool q)) w := by
 unfold execOp
 simp only [ho, hx, hy]
 simp [go_sem, eq16_gen hu hv, hq]
theorem short_mem {L : List (List UInt8)} {l : List UInt8} (h : shortB L = true) (hl : l ∈ L) : l.length ≤ 64 := of_decide_eq_true (List.all_eq_true.1 h l hl)
theorem shareN_ok {x : SideN} {n : Nat} : SideOk (zja x n) := ⟨zzb _, zzb _⟩
theorem sroffer_is (k : Int) (P Q g : Nat) (h1 : 1 < P) (hP : P < 2147483648) (h2 : 2 < Q) (hQ5 : Q < 4294967296) (hg : g < 4294967296 ^ 8) (r : RecN) (hr : r.a < 4294967296 ^ 8) (hs : r.s.size ≤ 200) (hrl : r.l2.length ≤ 200) (a : Nat) (ha : a < 4294967296 ^ 8) (ld : List UInt8) (hdl : ld.length ≤ 200) {ok : Bool} {X : SideN} {B : Nat} (hk : offOk P Q g r.a a (texN Q [98] [ld]) = ok) (hX : cond ok (zja (offS k P Q g r.s r.l2 r.a a (texN Q [98] [ld])) (offN P Q g r.a a (texN Q [98] [ld]))) zeroS = X) (hB : cond ok (offB P Q g r.a (texN Q [98] [ld])) 0 = B) (w : World) (V : RecV) (vd : Value) (hm : RecIs w r V) (hd : IsB w ld vd) :
  Calls Tryz.prog 15 #[.agg (zg k P Q g), .agg (recA r V), numV a, vd] w fun e w' => ∃ v, e = .returned v ∧ ∃ y : SideV, v = .tuple #[.agg (zk X y), numV B, .bool ok] ∧ SShp y ∧ Below w.heap.size w w' := by
 have h := roffer7_any k P Q g h1 hP h2 hQ5 hg r V hr hs hrl a ha ld hdl vd w hm hd
 rw [hk, hX, hB] at h
 exact h.mono fun e w' ⟨y, h1, h2, h3⟩ => ⟨_, h1, y, rfl, h2, h3⟩
theorem srprove_is (x : SideN) (h1 : 1 < x.P) (hP : x.P < 2147483648) (h2 : 2 < x.Q) (hQ5 : x.Q < 4294967296) (hO : x.O < 4294967296) (hg : x.g < 4294967296 ^ 8) (ht : x.s.size ≤ 200) (hpl : x.lp.length ≤ 200) (l : List UInt8) (hll : l.length ≤ 200) (b : Nat) (hb : b < 4294967296 ^ 8) {ok : Bool} {X : SideN} (hk : prvOk x l b = ok) (hX : cond ok (zja (prvS x l b) (prvN x l b)) zeroS = X) (w : World) (y : SideV) (vl : Value) (hx : SideIs w x y) (hd : IsB w l vl) :
  Calls Tryz.prog 24 #[.agg (zk x y), vl, numV b] w fun e w' => ∃ v, e = .returned v ∧ ∃ y : SideV, v = .tuple #[.agg (zk X y), .agg (zi X.Pr), .bool ok] ∧ SShp y ∧ Below w.heap.size w w' := by
 have h := rprove7_any x y h1 hP h2 hQ5 hO hg ht hpl l hll vl b hb w hx hd
 rw [hk, hX] at h
 exact h.mono fun e w' ⟨y, h1, h2, h3⟩ => ⟨_, h1, y, rfl, h2, h3⟩
theorem srhello_is (k : Int) (P Q g : Nat) (h1 : 1 < P) (hP : P < 2147483648) (h2 : 2 < Q) (hQ5 : Q < 4294967296) (hg : g < 4294967296 ^ 8) (t : ByteArray) (lp ld : List UInt8) (hdl : ld.length ≤ 200) {X : SideN} {A : Nat} (hX : ⟨k, P, Q, g, t, lp, g ^ texN Q [97] [ld] % P, 0, texN Q [97] [ld], [], 0, fun _ => 0, fun _ => 0⟩ = X) (hA : g ^ texN Q [97] [ld] % P = A) (w : World) (vp vd : Value) (hp : IsB w lp vp) (hd : IsB w ld vd) :
  Calls Tryz.prog 23 #[.agg (zg k P Q g), .string t, vp, vd] w fun e w' => e = .returned (.tuple #[.agg (zk X ⟨vp, zN⟩), numV A]) ∧ Below w.heap.size w w' := by
 subst hX hA
 exact rhello7_any k P Q g h1 hP h2 hQ5 hg t lp ld hdl vp vd w hp hd
end Go.Proofs.YtcfepoopkfhojaaGreat
namespace Go.Proofs.YtcfepoopkfhojaaGreat
def kX : Nat := secN 16301 [117] [112] [115]
def kV : Nat := 4 ^ kX % 32603
def kA : Nat := texN 16301 [97] [[49]]
def kB : Nat := texN 16301 [98] [[50]]
def kAA : Nat := 4 ^ kA % 32603
def kBB : Nat := (kN 16301 * kV % 32603 + 4 ^ kB % 32603) % 32603
def kU : Nat := uN 16301 kAA kBB
end Go.Proofs.YtcfepoopkfhojaaGreat
namespace Go.Proofs.YtcfepoopkfhojaaGreat
open Go.ChangeShapes Go.WideShapes Go.ChangeAt Go.RowKit
theorem kn_off : offOk 32603 16301 4 kV kAA kB = true := by decide +kernel
def kC : SideN := ⟨15, 32603, 16301, 4, { data := #[117] }, [112], kAA, 0, kA, [], 0, fun _ => 0, fun _ => 0⟩
theorem kn_prv : prvOk kC [115] (offB 32603 16301 4 kV kB) = true := by decide +kernel
theorem kn_num : offN 32603 16301 4 kV kAA kB = prvN kC [115] (offB 32603 16301 4 kV kB) := by decide +kernel
noncomputable def kS : SideN := zja (offS 15 32603 16301 4 { data := #[117] } [115] kV kAA kB) (offN 32603 16301 4 kV kAA kB)
noncomputable def kD : SideN := zja (prvS kC [115] (offB 32603 16301 4 kV kB)) (prvN kC [115] (offB 32603 16301 4 kV kB))
theorem kn_Ky : kD.Ky = kS.Ky := by
 unfold kD kS zja
 rw [kn_num]
theorem kn_Pr : kD.Pr = kS.Pr := by
 unfold kD kS zja
 rw [kn_num]; rfl
theorem kn_ok : SideOk kS ∧ SideOk kD := ⟨⟨zzb _, zzb _⟩, ⟨zzb _, zzb _⟩⟩
theorem make_kp {K p : Nat} (g0 : 12 ≤ K) (g1 : K ≤ 24) (p4 : 4 ≤ p) (po : p % 2 = 1) (pl : p < 2 ^ K) (ps : safeB (p : Int) = true) (pn : ∀ x : Int, (p : Int) < x → x < 2 ^ K → safeB x = false) : zic 31 #[.int .i64 (K : Int)] (.tuple #[.agg (zg (K : Int) p (p / 2) 4), .bool true]) := fun w => by
 have hl : 2 ^ K ≤ 2 ^ 24 := Nat.pow_le_pow_right (by decide) (by omega)
 have hp : p < 16777216 := Nat.lt_of_lt_of_le pl hl
 have e : ((2 : Int) ^ K) = ((2 ^ K : Nat) : Int) := by simp
 have hq : ((p / 2 : Nat) : Int) = (p : Int) / 2 := by omega
 refine (rgmake_any (K : Int) (p : Int) (by omega) (by omega) (fun _ => ⟨by omega, by omega, by rw [Int.toNat_natCast, e]; exact_mod_cast pl, ps, by rw [Int.toNat_natCast]; exact pn⟩) w).mono ?_
 rintro e' w' ⟨V, rfl, hV, hb⟩
 rcases hV with ⟨-, hV⟩ | ⟨hn, -⟩
 ·exact ⟨by rw [hV, Int.toNat_natCast, ← hq, Int.toNat_natCast], hb⟩
 ·omega
theorem make15 : zic 31 #[.int .i64 15] (.tuple #[.agg (zg 15 32603 16301 4), .bool true]) := by
 obtain ⟨ps, pn⟩ := tab_of (k := 15) (p := 32603) (D := 180) (E := 127) (by decide) (by decide) (by decide) (by decide) (by decide) tab15
 exact make_kp (K := 15) (p := 32603) (by decide) (by decide) (by decide) (by decide) (by decide) ps pn
theorem group_of {n : Int} {t : Nat} {k : Int} {p : Nat} (ht : t < 9) (kw : ∀ w, Calls Tryz.prog 32 #[.int .i64 n, .int .i64 9] w fun e w' => e = .returned (.int .i64 (t : Int)) ∧ w = w')
  (hk : (#[.int .i64 12, .int .i64 13, .int .i64 14, .int .i64 15, .int .i64 16, .int .i64 17, .int .i64 18, .int .i64 20, .int .i64 24] : Array Value)[t]? = some (.int .i64 k)) (hr : zic 31 #[.int .i64 k] (.tuple #[.agg (zg k p (p / 2) 4), .bool true])) (w : World) :
  Calls Tryz.prog 11 #[.int .i64 n] w fun e w' => e = .returned (.agg (zg k p (p / 2) 4)) ∧ Below w.heap.size w w' := by
 refine zea (args := [.int .i64 n]) 15 Tryz.func11 rfl rfl rfl ?_
 intro fa F
 have M := Mx.start w
 refine zT fun _ hK1 => zh (zc rfl) rfl F rfl M 0 (t := 29) (c := zg 0 0 0 0) (by unfold execOp; rw [zxb]; kernel_rfl) ?_
 intro g2 a2 w2 F2 M2
 refine hK1 _ _ (zT fun _ hK3 => zhc (zc rfl) rfl F2 rfl M2 1 (t := 3) (c := #[.int .i64 12, .int .i64 13, .int .i64 14, .int .i64 15, .int .i64 16, .int .i64 17, .int .i64 18, .int .i64 20, .int .i64 24]) (k := 9) (m := 9) (y_litI rfl #[.int .i64 12, .int .i64 13, .int .i64 14, .int .i64 15, .int .i64 16, .int .i64 17, .int .i64 18, .int .i64 20, .int .i64 24] rfl (by decide) (by decide) (by simp only [List.map_toArray, List.map_cons, List.map_nil]; kernel_rfl)) ?_)
 intro g4 a4 w4 F4 M4
 refine zj (w' := w4) (zc rfl) rfl F4 rfl (.int .i64 n) (run_mv _ (.inl rfl) (F4.get (t := 0) rfl)) fun _ F5 => ?_
 refine zaa (zc rfl) rfl F5 rfl rfl (zE Tryz.func32 rfl) #[.int .i64 n, .int .i64 9] (z3a (F5.get (t := 7) rfl) rfl) (zca (kw w4)) ?_
 rintro _ w6 a6 ⟨rfl, rfl⟩ F6
 refine zj (w' := w4) (zc rfl) rfl F6 rfl (.pointer (some ⟨g4, t, none⟩)) (y_ixI _ _ rfl (F6.get (t := 6) rfl) (F6.get (t := 8) rfl) rfl ht (Nat.zero_add t)) fun _ F7 => ?_
 refine zj (w' := w4) (zc rfl) rfl F7 rfl (.int .i64 k) (zkb _ _ rfl (F7.get (t := 9) rfl) (M4.blk (k := 1) rfl) hk Tryz.underlying3 rfl) fun _ F8 => ?_
 refine zaa (zc rfl) rfl F8 rfl rfl (zE Tryz.func31 rfl) #[.int .i64 k] (zwa (F8.get (t := 10) rfl)) (zca (hr w4)) ?_
 rintro _ w9 a9 ⟨rfl, b9⟩ F9
 have M9 := M4.step b9
 refine zj (w' := w9) (zc rfl) rfl F9 rfl (.tuple #[.agg (zg k p (p / 2) 4), .bool true]) (run_mv _ (.inl rfl) (F9.get (t := 11) rfl)) fun _ F10 => ?_
 refine zj (w' := w9) (zc rfl) rfl F10 rfl (.agg (zg k p (p / 2) 4)) (y_ext _ _ rfl (F10.get (t := 5) rfl) rfl) fun _ F11 => ?_
 refine zj (w' := w9) (zc rfl) rfl F11 rfl (.bool true) (y_ext _ _ rfl (F11.get (t := 5) rfl) rfl) fun _ F12 => ?_
 refine zh (zc rfl) rfl F12 rfl M9 2 (t := 29) (c := zg 0 0 0 0) (by unfold execOp; rw [zxb]; kernel_rfl) ?_
 intro g13 a13 w13 F13 M13
 refine zr (zc rfl) rfl F13 M13 (k := 2) rfl _ _ _ rfl (F13.get (t := 3) rfl) (F13.get (t := 12) rfl) (zg k p (p / 2) 4) _ rfl (zL rfl) (z3b _ _ _ _) (zo rfl) (by kernel_rfl) ?_
 intro w14 M14
 refine zj (w' := w14) (zc rfl) rfl F13 rfl (.bool true) (run_mv _ (.inr rfl) (F13.get (t := 13) rfl)) fun _ F15 => ?_
 refine hK3 _ _ (zT fun _ hK16 => zj (w' := w14) (zc rfl) rfl F15 rfl _ (zxa _ _ rfl (F15.get (t := 3) rfl) (M14.blk (k := 2) rfl) (zg k p (p / 2) 4) (z1a rfl) Tryz.underlying29 rfl (by kernel_rfl)) fun _ F17 => ?_)
 refine zr (zc rfl) rfl F17 M14 (k := 0) rfl _ _ _ rfl (F17.get (t := 2) rfl) (F17.get (t := 14) rfl) (zg k p (p / 2) 4) _ rfl (zL rfl) (z3b _ _ _ _) (zo rfl) (by kernel_rfl) ?_
 intro w18 M18
 refine hK16 _ _ (wp_ret ?_)
 try simp only [Exit.then, Exit.inBlock]
 exact bodyPost_ret (results_cell_row rfl _ _ _ _ _ (0, 0) _ (F17.get rfl) (M18.blk (k := 0) rfl) Tryz.underlying29 rfl (by kernel_rfl)) F17.defers ⟨rfl, M18.below⟩
theorem group_3 (w : World) : Calls Tryz.prog 11 #[.int .i64 3] w fun e w' => e = .returned (.agg (zg 15 32603 16301 4)) ∧ Below w.heap.size w w' :=
 group_of (n := 3) (t := 3) (k := 15) (p := 32603) (by decide) (fun w => gwithin_any 3 9 (by decide) (by decide) (by decide) (by decide) w) rfl make15 w
theorem side_two {G : Option Nat} {w0 w w' : World} {R : List (Nat × Res)} (M : Mx G w0 w R) (hb : Below w.heap.size w w') (i j : Nat) {x : SideN} {y : SideV} (h : SideIs w' x y) (h1 : ∀ b, bfp y.vp b → w.heap.size ≤ b) (h2 : ∀ b, bfp y.vs b → w.heap.size ≤ b) (hij : i ≠ j) : Mx G w0 w' ((j, bytR x.ls y.vs) :: (i, bytR x.lp y.vp) :: R) ∧ True :=
 ⟨(M.fresh hb i _ h.hp bytR_dep (fun g hg => ⟨h1 g hg, h.hp.lt hg⟩)).cons j _ h.hs bytR_dep (fun g hg => h.hs.lt hg) (fun e => by cases e) fun k s e hk hw g hg hs => by
  rcases hw with hw | hw
  ·cases hw
  rw [z5a] at e
  split at e
  ·cases e; cases hw
  ·have := M.lt k s e g hs
   have := h2 g hg
   omega, trivial⟩
section
theorem kc_v (w : World) (vp vs : Value) (hp : IsB w [112] vp) (hs : IsB w [115] vs) : Calls Tryz.prog 12 #[.agg (zg 15 32603 16301 4), .string ({ data := #[117] }), vp, vs] w fun e w' => e = .returned (numV kV) ∧ Below w.heap.size w w' :=
 verifier_any 15 32603 16301 4 (by decide) (by decide) (by decide) (by decide) (by decide) (by decide) { data := #[117] } (by decide) [112] [115] vp vs w hp hs
theorem kc_h (w : World) (vp vd : Value) (hp : IsB w [112] vp) (hd : IsB w [49] vd) : Calls Tryz.prog 13 #[.agg (zg 15 32603 16301 4), .string ({ data := #[117] }), vp, vd] w fun e w' => ∃ v, e = .returned v ∧ ∃ y : SideV, v = .tuple #[.agg (zk kC y), numV kAA] ∧ SideIs w' kC y ∧ (∀ b, bfp y.vp b → w.heap.size ≤ b) ∧ (∀ b, bfp y.vs b → w.heap.size ≤ b) ∧ Below w.heap.size w w' :=
 (hello_any 15 32603 16301 4 (by decide) (by decide) (by decide) (by decide) (by decide) (by decide) { data := #[117] } [112] [49] vp vd (by decide) w hp hd).mono fun e w' ⟨vc, h1, h2, h3, h4⟩ => ⟨_, h1, ⟨vc, zN⟩, rfl, h2, h3, fun b hb => absurd hb (zgc b), h4⟩
theorem kc_o (w : World) (v vd : Value) (hv : IsB w [115] v) (hd : IsB w [50] vd) : Calls Tryz.prog 14 #[.agg (zg 15 32603 16301 4), .agg (recA ⟨1, { data := #[117] }, [115], kV, 0, [], 0, 0, 0⟩ ⟨v, zN⟩), numV kAA, vd] w fun e w' => ∃ v, e = .returned v ∧ ∃ y : SideV, v = .tuple #[.agg (zk kS y), numV (offB 32603 16301 4 kV kB), .bool true] ∧ SideIs w' kS y ∧ (∀ b, bfp y.vp b → w.heap.size ≤ b) ∧ (∀ b, bfp y.vs b → w.heap.size ≤ b) ∧ Below w.heap.size w w' := by
 have h := offer_any 15 32603 16301 4 (by decide) (by decide) (by decide) (by decide) (by decide) (by decide) (by decide) ⟨1, { data := #[117] }, [115], kV, 0, [], 0, 0, 0⟩ ⟨v, zN⟩ (Nat.lt_trans (Nat.mod_lt _ (by decide)) (by decide)) (by decide) (by decide) kAA (Nat.lt_trans (Nat.mod_lt _ (by decide)) (by decide)) [50] vd w ⟨hv, zfa _⟩ hd
 rw [show texN 16301 [98] [[50]] = kB from rfl] at h
 simp only [kn_off, cond_true] at h
 exact h.mono fun e w' ⟨vc, h1, h2, h3, h4⟩ => ⟨_, h1, ⟨zN, vc⟩, rfl, h2, fun b hb => absurd hb (zgc b), h3, h4⟩
theorem kA_lt : kA < 4294967296 := Nat.lt_trans (z8b (by decide) _).2 (by decide)
theorem kc_p (w : World) (y : SideV) (vl : Value) (hx : SideIs w kC y) (hl : IsB w [115] vl) : Calls Tryz.prog 16 #[.agg (zk kC y), vl, numV (offB 32603 16301 4 kV kB)] w fun e w' => ∃ v, e = .returned v ∧ ∃ y : SideV, v = .tuple #[.agg (zk kD y), .agg (zi kD.Pr), .bool true] ∧ SideIs w' kD y ∧ (∀ b, bfp y.vp b → w.heap.size ≤ b) ∧ (∀ b, bfp y.vs b → w.heap.size ≤ b) ∧ Below w.heap.size w w' := by
 have h := prove_any kC y (show 32603 % 2 = 1 by decide) (show 1 < 32603 by decide) (show 32603 < 4294967296 by decide) (show 2 < 16301 by decide) (show 16301 ≤ 4294967296 by decide) kA_lt (show 4 < 4294967296 ^ 8 by decide) (show 1 ≤ 1000 by decide) (show 1 ≤ 100000 by decide) [115] (by decide) vl (offB 32603 16301 4 kV kB) (Nat.lt_trans (Nat.mod_lt _ (by decide)) (by decide)) w hx hl
 simp only [kn_prv, cond_true] at h
 exact h.mono fun e w' ⟨y', h1, h2⟩ => ⟨_, h1, y', rfl, h2⟩
theorem kc_c (w : World) (y : SideV) (v : Value) (hx : SideIs w kS y) (hv : IsB w (sumY kD.Pr) v) : Calls Tryz.prog 17 #[.agg (zk kS y), v] w fun e w' => e = .returned (.tuple #[.agg (zi (ansY kS.Ky kS.Pr)), .bool true]) ∧ Below w.heap.size w w' :=
 check_any kS y kn_ok.1 (sumY kD.Pr) v true (decide_eq_true (by rw [kn_Pr])) w hx hv
theorem kc_d (w : World) (y : SideV) (v : Value) (hx : SideIs w kD y) (hv : IsB w (sumY (ansY kS.Ky kS.Pr)) v) : Calls Tryz.prog 19 #[.agg (zk kD y), v] w fun e w' => e = .returned (.bool true) ∧ Below w.heap.size w w' :=
 done_any kD y kn_ok.2 _ v true (decide_eq_true (by rw [kn_Ky, kn_Pr])) w hx hv
theorem kc_b (y : Nat → Int) (hy : ∀ k, 0 ≤ y k ∧ y k < 256) (w : World) : Calls Tryz.prog 18 #[.agg (zi y)] w fun e w' => ∃ v, e = .returned v ∧ Below w.heap.size w w' ∧ IsB w' (sumY y) v :=
 (srbytes_any y hy w).mono fun e w' ⟨v, h1, h2, h3⟩ => ⟨v, h1, h3, h2.isb⟩
theorem kc_z (w : World) : Calls Tryz.prog 19 #[.agg (zk ⟨0, 0, 0, 0, "".toUTF8, [], 0, 0, 0, [], 0, fun _ => 0, fun _ => 0⟩ ⟨zN, zN⟩), zN] w fun e w' => e = .returned (.bool false) ∧ Below w.heap.size w w' :=
 done_any _ _ ⟨fun _ => ⟨Int.le_refl _, (show (0 : Int) < 256 by decide)⟩, fun _ => ⟨Int.le_refl _, (show (0 : Int) < 256 by decide)⟩⟩ [] _ false (decide_eq_false fun h => absurd (congrArg List.length h) (by rw [zsb]; decide)) w ⟨zfa _, zfa _⟩ (zfa _)
end
theorem sknown_any  (w : World) :
  Calls Tryz.prog 9 #[] w fun e w' => e = .returned (.bool true) ∧ Below w.heap.size w w' := by
 have kG := group_3
 refine zea (args := []) 83 Tryz.func9 rfl rfl rfl ?_
 intro fa F
 have M := Mx.start w
 refine zT fun _ hK1 => rm rfl F fun _ F2 => hK1 _ _ (zT fun _ hK3 => zaa (zc rfl) rfl F2 rfl rfl (zE Tryz.func11 rfl) #[.int .i64 3] (zwa rfl) (zca (kG w)) ?_)
 rintro _ w4 a4 ⟨rfl, b4⟩ F4
 have M4 := M.step b4
 refine zh (zc rfl) rfl F4 rfl M4 0 (t := 29) (c := zg 0 0 0 0) (by unfold execOp; rw [zxb]; kernel_rfl) ?_
 intro g5 a5 w5 F5 M5
 refine zr (zc rfl) rfl F5 M5 (k := 0) rfl _ _ _ rfl (F5.get (t := 1) rfl) (F5.get (t := 13) rfl) (zg 15 32603 16301 4) _ rfl (zL rfl) (z3b _ _ _ _) (zo rfl) (by kernel_rfl) ?_
 intro w6 M6
 refine hK3 _ _ (zT fun _ hK7 => zgb (zc rfl) rfl F5 rfl (run_litO M6 1 [115] 1 rfl (by decide) (by decide) rfl (by simp only [List.map_toArray, List.map_cons, List.map_nil]; kernel_rfl)) ?_)
 intro v8 a8 w8 F8 M8
 obtain ⟨A8, c8, rfl⟩ := (M8.isO (k := 1) rfl).shape
 refine zgb (zc rfl) rfl F8 rfl (run_cvL M8 (k := 1) rfl (by decide) _ rfl (F8.get (t := 14) rfl)) ?_
 intro v9 a9 w9 F9 M9
 obtain ⟨A9, c9, rfl⟩ := (M9.isb (k := 1) rfl).shape
 refine zj (w' := w9) (zc rfl) rfl F9 rfl _ (zxa _ _ rfl (F9.get (t := 1) rfl) (M9.blk (k := 0) rfl) (zg 15 32603 16301 4) (z1a rfl) Tryz.underlying29 rfl (by kernel_rfl)) fun _ F10 => ?_
 refine zgb (zc rfl) rfl F10 rfl (run_litO M9 2 [112] 1 rfl (by decide) (by decide) rfl (by simp only [List.map_toArray, List.map_cons, List.map_nil]; kernel_rfl)) ?_
 intro v11 a11 w11 F11 M11
 obtain ⟨A11, c11, rfl⟩ := (M11.isO (k := 2) rfl).shape
 refine zgb (zc rfl) rfl F11 rfl (run_cvL M11 (k := 2) rfl (by decide) _ rfl (F11.get (t := 17) rfl)) ?_
 intro v12 a12 w12 F12 M12
 obtain ⟨A12, c12, rfl⟩ := (M12.isb (k := 2) rfl).shape
 refine zgb (zc rfl) rfl F12 rfl (run_litO M12 3 [115] 1 rfl (by decide) (by decide) rfl (by simp only [List.map_toArray, List.map_cons, List.map_nil]; kernel_rfl)) ?_
 intro v13 a13 w13 F13 M13
 obtain ⟨A13, c13, rfl⟩ := (M13.isO (k := 3) rfl).shape
 refine zgb (zc rfl) rfl F13 rfl (run_cvL M13 (k := 3) rfl (by decide) _ rfl (F13.get (t := 19) rfl)) ?_
 intro v14 a14 w14 F14 M14
 obtain ⟨A14, c14, rfl⟩ := (M14.isb (k := 3) rfl).shape
 refine zaa (zc rfl) rfl F14 rfl rfl (zE Tryz.func12 rfl) #[.agg (zg 15 32603 16301 4), .string ({ data := #[117] }), .slice A12 ([112]).length c12, .slice A14 ([115]).length c14] (args4 (F14.get (t := 16) rfl) rfl (F14.get (t := 18) rfl) (F14.get (t := 20) rfl)) (zca ((kc_v w14 _ _ (M14.isb (k := 2) rfl) (M14.isb (k := 3) rfl)))) ?_
 rintro _ w15 a15 ⟨rfl, b15⟩ F15
 have M15 := M14.step b15
 refine zj (w' := w15) (zc rfl) rfl F15 rfl (.agg (recA ⟨1, ({ data := #[117] }), [115], kV, 0, [], 0, 0, 0⟩ ⟨.slice A9 ([115]).length c9, zN⟩)) (by unfold execOp; simp only [List.map_toArray, List.map_cons, List.map_nil, (F15.get (t := 15) rfl), (F15.get (t := 21) rfl)]; kernel_rfl) fun _ F16 => ?_
 refine zh (zc rfl) rfl F16 rfl M15 4 (t := 33) (c := recA ⟨0, "".toUTF8, [], 0, 0, [], 0, 0, 0⟩ ⟨zN, zN⟩) (by unfold execOp; kernel_rfl) ?_
 intro g17 a17 w17 F17 M17
 refine zr (zc rfl) rfl F17 M17 (k := 4) rfl _ _ _ rfl (F17.get (t := 2) rfl) (F17.get (t := 22) rfl) (recA ⟨1, ({ data := #[117] }), [115], kV, 0, [], 0, 0, 0⟩ ⟨.slice A9 ([115]).length c9, zN⟩) _ rfl (zL rfl) (recA_one (w := w17) ⟨(M17.isb (k := 1) rfl), zfa _⟩) (zo rfl) (by kernel_rfl) ?_
 intro w18 M18
 refine hK7 _ _ (zT fun _ hK19 => zj (w' := w18) (zc rfl) rfl F17 rfl _ (zxa _ _ rfl (F17.get (t := 1) rfl) (M18.blk (k := 0) rfl) (zg 15 32603 16301 4) (z1a rfl) Tryz.underlying29 rfl (by kernel_rfl)) fun _ F20 => ?_)
 refine zgb (zc rfl) rfl F20 rfl (run_litO M18 5 [112] 1 rfl (by decide) (by decide) rfl (by simp only [List.map_toArray, List.map_cons, List.map_nil]; kernel_rfl)) ?_
 intro v21 a21 w21 F21 M21
 obtain ⟨A21, c21, rfl⟩ := (M21.isO (k := 5) rfl).shape
 refine zgb (zc rfl) rfl F21 rfl (run_cvL M21 (k := 5) rfl (by decide) _ rfl (F21.get (t := 25) rfl)) ?_
 intro v22 a22 w22 F22 M22
 obtain ⟨A22, c22, rfl⟩ := (M22.isb (k := 5) rfl).shape
 refine zgb (zc rfl) rfl F22 rfl (run_litO M22 6 [49] 1 rfl (by decide) (by decide) rfl (by simp only [List.map_toArray, List.map_cons, List.map_nil]; kernel_rfl)) ?_
 intro v23 a23 w23 F23 M23
 obtain ⟨A23, c23, rfl⟩ := (M23.isO (k := 6) rfl).shape
 refine zgb (zc rfl) rfl F23 rfl (run_cvL M23 (k := 6) rfl (by decide) _ rfl (F23.get (t := 27) rfl)) ?_
 intro v24 a24 w24 F24 M24
 obtain ⟨A24, c24, rfl⟩ := (M24.isb (k := 6) rfl).shape
 refine zaa (zc rfl) rfl F24 rfl rfl (zE Tryz.func13 rfl) #[.agg (zg 15 32603 16301 4), .string ({ data := #[117] }), .slice A22 ([112]).length c22, .slice A24 ([49]).length c24] (args4 (F24.get (t := 24) rfl) rfl (F24.get (t := 26) rfl) (F24.get (t := 28) rfl)) (kc_h w24 _ _ (M24.isb (k := 5) rfl) (M24.isb (k := 6) rfl)) ?_
 rintro _ w25 a25 ⟨y25, rfl, his25, hlo25, hls25, b25⟩ F25
 obtain ⟨M25, -⟩ := side_two M24 b25 7 8 his25 hlo25 hls25 (by decide)
 clear M24 hlo25 hls25 his25 b25
 refine zB 3 [(0, .bool false), (1, .pointer (some ⟨g5, 0, none⟩)), (2, .pointer (some ⟨g17, 0, none⟩)), (30, .agg (zk kC y25)), (31, numV kAA)] [] dnil [] F25 fun _ F26 => ?_
 refine zh (zc rfl) rfl F26 rfl M25 9 (t := 37) (c := zSA) (by unfold execOp; kernel_rfl) ?_
 intro g27 a27 w27 F27 M27
 refine zh (zc rfl) rfl F27 rfl M27 10 (t := 27) (c := numA 0) (zu rfl) ?_
 intro g28 a28 w28 F28 M28
 refine zr (zc rfl) rfl F28 M28 (k := 9) rfl _ _ _ rfl (F28.get (t := 3) rfl) (F28.get (t := 30) rfl) (zk kC y25) _ rfl (zL rfl) (zpa (w := w28) ⟨(M28.isb (k := 7) rfl), (M28.isb (k := 8) rfl)⟩) (zo rfl) (by kernel_rfl) ?_
 intro w29 M29
 refine zr (zc rfl) rfl F28 M29 (k := 10) rfl _ _ _ rfl (F28.get (t := 4) rfl) (F28.get (t := 31) rfl) (numA kAA) _ rfl (zL rfl) (zy _) (zo rfl) zd ?_
 intro w30 M30
 refine hK19 _ _ (zT fun _ hK31 => zj (w' := w30) (zc rfl) rfl F28 rfl _ (zxa _ _ rfl (F28.get (t := 1) rfl) (M30.blk (k := 0) rfl) (zg 15 32603 16301 4) (z1a rfl) Tryz.underlying29 rfl (by kernel_rfl)) fun _ F32 => ?_)
 refine zj (w' := w30) (zc rfl) rfl F32 rfl _ (zxa _ _ rfl (F32.get (t := 2) rfl) (M30.blk (k := 4) rfl) (recA ⟨1, ({ data := #[117] }), [115], kV, 0, [], 0, 0, 0⟩ ⟨.slice A9 ([115]).length c9, zN⟩) (z1a rfl) Tryz.underlying33 rfl (by kernel_rfl)) fun _ F33 => ?_
 refine zj (w' := w30) (zc rfl) rfl F33 rfl (numV kAA) (zxa _ _ rfl (F33.get (t := 4) rfl) (M30.blk (k := 10) rfl) (numA kAA) (z1a rfl) Tryz.underlying27 rfl zd) fun _ F34 => ?_
 refine zgb (zc rfl) rfl F34 rfl (run_litO M30 11 [50] 1 rfl (by decide) (by decide) rfl (by simp only [List.map_toArray, List.map_cons, List.map_nil]; kernel_rfl)) ?_
 intro v35 a35 w35 F35 M35
 obtain ⟨A35, c35, rfl⟩ := (M35.isO (k := 11) rfl).shape
 refine zgb (zc rfl) rfl F35 rfl (run_cvL M35 (k := 11) rfl (by decide) _ rfl (F35.get (t := 36) rfl)) ?_
 intro v36 a36 w36 F36 M36
 obtain ⟨A36, c36, rfl⟩ := (M36.isb (k := 11) rfl).shape
 refine zaa (zc rfl) rfl F36 rfl rfl (zE Tryz.func14 rfl) #[.agg (zg 15 32603 16301 4), .agg (recA ⟨1, ({ data := #[117] }), [115], kV, 0, [], 0, 0, 0⟩ ⟨.slice A9 ([115]).length c9, zN⟩), numV kAA, .slice A36 ([50]).length c36] (args4 (F36.get (t := 33) rfl) (F36.get (t := 34) rfl) (F36.get (t := 35) rfl) (F36.get (t := 37) rfl)) (kc_o w36 _ _ (M36.isb (k := 1) rfl) (M36.isb (k := 11) rfl)) ?_
 rintro _ w37 a37 ⟨y37, rfl, his37, hlo37, hls37, b37⟩ F37
 obtain ⟨M37, -⟩ := side_two M36 b37 12 13 his37 hlo37 hls37 (by decide)
 clear M36 hlo37 hls37 his37 b37
 refine zB 4 [(0, .bool false), (2, .pointer (some ⟨g17, 0, none⟩)), (3, .pointer (some ⟨g27, 0, none⟩)), (39, .agg (zk kS y37)), (40, numV (offB 32603 16301 4 kV kB)), (41, .bool true)] [] dnil [] F37 fun _ F38 => ?_
 refine zh (zc rfl) rfl F38 rfl M37 14 (t := 37) (c := zSA) (by unfold execOp; kernel_rfl) ?_
 intro g39 a39 w39 F39 M39
 refine zh (zc rfl) rfl F39 rfl M39 15 (t := 27) (c := numA 0) (zu rfl) ?_
 intro g40 a40 w40 F40 M40
 refine zr (zc rfl) rfl F40 M40 (k := 14) rfl _ _ _ rfl (F40.get (t := 5) rfl) (F40.get (t := 39) rfl) (zk kS y37) _ rfl (zL rfl) (zpa (w := w40) ⟨(M40.isb (k := 12) rfl), (M40.isb (k := 13) rfl)⟩) (zo rfl) (by kernel_rfl) ?_
 intro w41 M41
 refine zr (zc rfl) rfl F40 M41 (k := 15) rfl _ _ _ rfl (F40.get (t := 6) rfl) (F40.get (t := 40) rfl) (numA (offB 32603 16301 4 kV kB)) _ rfl (zL rfl) (zy _) (zo rfl) zd ?_
 intro w42 M42
 refine rm rfl F40 fun _ F43 => hK31 _ _ (zT fun _ hK44 => zB 4 [(0, .bool false), (5, .pointer (some ⟨g39, 0, none⟩)), (7, .bool true), (43, .agg (zk kC y25)), (45, .slice A9 ([115]).length c9), (46, numV (offB 32603 16301 4 kV kB))] [0, 1, 2] (zp (M42.blk (k := 9) rfl) (zp (M42.blk (k := 4) rfl) (zp (M42.blk (k := 15) rfl) dnil))) [g27, g17, g40] F43 fun _ F45 => ?_)
 refine zaa (zc rfl) rfl F45 rfl rfl (zE Tryz.func16 rfl) #[.agg (zk kC y25), .slice A9 ([115]).length c9, numV (offB 32603 16301 4 kV kB)] (args3 (F45.get (t := 43) rfl) (F45.get (t := 45) rfl) (F45.get (t := 46) rfl)) (kc_p w42 _ _ ⟨(M42.isb (k := 7) rfl), (M42.isb (k := 8) rfl)⟩ (M42.isb (k := 1) rfl)) ?_
 rintro _ w46 a46 ⟨y46, rfl, his46, hlo46, hls46, b46⟩ F46
 obtain ⟨M46, -⟩ := side_two M42 b46 16 17 his46 hlo46 hls46 (by decide)
 clear M42 hlo46 hls46 his46 b46
 refine zB 4 [(0, .bool false), (5, .pointer (some ⟨g39, 0, none⟩)), (7, .bool true), (48, .agg (zk kD y46)), (49, .agg (zi kD.Pr)), (50, .bool true)] [] dnil [] F46 fun _ F47 => ?_
 refine zh (zc rfl) rfl F47 rfl M46 18 (t := 37) (c := zSA) (by unfold execOp; kernel_rfl) ?_
 intro g48 a48 w48 F48 M48
 refine zh (zc rfl) rfl F48 rfl M48 19 (t := 35) (c := zi (fun _ => 0)) (by unfold execOp; kernel_rfl) ?_
 intro g49 a49 w49 F49 M49
 refine zr (zc rfl) rfl F49 M49 (k := 18) rfl _ _ _ rfl (F49.get (t := 8) rfl) (F49.get (t := 48) rfl) (zk kD y46) _ rfl (zL rfl) (zpa (w := w49) ⟨(M49.isb (k := 16) rfl), (M49.isb (k := 17) rfl)⟩) (zo rfl) (by kernel_rfl) ?_
 intro w50 M50
 refine zr (zc rfl) rfl F49 M50 (k := 19) rfl _ _ _ rfl (F49.get (t := 9) rfl) (F49.get (t := 49) rfl) (zi kD.Pr) _ rfl (zL rfl) (zda _) (zo rfl) (by kernel_rfl) ?_
 intro w51 M51
 refine rm rfl F49 fun _ F52 => hK44 _ _ (zSk fun _ hK53 => ?_)
 have hD54 := (zp (M51.blk (k := 14) rfl) (zp (M51.blk (k := 19) rfl) dnil))
 refine region_fxL F52 (SK [.inl (.agg (zk kS y37)), .inl (.agg (zi kD.Pr)), .inr (StK.bytes (sumY kD.Pr)), .inl (.tuple #[.agg (zi (ansY kS.Ky kS.Pr)), .bool true]), .inl (.tuple #[.agg (zi (ansY kS.Ky kS.Pr)), .bool true]), .inl (.agg (zi (ansY kS.Ky kS.Pr))), .inl (.bool true), .inr (StK.new w51.heap.size (zi (fun _ => 0)) 35 (by decide))]) 8 6 51 1 4 #[.agg (zi (ansY kS.Ky kS.Pr)), .bool true] (.bool true) rfl (by kernel_rfl) rfl (by kernel_rfl) (fun _ _ h => h) rfl (fun _ _ => Iff.rfl) rfl ⟨hopP F52 hD54 0 (some g39) (by kernel_rfl), hopP F52 hD54 1 (some g49) (by kernel_rfl), ?_, ?_, hop0 F52 (by kernel_rfl), hop0 F52 (by kernel_rfl), hop0 F52 (by kernel_rfl), ?_, trivial⟩ ?_
 ·intro ua uw hb hd
  have e53 : ua.eval (.tmp 53) = .agg (zi kD.Pr) := hd 53 (by decide)
  exact zba (F := (StK.bytes (sumY kD.Pr)).F) (zc rfl) hb.size rfl #[.agg (zi kD.Pr)] (zwa e53) (zE Tryz.func18 rfl) ((kc_b kD.Pr kn_ok.2.pr uw))
 ·intro ua uw hb hd
  have e52 : ua.eval (.tmp 52) = .agg (zk kS y37) := hd 52 (by decide)
  have e54 : IsB uw (sumY kD.Pr) (ua.eval (.tmp 54)) := hd 54 (by decide)
  exact zba (F := (StK.eq (.tuple #[.agg (zi (ansY kS.Ky kS.Pr)), .bool true])).F) (zc rfl) hb.size rfl #[.agg (zk kS y37), (ua.eval (.tmp 54))] (z3a e52 rfl) (zE Tryz.func17 rfl) (zqa ((kc_c uw _ _ ⟨((M51.step hb).isb (k := 12) rfl), ((M51.step hb).isb (k := 13) rfl)⟩ e54)))
 ·intro ua uw hb hd
  exact hop_new (zc rfl) hb.size hb.size (by decide) (by unfold execOp; kernel_rfl)
 intro p55 a55 w55 b55 G55 y55
 obtain ⟨-, -, -, -, -, q5, q6, q7, -⟩ := y55
 obtain ⟨gn7x54, r7, hg7, hc7⟩ := q7 (by decide)
 replace r7 : p55 7 = .pointer (some ⟨gn7x54, 0, none⟩) := r7
 have r5 : p55 5 = .agg (zi (ansY kS.Ky kS.Pr)) := q5 (by decide)
 have r6 : p55 6 = .bool true := q6 (by decide)
 simp only [List.take, layV, Nat.zero_add, Nat.reduceAdd, r5, r6, r7] at G55
 have M55 := M51.newb b55.below 20 hg7 hc7
 clear hg7 hc7 r7
 clear F52 M51 r5 q5 r6 q6
 refine st_ex M55 (k := 20) rfl _ _ _ rfl (G55.get (t := 11) rfl) (G55.get (t := 56) rfl) (zi (ansY kS.Ky kS.Pr)) _ rfl (zL rfl) (zda _) (zo rfl) (by kernel_rfl) ?_
 intro w56 M56
 refine rm rfl G55 fun _ F57 => hK53 _ _ (zSk fun _ hK58 => ?_)
 have hD59 := (zp (M56.blk (k := 18) rfl) (zp (M56.blk (k := 20) rfl) (zp (M56.blk (k := 14) rfl) dnil)))
 refine zha F57 (SK [.inl (.agg (zSA)), .inl (.bool false), .inl (.bool true), .inl (.bool true), .inl (.bool true), .inl (.bool true), .inl (.bool true), .inl (.bool true), .inl (.bool true), .inl (.bool true), .inl (.bool true), .inl (.bool true), .inl (.bool true), .inl (.agg (zk kD y46)), .inl (.agg (zi (ansY kS.Ky kS.Pr))), .inr (StK.bytes (sumY (ansY kS.Ky kS.Pr))), .inl (.bool true), .inl (.bool true), .inl (.bool true), .inl (.pointer (some ⟨g48, 60, none⟩)), .inl (.agg (zi kD.Ky)), .inl (.pointer (some ⟨g39, 60, none⟩)), .inl (.agg (zi kS.Ky)), .inl (.bool true), .inl (.bool true), .inl (.bool true)]) 26 rfl (by kernel_rfl) ⟨hopR F57 [] (v := .agg (zSA)) fun ua uw hb _ => (by unfold execOp; kernel_rfl), ?_, hop0 F57 (by kernel_rfl), hop0 F57 (by kernel_rfl), hop0 F57 (by kernel_rfl), hop0 F57 (by kernel_rfl), hop0 F57 (by kernel_rfl), hop0 F57 (by kernel_rfl), hop0 F57 (by kernel_rfl), hop0 F57 (by kernel_rfl), hop0 F57 (by kernel_rfl), hop0 F57 (by kernel_rfl), hop0 F57 (by kernel_rfl), hopP F57 hD59 0 (some g48) (by kernel_rfl), hopP F57 hD59 1 (some gn7x54) (by kernel_rfl), ?_, ?_, hop0 F57 (by kernel_rfl), hop0 F57 (by kernel_rfl), hop0 F57 (by kernel_rfl), hopP F57 hD59 0 (some g48) (by kernel_rfl), hop0 F57 (by kernel_rfl), hopP F57 hD59 2 (some g39) (by kernel_rfl), hopR F57 [(78, .agg (zi kD.Ky)), (80, .agg (zi kS.Ky))] (v := .bool true) fun ua uw hb ⟨e78, e80, _⟩ => (run_eq16 _ _ rfl kS.Ky (e78.trans (by rw [kn_Ky])) e80), hop0 F57 (by kernel_rfl), hop0 F57 (by kernel_rfl), trivial⟩ ?_
 ·intro ua uw hb hd
  have e58 : ua.eval (.tmp 58) = .agg (zSA) := hd 58 (by decide)
  exact zba (F := (StK.eq (.bool false)).F) (zc rfl) hb.size rfl #[.agg (zSA), zN] (z3a e58 rfl) (zE Tryz.func19 rfl) (zqa ((kc_z uw)))
 ·intro ua uw hb hd
  have eg : ua.eval (.tmp 70) = .bool true := hd 70 (by decide)
  have e72 : ua.eval (.tmp 72) = .agg (zi (ansY kS.Ky kS.Pr)) := hd 72 (by decide)
  exact zba (F := (StK.bytes (sumY (ansY kS.Ky kS.Pr))).F) (zob rfl rfl rfl eg) hb.size rfl #[.agg (zi (ansY kS.Ky kS.Pr))] (zwa e72) (zE Tryz.func18 rfl) ((kc_b (ansY kS.Ky kS.Pr) (zzb _) uw))
 ·intro ua uw hb hd
  have eg : ua.eval (.tmp 70) = .bool true := hd 70 (by decide)
  have e71 : ua.eval (.tmp 71) = .agg (zk kD y46) := hd 71 (by decide)
  have e73 : IsB uw (sumY (ansY kS.Ky kS.Pr)) (ua.eval (.tmp 73)) := hd 73 (by decide)
  exact zba (F := (StK.eq (.bool true)).F) (zob rfl rfl rfl eg) hb.size rfl #[.agg (zk kD y46), (ua.eval (.tmp 73))] (z3a e71 rfl) (zE Tryz.func19 rfl) (zqa ((kc_d uw _ _ ⟨((M56.step hb).isb (k := 16) rfl), ((M56.step hb).isb (k := 17) rfl)⟩ e73)))
 intro p60 a60 w60 b60 G60 y60
 obtain ⟨-, -, -, -, -, -, -, -, -, -, -, -, -, -, -, -, -, -, -, -, -, -, -, -, -, q25, -⟩ := y60
 have r25 : p60 25 = .bool true := q25 (by decide)
 simp only [List.take, layV, Nat.zero_add, Nat.reduceAdd, r25] at G60
 have M60 := M56.kc b60
 clear F57 M56 r25 q25
 refine hK58 _ _ (wp_ret ?_)
 try simp only [Exit.then, Exit.inBlock, Exit.jump]
 exact bodyPost_ret (res1 rfl (G60.get (t := 0) rfl)) G60.defers ⟨rfl, M60.below⟩
theorem share_ok2 {b : Bool} {x D : SideN} {n : Nat} (h : cond b (zja x n) zeroS = D) : SideOk D := by
 subst h
 cases b
 ·exact ⟨fun _ => ⟨Int.le_refl _, (show (0 : Int) < 256 by decide)⟩, fun _ => ⟨Int.le_refl _, (show (0 : Int) < 256 by decide)⟩⟩
 ·exact shareN_ok
theorem SrpWrong_walk (a0 : Int) (hk0 : -9223372036854775808 ≤ a0) (hl0 : a0 < 9223372036854775808)
  (A1 : Option Addr) (n1 cap1 : Nat) (l1 : List UInt8) (hn1 : l1.length = n1) (hc1 : n1 ≤ cap1) (hm1 : cap1 ≤ maxLen) (hz1 : A1 = none → cap1 = 0)
  (A2 : Option Addr) (n2 cap2 : Nat) (l2 : List UInt8) (hn2 : l2.length = n2) (hc2 : n2 ≤ cap2) (hm2 : cap2 ≤ maxLen) (hz2 : A2 = none → cap2 = 0)
  (A3 : Option Addr) (n3 cap3 : Nat) (l3 : List UInt8) (hn3 : l3.length = n3) (hc3 : n3 ≤ cap3) (hm3 : cap3 ≤ maxLen) (hz3 : A3 = none → cap3 = 0)
  (A4 : Option Addr) (n4 cap4 : Nat) (l4 : List UInt8) (hn4 : l4.length = n4) (hc4 : n4 ≤ cap4) (hm4 : cap4 ≤ maxLen) (hz4 : A4 = none → cap4 = 0) (w : World) (hr1 : Rd w A1 l1) (hr2 : Rd w A2 l2) (hr3 : Rd w A3 l3) (hr4 : Rd w A4 l4) :
  Calls Tryz.prog 5 #[.int .i64 a0, .slice A1 n1 cap1, .slice A2 n2 cap2, .slice A3 n3 cap3, .slice A4 n4 cap4] w fun e w' => e = .returned (.bool true) ∧ Below w.heap.size w w' := by
 have ib1 : IsB w l1 (.slice A1 n1 cap1) := hr1.isB' hn1 hc1 hm1 hz1
 have ib2 : IsB w l2 (.slice A2 n2 cap2) := hr2.isB' hn2 hc2 hm2 hz2
 have ib3 : IsB w l3 (.slice A3 n3 cap3) := hr3.isB' hn3 hc3 hm3 hz3
 have ib4 : IsB w l4 (.slice A4 n4 cap4) := hr4.isB' hn4 hc4 hm4 hz4
 obtain ⟨k, p, hg, kG⟩ := group_any hk0 hl0
 obtain ⟨hpa, hpb⟩ : 4000 < p ∧ p < 16777216 := ⟨hg.2.2.2.1, hg.2.2.2.2.1⟩
 have po : p % 2 = 1 := hg.2.2.1
 have hp1 : 1 < p := by omega
 have p4 : p < 4294967296 := by omega
 have hP : p < 4294967296 ^ 8 := Nat.lt_trans p4 (by decide)
 have h2 : 2 < p / 2 := by omega
 have hQ4 : p / 2 ≤ 4294967296 := by omega
 have hQ : p / 2 < 4294967296 ^ 8 := Nat.lt_of_le_of_lt hQ4 (by decide)
 have hP0 : 0 < p := by omega
 have hm : ∀ x, x % p < 4294967296 ^ 8 := fun x => Nat.lt_trans (Nat.mod_lt _ hP0) hP
 have gfour : (4 : Nat) < 4294967296 ^ 8 := by decide
 obtain ⟨sh, hsh⟩ : ∃ b, shortB [l1, l2, l3, l4] = b := ⟨_, rfl⟩
 refine zea (args := [.int .i64 a0, .slice A1 n1 cap1, .slice A2 n2 cap2, .slice A3 n3 cap3, .slice A4 n4 cap4]) 116 Tryz.func5 rfl rfl rfl ?_
 intro fa F
 have M := Mx.start w
 replace M := M.argB 0 ib1 (fun g e => by cases e)
 replace M := M.argB 1 ib2 (fun g e => by cases e)
 replace M := M.argB 2 ib3 (fun g e => by cases e)
 replace M := M.argB 3 ib4 (fun g e => by cases e)
 refine zT fun _ hK21 => rm rfl F fun _ F22 => hK21 _ _ (zSk fun _ hK23 => zT fun _ hK24 => zaa (zc rfl) rfl F22 rfl rfl (zE Tryz.func9 rfl) #[] (args0) (zca (sknown_any w)) ?_)
 rintro _ w25 a25 ⟨rfl, b25⟩ F25
 have M25 := M.step b25
 refine zj (w' := w25) (zc rfl) rfl F25 rfl (.bool false) (zfc _ _ rfl (F25.get (t := 31) rfl)) fun _ F26 => ?_
 refine hK24 _ _ (wp_cond_false (F26.get (t := 32) rfl) (wp_skip (hK23 _ _ (zSk fun _ hK27 => zT fun _ hK28 => rm rfl F26 fun _ F29 => rm rfl F29 fun _ F30 => ?_))))
 refine rm rfl F30 fun _ F31 => rm rfl F31 fun _ F32 => zhc (zc rfl) rfl F32 rfl M25 4 (t := 22) (c := #[.slice A1 n1 cap1, .slice A2 n2 cap2, .slice A3 n3 cap3, .slice A4 n4 cap4]) (k := 4) (m := 4) (y_litG 54 22 (s := 1) (zv := zN) Tryz.underlying54 (by kernel_rfl) (by kernel_rfl) rfl (#[.slice A1 n1 cap1, .slice A2 n2 cap2, .slice A3 n3 cap3, .slice A4 n4 cap4]) (by decide) (by decide) (by simp only [List.map_toArray, List.map_cons, List.map_nil, (F32.get (t := 33) rfl), (F32.get (t := 34) rfl), (F32.get (t := 35) rfl), (F32.get (t := 36) rfl)]; kernel_rfl)) ?_
 intro g33 a33 w33 F33 M33
 refine zaa (zc rfl) rfl F33 rfl rfl (zE Tryz.func10 rfl) #[.slice (some ⟨g33, 0, none⟩) 4 4] (zwa (F33.get (t := 37) rfl)) (zca ((hsh ▸ short_any [l1, l2, l3, l4] _ w33 (isP_blk (M33.blk (k := 4) rfl) rfl rfl (show 4 ≤ 1000 by decide) (fun j l hj => by
   match j, hj with
   | 0, hj => obtain rfl : l1 = l := Option.some.inj hj; exact ⟨_, rfl, (M33.isb (k := 0) rfl)⟩
   | 1, hj => obtain rfl : l2 = l := Option.some.inj hj; exact ⟨_, rfl, (M33.isb (k := 1) rfl)⟩
   | 2, hj => obtain rfl : l3 = l := Option.some.inj hj; exact ⟨_, rfl, (M33.isb (k := 2) rfl)⟩
   | 3, hj => obtain rfl : l4 = l := Option.some.inj hj; exact ⟨_, rfl, (M33.isb (k := 3) rfl)⟩
   | n + 4, hj => cases hj))))) ?_
 rintro _ w34 a34 ⟨rfl, b34⟩ F34
 have M34 := M33.step b34
 cases sh
 ·refine zj (w' := w34) (zc rfl) rfl F34 rfl (.bool true) (zfc _ _ rfl (F34.get (t := 38) rfl)) fun _ F35 => ?_
  refine hK28 _ _ (wp_cond_true (F35.get (t := 39) rfl) (zT fun _ hK36 => rm rfl F35 fun _ F37 => hK36 _ _ (wp_ret ?_)))
  try simp only [Exit.then, Exit.inBlock, Exit.jump]
  exact bodyPost_ret (res1 rfl (F37.get rfl)) F37.defers ⟨rfl, M34.below⟩
 ·have hs0 : l1.length ≤ 64 := short_mem hsh (by simp)
  have hs1 : l2.length ≤ 64 := short_mem hsh (by simp)
  have hs2 : l3.length ≤ 64 := short_mem hsh (by simp)
  have hs3 : l4.length ≤ 64 := short_mem hsh (by simp)
  have hP31 : p < 2147483648 := by omega
  have hQ5 : p / 2 < 4294967296 := by omega
  obtain ⟨V1, hV1⟩ : ∃ V, 4 ^ secN (p / 2) (sBy ({ data := #[117] } : ByteArray)) l1 l4 % p = V := ⟨_, rfl⟩
  have bV1 : V1 < 4294967296 ^ 8 := by rw [← hV1]; exact hm _
  have rV1 := fun (w : World) (vp vs : Value) (hp : IsB w l1 vp) (hs : IsB w l4 vs) => rver7_any k p (p / 2) 4 hp1 hP31 h2 hQ5 gfour ({ data := #[117] } : ByteArray) (show 1 ≤ 200 by decide) l1 l4 (show l1.length ≤ 200 by omega) (show l4.length ≤ 200 by omega) vp vs w hp hs
  rw [hV1] at rV1
  obtain ⟨Oa, hOa⟩ : ∃ O, texN (p / 2) [97] [l3] = O := ⟨_, rfl⟩
  have oa4 : Oa < 4294967296 := by rw [← hOa]; exact Nat.lt_of_lt_of_le (z8b h2 _).2 hQ4
  obtain ⟨A, hA⟩ : ∃ A, 4 ^ Oa % p = A := ⟨_, rfl⟩
  have bA : A < 4294967296 ^ 8 := by rw [← hA]; exact hm _
  obtain ⟨C, hC⟩ : ∃ C : SideN, ⟨k, p, p / 2, 4, ({ data := #[117] } : ByteArray), l2, 4 ^ Oa % p, 0, Oa, [], 0, fun _ => 0, fun _ => 0⟩ = C := ⟨_, rfl⟩
  have kH := shello_is k p (p / 2) 4 po hp1 hP h2 hQ gfour ({ data := #[117] } : ByteArray) l2 l3 (show l2.length ≤ 100000 by omega) (X := C) (A := A) (by rw [hOa]; exact hC) (by rw [hOa]; exact hA)
  obtain ⟨cP, cQ, cO, cg, cs, cl, cls⟩ : C.P = p ∧ C.Q = p / 2 ∧ C.O = Oa ∧ C.g = 4 ∧ C.s = ({ data := #[117] } : ByteArray) ∧ C.lp = l2 ∧ C.ls = [] := by rw [← hC]; exact ⟨rfl, rfl, rfl, rfl, rfl, rfl, rfl⟩
  obtain ⟨Ob, hOb⟩ : ∃ O, texN (p / 2) [98] [l4] = O := ⟨_, rfl⟩
  obtain ⟨Ob0, Ob1⟩ : 1 ≤ Ob ∧ Ob < p / 2 := by rw [← hOb]; exact z8b h2 _
  obtain ⟨ok, hok⟩ : ∃ b, offOk p (p / 2) 4 V1 A Ob = b := ⟨_, rfl⟩
  obtain ⟨S, hS⟩ : ∃ S, cond ok (zja (offS k p (p / 2) 4 ({ data := #[117] } : ByteArray) l4 V1 A Ob) (offN p (p / 2) 4 V1 A Ob)) zeroS = S := ⟨_, rfl⟩
  obtain ⟨B, hB⟩ : ∃ B, cond ok (offB p (p / 2) 4 V1 Ob) 0 = B := ⟨_, rfl⟩
  have kO := soffer_is k p (p / 2) 4 po hp1 p4 h2 hQ gfour ⟨1, ({ data := #[117] } : ByteArray), l4, V1, 0, [], 0, 0, 0⟩ bV1 (show 1 ≤ 1000 by decide) (show l4.length ≤ 100000 by omega) A bA l4 (ok := ok) (X := S) (B := B) (by rw [hOb]; exact hok) (by rw [hOb]; exact hS) (by rw [hOb]; exact hB)
  have Bn : ok = false → B = 0 := fun h => by rw [← hB, h]; rfl
  have bB : B < 4294967296 ^ 8 := cond_lt hB (offB_lt hP0 hP) (by decide)
  have rO := sroffer_is k p (p / 2) 4 hp1 hP31 h2 hQ5 gfour ⟨1, ({ data := #[117] } : ByteArray), l4, V1, 0, [], 0, 0, 0⟩ bV1 (show 1 ≤ 200 by decide) (show l4.length ≤ 200 by omega) A bA l4 (show l4.length ≤ 200 by omega) (ok := ok) (X := S) (B := B) (by rw [hOb]; exact hok) (by rw [hOb]; exact hS) (by rw [hOb]; exact hB)
  have rH := srhello_is k p (p / 2) 4 hp1 hP31 h2 hQ5 gfour ({ data := #[117] } : ByteArray) l2 l3 (show l3.length ≤ 200 by omega) (X := C) (A := A) (by rw [hOa]; exact hC) (by rw [hOa]; exact hA)
  obtain ⟨ok2, hok2⟩ : ∃ b, prvOk C l4 B = b := ⟨_, rfl⟩
  obtain ⟨D, hD⟩ : ∃ D, cond ok2 (zja (prvS C l4 B) (prvN C l4 B)) zeroS = D := ⟨_, rfl⟩
  have kP := sprove_is C (by rw [cP]; exact po) (by rw [cP]; exact hp1) (by rw [cP]; exact p4) (by rw [cQ]; exact h2) (by rw [cQ]; exact hQ4) (by rw [cO]; exact oa4) (by rw [cg]; exact gfour) (by rw [cs]; exact (show 1 ≤ 1000 by decide)) (by rw [cl]; exact (show l2.length ≤ 100000 by omega)) l4 (show l4.length ≤ 100000 by omega) B bB (ok := ok2) (X := D) (Y := D.Pr) hok2 hD rfl
  have rP := srprove_is C (by rw [cP]; exact hp1) (by rw [cP]; exact hP31) (by rw [cQ]; exact h2) (by rw [cQ]; exact hQ5) (by rw [cO]; exact oa4) (by rw [cg]; exact gfour) (by rw [cs]; exact (show 1 ≤ 200 by decide)) (by rw [cl]; exact (show l2.length ≤ 200 by omega)) l4 (show l4.length ≤ 200 by omega) B bB (ok := ok2) (X := D) hok2 hD
  have hDo : SideOk D := share_ok2 hD
  have hSo : SideOk S := share_ok2 hS
  obtain ⟨so, hso⟩ : ∃ q, decide (sumY S.Pr = sumY D.Pr) = q := ⟨_, rfl⟩
  have hso2 : decide (sumY D.Pr = sumY S.Pr) = so := by rw [← hso]; exact decide_eq_decide.2 ⟨Eq.symm, Eq.symm⟩
  clear hOa hOb hok2 hD hok hS hB hV1 hA hC
  refine zj (w' := w34) (zc rfl) rfl F34 rfl (.bool false) (zfc _ _ rfl (F34.get (t := 38) rfl)) fun _ F38 => ?_
  refine hK28 _ _ (wp_cond_false (F38.get (t := 39) rfl) (wp_skip (hK27 _ _ (zT fun _ hK39 => rm rfl F38 fun _ F40 => zaa (zc rfl) rfl F40 rfl rfl (zE Tryz.func11 rfl) #[.int .i64 a0] (zwa (F40.get (t := 40) rfl)) (zca (kG w34)) ?_))))
  rintro _ w41 a41 ⟨rfl, b41⟩ F41
  have M41 := M34.step b41
  refine zh (zc rfl) rfl F41 rfl M41 5 (t := 29) (c := zg 0 0 0 0) (by unfold execOp; rw [zxb]; kernel_rfl) ?_
  intro g42 a42 w42 F42 M42
  refine zr (zc rfl) rfl F42 M42 (k := 5) rfl _ _ _ rfl (F42.get (t := 11) rfl) (F42.get (t := 41) rfl) (zg k p (p / 2) 4) _ rfl (zL rfl) (z3b _ _ _ _) (zo rfl) (by kernel_rfl) ?_
  intro w43 M43
  refine hK39 _ _ (zT fun _ hK44 => rm rfl F42 fun _ F45 => zj (w' := w43) (zc rfl) rfl F45 rfl _ (zxa _ _ rfl (F45.get (t := 11) rfl) (M43.blk (k := 5) rfl) (zg k p (p / 2) 4) (z1a rfl) Tryz.underlying29 rfl (by kernel_rfl)) fun _ F46 => ?_)
  refine rm rfl F46 fun _ F47 => rm rfl F47 fun _ F48 => zaa (zc rfl) rfl F48 rfl rfl (zE Tryz.func20 rfl) #[.agg (zg k p (p / 2) 4), .string ({ data := #[117] }), .slice A1 n1 cap1, .slice A4 n4 cap4] (args4 (F48.get (t := 43) rfl) rfl (F48.get (t := 44) rfl) (F48.get (t := 45) rfl)) (zca ((rV1 w43 _ _ (M43.isb (k := 0) rfl) (M43.isb (k := 3) rfl)))) ?_
  rintro _ w49 a49 ⟨rfl, b49⟩ F49
  have M49 := M43.step b49
  refine zj (w' := w49) (zc rfl) rfl F49 rfl (.agg (recA ⟨1, ({ data := #[117] }), l4, V1, 0, [], 0, 0, 0⟩ ⟨.slice A4 n4 cap4, zN⟩)) (by unfold execOp; simp only [List.map_toArray, List.map_cons, List.map_nil, (F49.get (t := 42) rfl), (F49.get (t := 46) rfl)]; kernel_rfl) fun _ F50 => ?_
  refine zh (zc rfl) rfl F50 rfl M49 6 (t := 33) (c := recA ⟨0, "".toUTF8, [], 0, 0, [], 0, 0, 0⟩ ⟨zN, zN⟩) (by unfold execOp; kernel_rfl) ?_
  intro g51 a51 w51 F51 M51
  refine zr (zc rfl) rfl F51 M51 (k := 6) rfl _ _ _ rfl (F51.get (t := 12) rfl) (F51.get (t := 47) rfl) (recA ⟨1, ({ data := #[117] }), l4, V1, 0, [], 0, 0, 0⟩ ⟨.slice A4 n4 cap4, zN⟩) _ rfl (zL rfl) (recA_one (w := w51) ⟨(M51.isb (k := 3) rfl), zfa _⟩) (zo rfl) (by kernel_rfl) ?_
  intro w52 M52
  refine hK44 _ _ (zT fun _ hK53 => zj (w' := w52) (zc rfl) rfl F51 rfl _ (zxa _ _ rfl (F51.get (t := 11) rfl) (M52.blk (k := 5) rfl) (zg k p (p / 2) 4) (z1a rfl) Tryz.underlying29 rfl (by kernel_rfl)) fun _ F54 => ?_)
  refine rm rfl F54 fun _ F55 => rm rfl F55 fun _ F56 => zaa (zc rfl) rfl F56 rfl rfl (zE Tryz.func13 rfl) #[.agg (zg k p (p / 2) 4), .string ({ data := #[117] }), .slice A2 n2 cap2, .slice A3 n3 cap3] (args4 (F56.get (t := 49) rfl) rfl (F56.get (t := 50) rfl) (F56.get (t := 51) rfl)) (kH w52 _ _ (M52.isb (k := 1) rfl) (M52.isb (k := 2) rfl)) ?_
  rintro _ w57 a57 ⟨y57, rfl, his57, hlo57, hls57, b57⟩ F57
  obtain ⟨M57, -⟩ := side_two M52 b57 7 8 his57 hlo57 hls57 (by decide)
  clear M52 hlo57 hls57 his57 b57
  refine zAx 3 [(48, .tuple #[.agg (zk C y57), numV A]), (53, .agg (zk C y57)), (54, numV A)] [] dnil [] F57 fun _ F58 => ?_
  refine zh (zc rfl) rfl F58 rfl M57 9 (t := 37) (c := zSA) (by unfold execOp; kernel_rfl) ?_
  intro g59 a59 w59 F59 M59
  refine zh (zc rfl) rfl F59 rfl M59 10 (t := 27) (c := numA 0) (zu rfl) ?_
  intro g60 a60 w60 F60 M60
  refine zr (zc rfl) rfl F60 M60 (k := 9) rfl _ _ _ rfl (F60.get (t := 13) rfl) (F60.get (t := 53) rfl) (zk C y57) _ rfl (zL rfl) (zpa (w := w60) ⟨(M60.isb (k := 7) rfl), (M60.isb (k := 8) rfl)⟩) (zo rfl) (by kernel_rfl) ?_
  intro w61 M61
  refine zr (zc rfl) rfl F60 M61 (k := 10) rfl _ _ _ rfl (F60.get (t := 14) rfl) (F60.get (t := 54) rfl) (numA A) _ rfl (zL rfl) (zy _) (zo rfl) zd ?_
  intro w62 M62
  refine hK53 _ _ (zT fun _ hK63 => zj (w' := w62) (zc rfl) rfl F60 rfl _ (zxa _ _ rfl (F60.get (t := 11) rfl) (M62.blk (k := 5) rfl) (zg k p (p / 2) 4) (z1a rfl) Tryz.underlying29 rfl (by kernel_rfl)) fun _ F64 => ?_)
  refine zj (w' := w62) (zc rfl) rfl F64 rfl _ (zxa _ _ rfl (F64.get (t := 12) rfl) (M62.blk (k := 6) rfl) (recA ⟨1, ({ data := #[117] }), l4, V1, 0, [], 0, 0, 0⟩ ⟨.slice A4 n4 cap4, zN⟩) (z1a rfl) Tryz.underlying33 rfl (by kernel_rfl)) fun _ F65 => ?_
  refine zj (w' := w62) (zc rfl) rfl F65 rfl (numV A) (zxa _ _ rfl (F65.get (t := 14) rfl) (M62.blk (k := 10) rfl) (numA A) (z1a rfl) Tryz.underlying27 rfl zd) fun _ F66 => ?_
  refine rm rfl F66 fun _ F67 => zaa (zc rfl) rfl F67 rfl rfl (zE Tryz.func14 rfl) #[.agg (zg k p (p / 2) 4), .agg (recA ⟨1, ({ data := #[117] }), l4, V1, 0, [], 0, 0, 0⟩ ⟨.slice A4 n4 cap4, zN⟩), numV A, .slice A4 n4 cap4] (args4 (F67.get (t := 56) rfl) (F67.get (t := 57) rfl) (F67.get (t := 58) rfl) (F67.get (t := 59) rfl)) (kO w62 _ _ ⟨(M62.isb (k := 3) rfl), zfa _⟩ (M62.isb (k := 3) rfl)) ?_
  rintro _ w68 a68 ⟨y68, rfl, his68, hlo68, hls68, b68⟩ F68
  obtain ⟨M68, -⟩ := side_two M62 b68 11 12 his68 hlo68 hls68 (by decide)
  clear M62 hlo68 hls68 his68 b68
  refine zAx 4 [(55, .tuple #[.agg (zk S y68), numV B, .bool ok]), (61, .agg (zk S y68)), (62, numV B), (63, .bool ok)] [] dnil [] F68 fun _ F69 => ?_
  refine zh (zc rfl) rfl F69 rfl M68 13 (t := 37) (c := zSA) (by unfold execOp; kernel_rfl) ?_
  intro g70 a70 w70 F70 M70
  refine zh (zc rfl) rfl F70 rfl M70 14 (t := 27) (c := numA 0) (zu rfl) ?_
  intro g71 a71 w71 F71 M71
  refine zr (zc rfl) rfl F71 M71 (k := 13) rfl _ _ _ rfl (F71.get (t := 15) rfl) (F71.get (t := 61) rfl) (zk S y68) _ rfl (zL rfl) (zpa (w := w71) ⟨(M71.isb (k := 11) rfl), (M71.isb (k := 12) rfl)⟩) (zo rfl) (by kernel_rfl) ?_
  intro w72 M72
  refine zr (zc rfl) rfl F71 M72 (k := 14) rfl _ _ _ rfl (F71.get (t := 16) rfl) (F71.get (t := 62) rfl) (numA B) _ rfl (zL rfl) (zy _) (zo rfl) zd ?_
  intro w73 M73
  refine rm rfl F71 fun _ F74 => hK63 _ _ (zSk fun _ hK75 => zT fun _ hK76 => rm rfl F74 fun _ F77 => ?_)
  cases ok
  ·refine zj (w' := w73) (zc rfl) rfl F77 rfl (.bool true) (zfc _ _ rfl (F77.get (t := 64) rfl)) fun _ F78 => ?_
   refine hK76 _ _ (wp_cond_true (F78.get (t := 65) rfl) (zT fun _ hK79 => rm rfl F78 fun _ F80 => hK79 _ _ (wp_ret ?_)))
   try simp only [Exit.then, Exit.inBlock, Exit.jump]
   exact bodyPost_ret (res1 rfl (F80.get rfl)) F80.defers ⟨rfl, M73.below⟩
  ·refine zj (w' := w73) (zc rfl) rfl F77 rfl (.bool false) (zfc _ _ rfl (F77.get (t := 64) rfl)) fun _ F81 => ?_
   refine hK76 _ _ (wp_cond_false (F81.get (t := 65) rfl) (wp_skip (hK75 _ _ (zT fun _ hK82 => zj (w' := w73) (zc rfl) rfl F81 rfl _ (zxa _ _ rfl (F81.get (t := 11) rfl) (M73.blk (k := 5) rfl) (zg k p (p / 2) 4) (z1a rfl) Tryz.underlying29 rfl (by kernel_rfl)) fun _ F83 => ?_))))
   refine rm rfl F83 fun _ F84 => rm rfl F84 fun _ F85 => zaa (zc rfl) rfl F85 rfl rfl (zE Tryz.func23 rfl) #[.agg (zg k p (p / 2) 4), .string ({ data := #[117] }), .slice A2 n2 cap2, .slice A3 n3 cap3] (args4 (F85.get (t := 67) rfl) rfl (F85.get (t := 68) rfl) (F85.get (t := 69) rfl)) (zca ((rH w73 _ _ (M73.isb (k := 1) rfl) (M73.isb (k := 2) rfl)))) ?_
   rintro _ w86 a86 ⟨rfl, b86⟩ F86
   have M86 := M73.step b86
   refine zAx 3 [(66, .tuple #[.agg (zk C ⟨.slice A2 n2 cap2, zN⟩), numV A]), (71, .agg (zk C ⟨.slice A2 n2 cap2, zN⟩)), (72, numV A)] [] dnil [] F86 fun _ F87 => ?_
   refine zh (zc rfl) rfl F87 rfl M86 15 (t := 42) (c := zSA) (by unfold execOp; kernel_rfl) ?_
   intro g88 a88 w88 F88 M88
   refine zh (zc rfl) rfl F88 rfl M88 16 (t := 27) (c := numA 0) (zu rfl) ?_
   intro g89 a89 w89 F89 M89
   refine zr (zc rfl) rfl F89 M89 (k := 15) rfl _ _ _ rfl (F89.get (t := 18) rfl) (F89.get (t := 71) rfl) (zk C ⟨.slice A2 n2 cap2, zN⟩) _ rfl (zL rfl) (sshp_one ⟨⟨_, _, _, rfl⟩, _, _, _, rfl⟩) (zo rfl) (by kernel_rfl) ?_
   intro w90 M90
   refine zr (zc rfl) rfl F89 M90 (k := 16) rfl _ _ _ rfl (F89.get (t := 19) rfl) (F89.get (t := 72) rfl) (numA A) _ rfl (zL rfl) (zy _) (zo rfl) zd ?_
   intro w91 M91
   refine hK82 _ _ (zT fun _ hK92 => zj (w' := w91) (zc rfl) rfl F89 rfl _ (zxa _ _ rfl (F89.get (t := 11) rfl) (M91.blk (k := 5) rfl) (zg k p (p / 2) 4) (z1a rfl) Tryz.underlying29 rfl (by kernel_rfl)) fun _ F93 => ?_)
   refine zj (w' := w91) (zc rfl) rfl F93 rfl _ (zxa _ _ rfl (F93.get (t := 12) rfl) (M91.blk (k := 6) rfl) (recA ⟨1, ({ data := #[117] }), l4, V1, 0, [], 0, 0, 0⟩ ⟨.slice A4 n4 cap4, zN⟩) (z1a rfl) Tryz.underlying33 rfl (by kernel_rfl)) fun _ F94 => ?_
   refine zj (w' := w91) (zc rfl) rfl F94 rfl (numV A) (zxa _ _ rfl (F94.get (t := 14) rfl) (M91.blk (k := 10) rfl) (numA A) (z1a rfl) Tryz.underlying27 rfl zd) fun _ F95 => ?_
   refine rm rfl F95 fun _ F96 => zaa (zc rfl) rfl F96 rfl rfl (zE Tryz.func15 rfl) #[.agg (zg k p (p / 2) 4), .agg (recA ⟨1, ({ data := #[117] }), l4, V1, 0, [], 0, 0, 0⟩ ⟨.slice A4 n4 cap4, zN⟩), numV A, .slice A4 n4 cap4] (args4 (F96.get (t := 74) rfl) (F96.get (t := 75) rfl) (F96.get (t := 76) rfl) (F96.get (t := 77) rfl)) (rO w91 _ _ ⟨(M91.isb (k := 3) rfl), zfa _⟩ (M91.isb (k := 3) rfl)) ?_
   rintro _ w97 a97 ⟨y97, rfl, hs97, b97⟩ F97
   have M97 := M91.step b97
   clear M91 b97
   refine zAx 4 [(73, .tuple #[.agg (zk S y97), numV B, .bool true]), (79, .agg (zk S y97)), (80, numV B), (81, .bool true)] [] dnil [] F97 fun _ F98 => ?_
   refine zh (zc rfl) rfl F98 rfl M97 17 (t := 42) (c := zSA) (by unfold execOp; kernel_rfl) ?_
   intro g99 a99 w99 F99 M99
   refine zh (zc rfl) rfl F99 rfl M99 18 (t := 27) (c := numA 0) (zu rfl) ?_
   intro g100 a100 w100 F100 M100
   refine zr (zc rfl) rfl F100 M100 (k := 17) rfl _ _ _ rfl (F100.get (t := 20) rfl) (F100.get (t := 79) rfl) (zk S y97) _ rfl (zL rfl) (sshp_one hs97) (zo rfl) (by kernel_rfl) ?_
   intro w101 M101
   refine zr (zc rfl) rfl F100 M101 (k := 18) rfl _ _ _ rfl (F100.get (t := 21) rfl) (F100.get (t := 80) rfl) (numA B) _ rfl (zL rfl) (zy _) (zo rfl) zd ?_
   intro w102 M102
   refine rm rfl F100 fun _ F103 => hK92 _ _ (zT fun _ hK104 => zAx 3 [(83, .agg (zk C y57)), (84, .slice A4 n4 cap4), (85, numV B)] [0, 1] (zp (M102.blk (k := 9) rfl) (zp (M102.blk (k := 14) rfl) dnil)) [g59, g71] F103 fun _ F105 => ?_)
   refine zaa (zc rfl) rfl F105 rfl rfl (zE Tryz.func16 rfl) #[.agg (zk C y57), .slice A4 n4 cap4, numV B] (args3 (F105.get (t := 83) rfl) (F105.get (t := 84) rfl) (F105.get (t := 85) rfl)) (kP w102 _ _ ⟨(M102.isb (k := 7) rfl), (M102.isb (k := 8) rfl)⟩ (M102.isb (k := 3) rfl)) ?_
   rintro _ w106 a106 ⟨y106, rfl, his106, hlo106, hls106, b106⟩ F106
   obtain ⟨M106, -⟩ := side_two M102 b106 19 20 his106 hlo106 hls106 (by decide)
   clear M102 hlo106 hls106 his106 b106
   refine zAx 4 [(82, .tuple #[.agg (zk D y106), .agg (zi D.Pr), .bool ok2]), (87, .agg (zk D y106)), (88, .agg (zi D.Pr)), (89, .bool ok2)] [] dnil [] F106 fun _ F107 => ?_
   refine zh (zc rfl) rfl F107 rfl M106 21 (t := 37) (c := zSA) (by unfold execOp; kernel_rfl) ?_
   intro g108 a108 w108 F108 M108
   refine zh (zc rfl) rfl F108 rfl M108 22 (t := 35) (c := zi (fun _ => 0)) (by unfold execOp; kernel_rfl) ?_
   intro g109 a109 w109 F109 M109
   refine zr (zc rfl) rfl F109 M109 (k := 21) rfl _ _ _ rfl (F109.get (t := 23) rfl) (F109.get (t := 87) rfl) (zk D y106) _ rfl (zL rfl) (zpa (w := w109) ⟨(M109.isb (k := 19) rfl), (M109.isb (k := 20) rfl)⟩) (zo rfl) (by kernel_rfl) ?_
   intro w110 M110
   refine zr (zc rfl) rfl F109 M110 (k := 22) rfl _ _ _ rfl (F109.get (t := 24) rfl) (F109.get (t := 88) rfl) (zi D.Pr) _ rfl (zL rfl) (zda _) (zo rfl) (by kernel_rfl) ?_
   intro w111 M111
   refine rm rfl F109 fun _ F112 => hK104 _ _ (zT fun _ hK113 => zj (w' := w111) (zc rfl) rfl F112 rfl _ (zxa _ _ rfl (F112.get (t := 18) rfl) (M111.blk (k := 15) rfl) (zk C ⟨.slice A2 n2 cap2, zN⟩) (z1a rfl) Tryz.underlying42 rfl (by kernel_rfl)) fun _ F114 => ?_)
   refine rm rfl F114 fun _ F115 => zj (w' := w111) (zc rfl) rfl F115 rfl (numV B) (zxa _ _ rfl (F115.get (t := 16) rfl) (M111.blk (k := 14) rfl) (numA B) (z1a rfl) Tryz.underlying27 rfl zd) fun _ F116 => ?_
   refine zaa (zc rfl) rfl F116 rfl rfl (zE Tryz.func24 rfl) #[.agg (zk C ⟨.slice A2 n2 cap2, zN⟩), .slice A4 n4 cap4, numV B] (args3 (F116.get (t := 91) rfl) (F116.get (t := 92) rfl) (F116.get (t := 93) rfl)) (rP w111 _ _ ⟨by rw [cl]; exact (M111.isb (k := 1) rfl), by rw [cls]; exact zfa _⟩ (M111.isb (k := 3) rfl)) ?_
   rintro _ w117 a117 ⟨y117, rfl, hs117, b117⟩ F117
   have M117 := M111.step b117
   clear M111 b117
   refine zAx 4 [(90, .tuple #[.agg (zk D y117), .agg (zi D.Pr), .bool ok2]), (95, .agg (zk D y117)), (96, .agg (zi D.Pr)), (97, .bool ok2)] [] dnil [] F117 fun _ F118 => ?_
   refine zh (zc rfl) rfl F118 rfl M117 23 (t := 42) (c := zSA) (by unfold execOp; kernel_rfl) ?_
   intro g119 a119 w119 F119 M119
   refine zh (zc rfl) rfl F119 rfl M119 24 (t := 35) (c := zi (fun _ => 0)) (by unfold execOp; kernel_rfl) ?_
   intro g120 a120 w120 F120 M120
   refine zr (zc rfl) rfl F120 M120 (k := 23) rfl _ _ _ rfl (F120.get (t := 26) rfl) (F120.get (t := 95) rfl) (zk D y117) _ rfl (zL rfl) (sshp_one hs117) (zo rfl) (by kernel_rfl) ?_
   intro w121 M121
   refine zr (zc rfl) rfl F120 M121 (k := 24) rfl _ _ _ rfl (F120.get (t := 27) rfl) (F120.get (t := 96) rfl) (zi D.Pr) _ rfl (zL rfl) (zda _) (zo rfl) (by kernel_rfl) ?_
   intro w122 M122
   refine rm rfl F120 fun _ F123 => hK113 _ _ (zSk fun _ hK124 => ?_)
   have hD125 := (zp (M122.blk (k := 13) rfl) (zp (M122.blk (k := 22) rfl) dnil))
   refine region_fxL F123 (SK [.inl (.agg (zk S y68)), .inl (.agg (zi D.Pr)), .inr (StK.bytes (sumY D.Pr)), .inl (.tuple #[.agg (zi (cond so (ansY S.Ky S.Pr) (fun _ => 0))), .bool so]), .inl (.tuple #[.agg (zi (cond so (ansY S.Ky S.Pr) (fun _ => 0))), .bool so]), .inl (.agg (zi (cond so (ansY S.Ky S.Pr) (fun _ => 0)))), .inl (.bool so), .inr (StK.new w122.heap.size (zi (fun _ => 0)) 35 (by decide))]) 8 6 98 1 4 #[.agg (zi (cond so (ansY S.Ky S.Pr) (fun _ => 0))), .bool so] (.bool so) rfl (by kernel_rfl) rfl (by kernel_rfl) (fun _ _ h => h) rfl (fun _ _ => Iff.rfl) rfl ⟨hopP F123 hD125 0 (some g70) (by kernel_rfl), hopP F123 hD125 1 (some g109) (by kernel_rfl), ?_, ?_, hop0 F123 (by kernel_rfl), hop0 F123 (by kernel_rfl), hop0 F123 (by kernel_rfl), ?_, trivial⟩ ?_
   ·intro ua uw hb hd
    have e100 : ua.eval (.tmp 100) = .agg (zi D.Pr) := hd 100 (by decide)
    exact zba (F := (StK.bytes (sumY D.Pr)).F) (zc rfl) hb.size rfl #[.agg (zi D.Pr)] (zwa e100) (zE Tryz.func18 rfl) ((sb_r D.Pr hDo.pr uw))
   ·intro ua uw hb hd
    have e99 : ua.eval (.tmp 99) = .agg (zk S y68) := hd 99 (by decide)
    have e101 : IsB uw (sumY D.Pr) (ua.eval (.tmp 101)) := hd 101 (by decide)
    exact zba (F := (StK.eq (.tuple #[.agg (zi (cond so (ansY S.Ky S.Pr) (fun _ => 0))), .bool so])).F) (zc rfl) hb.size rfl #[.agg (zk S y68), (ua.eval (.tmp 101))] (z3a e99 rfl) (zE Tryz.func17 rfl) (zqa ((check_any S _ hSo (sumY D.Pr) _ so hso uw ⟨((M122.step hb).isb (k := 11) rfl), ((M122.step hb).isb (k := 12) rfl)⟩ e101)))
   ·intro ua uw hb hd
    exact hop_new (zc rfl) hb.size hb.size (by decide) (by unfold execOp; kernel_rfl)
   intro p126 a126 w126 b126 G126 y126
   obtain ⟨-, -, -, -, -, q5, q6, q7, -⟩ := y126
   obtain ⟨gn7x125, r7, hg7, hc7⟩ := q7 (by decide)
   replace r7 : p126 7 = .pointer (some ⟨gn7x125, 0, none⟩) := r7
   have r5 : p126 5 = .agg (zi (cond so (ansY S.Ky S.Pr) (fun _ => 0))) := q5 (by decide)
   have r6 : p126 6 = .bool so := q6 (by decide)
   simp only [List.take, layV, Nat.zero_add, Nat.reduceAdd, r5, r6, r7] at G126
   have M126 := M122.newb b126.below 25 hg7 hc7
   clear hg7 hc7 r7
   clear F123 M122 r5 q5 r6 q6
   refine st_ex M126 (k := 25) rfl _ _ _ rfl (G126.get (t := 29) rfl) (G126.get (t := 103) rfl) (zi (cond so (ansY S.Ky S.Pr) (fun _ => 0))) _ rfl (zL rfl) (zda _) (zo rfl) (by kernel_rfl) ?_
   intro w127 M127
   refine rm rfl G126 fun _ F128 => hK124 _ _ (zT fun _ hK129 => rm rfl F128 fun _ F130 => rm rfl F130 fun _ F131 => zj (w' := w127) (zc rfl) rfl F131 rfl (.bool true) (y_eqB _ _ rfl (F131.get (t := 105) rfl) (F131.get (t := 106) rfl) (by cases ok2 <;> rfl)) fun _ F132 => ?_)
   refine zB 5 [(10, .bool false), (108, .bool true), (109, .bool so), (110, .agg (zi D.Pr)), (112, .agg (zi S.Pr))] [0, 1] (zp (M127.blk (k := 24) rfl) (zp (M127.blk (k := 17) rfl) dnil)) [g120, g99] F132 fun _ F133 => ?_
   refine zj (w' := w127) (zob rfl rfl rfl (F133.get (t := 108) rfl)) rfl F133 rfl (.bool so) (run_eq16b _ _ rfl (F133.get (t := 110) rfl) (F133.get (t := 112) rfl) hDo.pr hSo.pr hso2) fun _ F134 => ?_
   refine zj (w' := w127) (zob rfl rfl rfl (F134.get (t := 108) rfl)) rfl F134 rfl (.bool true) (y_eqB _ _ rfl (F134.get (t := 109) rfl) (F134.get (t := 113) rfl) (by cases so <;> rfl)) fun _ F135 => ?_
   refine zB 2 [(10, .bool true)] [] dnil [] F135 fun _ F136 => ?_
   refine hK129 _ _ (wp_ret ?_)
   try simp only [Exit.then, Exit.inBlock, Exit.jump]
   exact bodyPost_ret (res1 rfl (F136.get rfl)) F136.defers ⟨rfl, M127.below⟩
end Go.Proofs.YtcfepoopkfhojaaGreat
