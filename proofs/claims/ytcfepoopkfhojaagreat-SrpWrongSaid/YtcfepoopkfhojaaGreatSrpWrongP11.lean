/- What SrpWrong stands on, part 11. -/
import Derived.Test.YtcfepoopkfhojaaGreatSrpWrongP1
import Derived.Test.YtcfepoopkfhojaaGreatSrpWrongP2
import Derived.Test.YtcfepoopkfhojaaGreatSrpWrongP3
import Derived.Test.YtcfepoopkfhojaaGreatSrpWrongP4
import Derived.Test.YtcfepoopkfhojaaGreatSrpWrongP5
import Derived.Test.YtcfepoopkfhojaaGreatSrpWrongP6
import Derived.Test.YtcfepoopkfhojaaGreatSrpWrongP7
import Derived.Test.YtcfepoopkfhojaaGreatSrpWrongP8
import Derived.Test.YtcfepoopkfhojaaGreatSrpWrongP9
import Derived.Test.YtcfepoopkfhojaaGreatSrpWrongP10
set_option maxRecDepth 100000
set_option maxHeartbeats 8000000
set_option linter.unusedVariables false
set_option linter.unusedSimpArgs false
namespace Go.Proofs.YtcfepoopkfhojaaGreat
open Go.ChangeShapes Go.WideShapes Go.ChangeAt Go.RowKit
theorem Mx.ptrV {G : Option Nat} {w0 w : World} {R : List (Nat × Res)} (M : Mx G w0 w R) {k g : Nat} {t : TypeId} {c : Array Value} {v : Value} (hk : look R k = some (ptrR t c v)) (hv : v = .pointer (some ⟨g, 0, none⟩)) : Mx G w0 w ((k, blkR g t c) :: R) := by
 subst hv; exact M.ptr hk
theorem Mx.toPtr {G : Option Nat} {w0 w : World} {R : List (Nat × Res)} (M : Mx G w0 w R) {k g : Nat} {t : TypeId} {c c' : Array Value} {v : Value} (hk : look R k = some (blkR g t c)) (hv : v = .pointer (some ⟨g, 0, none⟩)) (hc : c' = c) : Mx G w0 w ((k, ptrR t c' v) :: R) := by
 subst hv hc
 have h := M.at_ k _ hk
 exact M.cons k _ ⟨g, rfl, h⟩ ptrR_dep (fun b hb => by cases hb; exact zyb h) (fun _ b hb => M.own k _ hk rfl b (by cases hb; rfl)) fun j s e hj _ b hb => M.dis k j _ s hk e hj rfl b (by cases hb; rfl)
theorem Mx.toB {G : Option Nat} {w0 w : World} {R : List (Nat × Res)} (M : Mx G w0 w R) {k g : Nat} {t : TypeId} {c c2 : Array Value} (hk : look R k = some (blkR g t c)) (hc : c2 = c) : Mx G w0 w ((k, blkR g t c2) :: R) := by
 subst hc
 have h := M.at_ k _ hk
 exact M.cons k _ h blkR_dep (fun b hb => by cases hb; exact zyb h) (fun _ b hb => M.own k _ hk rfl b hb) fun j s e hj _ b hb => M.dis k j _ s hk e hj rfl b hb
noncomputable def prvB (P Q g X b : Nat) : Nat := (b + (P - kN Q * (g ^ X % P) % P)) % P
noncomputable def prvX (x : SideN) (l : List UInt8) : Nat := secN x.Q (sBy x.s) x.lp l
def prvS (x : SideN) (l : List UInt8) (b : Nat) : SideN := (zPS x l b)
noncomputable def prvN (x : SideN) (l : List UInt8) (b : Nat) : Nat := prvB x.P x.Q x.g (prvX x l) b ^ ((x.O + uN x.Q x.A b * prvX x l % x.Q) % x.Q) % x.P
noncomputable def prvOk (x : SideN) (l : List UInt8) (b : Nat) : Bool := !decide (b = 0) && decide (b < x.P) && hasB (prvB x.P x.Q x.g (prvX x l) b) x.P x.Q
theorem prove_any (x : SideN) (y : SideV) (ho : x.P % 2 = 1) (h1 : 1 < x.P) (hP4 : x.P < 4294967296) (h2 : 2 < x.Q) (hQ4 : x.Q ≤ 4294967296) (hO : x.O < 4294967296) (hg : x.g < 4294967296 ^ 8) (ht : x.s.size ≤ 1000) (hpl : x.lp.length ≤ 100000) (l : List UInt8) (hll : l.length ≤ 100000) (vl : Value) (b : Nat) (hb : b < 4294967296 ^ 8) (w : World) (hx : SideIs w x y) (hd : IsB w l vl) :
  Calls Tryz.prog 16 #[.agg (zk x y), vl, numV b] w fun e w' => ∃ y', e = .returned (.tuple #[.agg (zk (cond (prvOk x l b) (zja (prvS x l b) (prvN x l b)) zeroS) y'), .agg (zi (cond (prvOk x l b) (zja (prvS x l b) (prvN x l b)) zeroS).Pr), .bool (prvOk x l b)]) ∧ SideIs w' (cond (prvOk x l b) (zja (prvS x l b) (prvN x l b)) zeroS) y' ∧ (∀ b, bfp y'.vp b → w.heap.size ≤ b) ∧ (∀ b, bfp y'.vs b → w.heap.size ≤ b) ∧ Below w.heap.size w w' := by
 have hP0 : 0 < x.P := by omega
 have hQ0 : 0 < x.Q := by omega
 have hP : x.P < 4294967296 ^ 8 := Nat.lt_trans hP4 (by decide)
 have hQ : x.Q < 4294967296 ^ 8 := Nat.lt_of_le_of_lt hQ4 (by decide)
 have hm : ∀ q, q % x.P < 4294967296 ^ 8 := fun q => Nat.lt_trans (Nat.mod_lt _ hP0) hP
 have hm4 : ∀ q, q % x.P < 4294967296 := fun q => Nat.lt_trans (Nat.mod_lt _ hP0) hP4
 obtain ⟨X, hX⟩ : ∃ X, prvX x l = X := ⟨_, rfl⟩
 have hXl : X < 4294967296 ^ 8 := by rw [← hX]; exact Nat.lt_trans (z8b h2 _).2 hQ
 have kX := fun (w : World) (vp vs : Value) (hp : IsB w x.lp vp) (hs : IsB w l vs) => secret_any x.k x.P x.Q x.g h2 hQ x.s ht x.lp l vp vs w hp hs
 rw [show secN x.Q (sBy x.s) x.lp l = X from hX] at kX
 have kR1 := fun w => zoc x.k x.P x.Q x.g ho h1 hP x.g X hg hXl w
 obtain ⟨G1, hG1⟩ : ∃ G1, x.g ^ X % x.P = G1 := ⟨_, rfl⟩
 have hG1l : G1 < 4294967296 ^ 8 := by rw [← hG1]; exact hm _
 have kC := fun w => cover_any x.k x.P x.Q x.g ho h1 hP h2 hQ G1 hG1l w
 obtain ⟨C, hC⟩ : ∃ C, kN x.Q * G1 % x.P = C := ⟨_, rfl⟩
 have hCP : C < x.P := by rw [← hC]; exact Nat.mod_lt _ hP0
 have kS := fun w => sub_any x.P C hP (Nat.lt_trans hCP hP) w
 obtain ⟨u1, hu1⟩ : ∃ u1, lentI x.P C = u1 := ⟨_, rfl⟩
 obtain ⟨S1, hS1⟩ : ∃ S1, x.P - C = S1 := ⟨_, rfl⟩
 rw [hu1, show subN x.P C = S1 by unfold subN; rw [if_pos (by omega), hS1]] at kS
 have hS14 : S1 < 4294967296 := by omega
 obtain ⟨Bs, hBs⟩ : ∃ Bs, (b + S1) % x.P = Bs := ⟨_, rfl⟩
 have hBsl : Bs < 4294967296 ^ 8 := by rw [← hBs]; exact hm _
 have hB : prvB x.P x.Q x.g X b = Bs := by unfold prvB; rw [hG1, hC, hS1, hBs]
 obtain ⟨b3, hb3⟩ : ∃ q, hasB Bs x.P x.Q = q := ⟨_, rfl⟩
 have kH := fun w => ghas_any x.k x.P x.Q x.g ho h1 hP Bs hBsl hQ w
 rw [hb3] at kH
 rw [hC] at kC
 rw [hG1] at kR1
 obtain ⟨U, hU⟩ : ∃ U, uN x.Q x.A b = U := ⟨_, rfl⟩
 have hUl : U < 4294967296 ^ 8 := by rw [← hU]; exact Nat.lt_trans (z8b h2 _).2 hQ
 have kMu := fun w => mul_any U X hUl hXl w
 have hq : U * X % 4294967296 ^ 8 + U * X / 4294967296 ^ 8 * 4294967296 ^ 8 = U * X := by rw [Nat.mul_comm (U * X / _)]; exact Nat.mod_add_div _ _
 have kRe := fun w => rest_pos (U * X % 4294967296 ^ 8) (U * X / 4294967296 ^ 8) x.Q (Nat.mod_lt _ (by decide)) (Nat.div_lt_of_lt_mul (Nat.mul_lt_mul'' hUl hXl)) hQ hQ0 w
 rw [hq] at kRe
 obtain ⟨Mo, hMo⟩ : ∃ Mo, U * X % x.Q = Mo := ⟨_, rfl⟩
 have hMo4 : Mo < 4294967296 := by rw [← hMo]; exact Nat.lt_of_lt_of_le (Nat.mod_lt _ hQ0) hQ4
 rw [hMo] at kRe
 obtain ⟨L, hL⟩ : ∃ L, U * X % 4294967296 ^ 8 = L := ⟨_, rfl⟩
 obtain ⟨H, hH⟩ : ∃ H, U * X / 4294967296 ^ 8 = H := ⟨_, rfl⟩
 rw [hL, hH] at kMu kRe
 have kT2 := fun w => together_any x.O Mo x.Q hO hMo4 hQ0 hQ w
 obtain ⟨E, hE⟩ : ∃ E, (x.O + Mo) % x.Q = E := ⟨_, rfl⟩
 have hEl : E < 4294967296 ^ 8 := by rw [← hE]; exact Nat.lt_trans (Nat.mod_lt _ hQ0) hQ
 rw [hE] at kT2
 have kR3 := fun w => zoc x.k x.P x.Q x.g ho h1 hP Bs E hBsl hEl w
 obtain ⟨N, hN⟩ : ∃ N, Bs ^ E % x.P = N := ⟨_, rfl⟩
 rw [hN] at kR3
 have hoN : prvN x l b = N := by unfold prvN; rw [hX, hB, hU, hMo, hE, hN]
 have hoK : prvOk x l b = (!decide (b = 0) && decide (b < x.P) && b3) := by unfold prvOk; rw [hX, hB, hb3]
 rw [hoN, hoK]
 obtain ⟨D, hD⟩ : ∃ D, cmpI b x.P = D := ⟨_, rfl⟩
 have kCm := fun w => cmp_any b x.P hb hP w
 rw [hD] at kCm
 have hDb : 0 ≤ D ↔ ¬ b < x.P := by
  rw [← hD]; unfold cmpI
  by_cases h : b < x.P
  ·rw [if_pos h]; exact ⟨fun h => absurd h (by decide), fun h2 => absurd h h2⟩
  ·rw [if_neg h]; exact ⟨fun _ => h, fun _ => by split <;> decide⟩
 clear hoN hoK hN hE hH hL hMo hq hX hC hG1 hS1 hb3 hu1 hD hB
 obtain ⟨vp, vs⟩ := y
 obtain ⟨Ap, cp, rfl⟩ := id hx.hp.shape
 obtain ⟨As, cs, rfl⟩ := id hx.hs.shape
 obtain ⟨Al, cl, rfl⟩ := id hd.shape
 refine zea (args := [.agg (zk x ⟨.slice Ap x.lp.length cp, .slice As x.ls.length cs⟩), .slice Al l.length cl, numV b]) 109 Tryz.func16 rfl rfl rfl ?_
 intro fa F
 have M := Mx.start w
 replace M := M.argB 0 hx.hp (fun g e => by cases e)
 replace M := M.argB 1 hx.hs (fun g e => by cases e)
 replace M := M.argB 2 hd (fun g e => by cases e)
 refine zT fun _ hK1 => zh (zc rfl) rfl F rfl M 3 (t := 37) (c := zk x ⟨.slice Ap x.lp.length cp, .slice As x.ls.length cs⟩) (by unfold execOp; simp only [(F.get (t := 0) rfl)]; kernel_rfl) ?_
 intro g2 a2 w2 F2 M2
 refine zh (zc rfl) rfl F2 rfl M2 4 (t := 27) (c := numA b) (by unfold execOp; simp only [(F2.get (t := 2) rfl)]; kernel_rfl) ?_
 intro g3 a3 w3 F3 M3
 refine zh (zc rfl) rfl F3 rfl M3 5 (t := 37) (c := zSA) (by unfold execOp; kernel_rfl) ?_
 intro g4 a4 w4 F4 M4
 refine zh (zc rfl) rfl F4 rfl M4 6 (t := 35) (c := zi (fun _ => 0)) (by unfold execOp; kernel_rfl) ?_
 intro g5 a5 w5 F5 M5
 refine rm rfl F5 fun _ F6 => hK1 _ _ (zSk fun _ hK7 => zT fun _ hK8 => zj (w' := w5) (zc rfl) rfl F6 rfl (numV b) (zxa _ _ rfl (F6.get (t := 5) rfl) (M5.blk (k := 4) rfl) (numA b) (z1a rfl) Tryz.underlying27 rfl zd) fun _ F9 => ?_)
 refine zj (w' := w5) (zc rfl) rfl F9 rfl (numV 0) (zlc rfl) fun _ F10 => ?_
 by_cases h11 : b = 0
 ·refine zj (w' := w5) (zc rfl) rfl F10 rfl (.bool true) (y_eqA _ _ _ _ rfl (F10.get (t := 17) rfl) (F10.get (t := 18) rfl) (by kernel_rfl) (eqn_is h11 _)) fun _ F12 => ?_
  refine zAx 8 [(20, .bool true), (21, undef), (22, undef), (23, undef), (24, undef), (25, undef), (26, undef), (27, .bool true)] [] dnil [] F12 fun _ F13 => ?_
  refine hK8 _ _ (wp_cond_true (F13.get (t := 27) rfl) (zT fun _ hK14 => zj (w' := w5) (zc rfl) rfl F13 rfl (.agg (zSA)) (by unfold execOp; kernel_rfl) fun _ F15 => ?_))
  refine zj (w' := w5) (zc rfl) rfl F15 rfl (.agg (zi (fun _ => 0))) (by unfold execOp; kernel_rfl) fun _ F16 => ?_
  refine zr (zc rfl) rfl F16 M5 (k := 5) rfl _ _ _ rfl (F16.get (t := 6) rfl) (F16.get (t := 28) rfl) (zSA) _ rfl (zL rfl) (zpa (w := w5) ⟨(zfa _), (zfa _)⟩) (zo rfl) (by kernel_rfl) ?_
  intro w17 M17
  refine zr (zc rfl) rfl F16 M17 (k := 6) rfl _ _ _ rfl (F16.get (t := 7) rfl) (F16.get (t := 29) rfl) (zi (fun _ => 0)) _ rfl (zL rfl) (zda _) (zo rfl) (by kernel_rfl) ?_
  intro w18 M18
  refine rm rfl F16 fun _ F19 => hK14 _ _ (wp_ret ?_)
  try simp only [Exit.then, Exit.inBlock, Exit.jump]
  exact bodyPost_ret (res2ct rfl (F19.get rfl) (M18.blk (k := 5) rfl) (F19.get rfl) (M18.blk (k := 6) rfl) (F19.get rfl) Tryz.underlying37 rfl (by kernel_rfl) Tryz.underlying35 rfl (by kernel_rfl)) F19.defers (by simp only [Bool.false_and, Bool.true_and, Bool.and_false, Bool.and_true, Bool.not_true, Bool.not_false, cond_true, cond_false, decide_eq_true h11]; exact ⟨⟨zN, zN⟩, rfl, ⟨zfa _, zfa _⟩, fun b hb => absurd hb (zgc b), fun b hb => absurd hb (zgc b), M18.below⟩)
 ·refine zj (w' := w5) (zc rfl) rfl F10 rfl (.bool false) (y_eqA _ _ _ _ rfl (F10.get (t := 17) rfl) (F10.get (t := 18) rfl) (by kernel_rfl) (eqn_no hb h11 _)) fun _ F20 => ?_
  refine zAx 5 [(20, .bool false), (21, numV b), (22, .pointer (some ⟨g2, 0, none⟩)), (23, .pointer (some ⟨g2, 1, none⟩)), (24, numV x.P)] [0, 1] (zp (M5.blk (k := 4) rfl) (zp (M5.blk (k := 3) rfl) dnil)) [g3, g2] F20 fun _ F21 => ?_
  refine zaa (zob rfl rfl rfl (F21.get (t := 20) rfl)) rfl F21 rfl rfl (zE Tryz.func47 rfl) #[numV b, numV x.P] (z3a (F21.get (t := 21) rfl) (F21.get (t := 24) rfl)) (zca (kCm w5)) ?_
  rintro _ w22 a22 ⟨rfl, b22⟩ F22
  have M22 := M5.step b22
  by_cases h23 : 0 ≤ D
  ·have hbP : ¬ b < x.P := hDb.1 h23
   refine zj (w' := w22) (zob rfl rfl rfl (F22.get (t := 20) rfl)) rfl F22 rfl (.bool true) (y_geq _ _ _ _ rfl (F22.get (t := 25) rfl) rfl (decide_eq_true h23)) fun _ F24 => ?_
   refine zj (w' := w22) (zc rfl) rfl F24 rfl (.bool true) (run_pick_f rfl (F24.get (t := 20) rfl) (F24.get (t := 26) rfl)) fun _ F25 => ?_
   refine hK8 _ _ (wp_cond_true (F25.get (t := 27) rfl) (zT fun _ hK26 => zj (w' := w22) (zc rfl) rfl F25 rfl (.agg (zSA)) (by unfold execOp; kernel_rfl) fun _ F27 => ?_))
   refine zj (w' := w22) (zc rfl) rfl F27 rfl (.agg (zi (fun _ => 0))) (by unfold execOp; kernel_rfl) fun _ F28 => ?_
   refine zr (zc rfl) rfl F28 M22 (k := 5) rfl _ _ _ rfl (F28.get (t := 6) rfl) (F28.get (t := 28) rfl) (zSA) _ rfl (zL rfl) (zpa (w := w22) ⟨(zfa _), (zfa _)⟩) (zo rfl) (by kernel_rfl) ?_
   intro w29 M29
   refine zr (zc rfl) rfl F28 M29 (k := 6) rfl _ _ _ rfl (F28.get (t := 7) rfl) (F28.get (t := 29) rfl) (zi (fun _ => 0)) _ rfl (zL rfl) (zda _) (zo rfl) (by kernel_rfl) ?_
   intro w30 M30
   refine rm rfl F28 fun _ F31 => hK26 _ _ (wp_ret ?_)
   try simp only [Exit.then, Exit.inBlock, Exit.jump]
   exact bodyPost_ret (res2ct rfl (F31.get rfl) (M30.blk (k := 5) rfl) (F31.get rfl) (M30.blk (k := 6) rfl) (F31.get rfl) Tryz.underlying37 rfl (by kernel_rfl) Tryz.underlying35 rfl (by kernel_rfl)) F31.defers (by simp only [Bool.false_and, Bool.true_and, Bool.and_false, Bool.and_true, Bool.not_true, Bool.not_false, cond_true, cond_false, decide_eq_false h11, decide_eq_false hbP]; exact ⟨⟨zN, zN⟩, rfl, ⟨zfa _, zfa _⟩, fun b hb => absurd hb (zgc b), fun b hb => absurd hb (zgc b), M30.below⟩)
  ·have hbP : b < x.P := Decidable.byContradiction fun h9 => h23 (hDb.2 h9)
   have kT := fun w => together_any b S1 x.P (Nat.lt_trans hbP hP4) hS14 hP0 hP w
   rw [hBs] at kT
   refine zj (w' := w22) (zob rfl rfl rfl (F22.get (t := 20) rfl)) rfl F22 rfl (.bool false) (y_geq _ _ _ _ rfl (F22.get (t := 25) rfl) rfl (decide_eq_false h23)) fun _ F32 => ?_
   refine zj (w' := w22) (zc rfl) rfl F32 rfl (.bool false) (run_pick_f rfl (F32.get (t := 20) rfl) (F32.get (t := 26) rfl)) fun _ F33 => ?_
   refine hK8 _ _ (wp_cond_false (F33.get (t := 27) rfl) (wp_skip (hK7 _ _ (zT fun _ hK34 => zAx 7 [(30, .pointer (some ⟨g2, 0, none⟩)), (31, .agg (zg x.k x.P x.Q x.g)), (32, .pointer (some ⟨g2, 25, none⟩)), (33, .string x.s), (34, .pointer (some ⟨g2, 26, none⟩)), (35, .slice Ap x.lp.length cp), (36, .slice Al l.length cl)] [0, 0, 0] (zp (M22.blk (k := 3) rfl) dnil) [g2, g2, g2] F33 fun _ F35 => ?_))))
   refine zaa (zc rfl) rfl F35 rfl rfl (zE Tryz.func34 rfl) #[.agg (zg x.k x.P x.Q x.g), .string x.s, .slice Ap x.lp.length cp, .slice Al l.length cl] (args4 (F35.get (t := 31) rfl) (F35.get (t := 33) rfl) (F35.get (t := 35) rfl) (F35.get (t := 36) rfl)) (zca ((kX w22 _ _ (M22.isb (k := 0) rfl) (M22.isb (k := 2) rfl)))) ?_
   rintro _ w36 a36 ⟨rfl, b36⟩ F36
   have M36 := M22.step b36
   refine zh (zc rfl) rfl F36 rfl M36 7 (t := 27) (c := numA 0) (zu rfl) ?_
   intro g37 a37 w37 F37 M37
   refine zr (zc rfl) rfl F37 M37 (k := 7) rfl _ _ _ rfl (F37.get (t := 9) rfl) (F37.get (t := 37) rfl) (numA X) _ rfl (zL rfl) (zy _) (zo rfl) zd ?_
   intro w38 M38
   refine hK34 _ _ (zSk fun _ hK39 => ?_)
   refine z4a F37 (SE [.inl (.pointer (some ⟨g2, 0, none⟩)), .inl (.pointer (some ⟨g2, 1, none⟩)), .inl (numV x.P), .inl (.pointer (some ⟨g2, 0, none⟩)), .inl (.agg (zg x.k x.P x.Q x.g)), .inl (.pointer (some ⟨g2, 0, none⟩)), .inl (.agg (zg x.k x.P x.Q x.g)), .inl (.pointer (some ⟨g2, 0, none⟩)), .inl (.pointer (some ⟨g2, 17, none⟩)), .inl (numV x.g), .inl (numV X), .inl (numV G1), .inl (numV C), .inl (.tuple #[numV S1, .int .u32 u1]), .inl (.tuple #[numV S1, .int .u32 u1]), .inl (numV S1), .inl (.int .u32 u1), .inr (fun vE => ∃ g, vE = .pointer (some ⟨g, 0, none⟩)), .inl (undef)]) (JM none w fun SV pV => [(0, bytR x.lp (.slice Ap x.lp.length cp)), (1, bytR x.ls (.slice As x.ls.length cs)), (2, bytR l (.slice Al l.length cl)), (3, blkR g2 37 (zk x ⟨.slice Ap x.lp.length cp, .slice As x.ls.length cs⟩)), (4, blkR g3 27 (numA b)), (5, blkR g4 37 (zSA)), (6, blkR g5 35 (zi (fun _ => 0))), (7, blkR g37 27 (numA X)), (8, eitherR (SV 18) (ptrR 27 (numA S1) (pV 17)) (z7b (SV 17) (ptrR 27 (numA 0) (pV 17))))]) 19 rfl (by kernel_rfl) rfl ⟨trivial, trivial, trivial, trivial, trivial, trivial, trivial, trivial, trivial, trivial, trivial, trivial, trivial, trivial, trivial, trivial, trivial, trivial, fun _ => Iff.rfl, trivial⟩ (fun p => ((M38.step (zta _)).triv 8).sub ⟨rfl, rfl, rfl, rfl, rfl, rfl, rfl, rfl, rfl, trivial⟩) ⟨zeb F37 (by kernel_rfl), zeb F37 (by kernel_rfl), z0a F37 (fun _ _ _ M => zp (Mx.blk (k := 3) M rfl) dnil) (some g2) (by kernel_rfl), zeb F37 (by kernel_rfl), z0a F37 (fun _ _ _ M => zp (Mx.blk (k := 3) M rfl) dnil) (some g2) (by kernel_rfl), zeb F37 (by kernel_rfl), z0a F37 (fun _ _ _ M => zp (Mx.blk (k := 3) M rfl) dnil) (some g2) (by kernel_rfl), zeb F37 (by kernel_rfl), zeb F37 (by kernel_rfl), z0a F37 (fun _ _ _ M => zp (Mx.blk (k := 3) M rfl) dnil) (some g2) (by kernel_rfl), z0a F37 (fun _ _ _ M => zp (Mx.blk (k := 7) M rfl) dnil) (some g37) (by kernel_rfl), ?_, ?_, ?_, zeb F37 (by kernel_rfl), zeb F37 (by kernel_rfl), zeb F37 (by kernel_rfl), ?_, ?_, trivial⟩ ?_
   ·intro ua uw SV pV (M : Mx none w uw _) hk hn hd
    have e45 : ua.eval (.tmp 45) = .agg (zg x.k x.P x.Q x.g) := zQ1 (hd 45 (by decide))
    have e48 : ua.eval (.tmp 48) = numV x.g := zQ1 (hd 48 (by decide))
    have e49 : ua.eval (.tmp 49) = numV X := zQ1 (hd 49 (by decide))
    exact zza (zc rfl) rfl #[.agg (zg x.k x.P x.Q x.g), numV x.g, numV X] (args3 e45 e48 e49) (zE Tryz.func33 rfl) ((kR1 uw).mono fun e w2 h => ⟨_, h.1, rfl, (M.step h.2).sub ⟨rfl, rfl, rfl, rfl, rfl, rfl, rfl, rfl, rfl, trivial⟩⟩)
   ·intro ua uw SV pV (M : Mx none w uw _) hk hn hd
    have e43 : ua.eval (.tmp 43) = .agg (zg x.k x.P x.Q x.g) := zQ1 (hd 43 (by decide))
    have e50 : ua.eval (.tmp 50) = numV G1 := zQ1 (hd 50 (by decide))
    exact zza (zc rfl) rfl #[.agg (zg x.k x.P x.Q x.g), numV G1] (z3a e43 e50) (zE Tryz.func39 rfl) ((kC uw).mono fun e w2 h => ⟨_, h.1, rfl, (M.step h.2).sub ⟨rfl, rfl, rfl, rfl, rfl, rfl, rfl, rfl, rfl, trivial⟩⟩)
   ·intro ua uw SV pV (M : Mx none w uw _) hk hn hd
    have e41 : ua.eval (.tmp 41) = numV x.P := zQ1 (hd 41 (by decide))
    have e51 : ua.eval (.tmp 51) = numV C := zQ1 (hd 51 (by decide))
    exact zza (zc rfl) rfl #[numV x.P, numV C] (z3a e41 e51) (zE Tryz.func48 rfl) ((kS uw).mono fun e w2 h => ⟨_, h.1, rfl, (M.step h.2).sub ⟨rfl, rfl, rfl, rfl, rfl, rfl, rfl, rfl, rfl, trivial⟩⟩)
   ·intro ua uw SV pV (M : Mx none w uw _) hk hn hd
    exact zra (zc rfl) _ (zu rfl) ⟨_, rfl⟩ ((M.allocP 8 27 (numA 0)).sub ⟨rfl, rfl, rfl, rfl, rfl, rfl, rfl, rfl, (eitherR_at (hn 18 (by kernel_rfl)) rfl), trivial⟩)
   ·intro ua uw SV pV (M : Mx none w uw _) hk hn hd
    obtain ⟨s17, f10, q10⟩ := (show SV 17 = true ∧ ua.eval (.tmp 10) = pV 17 ∧ stE _ 17 (pV 17) from hd 10 (by decide))
    have e53 : ua.eval (.tmp 53) = numV S1 := zQ1 (hd 53 (by decide))
    obtain ⟨g_, r_⟩ := (show ∃ g, pV 17 = .pointer (some ⟨g, 0, none⟩) from q10)
    have M2 := M.ptrV (k := 8) (g := g_) (condR_look s17 (eitherR_r hk rfl)) r_
    exact hopM_doM (zc rfl) rfl (run_st M2 (k := 8) rfl _ _ _ rfl (f10.trans r_) e53 (numA S1) _ rfl (zL rfl) (zy _) (zo rfl) zd) (fun w2 h2 => (h2.toPtr (k := 8) rfl r_ rfl).sub ⟨rfl, rfl, rfl, rfl, rfl, rfl, rfl, rfl, rfl, trivial⟩) rfl
   intro p40 a40 w40 M40 G40 y40
   obtain ⟨-, -, -, -, -, -, -, -, -, -, -, -, -, -, -, -, q16, q17, -, -⟩ := y40
   obtain ⟨gp17x39, r17⟩ := (show ∃ g, p40 17 = .pointer (some ⟨g, 0, none⟩) from q17)
   have r16 : p40 16 = .int .u32 u1 := q16
   replace M40 : Mx _ _ w40 [(0, bytR x.lp (.slice Ap x.lp.length cp)), (1, bytR x.ls (.slice As x.ls.length cs)), (2, bytR l (.slice Al l.length cl)), (3, blkR g2 37 (zk x ⟨.slice Ap x.lp.length cp, .slice As x.ls.length cs⟩)), (4, blkR g3 27 (numA b)), (5, blkR g4 37 (zSA)), (6, blkR g5 35 (zi (fun _ => 0))), (7, blkR g37 27 (numA X)), (8, eitherR true (ptrR 27 (numA S1) (p40 17)) (z7b true (ptrR 27 (numA 0) (p40 17))))] := M40
   simp only [List.take, layV, Nat.zero_add, Nat.reduceAdd, r16, r17] at G40
   rw [r17] at M40
   have M40_8 := M40.ptr (k := 8) (g := gp17x39) rfl
   replace M40_8 := M40_8.toB (k := 8) (c2 := numA S1) rfl rfl
   refine rm rfl G40 fun _ F41 => hK39 _ _ (zT fun _ hK42 => zAx 5 [(55, numV b), (56, numV S1), (57, .pointer (some ⟨g2, 0, none⟩)), (58, .pointer (some ⟨g2, 1, none⟩)), (59, numV x.P)] [0, 1, 2] (zp (M40_8.blk (k := 4) rfl) (zp (M40_8.blk (k := 8) rfl) (zp (M40_8.blk (k := 3) rfl) dnil))) [g3, gp17x39, g2] F41 fun _ F43 => ?_)
   refine zaa (zc rfl) rfl F43 rfl rfl (zE Tryz.func38 rfl) #[numV b, numV S1, numV x.P] (args3 (F43.get (t := 55) rfl) (F43.get (t := 56) rfl) (F43.get (t := 59) rfl)) (zca (kT w40)) ?_
   rintro _ w44 a44 ⟨rfl, b44⟩ F44
   have M44 := M40_8.step b44
   refine zh (zc rfl) rfl F44 rfl M44 9 (t := 27) (c := numA 0) (zu rfl) ?_
   intro g45 a45 w45 F45 M45
   refine zr (zc rfl) rfl F45 M45 (k := 9) rfl _ _ _ rfl (F45.get (t := 12) rfl) (F45.get (t := 60) rfl) (numA Bs) _ rfl (zL rfl) (zy _) (zo rfl) zd ?_
   intro w46 M46
   refine hK42 _ _ (zSk fun _ hK47 => zT fun _ hK48 => zAx 3 [(61, .pointer (some ⟨g2, 0, none⟩)), (62, .agg (zg x.k x.P x.Q x.g)), (63, numV Bs)] [0, 1] (zp (M46.blk (k := 3) rfl) (zp (M46.blk (k := 9) rfl) dnil)) [g2, g45] F45 fun _ F49 => ?_)
   refine zaa (zc rfl) rfl F49 rfl rfl (zE Tryz.func37 rfl) #[.agg (zg x.k x.P x.Q x.g), numV Bs] (z3a (F49.get (t := 62) rfl) (F49.get (t := 63) rfl)) (zca (kH w46)) ?_
   rintro _ w50 a50 ⟨rfl, b50⟩ F50
   have M50 := M46.step b50
   cases b3
   ·refine zj (w' := w50) (zc rfl) rfl F50 rfl (.bool true) (zfc _ _ rfl (F50.get (t := 64) rfl)) fun _ F51 => ?_
    refine hK48 _ _ (wp_cond_true (F51.get (t := 65) rfl) (zT fun _ hK52 => zj (w' := w50) (zc rfl) rfl F51 rfl (.agg (zSA)) (by unfold execOp; kernel_rfl) fun _ F53 => ?_))
    refine zj (w' := w50) (zc rfl) rfl F53 rfl (.agg (zi (fun _ => 0))) (by unfold execOp; kernel_rfl) fun _ F54 => ?_
    refine zr (zc rfl) rfl F54 M50 (k := 5) rfl _ _ _ rfl (F54.get (t := 6) rfl) (F54.get (t := 66) rfl) (zSA) _ rfl (zL rfl) (zpa (w := w50) ⟨(zfa _), (zfa _)⟩) (zo rfl) (by kernel_rfl) ?_
    intro w55 M55
    refine zr (zc rfl) rfl F54 M55 (k := 6) rfl _ _ _ rfl (F54.get (t := 7) rfl) (F54.get (t := 67) rfl) (zi (fun _ => 0)) _ rfl (zL rfl) (zda _) (zo rfl) (by kernel_rfl) ?_
    intro w56 M56
    refine rm rfl F54 fun _ F57 => hK52 _ _ (wp_ret ?_)
    try simp only [Exit.then, Exit.inBlock, Exit.jump]
    exact bodyPost_ret (res2ct rfl (F57.get rfl) (M56.blk (k := 5) rfl) (F57.get rfl) (M56.blk (k := 6) rfl) (F57.get rfl) Tryz.underlying37 rfl (by kernel_rfl) Tryz.underlying35 rfl (by kernel_rfl)) F57.defers (by simp only [Bool.false_and, Bool.true_and, Bool.and_false, Bool.and_true, Bool.not_true, Bool.not_false, cond_true, cond_false, decide_eq_false h11, decide_eq_true hbP]; exact ⟨⟨zN, zN⟩, rfl, ⟨zfa _, zfa _⟩, fun b hb => absurd hb (zgc b), fun b hb => absurd hb (zgc b), M56.below⟩)
   ·refine zj (w' := w50) (zc rfl) rfl F50 rfl (.bool false) (zfc _ _ rfl (F50.get (t := 64) rfl)) fun _ F58 => ?_
    refine hK48 _ _ (wp_cond_false (F58.get (t := 65) rfl) (wp_skip (hK47 _ _ (zSk fun _ hK59 => ?_))))
    refine z4a F58 (SE [.inl (numV b), .inl (.slice Al l.length cl), .inr (fun _ => True), .inl (.pointer (some ⟨g2, 26, none⟩)), .inl (.slice Ap x.lp.length cp), .inr (fun _ => True), .inl (.pointer (some ⟨g2, 35, none⟩))]) (JM none w fun SV pV => [(0, bytR x.lp (.slice Ap x.lp.length cp)), (1, bytR x.ls (.slice As x.ls.length cs)), (2, bytR l (.slice Al l.length cl)), (3, blkR g2 37 (zk x ⟨.slice Ap x.lp.length cp, .slice As x.ls.length cs⟩)), (4, blkR g3 27 (numA b)), (5, blkR g4 37 (zSA)), (6, blkR g5 35 (zi (fun _ => 0))), (7, blkR g37 27 (numA X)), (8, blkR gp17x39 27 (numA S1)), (9, blkR g45 27 (numA Bs)), (10, z7b (SV 2) (ownR l (pV 2))), (11, z7b (SV 5) (ownR x.lp (pV 5)))]) 7 rfl (by kernel_rfl) rfl ⟨trivial, trivial, trivial, trivial, trivial, trivial, trivial, trivial⟩ (fun p => (((M50.step (zta _)).triv 10).triv 11).sub ⟨rfl, rfl, rfl, rfl, rfl, rfl, rfl, rfl, rfl, rfl, rfl, rfl, trivial⟩) ⟨z0a F58 (fun _ _ _ M => zp (Mx.blk (k := 4) M rfl) dnil) (some g3) (by kernel_rfl), zeb F58 (by kernel_rfl), ?_, zeb F58 (by kernel_rfl), z0a F58 (fun _ _ _ M => zp (Mx.blk (k := 3) M rfl) dnil) (some g2) (by kernel_rfl), ?_, zeb F58 (by kernel_rfl), trivial⟩ ?_
    ·intro ua uw SV pV (M : Mx none w uw _) hk hn hd
     have e69 : ua.eval (.tmp 69) = .slice Al l.length cl := zQ1 (hd 69 (by decide))
     exact zza (zc rfl) rfl #[.slice Al l.length cl] (zwa e69) (zE Tryz.func36 rfl) (((clone_r l (.slice Al l.length cl) (by omega) uw (M.isb (k := 2) rfl))).mono fun e w2 h => (by obtain ⟨u, h1, h2, h3⟩ := h; exact ⟨u, h1, trivial, (M.newO h3 10 h2).sub ⟨rfl, rfl, rfl, rfl, rfl, rfl, rfl, rfl, rfl, rfl, rfl, rfl, trivial⟩⟩))
    ·intro ua uw SV pV (M : Mx none w uw _) hk hn hd
     have e72 : ua.eval (.tmp 72) = .slice Ap x.lp.length cp := zQ1 (hd 72 (by decide))
     exact zza (zc rfl) rfl #[.slice Ap x.lp.length cp] (zwa e72) (zE Tryz.func36 rfl) (((clone_r x.lp (.slice Ap x.lp.length cp) (by omega) uw (M.isb (k := 0) rfl))).mono fun e w2 h => (by obtain ⟨u, h1, h2, h3⟩ := h; exact ⟨u, h1, trivial, (M.newO h3 11 h2).sub ⟨rfl, rfl, rfl, rfl, rfl, rfl, rfl, rfl, rfl, rfl, rfl, rfl, trivial⟩⟩))
    intro p60 a60 w60 M60 G60 y60
    obtain ⟨q0, -, q2, -, -, q5, q6, -⟩ := y60
    have r0 : p60 0 = numV b := q0
    have r6 : p60 6 = .pointer (some ⟨g2, 35, none⟩) := q6
    replace M60 : Mx _ _ w60 [(0, bytR x.lp (.slice Ap x.lp.length cp)), (1, bytR x.ls (.slice As x.ls.length cs)), (2, bytR l (.slice Al l.length cl)), (3, blkR g2 37 (zk x ⟨.slice Ap x.lp.length cp, .slice As x.ls.length cs⟩)), (4, blkR g3 27 (numA b)), (5, blkR g4 37 (zSA)), (6, blkR g5 35 (zi (fun _ => 0))), (7, blkR g37 27 (numA X)), (8, blkR gp17x39 27 (numA S1)), (9, blkR g45 27 (numA Bs)), (10, z7b true (ownR l (p60 2))), (11, z7b true (ownR x.lp (p60 5)))] := M60
    simp only [List.take, layV, Nat.zero_add, Nat.reduceAdd, r0, r6] at G60
    obtain ⟨Ap60_10, cp60_10, hp60_10⟩ := (M60.isO (k := 10) rfl).shape
    rw [hp60_10] at M60
    try rw [hp60_10] at G60
    obtain ⟨Ap60_11, cp60_11, hp60_11⟩ := (M60.isO (k := 11) rfl).shape
    rw [hp60_11] at M60
    try rw [hp60_11] at G60
    refine zr (zc rfl) rfl G60 M60 (k := 3) rfl _ _ _ rfl (G60.get (t := 74) rfl) (G60.get (t := 68) rfl) (numA b) (zk ⟨x.k, x.P, x.Q, x.g, x.s, x.lp, x.A, b, x.O, x.ls, x.V, x.Ky, x.Pr⟩ ⟨.slice Ap x.lp.length cp, .slice As x.ls.length cs⟩) rfl (zL rfl) (zy _) (by kernel_rfl) zd ?_
    intro w61 M61
    refine zj (w' := w61) (zc rfl) rfl G60 rfl (.pointer (some ⟨g2, 51, none⟩)) (y_fa (off := 51) rfl (G60.get (t := 3) rfl) (by kernel_rfl) rfl) fun _ F62 => ?_
    clear G60
    refine zr (zc rfl) rfl F62 M61 (k := 3) rfl _ _ _ rfl (F62.get (t := 75) rfl) (F62.get (t := 70) rfl) (#[(.slice Ap60_10 (l).length cp60_10)]) (zk (zPS x l b) ⟨.slice Ap x.lp.length cp, (.slice Ap60_10 (l).length cp60_10)⟩) rfl (zL rfl) (one_slcB (M61.isO (k := 10) rfl)) (by kernel_rfl) (by kernel_rfl) ?_
    intro w63 M63
    refine zj (w' := w63) (zc rfl) rfl F62 rfl (.pointer (some ⟨g2, 26, none⟩)) (y_fa (off := 26) rfl (F62.get (t := 3) rfl) (by kernel_rfl) rfl) fun _ F64 => ?_
    refine zr (zc rfl) rfl F64 M63 (k := 3) rfl _ _ _ rfl (F64.get (t := 76) rfl) (F64.get (t := 73) rfl) (#[(.slice Ap60_11 (x.lp).length cp60_11)]) (zk (zPS x l b) ⟨(.slice Ap60_11 (x.lp).length cp60_11), (.slice Ap60_10 (l).length cp60_10)⟩) rfl (zL rfl) (one_slcB (M63.isO (k := 11) rfl)) (by kernel_rfl) (by kernel_rfl) ?_
    intro w65 M65
    refine hK59 _ _ (zSk fun _ hK66 => ?_)
    refine z4a F64 (SE [.inl (.agg (zk (zPS x l b) ⟨(.slice Ap60_11 (x.lp).length cp60_11), (.slice Ap60_10 (l).length cp60_10)⟩)), .inl (numV U), .inl (numV X), .inl (.tuple #[numV L, numV H]), .inl (.tuple #[numV L, numV H]), .inl (numV L), .inl (numV H), .inr (fun vE => ∃ g, vE = .pointer (some ⟨g, 0, none⟩)), .inr (fun vE => ∃ g, vE = .pointer (some ⟨g, 0, none⟩)), .inl (undef)]) (JM none w fun SV pV => [(0, bytR x.lp (.slice Ap x.lp.length cp)), (1, bytR x.ls (.slice As x.ls.length cs)), (2, bytR l (.slice Al l.length cl)), (3, blkR g2 37 (zk (zPS x l b) ⟨(.slice Ap60_11 (x.lp).length cp60_11), (.slice Ap60_10 (l).length cp60_10)⟩)), (4, blkR g3 27 (numA b)), (5, blkR g4 37 (zSA)), (6, blkR g5 35 (zi (fun _ => 0))), (7, blkR g37 27 (numA X)), (8, blkR gp17x39 27 (numA S1)), (9, blkR g45 27 (numA Bs)), (10, ownR l (.slice Ap60_10 (l).length cp60_10)), (11, ownR x.lp (.slice Ap60_11 (x.lp).length cp60_11)), (12, eitherR (SV 9) (ptrR 27 (numA L) (pV 7)) (z7b (SV 7) (ptrR 27 (numA 0) (pV 7)))), (13, z7b (SV 8) (ptrR 27 (numA 0) (pV 8)))]) 10 rfl (by kernel_rfl) rfl ⟨trivial, trivial, trivial, trivial, trivial, trivial, trivial, trivial, trivial, fun _ => Iff.rfl, trivial⟩ (fun p => (((M65.step (zta _)).triv 12).triv 13).sub ⟨rfl, rfl, rfl, rfl, rfl, rfl, rfl, rfl, rfl, rfl, rfl, rfl, rfl, rfl, trivial⟩) ⟨z0a F64 (fun _ _ _ M => zp (Mx.blk (k := 3) M rfl) dnil) (some g2) (by kernel_rfl), ?_, z0a F64 (fun _ _ _ M => zp (Mx.blk (k := 7) M rfl) dnil) (some g37) (by kernel_rfl), ?_, zeb F64 (by kernel_rfl), zeb F64 (by kernel_rfl), zeb F64 (by kernel_rfl), ?_, ?_, ?_, trivial⟩ ?_
    ·intro ua uw SV pV (M : Mx none w uw _) hk hn hd
     have e78 : ua.eval (.tmp 78) = .agg (zk (zPS x l b) ⟨(.slice Ap60_11 (x.lp).length cp60_11), (.slice Ap60_10 (l).length cp60_10)⟩) := zQ1 (hd 78 (by decide))
     exact zza (zc rfl) rfl #[.agg (zk (zPS x l b) ⟨(.slice Ap60_11 (x.lp).length cp60_11), (.slice Ap60_10 (l).length cp60_10)⟩)] (zwa e78) (zE Tryz.func41 rfl) (((hU ▸ scramble_any (zPS x l b) ⟨(.slice Ap60_11 (x.lp).length cp60_11), (.slice Ap60_10 (l).length cp60_10)⟩ h2 hQ uw ⟨(M.isO (k := 11) rfl), (M.isO (k := 10) rfl)⟩)).mono fun e w2 h => ⟨_, h.1, rfl, (M.step h.2).sub ⟨rfl, rfl, rfl, rfl, rfl, rfl, rfl, rfl, rfl, rfl, rfl, rfl, rfl, rfl, trivial⟩⟩)
    ·intro ua uw SV pV (M : Mx none w uw _) hk hn hd
     have e79 : ua.eval (.tmp 79) = numV U := zQ1 (hd 79 (by decide))
     have e80 : ua.eval (.tmp 80) = numV X := zQ1 (hd 80 (by decide))
     exact zza (zc rfl) rfl #[numV U, numV X] (z3a e79 e80) (zE Tryz.func49 rfl) ((kMu uw).mono fun e w2 h => ⟨_, h.1, rfl, (M.step h.2).sub ⟨rfl, rfl, rfl, rfl, rfl, rfl, rfl, rfl, rfl, rfl, rfl, rfl, rfl, rfl, trivial⟩⟩)
    ·intro ua uw SV pV (M : Mx none w uw _) hk hn hd
     exact zra (zc rfl) _ (zu rfl) ⟨_, rfl⟩ ((M.allocP 12 27 (numA 0)).sub ⟨rfl, rfl, rfl, rfl, rfl, rfl, rfl, rfl, rfl, rfl, rfl, rfl, (eitherR_at (hn 9 (by kernel_rfl)) rfl), rfl, trivial⟩)
    ·intro ua uw SV pV (M : Mx none w uw _) hk hn hd
     exact zra (zc rfl) _ (zu rfl) ⟨_, rfl⟩ ((M.allocP 13 27 (numA 0)).sub ⟨rfl, rfl, rfl, rfl, rfl, rfl, rfl, rfl, rfl, rfl, rfl, rfl, rfl, rfl, trivial⟩)
    ·intro ua uw SV pV (M : Mx none w uw _) hk hn hd
     obtain ⟨s7, f13, q13⟩ := (show SV 7 = true ∧ ua.eval (.tmp 13) = pV 7 ∧ stE _ 7 (pV 7) from hd 13 (by decide))
     have e82 : ua.eval (.tmp 82) = numV L := zQ1 (hd 82 (by decide))
     obtain ⟨g_, r_⟩ := (show ∃ g, pV 7 = .pointer (some ⟨g, 0, none⟩) from q13)
     have M2 := M.ptrV (k := 12) (g := g_) (condR_look s7 (eitherR_r hk rfl)) r_
     exact hopM_doM (zc rfl) rfl (run_st M2 (k := 12) rfl _ _ _ rfl (f13.trans r_) e82 (numA L) _ rfl (zL rfl) (zy _) (zo rfl) zd) (fun w2 h2 => (h2.toPtr (k := 12) rfl r_ rfl).sub ⟨rfl, rfl, rfl, rfl, rfl, rfl, rfl, rfl, rfl, rfl, rfl, rfl, rfl, rfl, trivial⟩) rfl
    intro p67 a67 w67 M67 G67 y67
    obtain ⟨-, -, -, -, -, -, q6, q7, q8, -, -⟩ := y67
    obtain ⟨gp7x66, r7⟩ := (show ∃ g, p67 7 = .pointer (some ⟨g, 0, none⟩) from q7)
    obtain ⟨gp8x66, r8⟩ := (show ∃ g, p67 8 = .pointer (some ⟨g, 0, none⟩) from q8)
    have r6 : p67 6 = numV H := q6
    replace M67 : Mx _ _ w67 [(0, bytR x.lp (.slice Ap x.lp.length cp)), (1, bytR x.ls (.slice As x.ls.length cs)), (2, bytR l (.slice Al l.length cl)), (3, blkR g2 37 (zk (zPS x l b) ⟨(.slice Ap60_11 (x.lp).length cp60_11), (.slice Ap60_10 (l).length cp60_10)⟩)), (4, blkR g3 27 (numA b)), (5, blkR g4 37 (zSA)), (6, blkR g5 35 (zi (fun _ => 0))), (7, blkR g37 27 (numA X)), (8, blkR gp17x39 27 (numA S1)), (9, blkR g45 27 (numA Bs)), (10, ownR l (.slice Ap60_10 (l).length cp60_10)), (11, ownR x.lp (.slice Ap60_11 (x.lp).length cp60_11)), (12, eitherR true (ptrR 27 (numA L) (p67 7)) (z7b true (ptrR 27 (numA 0) (p67 7)))), (13, z7b true (ptrR 27 (numA 0) (p67 8)))] := M67
    simp only [List.take, layV, Nat.zero_add, Nat.reduceAdd, r6, r7, r8] at G67
    rw [r7, r8] at M67
    have M67_12 := M67.ptr (k := 12) (g := gp7x66) rfl
    replace M67_12 := M67_12.toB (k := 12) (c2 := numA L) rfl rfl
    have M67_13 := M67_12.ptr (k := 13) (g := gp8x66) rfl
    refine zr (zc rfl) rfl G67 M67_13 (k := 13) rfl _ _ _ rfl (G67.get (t := 14) rfl) (G67.get (t := 83) rfl) (numA H) _ rfl (zL rfl) (zy _) (zo rfl) zd ?_
    intro w68 M68
    clear M67_13
    refine hK66 _ _ (zT fun _ hK69 => zAx 5 [(85, numV L), (86, numV H), (87, .pointer (some ⟨g2, 0, none⟩)), (88, .pointer (some ⟨g2, 9, none⟩)), (89, numV x.Q)] [0, 1, 2] (zp (M68.blk (k := 12) rfl) (zp (M68.blk (k := 13) rfl) (zp (M68.blk (k := 3) rfl) dnil))) [gp7x66, gp8x66, g2] G67 fun _ F70 => ?_)
    clear G67
    refine zaa (zc rfl) rfl F70 rfl rfl (zE Tryz.func50 rfl) #[numV L, numV H, numV x.Q] (args3 (F70.get (t := 85) rfl) (F70.get (t := 86) rfl) (F70.get (t := 89) rfl)) (zca (kRe w68)) ?_
    rintro _ w71 a71 ⟨rfl, b71⟩ F71
    have M71 := M68.step b71
    refine zAx 3 [(84, .tuple #[numV Mo, .bool true]), (91, numV Mo), (92, .bool true)] [] dnil [] F71 fun _ F72 => ?_
    refine zh (zc rfl) rfl F72 rfl M71 14 (t := 27) (c := numA 0) (zu rfl) ?_
    intro g73 a73 w73 F73 M73
    refine zr (zc rfl) rfl F73 M73 (k := 14) rfl _ _ _ rfl (F73.get (t := 15) rfl) (F73.get (t := 91) rfl) (numA Mo) _ rfl (zL rfl) (zy _) (zo rfl) zd ?_
    intro w74 M74
    refine rm rfl F73 fun _ F75 => hK69 _ _ (zSk fun _ hK76 => ?_)
    refine z4a F75 (SE [.inl (.agg (zk (zPS x l b) ⟨(.slice Ap60_11 (x.lp).length cp60_11), (.slice Ap60_10 (l).length cp60_10)⟩)), .inl (.pointer (some ⟨g2, 0, none⟩)), .inl (.agg (zg x.k x.P x.Q x.g)), .inl (numV Bs), .inl (.pointer (some ⟨g2, 43, none⟩)), .inl (numV x.O), .inl (numV Mo), .inl (.pointer (some ⟨g2, 0, none⟩)), .inl (.pointer (some ⟨g2, 9, none⟩)), .inl (numV x.Q), .inl (numV E), .inl (numV N)]) (JM none w fun SV pV => [(0, bytR x.lp (.slice Ap x.lp.length cp)), (1, bytR x.ls (.slice As x.ls.length cs)), (2, bytR l (.slice Al l.length cl)), (3, blkR g2 37 (zk (zPS x l b) ⟨(.slice Ap60_11 (x.lp).length cp60_11), (.slice Ap60_10 (l).length cp60_10)⟩)), (4, blkR g3 27 (numA b)), (5, blkR g4 37 (zSA)), (6, blkR g5 35 (zi (fun _ => 0))), (7, blkR g37 27 (numA X)), (8, blkR gp17x39 27 (numA S1)), (9, blkR g45 27 (numA Bs)), (10, ownR l (.slice Ap60_10 (l).length cp60_10)), (11, ownR x.lp (.slice Ap60_11 (x.lp).length cp60_11)), (12, blkR gp7x66 27 (numA L)), (13, blkR gp8x66 27 (numA H)), (14, blkR g73 27 (numA Mo))]) 12 rfl (by kernel_rfl) rfl ⟨trivial, trivial, trivial, trivial, trivial, trivial, trivial, trivial, trivial, trivial, trivial, trivial, trivial⟩ (fun p => (M74.step (zta _)).sub ⟨rfl, rfl, rfl, rfl, rfl, rfl, rfl, rfl, rfl, rfl, rfl, rfl, rfl, rfl, rfl, trivial⟩) ⟨z0a F75 (fun _ _ _ M => zp (Mx.blk (k := 3) M rfl) dnil) (some g2) (by kernel_rfl), zeb F75 (by kernel_rfl), z0a F75 (fun _ _ _ M => zp (Mx.blk (k := 3) M rfl) dnil) (some g2) (by kernel_rfl), z0a F75 (fun _ _ _ M => zp (Mx.blk (k := 9) M rfl) dnil) (some g45) (by kernel_rfl), zeb F75 (by kernel_rfl), z0a F75 (fun _ _ _ M => zp (Mx.blk (k := 3) M rfl) dnil) (some g2) (by kernel_rfl), z0a F75 (fun _ _ _ M => zp (Mx.blk (k := 14) M rfl) dnil) (some g73) (by kernel_rfl), zeb F75 (by kernel_rfl), zeb F75 (by kernel_rfl), z0a F75 (fun _ _ _ M => zp (Mx.blk (k := 3) M rfl) dnil) (some g2) (by kernel_rfl), ?_, ?_, trivial⟩ ?_
    ·intro ua uw SV pV (M : Mx none w uw _) hk hn hd
     have e98 : ua.eval (.tmp 98) = numV x.O := zQ1 (hd 98 (by decide))
     have e99 : ua.eval (.tmp 99) = numV Mo := zQ1 (hd 99 (by decide))
     have e102 : ua.eval (.tmp 102) = numV x.Q := zQ1 (hd 102 (by decide))
     exact zza (zc rfl) rfl #[numV x.O, numV Mo, numV x.Q] (args3 e98 e99 e102) (zE Tryz.func38 rfl) ((kT2 uw).mono fun e w2 h => ⟨_, h.1, rfl, (M.step h.2).sub ⟨rfl, rfl, rfl, rfl, rfl, rfl, rfl, rfl, rfl, rfl, rfl, rfl, rfl, rfl, rfl, trivial⟩⟩)
    ·intro ua uw SV pV (M : Mx none w uw _) hk hn hd
     have e95 : ua.eval (.tmp 95) = .agg (zg x.k x.P x.Q x.g) := zQ1 (hd 95 (by decide))
     have e96 : ua.eval (.tmp 96) = numV Bs := zQ1 (hd 96 (by decide))
     have e103 : ua.eval (.tmp 103) = numV E := zQ1 (hd 103 (by decide))
     exact zza (zc rfl) rfl #[.agg (zg x.k x.P x.Q x.g), numV Bs, numV E] (args3 e95 e96 e103) (zE Tryz.func33 rfl) ((kR3 uw).mono fun e w2 h => ⟨_, h.1, rfl, (M.step h.2).sub ⟨rfl, rfl, rfl, rfl, rfl, rfl, rfl, rfl, rfl, rfl, rfl, rfl, rfl, rfl, rfl, trivial⟩⟩)
    intro p77 a77 w77 M77 G77 y77
    obtain ⟨q0, -, -, -, -, -, -, -, -, -, -, q11, -⟩ := y77
    have r0 : p77 0 = .agg (zk (zPS x l b) ⟨(.slice Ap60_11 (x.lp).length cp60_11), (.slice Ap60_10 (l).length cp60_10)⟩) := q0
    have r11 : p77 11 = numV N := q11
    replace M77 : Mx _ _ w77 [(0, bytR x.lp (.slice Ap x.lp.length cp)), (1, bytR x.ls (.slice As x.ls.length cs)), (2, bytR l (.slice Al l.length cl)), (3, blkR g2 37 (zk (zPS x l b) ⟨(.slice Ap60_11 (x.lp).length cp60_11), (.slice Ap60_10 (l).length cp60_10)⟩)), (4, blkR g3 27 (numA b)), (5, blkR g4 37 (zSA)), (6, blkR g5 35 (zi (fun _ => 0))), (7, blkR g37 27 (numA X)), (8, blkR gp17x39 27 (numA S1)), (9, blkR g45 27 (numA Bs)), (10, ownR l (.slice Ap60_10 (l).length cp60_10)), (11, ownR x.lp (.slice Ap60_11 (x.lp).length cp60_11)), (12, blkR gp7x66 27 (numA L)), (13, blkR gp8x66 27 (numA H)), (14, blkR g73 27 (numA Mo))] := M77
    simp only [List.take, layV, Nat.zero_add, Nat.reduceAdd, r0, r11] at G77
    refine zaa (zc rfl) rfl G77 rfl rfl (zE Tryz.func42 rfl) #[.agg (zk (zPS x l b) ⟨(.slice Ap60_11 (x.lp).length cp60_11), (.slice Ap60_10 (l).length cp60_10)⟩), numV N] (z3a (G77.get (t := 93) rfl) (G77.get (t := 104) rfl)) (zca ((sharing_any (zPS x l b) ⟨(.slice Ap60_11 (x.lp).length cp60_11), (.slice Ap60_10 (l).length cp60_10)⟩ N ht w77 ⟨(M77.isO (k := 11) rfl), (M77.isO (k := 10) rfl)⟩))) ?_
    rintro _ w78 a78 ⟨rfl, b78⟩ F78
    have M78 := M77.step b78
    refine zr (zc rfl) rfl F78 M78 (k := 3) rfl _ _ _ rfl (F78.get (t := 3) rfl) (F78.get (t := 105) rfl) (zk (zja (zPS x l b) N) ⟨(.slice Ap60_11 (x.lp).length cp60_11), (.slice Ap60_10 (l).length cp60_10)⟩) _ rfl (zL rfl) (zpa (w := w78) ⟨(M78.isO (k := 11) rfl), (M78.isO (k := 10) rfl)⟩) (zo rfl) (by kernel_rfl) ?_
    intro w79 M79
    refine hK76 _ _ (zSk fun _ hK80 => ?_)
    refine z4a F78 (SE [.inl (.agg (zk (zja (zPS x l b) N) ⟨(.slice Ap60_11 (x.lp).length cp60_11), (.slice Ap60_10 (l).length cp60_10)⟩)), .inl (.pointer (some ⟨g2, 76, none⟩)), .inl (.agg (zi ((zja (zPS x l b) N).Pr))), .inl (undef)]) (JM none w fun SV pV => [(0, bytR x.lp (.slice Ap x.lp.length cp)), (1, bytR x.ls (.slice As x.ls.length cs)), (2, bytR l (.slice Al l.length cl)), (3, blkR g2 37 (zk (zja (zPS x l b) N) ⟨(.slice Ap60_11 (x.lp).length cp60_11), (.slice Ap60_10 (l).length cp60_10)⟩)), (4, blkR g3 27 (numA b)), (5, blkR g4 37 (zk (cond (SV 3) ((zja (zPS x l b) N) : SideN) ⟨0, 0, 0, 0, "".toUTF8, [], 0, 0, 0, [], 0, (fun _ => 0), (fun _ => 0)⟩) (cond (SV 3) (⟨(.slice Ap60_11 (x.lp).length cp60_11), (.slice Ap60_10 (l).length cp60_10)⟩ : SideV) ⟨zN, zN⟩))), (6, blkR g5 35 (zi (fun _ => 0))), (7, blkR g37 27 (numA X)), (8, blkR gp17x39 27 (numA S1)), (9, blkR g45 27 (numA Bs)), (10, ownR l (.slice Ap60_10 (l).length cp60_10)), (11, ownR x.lp (.slice Ap60_11 (x.lp).length cp60_11)), (12, blkR gp7x66 27 (numA L)), (13, blkR gp8x66 27 (numA H)), (14, blkR g73 27 (numA Mo))]) 4 rfl (by kernel_rfl) rfl ⟨trivial, trivial, trivial, fun _ => Iff.rfl, trivial⟩ (fun p => (M79.step (zta _)).sub ⟨rfl, rfl, rfl, rfl, rfl, rfl, rfl, rfl, rfl, rfl, rfl, rfl, rfl, rfl, rfl, trivial⟩) ⟨z0a F78 (fun _ _ _ M => zp (Mx.blk (k := 3) M rfl) dnil) (some g2) (by kernel_rfl), zeb F78 (by kernel_rfl), z0a F78 (fun _ _ _ M => zp (Mx.blk (k := 3) M rfl) dnil) (some g2) (by kernel_rfl), ?_, trivial⟩ ?_
    ·intro ua uw SV pV (M : Mx none w uw _) hk hn hd
     have e6 : ua.eval (.tmp 6) = .pointer (some ⟨g4, 0, none⟩) := (show ua.eval (.tmp 6) = _ from hd 6 (by decide)).trans (F78.get (t := 6) rfl)
     have e106 : ua.eval (.tmp 106) = .agg (zk (zja (zPS x l b) N) ⟨(.slice Ap60_11 (x.lp).length cp60_11), (.slice Ap60_10 (l).length cp60_10)⟩) := zQ1 (hd 106 (by decide))
     exact hopM_doM (zc rfl) rfl (run_st M (k := 5) rfl _ _ _ rfl e6 e106 (zk (zja (zPS x l b) N) ⟨(.slice Ap60_11 (x.lp).length cp60_11), (.slice Ap60_10 (l).length cp60_10)⟩) _ rfl (zL rfl) (zpa (w := w79) ⟨(M79.isO (k := 11) rfl), (M79.isO (k := 10) rfl)⟩) (zo rfl) (by kernel_rfl)) (fun w2 h2 => h2.sub ⟨rfl, rfl, rfl, rfl, rfl, rfl, rfl, rfl, rfl, rfl, rfl, rfl, rfl, rfl, rfl, trivial⟩) rfl
    intro p81 a81 w81 M81 G81 y81
    obtain ⟨-, -, q2, -, -⟩ := y81
    have r2 : p81 2 = .agg (zi ((zja (zPS x l b) N).Pr)) := q2
    replace M81 : Mx _ _ w81 [(0, bytR x.lp (.slice Ap x.lp.length cp)), (1, bytR x.ls (.slice As x.ls.length cs)), (2, bytR l (.slice Al l.length cl)), (3, blkR g2 37 (zk (zja (zPS x l b) N) ⟨(.slice Ap60_11 (x.lp).length cp60_11), (.slice Ap60_10 (l).length cp60_10)⟩)), (4, blkR g3 27 (numA b)), (5, blkR g4 37 (zk (zja (zPS x l b) N) ⟨(.slice Ap60_11 (x.lp).length cp60_11), (.slice Ap60_10 (l).length cp60_10)⟩)), (6, blkR g5 35 (zi (fun _ => 0))), (7, blkR g37 27 (numA X)), (8, blkR gp17x39 27 (numA S1)), (9, blkR g45 27 (numA Bs)), (10, ownR l (.slice Ap60_10 (l).length cp60_10)), (11, ownR x.lp (.slice Ap60_11 (x.lp).length cp60_11)), (12, blkR gp7x66 27 (numA L)), (13, blkR gp8x66 27 (numA H)), (14, blkR g73 27 (numA Mo))] := M81
    simp only [List.take, layV, Nat.zero_add, Nat.reduceAdd, r2] at G81
    refine zr (zc rfl) rfl G81 M81 (k := 6) rfl _ _ _ rfl (G81.get (t := 7) rfl) (G81.get (t := 108) rfl) (zi ((zja (zPS x l b) N).Pr)) _ rfl (zL rfl) (zda _) (zo rfl) (by kernel_rfl) ?_
    intro w82 M82
    refine rm rfl G81 fun _ F83 => hK80 _ _ (wp_ret ?_)
    try simp only [Exit.then, Exit.inBlock, Exit.jump]
    exact bodyPost_ret (res2ct rfl (F83.get rfl) (M82.blk (k := 5) rfl) (F83.get rfl) (M82.blk (k := 6) rfl) (F83.get rfl) Tryz.underlying37 rfl (by kernel_rfl) Tryz.underlying35 rfl (by kernel_rfl)) F83.defers (by simp only [Bool.false_and, Bool.true_and, Bool.and_false, Bool.and_true, Bool.not_true, Bool.not_false, cond_true, cond_false, decide_eq_false h11, decide_eq_true hbP]; exact ⟨_, rfl, ⟨(M82.isO (k := 11) rfl), (M82.isO (k := 10) rfl)⟩, fun b hb => (M82.owns (k := 11) rfl b (bfp_ofp hb)), fun b hb => (M82.owns (k := 10) rfl b (bfp_ofp hb)), M82.below⟩)
end Go.Proofs.YtcfepoopkfhojaaGreat
namespace Go.Proofs.YtcfepoopkfhojaaGreat
open Go.ChangeShapes Go.WideShapes Go.ChangeAt Go.RowKit Go.Shelf
theorem shello_is (k : Int) (P Q g : Nat) (ho : P % 2 = 1) (h1 : 1 < P) (hP : P < 4294967296 ^ 8) (h2 : 2 < Q) (hQ : Q < 4294967296 ^ 8) (hg : g < 4294967296 ^ 8) (t : ByteArray) (lp ld : List UInt8) (hpl : lp.length ≤ 100000) {X : SideN} {A : Nat} (hX : ⟨k, P, Q, g, t, lp, g ^ texN Q [97] [ld] % P, 0, texN Q [97] [ld], [], 0, fun _ => 0, fun _ => 0⟩ = X) (hA : g ^ texN Q [97] [ld] % P = A) (w : World) (vp vd : Value) (hp : IsB w lp vp) (hd : IsB w ld vd) :
  Calls Tryz.prog 13 #[.agg (zg k P Q g), .string t, vp, vd] w fun e w' => ∃ v, e = .returned v ∧ ∃ y : SideV, v = .tuple #[.agg (zk X y), numV A] ∧ SideIs w' X y ∧ (∀ b, bfp y.vp b → w.heap.size ≤ b) ∧ (∀ b, bfp y.vs b → w.heap.size ≤ b) ∧ Below w.heap.size w w' := by
 subst hX hA
 exact (hello_any k P Q g ho h1 hP h2 hQ hg t lp ld vp vd hpl w hp hd).mono fun e w' ⟨vc, h1, h2, h3, h4⟩ => ⟨_, h1, ⟨vc, zN⟩, rfl, h2, h3, fun b hb => absurd hb (zgc b), h4⟩
theorem soffer_is (k : Int) (P Q g : Nat) (ho : P % 2 = 1) (h1 : 1 < P) (hP4 : P < 4294967296) (h2 : 2 < Q) (hQ : Q < 4294967296 ^ 8) (hg : g < 4294967296 ^ 8) (r : RecN) (hr : r.a < 4294967296 ^ 8) (hs : r.s.size ≤ 1000) (hrl : r.l2.length ≤ 100000) (a : Nat) (ha : a < 4294967296 ^ 8) (ld : List UInt8) {ok : Bool} {X : SideN} {B : Nat} (hk : offOk P Q g r.a a (texN Q [98] [ld]) = ok) (hX : cond ok (zja (offS k P Q g r.s r.l2 r.a a (texN Q [98] [ld])) (offN P Q g r.a a (texN Q [98] [ld]))) zeroS = X) (hB : cond ok (offB P Q g r.a (texN Q [98] [ld])) 0 = B) (w : World) (V : RecV) (vd : Value) (hm : RecIs w r V) (hd : IsB w ld vd) :
  Calls Tryz.prog 14 #[.agg (zg k P Q g), .agg (recA r V), numV a, vd] w fun e w' => ∃ v, e = .returned v ∧ ∃ y : SideV, v = .tuple #[.agg (zk X y), numV B, .bool ok] ∧ SideIs w' X y ∧ (∀ b, bfp y.vp b → w.heap.size ≤ b) ∧ (∀ b, bfp y.vs b → w.heap.size ≤ b) ∧ Below w.heap.size w w' := by
 have h := offer_any k P Q g ho h1 (Nat.lt_trans hP4 (by decide)) h2 hQ (Nat.le_of_lt hP4) hg r V hr hs hrl a ha ld vd w hm hd
 rw [hk, hX, hB] at h
 exact h.mono fun e w' ⟨vc, h1, h2, h3, h4⟩ => ⟨_, h1, ⟨zN, vc⟩, rfl, h2, fun b hb => absurd hb (zgc b), h3, h4⟩
theorem sprove_is (x : SideN) (ho : x.P % 2 = 1) (h1 : 1 < x.P) (hP4 : x.P < 4294967296) (h2 : 2 < x.Q) (hQ4 : x.Q ≤ 4294967296) (hO : x.O < 4294967296) (hg : x.g < 4294967296 ^ 8) (ht : x.s.size ≤ 1000) (hpl : x.lp.length ≤ 100000) (l : List UInt8) (hll : l.length ≤ 100000) (b : Nat) (hb : b < 4294967296 ^ 8) {ok : Bool} {X : SideN} {Y : Nat → Int} (hk : prvOk x l b = ok) (hX : cond ok (zja (prvS x l b) (prvN x l b)) zeroS = X) (hY : X.Pr = Y) (w : World) (y : SideV) (vl : Value) (hx : SideIs w x y) (hd : IsB w l vl) :
  Calls Tryz.prog 16 #[.agg (zk x y), vl, numV b] w fun e w' => ∃ v, e = .returned v ∧ ∃ y : SideV, v = .tuple #[.agg (zk X y), .agg (zi Y), .bool ok] ∧ SideIs w' X y ∧ (∀ b, bfp y.vp b → w.heap.size ≤ b) ∧ (∀ b, bfp y.vs b → w.heap.size ≤ b) ∧ Below w.heap.size w w' := by
 have h := prove_any x y ho h1 hP4 h2 hQ4 hO hg ht hpl l hll vl b hb w hx hd
 rw [hk, hX, hY] at h
 exact h.mono fun e w' ⟨y', h1, h2⟩ => ⟨_, h1, y', rfl, h2⟩
theorem offB_lt {P Q g v o : Nat} (h0 : 0 < P) (hP : P < 4294967296 ^ 8) : offB P Q g v o < 4294967296 ^ 8 := by
 unfold offB
 exact Nat.lt_trans (Nat.mod_lt _ h0) hP
theorem cond_lt {b : Bool} {X B N : Nat} (h : cond b X 0 = B) (hX : X < N) (h0 : 0 < N) : B < N := by
 subst h
 cases b
 ·exact h0
 ·exact hX
def SShp (y : SideV) : Prop := (∃ A n c, y.vp = .slice A n c) ∧ ∃ A n c, y.vs = .slice A n c
theorem sshp_one {x : SideN} {y : SideV} (h : SShp y) : (zk x y).all (·.oneCell') = true := by
 obtain ⟨vp, vs⟩ := y
 obtain ⟨⟨A, n, c, e⟩, B, m, d, e2⟩ := h
 dsimp only at e e2
 subst e e2
 simp [zk, numF, Value.oneCell']
end Go.Proofs.YtcfepoopkfhojaaGreat
/- sentinelref3: Bytes, Stretch, Stream; sponge.Stretch. -/
namespace Go.Proofs.YtcfepoopkfhojaaGreat
open Go.ChangeShapes Go.WideShapes Go.ChangeAt Go.RowKit Go.Shelf
theorem rstretch_any (A : Option Addr) (pass : List UInt8) (n0 c0 : Nat) (hn0 : pass.length = n0) (hc0 : n0 ≤ c0) (hm0 : c0 ≤ maxLen) (hz0 : A = none → c0 = 0) (B : Option Addr) (salt : List UInt8) (n1 c1 : Nat) (hn1 : salt.length = n1) (hc1 : n1 ≤ c1) (hm1 : c1 ≤ maxLen) (hz1 : B = none → c1 = 0) (hl0 : n0 ≤ 2000) (hl1 : n1 ≤ 2000) (t : Int) (ht0 : -9223372036854775808 ≤ t) (ht1 : t < 9223372036854775808) (T : Nat) (hT : (T : Int) = max 1 (min t 1000) - 1) (w : World) (hR0 : Rd w A pass) (hR1 : Rd w B salt) :
  Calls Tryz.prog 91 #[.slice A n0 c0, .slice B n1 c1, .int .i64 t] w fun e w' => e = .returned (.agg (zi (strA pass salt T))) ∧ Below w.heap.size w w' := by
 have b0 := zga w (.cells #[Value.int .u8 0, .int .u8 0, .int .u8 0, .int .u8 0, .int .u8 0, .int .u8 0, .int .u8 0, .int .u8 0, .int .u8 0, .int .u8 0, .int .u8 0, .int .u8 0, .int .u8 0, .int .u8 0, .int .u8 0, .int .u8 0] 35)
 have y0 := Blk.new w 35 #[Value.int .u8 0, .int .u8 0, .int .u8 0, .int .u8 0, .int .u8 0, .int .u8 0, .int .u8 0, .int .u8 0, .int .u8 0, .int .u8 0, .int .u8 0, .int .u8 0, .int .u8 0, .int .u8 0, .int .u8 0, .int .u8 0]
 have R0 := hR0.step b0
 have R1 := hR1.step b0
 have s0 : (w.alloc (.cells #[Value.int .u8 0, .int .u8 0, .int .u8 0, .int .u8 0, .int .u8 0, .int .u8 0, .int .u8 0, .int .u8 0, .int .u8 0, .int .u8 0, .int .u8 0, .int .u8 0, .int .u8 0, .int .u8 0, .int .u8 0, .int .u8 0] 35)).heap.size = w.heap.size + 1 := by simp
 have hT9 : T ≤ 999 := by omega
 have hls : ∀ l ∈ [salt], l.length ≤ 2000 := fun l hl => by rw [List.mem_singleton.1 hl]; omega
 have hcs : (cat [salt]).length ≤ 5000 := by simp [cat, ztb]; omega
 go_enter Tryz.func91, Tryz.ntmps91
 go_wp2_with fail
 generalize World.alloc _ _ = W at *
 have P1 := prd_one hn1 hc1 hm1 hz1 R1
 rw [s0] at P1
 have a1 := zga W (.cells #[.slice B n1 c1] 22)
 have R0a := R0.step a1
 have B1 := zt b0 a1
 have y1 := y0.step a1
 refine ((rmac_any A pass n0 c0 hn0 hz0 (by omega) _ [salt] 1 1 rfl (Nat.le_refl _) (by omega) hls hcs _ R0a P1)).mono ?_
 rintro e w1 ⟨rfl, b1⟩
 have y2 := y1.step b1
 have R02 := R0a.step b1
 have B2 := zt B1 b1
 obtain ⟨F, hF⟩ : ∃ F, F = strU pass salt 0 := ⟨_, rfl⟩
 rw [show macW pass [salt] = F from hF.symm]
 have z1 := Blk.new w1 35 #[Value.int .u8 0, .int .u8 0, .int .u8 0, .int .u8 0, .int .u8 0, .int .u8 0, .int .u8 0, .int .u8 0, .int .u8 0, .int .u8 0, .int .u8 0, .int .u8 0, .int .u8 0, .int .u8 0, .int .u8 0, .int .u8 0]
 have a2 := zga w1 (.cells #[Value.int .u8 0, .int .u8 0, .int .u8 0, .int .u8 0, .int .u8 0, .int .u8 0, .int .u8 0, .int .u8 0, .int .u8 0, .int .u8 0, .int .u8 0, .int .u8 0, .int .u8 0, .int .u8 0, .int .u8 0, .int .u8 0] 35)
 clear R1 R0 P1 a1 y0 y1 b1 b0 B1 R0a hR1
 have HF := hid hF
 clear hF
 go_wp2_with (first | (refine zx rfl _ (.tmp 7) _ rfl _ rfl _ rfl (zda _) _ z1 rfl zmb ?_; intro w2 g2 c2; have b2 := znb g2; have y3 := y2.step b2; have R03 := R02.step b2; have B3 := zt B2 b2; have z2 := Blk.new w2 35 #[Value.int .u8 0, .int .u8 0, .int .u8 0, .int .u8 0, .int .u8 0, .int .u8 0, .int .u8 0, .int .u8 0, .int .u8 0, .int .u8 0, .int .u8 0, .int .u8 0, .int .u8 0, .int .u8 0, .int .u8 0, .int .u8 0]; have hu : w1.heap.size < w2.heap.size := c2.lt) | (refine zma rfl _ (.tmp 7) rfl _ rfl _ _ _ c2 Tryz.underlying35 rfl zmb ?_) | (refine zx rfl _ (.tmp 8) _ rfl _ rfl _ rfl (zda _) _ z2 rfl zmb ?_; intro w3 g3 c3; have b3 := znb g3; have y4 := y3.step b3; have R04 := R03.step b3; have B4 := zt B3 b3; have c24 := c2.step b3))
 have hu3 : w1.heap.size < w3.heap.size := c24.lt
 have hv3 : w2.heap.size < w3.heap.size := c3.lt
 have hy4 := y4.lt
 obtain ⟨U, hU⟩ : ∃ U, U = w1.heap.size := ⟨_, rfl⟩
 obtain ⟨V, hV⟩ : ∃ V, V = w2.heap.size := ⟨_, rfl⟩
 rw [← hU] at c24 ⊢
 rw [← hV] at c3 ⊢
 rw [HF.out] at c24 c3
 have hUw : w.heap.size < U := by have := y2.lt; omega
 have hUV : U ≠ V := by omega
 have hwV : w.heap.size < V := by omega
 have hU3 : U < w3.heap.size := by omega
 have hV3 : V < w3.heap.size := by omega
 clear HF y2 R02 B2 z1 a2 g2 c2 b2 y3 R03 B3 z2 g3 b3 hu hu3 hv3 hU hV
 go_loopw [9] (fun i wr => ∃ k : Nat, k ≤ T ∧ i = .int .i64 ((k : Int) + 1) ∧ Blk wr U 35 (zi (outF (strU pass salt k))) ∧ Blk wr V 35 (zi (strA pass salt k)) ∧ Below (w.heap.size + 1) w3 wr) (fun i _ => 1001 - (intOf i).toNat)
 case atStart => exact ⟨0, by omega, rfl, c24, c3, Below.refl _ _⟩
 case round =>
  obtain ⟨k, hk, rfl, hu, hv, hB⟩ := hrel
  have hz := hB.size
  have hul := hu.lt
  have hvl := hv.lt
  have HU := hid (show strU pass salt (k + 1) = macW pass [sumL (strU pass salt k)] from rfl)
  have HA := hid (show zi (strA pass salt (k + 1)) = zi (fun j => xorB (strA pass salt k j) (outF (strU pass salt (k + 1)) j)) from rfl)
  have hab := hid (strA_bd pass salt k)
  have hob := hid (zzb (strU pass salt k))
  obtain ⟨a, ha⟩ : ∃ a, a = strA pass salt k := ⟨_, rfl⟩
  obtain ⟨u, hu'⟩ : ∃ u, u = strU pass salt k := ⟨_, rfl⟩
  obtain ⟨u2, hu2⟩ : ∃ u2, u2 = strU pass salt (k + 1) := ⟨_, rfl⟩
  rw [← ha, ← hu2] at HA
  rw [← ha] at hab hv
  rw [← hu'] at hob hu
  rw [← hu2, ← hu'] at HU
  have Ha := hid ha
  have Hu2 := hid hu2
  clear ha hu2 hu'
  by_cases hlt : k < T
  ·have Rr : Rd wr A pass := hR0.below (B4.trans (hB.mono (by omega))) (Nat.le_refl _)
   have d1 : (k : Int) + 1 < t := by omega
   have d2 : (k : Int) + 1 < 1000 := by omega
   ·go_wp2_with (refine zma rfl _ (.tmp 7) rfl _ rfl _ _ _ hu Tryz.underlying35 rfl zmb ?_)
    refine (srbytes_any (outF u) hob.out _).mono ?_
    rintro e w6 ⟨v6, rfl, h6, b6⟩
    obtain ⟨A6, c6, rfl, q61, q62, R6, _⟩ := h6.slice
    have nn6 := h6.none0
    rw [zsb] at q61 ⊢
    have P1 := prd_one (sumL_len u) q61 q62 nn6 R6
    have a1 := zt b6 (zga w6 (.cells #[.slice A6 16 c6] 22))
    have Ra := Rr.step a1
    have hlu : ∀ l ∈ [sumL u], l.length ≤ 2000 := fun l hl => by rw [List.mem_singleton.1 hl, sumL_len]; omega
    have hcu : (cat [sumL u]).length ≤ 5000 := by simp [cat, ztb, sumL_len]
    clear h6 R6
    go_wp2_with fail
    refine ((rmac_any A pass n0 c0 hn0 hz0 (by omega) _ [sumL u] 1 1 rfl (Nat.le_refl _) (by omega) hlu hcu _ Ra P1)).mono ?_
    rintro e w4 ⟨rfl, b4⟩
    rw [← HU.out]
    have B4 := zt a1 b4
    have hu4 := hu.step B4
    have hv4 := hv.step B4
    have hz4 := B4.size
    clear a1 P1 Ra b4 b6
    go_wp2_with (refine zx rfl _ (.tmp 7) _ rfl _ rfl _ rfl (zda _) _ hu4 rfl zmb ?_; intro w5 g5 c5)
    have v5 := hv4.grown g5 (fun e => by cases e; omega)
    have B5 : Below (w.heap.size + 1) w3 w5 := zf (hB.trans (B4.mono (by omega))) g5 (by omega) (by omega)
    rw [midA_zero a (outF u2)] at v5
    have hz5 := B5.size
    clear hu4 hv4 B4 g5 hu hv hB
    go_loopw [10] (fun i wr => ∃ j : Nat, j ≤ 16 ∧ i = .int .i64 (j : Int) ∧ Blk wr U 35 (zi (outF u2)) ∧ Blk wr V 35 (zi (midA a (outF u2) j)) ∧ Below (w.heap.size + 1) w3 wr) (fun i _ => 16 - (intOf i).toNat)
    case atStart => exact ⟨0, by omega, rfl, c5, v5, B5⟩
    case round =>
     rename_i wr2 _ _
     obtain ⟨j, hj, rfl, cu, cv, hB2⟩ := hrel
     have hzz := hB2.size
     by_cases hj6 : j < 16
     ·have h1 := cu.cell (arr16_at' (outF u2) hj6)
      have h2 := cv.cell (arr16_at' (midA a (outF u2) j) hj6)
      rw [show midA a (outF u2) j j = a j by unfold midA; rw [if_neg (by omega)]] at h2
      have h3 := Blk.frozen cv j
      have hset := hid (midA_set a (outF u2) hj6)
      have hxb := xorB_bd (a j) (outF u2 j)
      unfold xorB at hset hxb
      generalize a j = X at *
      generalize outF u2 j = Y at *
      go_wp2
      go_still_tail 9, (by kernel_rfl)
      change wpList _ _ _ _ _ (World.drew _)
      go_wp2
      go_roundw
      case rel => exact ⟨j + 1, by omega, by go_num, (cu.drew.far (a := ⟨V, j, none⟩) _ (by simpa using hUV)), cv.drew.set j _ hset.out, hB2.drew.setCell (p := ⟨V, j, none⟩) (by simp; omega) _⟩
      case measure => simp [intOf]; omega
     ·obtain rfl : j = 16 := by omega
      rw [midA_full, ← HA.out] at cv
      rw [Hu2.out] at cu
      clear HA HU
      go_wp2
      go_roundw
      case rel => exact ⟨k + 1, by omega, by go_num, cu, cv, hB2⟩
      case measure => simp [intOf]; omega
  ·obtain rfl : k = T := by omega
   rw [Ha.out] at hv
   clear HU HA hab hob Ha Hu2
   have y5 := Blk.below y4 hB (by omega)
   have hd : ((k : Int) + 1 < t ∧ ¬ (k : Int) + 1 < 1000) ∨ ¬ (k : Int) + 1 < t := by omega
   rcases hd with ⟨d1, d2⟩ | d1
   all_goals
    go_wp2_with (first | (refine zma rfl _ (.tmp 8) rfl _ rfl _ _ _ hv Tryz.underlying35 rfl zmb ?_) | (refine zx rfl _ (.tmp 6) _ rfl _ rfl _ rfl (zda _) _ y5 rfl zmb ?_; intro w6 g6 c6))
    exact bodyPost_ret (z5b rfl rfl c6 Tryz.underlying35 rfl zmb) rfl ⟨rfl, zf (B4.trans (hB.mono (by omega))) g6 (by have := B4.size; omega) (Nat.le_refl _)⟩
end Go.Proofs.YtcfepoopkfhojaaGreat
namespace Go.Proofs.YtcfepoopkfhojaaGreat
open Go.ChangeShapes Go.WideShapes Go.ChangeAt Go.RowKit
section
variable (k : Int) (p q g : Nat) (w : World)
end
theorem rsmall_any (a : Nat) (ha : a < 4294967296) (w : World) :
  Calls Tryz.prog 60 #[numV a] w fun e w' => e = .returned (.int .i64 (a : Int)) ∧ Below w.heap.size w w' := by
 have g0 := Num.new w 27 a
 have c0 := g0.cell (k := 0) (by omega)
 have c1 := g0.cell (k := 1) (by omega)
 rw [digI_zero a ha] at c0
 rw [digI_small a 1 (by omega) ha] at c1
 have hor : bits BinOp.or IntKind.i64 (a : Int) 0 = (a : Int) := by
  have := (bits_nat .i64 63 (by decide) (fun n h0 h1 => by rw [IntKind.wrap_i64]; omega) a 0 (by omega) (by decide)).2
  simpa using this
 obtain ⟨A, hA⟩ : ∃ A : Int, Hid ((a : Int) = A) := ⟨_, hid rfl⟩
 have a0 : 0 ≤ A := by rw [← hA.out]; omega
 have a1 : A < 4294967296 := by rw [← hA.out]; omega
 rw [hA.out] at c0 hor
 rw [hA.out]
 go_enter Tryz.func60, Tryz.ntmps60
 go_wp2
 go_ret
 exact ⟨rfl, (Below.refl _ _).alloc (Nat.le_refl _) _⟩
theorem rleft_any (a m : Nat) (ha : a < 4294967296 ^ 8) (h0 : 0 < m) (h1 : m < 4294967296) (w : World) :
  Calls Tryz.prog 61 #[numV a, .int .i64 (m : Int)] w fun e w' => e = .returned (.int .i64 ((a % m : Nat) : Int)) ∧ Below w.heap.size w w' := by
 obtain ⟨r, hr⟩ : ∃ r, a % m = r := ⟨_, rfl⟩
 have r1 : r < 4294967296 := by rw [← hr]; exact Nat.lt_trans (Nat.mod_lt _ h0) h1
 have kF := fun w => from_ref (m : Int) (by omega) (by omega) w
 rw [Int.toNat_natCast] at kF
 have kR := fun w => rrest_pos a 0 m ha (by decide) (Nat.lt_trans h1 (by decide)) h0 w
 rw [Nat.zero_mul, Nat.add_zero, hr] at kR
 rw [hr]
 obtain ⟨z, hz⟩ : ∃ z : Int, (m : Int) = z := ⟨_, rfl⟩
 rw [hz] at kF ⊢
 refine zea (args := [numV a, .int .i64 z]) 17 Tryz.func61 rfl rfl rfl ?_
 intro fa F
 have M := Mx.start w
 refine zT fun _ hK1 => zh (zc rfl) rfl F rfl M 0 (t := 27) (c := numA a) (by unfold execOp; simp only [(F.get (t := 0) rfl)]; kernel_rfl) ?_
 intro g2 a2 w2 F2 M2
 refine rm rfl F2 fun _ F3 => hK1 _ _ (zSk fun _ hK4 => ?_)
 have hD5 := (zp (M2.blk (k := 0) rfl) dnil)
 refine region_fxL F3 (SK [.inl (numV a), .inl (numV 0), .inl (.int .i64 z), .inl (numV m), .inl (.tuple #[numV r, .bool true]), .inl (.tuple #[numV r, .bool true]), .inl (numV r), .inl (.bool true), .inr (StK.new w2.heap.size (numA 0) 27 (by decide))]) 9 7 7 1 5 #[numV r, .bool true] (.bool true) rfl (by kernel_rfl) rfl (by kernel_rfl) (fun _ _ h => h) rfl (fun _ _ => Iff.rfl) rfl ⟨hopP F3 hD5 0 (some g2) (by kernel_rfl), hopR F3 [] fun ua uw hb _ => (zlc rfl), hop0 F3 (by kernel_rfl), hopC F3 [(10, .int .i64 z)] rfl (zE Tryz.func63 rfl) fun uw hb => kF uw, hopC F3 [(8, numV a), (9, numV 0), (11, numV m)] rfl (zE Tryz.func58 rfl) fun uw hb => kR uw, hop0 F3 (by kernel_rfl), hop0 F3 (by kernel_rfl), hop0 F3 (by kernel_rfl), ?_, trivial⟩ ?_
 ·intro ua uw hb hd
  exact hop_new (zc rfl) hb.size hb.size (by decide) (zu rfl)
 intro p6 a6 w6 b6 G6 y6
 obtain ⟨-, -, -, -, -, -, q6, q7, q8, -⟩ := y6
 obtain ⟨gn8x5, r8, hg8, hc8⟩ := q8 (by decide)
 replace r8 : p6 8 = .pointer (some ⟨gn8x5, 0, none⟩) := r8
 have r6 : p6 6 = numV r := q6 (by decide)
 have r7 : p6 7 = .bool true := q7 (by decide)
 simp only [List.take, layV, Nat.zero_add, Nat.reduceAdd, r6, r7, r8] at G6
 have M6 := M2.newb b6.below 1 hg8 hc8
 clear hg8 hc8 r8
 clear F3 M2 r6 q6 r7 q7
 refine st_ex M6 (k := 1) rfl _ _ _ rfl (G6.get (t := 5) rfl) (G6.get (t := 13) rfl) (numA r) _ rfl (zL rfl) (zcc _) (zo rfl) zd ?_
 intro w7 M7
 refine rm rfl G6 fun _ F8 => hK4 _ _ (zT fun _ hK9 => zj (w' := w7) (zc rfl) rfl F8 rfl (numV r) (zxa _ _ rfl (F8.get (t := 5) rfl) (M7.blk (k := 1) rfl) (numA r) (z1a rfl) Tryz.underlying27 rfl zd) fun _ F10 => ?_)
 refine zaa (zc rfl) rfl F10 rfl rfl (zE Tryz.func60 rfl) #[numV r] (zwa (F10.get (t := 15) rfl)) (zca (rsmall_any r r1 w7)) ?_
 rintro _ w11 a11 ⟨rfl, b11⟩ F11
 have M11 := M7.step b11
 refine rm rfl F11 fun _ F12 => hK9 _ _ (wp_ret ?_)
 try simp only [Exit.then, Exit.inBlock, Exit.jump]
 exact bodyPost_ret (res1 rfl (F12.get rfl)) F12.defers ⟨rfl, M11.below⟩
theorem rtimes_any (k : Int) (P Q g : Nat) (h1 : 1 < P) (hP : P < 2147483648) (a b : Nat) (ha : a < 4294967296 ^ 8) (hb : b < 4294967296 ^ 8) (w : World) :
  Calls Tryz.prog 28 #[.agg (zg k P Q g), numV a, numV b] w fun e' w' => e' = .returned (numV (a * b % P)) ∧ Below w.heap.size w w' := by
 obtain ⟨pz, hpz⟩ : ∃ z : Int, (P : Int) = z := ⟨_, rfl⟩
 have kS := fun w => rsmall_any P (by omega) w
 have kA := fun w => rleft_any a P ha (by omega) (by omega) w
 have kB := fun w => rleft_any b P hb (by omega) (by omega) w
 rw [hpz] at kS kA kB
 obtain ⟨x, hx⟩ : ∃ x, a % P = x := ⟨_, rfl⟩
 obtain ⟨y, hy⟩ : ∃ y, b % P = y := ⟨_, rfl⟩
 obtain ⟨z, hz⟩ : ∃ z, a * b % P = z := ⟨_, rfl⟩
 rw [hx] at kA
 rw [hy] at kB
 rw [hz]
 have hxl : x < P := by rw [← hx]; exact Nat.mod_lt _ (by omega)
 have hyl : y < P := by rw [← hy]; exact Nat.mod_lt _ (by omega)
 have hzl : z < P := by rw [← hz]; exact Nat.mod_lt _ (by omega)
 have hXX : -9223372036854775808 ≤ (x : Int) * y ∧ (x : Int) * y < 9223372036854775808 := by
  have h1 : x * y ≤ 2147483648 * 2147483648 := Nat.mul_le_mul (by omega) (by omega)
  have h2 : (x : Int) * y = ((x * y : Nat) : Int) := by simp
  rw [h2]; omega
 have eZ : ((x : Int) * y) % pz = (z : Int) := by
  have h2 : (x : Int) * y = ((x * y : Nat) : Int) := by simp
  rw [← hpz, h2, ← hz, ← hx, ← hy, Nat.mul_mod a b]; exact (Int.natCast_emod _ _).symm
 have kF := fun w => from_ref (z : Int) (by omega) (by omega) w
 rw [Int.toNat_natCast] at kF
 have hpz0 : 0 < pz ∧ pz < 9223372036854775808 := by omega
 refine zea (args := [.agg (zg k P Q g), numV a, numV b]) 21 Tryz.func28 rfl rfl rfl ?_
 intro fa F
 have M := Mx.start w
 refine zT fun _ hK1 => zh (zc rfl) rfl F rfl M 0 (t := 29) (c := zg k P Q g) (by unfold execOp; simp only [(F.get (t := 0) rfl)]; kernel_rfl) ?_
 intro g2 a2 w2 F2 M2
 refine zh (zc rfl) rfl F2 rfl M2 1 (t := 27) (c := numA a) (by unfold execOp; simp only [(F2.get (t := 1) rfl)]; kernel_rfl) ?_
 intro g3 a3 w3 F3 M3
 refine zh (zc rfl) rfl F3 rfl M3 2 (t := 27) (c := numA b) (by unfold execOp; simp only [(F3.get (t := 2) rfl)]; kernel_rfl) ?_
 intro g4 a4 w4 F4 M4
 refine zh (zc rfl) rfl F4 rfl M4 3 (t := 27) (c := numA 0) (zu rfl) ?_
 intro g5 a5 w5 F5 M5
 refine hK1 _ _ (zT fun _ hK6 => zAx 2 [(8, .pointer (some ⟨g2, 1, none⟩)), (9, numV P)] [0] (zp (M5.blk (k := 0) rfl) dnil) [g2] F5 fun _ F7 => ?_)
 refine zaa (zc rfl) rfl F7 rfl rfl (zE Tryz.func60 rfl) #[numV P] (zwa (F7.get (t := 9) rfl)) (zca (kS w5)) ?_
 rintro _ w8 a8 ⟨rfl, b8⟩ F8
 have M8 := M5.step b8
 refine rm rfl F8 fun _ F9 => hK6 _ _ (zSk fun _ hK10 => ?_)
 have hD11 := (zp (M8.blk (k := 1) rfl) (zp (M8.blk (k := 2) rfl) dnil))
 refine zha F9 (SK [.inl (numV a), .inl (.int .i64 pz), .inl (.int .i64 (x : Int)), .inl (numV b), .inl (.int .i64 pz), .inl (.int .i64 (y : Int)), .inl (.int .i64 ((x : Int) * y)), .inl (.int .i64 pz), .inl (.int .i64 (z : Int)), .inl (numV z)]) 10 rfl (by kernel_rfl) ⟨hopP F9 hD11 0 (some g3) (by kernel_rfl), hop0 F9 (by kernel_rfl), hopC F9 [(11, numV a), (12, .int .i64 pz)] rfl (zE Tryz.func61 rfl) fun uw hb => kA uw, hopP F9 hD11 1 (some g4) (by kernel_rfl), hop0 F9 (by kernel_rfl), hopC F9 [(14, numV b), (15, .int .i64 pz)] rfl (zE Tryz.func61 rfl) fun uw hb => kB uw, hopR F9 [(13, .int .i64 (x : Int)), (16, .int .i64 (y : Int))] (v := .int .i64 ((x : Int) * y)) fun ua uw hb ⟨e13, e16, _⟩ => (y_mulI _ _ _ _ rfl e13 e16 rfl hXX), hop0 F9 (by kernel_rfl), hopR F9 [(17, .int .i64 ((x : Int) * y)), (18, .int .i64 pz)] (v := .int .i64 (z : Int)) fun ua uw hb ⟨e17, e18, _⟩ => (y_remI _ _ _ _ rfl e17 e18 (Int.mul_nonneg (Int.natCast_nonneg x) (Int.natCast_nonneg y)) hpz0 eZ), hopC F9 [(19, .int .i64 (z : Int))] rfl (zE Tryz.func63 rfl) fun uw hb => kF uw, trivial⟩ ?_
 intro p12 a12 w12 b12 G12 y12
 obtain ⟨-, -, -, -, -, -, -, -, -, q9, -⟩ := y12
 have r9 : p12 9 = numV z := q9 (by decide)
 simp only [List.take, layV, Nat.zero_add, Nat.reduceAdd, r9] at G12
 have M12 := M8.kc b12
 clear F9 M8 r9 q9
 refine zr (zc rfl) rfl G12 M12 (k := 3) rfl _ _ _ rfl (G12.get (t := 6) rfl) (G12.get (t := 20) rfl) (numA z) _ rfl (zL rfl) (zcc _) (zo rfl) zd ?_
 intro w13 M13
 refine hK10 _ _ (wp_ret ?_)
 try simp only [Exit.then, Exit.inBlock, Exit.jump]
 exact bodyPost_ret (results_cell_row rfl _ _ _ _ _ (0, 0) _ (G12.get (t := 6) rfl) (M13.blk (k := 3) rfl) Tryz.underlying27 rfl zd) G12.defers ⟨rfl, M13.below⟩
theorem zqc (k : Int) (P Q g : Nat) (h1 : 1 < P) (hP : P < 2147483648) (a e : Nat) (ha : a < 4294967296 ^ 8) (he : e < 4294967296 ^ 8) (w : World) :
  Calls Tryz.prog 27 #[.agg (zg k P Q g), numV a, numV e] w fun e' w' => e' = .returned (numV (a ^ e % P)) ∧ Below w.heap.size w w' := by
 obtain ⟨K, hT0, hT1, hT2⟩ := top_ends he
 obtain ⟨pz, hpz⟩ : ∃ z : Int, (P : Int) = z := ⟨_, rfl⟩
 have kS := fun w => rsmall_any P (by omega) w
 have kL := fun w => rleft_any a P ha (by omega) (by omega) w
 have kB := fun w => rbits_any e he w
 rw [hT0] at kB
 rw [hpz] at kS kL
 obtain ⟨y, hy⟩ : ∃ y, a % P = y := ⟨_, rfl⟩
 rw [hy] at kL
 have hyl : y < P := by rw [← hy]; exact Nat.mod_lt _ (by omega)
 have hp0 := pr_first (m := P) (a := a) h1 hT2
 have hlast := pr_last P a e
 have kF := fun (x : Nat) (hx : x < P) w => from_ref (x : Int) (by omega) (by omega) w
 have hXX : ∀ X Y : Nat, X < P → Y < P → -9223372036854775808 ≤ (X : Int) * Y ∧ (X : Int) * Y < 9223372036854775808 := fun X Y hX hY => by
  have h1 : X * Y ≤ 2147483648 * 2147483648 := Nat.mul_le_mul (by omega) (by omega)
  have h2 : (X : Int) * Y = ((X * Y : Nat) : Int) := by simp
  rw [h2]; omega
 refine zea (args := [.agg (zg k P Q g), numV a, numV e]) 46 Tryz.func27 rfl rfl rfl ?_
 intro fa F
 have M := Mx.start w
 refine zT fun _ hK1 => zh (zc rfl) rfl F rfl M 0 (t := 29) (c := zg k P Q g) (by unfold execOp; simp only [(F.get (t := 0) rfl)]; kernel_rfl) ?_
 intro g2 a2 w2 F2 M2
 refine zh (zc rfl) rfl F2 rfl M2 1 (t := 27) (c := numA a) (by unfold execOp; simp only [(F2.get (t := 1) rfl)]; kernel_rfl) ?_
 intro g3 a3 w3 F3 M3
 refine zh (zc rfl) rfl F3 rfl M3 2 (t := 27) (c := numA e) (by unfold execOp; simp only [(F3.get (t := 2) rfl)]; kernel_rfl) ?_
 intro g4 a4 w4 F4 M4
 refine zh (zc rfl) rfl F4 rfl M4 3 (t := 27) (c := numA 0) (zu rfl) ?_
 intro g5 a5 w5 F5 M5
 refine hK1 _ _ (zT fun _ hK6 => zAx 2 [(11, .pointer (some ⟨g2, 1, none⟩)), (12, numV P)] [0] (zp (M5.blk (k := 0) rfl) dnil) [g2] F5 fun _ F7 => ?_)
 refine zaa (zc rfl) rfl F7 rfl rfl (zE Tryz.func60 rfl) #[numV P] (zwa (F7.get (t := 12) rfl)) (zca (kS w5)) ?_
 rintro _ w8 a8 ⟨rfl, b8⟩ F8
 have M8 := M5.step b8
 refine rm rfl F8 fun _ F9 => hK6 _ _ (zT fun _ hK10 => zj (w' := w8) (zc rfl) rfl F9 rfl (numV a) (zxa _ _ rfl (F9.get (t := 4) rfl) (M8.blk (k := 1) rfl) (numA a) (z1a rfl) Tryz.underlying27 rfl zd) fun _ F11 => ?_)
 refine rm rfl F11 fun _ F12 => zaa (zc rfl) rfl F12 rfl rfl (zE Tryz.func61 rfl) #[numV a, .int .i64 pz] (z3a (F12.get (t := 14) rfl) (F12.get (t := 15) rfl)) (zca (kL w8)) ?_
 rintro _ w13 a13 ⟨rfl, b13⟩ F13
 have M13 := M8.step b13
 refine rm rfl F13 fun _ F14 => rm rfl F14 fun _ F15 => hK10 _ _ (zSk fun _ hK16 => zT fun _ hK17 => zj (w' := w13) (zc rfl) rfl F15 rfl (numV e) (zxa _ _ rfl (F15.get (t := 5) rfl) (M13.blk (k := 2) rfl) (numA e) (z1a rfl) Tryz.underlying27 rfl zd) fun _ F18 => ?_)
 refine zaa (zc rfl) rfl F18 rfl rfl (zE Tryz.func62 rfl) #[numV e] (zwa (F18.get (t := 17) rfl)) (zca (kB w13)) ?_
 rintro _ w19 a19 ⟨rfl, b19⟩ F19
 have M19 := M13.step b19
 refine zj (w' := w19) (zc rfl) rfl F19 rfl (.int .i64 ((K : Int) - 1)) (y_subI _ _ _ _ rfl (F19.get (t := 18) rfl) rfl rfl (by omega)) fun _ F20 => ?_
 refine rm rfl F20 fun _ F21 => hK17 _ _ (wp_block ?_)
 refine loop_fx (α := Nat) (n := 46) (G := none) (w0 := w) (fun x => [(0, .agg (zg k P Q g)), (1, numV a), (2, numV e), (3, .pointer (some ⟨g2, 0, none⟩)), (4, .pointer (some ⟨g3, 0, none⟩)), (5, .pointer (some ⟨g4, 0, none⟩)), (6, .pointer (some ⟨g5, 0, none⟩)), (11, .pointer (some ⟨g2, 1, none⟩)), (12, numV P), (13, .int .i64 pz), (7, .int .i64 pz), (14, numV a), (15, .int .i64 pz), (16, .int .i64 (y : Int)), (9, .int .i64 (y : Int)), (17, numV e), (18, .int .i64 (K : Int)), (19, .int .i64 ((K : Int) - 1)), (8, .int .i64 ((prN P a e x : Nat) : Int)), (10, .int .i64 ((x : Int) - 1))]) (fun x => [(0, blkR g2 29 (zg k P Q g)), (1, blkR g3 27 (numA a)), (2, blkR g4 27 (numA e)), (3, blkR g5 27 (numA 0))]) (fun k x => k = x ∧ (x ≤ 256)) _ K ⟨rfl, hT1⟩ (F21.sub ⟨rfl, rfl, rfl, rfl, rfl, rfl, rfl, rfl, rfl, rfl, rfl, rfl, rfl, rfl, rfl, rfl, rfl, rfl, (by rw [hp0]; rfl), rfl, trivial⟩) (M19.sub ⟨rfl, rfl, rfl, rfl, trivial⟩) ?_
 rintro k22 jn a22 w22 K22 ⟨ek22, I22⟩ F22 M22 hK22
 replace F22 : Fx 46 a22 [(0, .agg (zg k P Q g)), (1, numV a), (2, numV e), (3, .pointer (some ⟨g2, 0, none⟩)), (4, .pointer (some ⟨g3, 0, none⟩)), (5, .pointer (some ⟨g4, 0, none⟩)), (6, .pointer (some ⟨g5, 0, none⟩)), (11, .pointer (some ⟨g2, 1, none⟩)), (12, numV P), (13, .int .i64 pz), (7, .int .i64 pz), (14, numV a), (15, .int .i64 pz), (16, .int .i64 (y : Int)), (9, .int .i64 (y : Int)), (17, numV e), (18, .int .i64 (K : Int)), (19, .int .i64 ((K : Int) - 1)), (8, .int .i64 ((prN P a e jn : Nat) : Int)), (10, .int .i64 ((jn : Int) - 1))] := F22
 replace M22 : Mx _ _ w22 [(0, blkR g2 29 (zg k P Q g)), (1, blkR g3 27 (numA a)), (2, blkR g4 27 (numA e)), (3, blkR g5 27 (numA 0))] := M22
 replace I22 : jn ≤ 256 := I22
 replace ek22 : k22 = jn := ek22
 rcases jn with _ | j
 ·obtain ⟨X0, hX⟩ : ∃ X, prN P a e 0 = X := ⟨_, rfl⟩
  rw [hX] at F22
  have hX0 : X0 < P := by rw [← hX]; exact pr_lt (by omega) _ _ _
  have hres : X0 = a ^ e % P := by rw [← hX]; exact hlast
  rw [show (((0 : Nat) : Int) - 1) = -1 from rfl] at F22
  refine zSk fun _ hK23 => zT fun _ hK24 => zAx 2 [(20, .int .i64 (-1)), (21, .bool false)] [] dnil [] F22 fun _ F25 => ?_
  refine hK24 _ _ (wp_cond_false (F25.get (t := 21) rfl) (wp_exit ?_))
  simp only [Exit.then, Exit.inBlock, ↓reduceIte, Nat.reduceEqDiff]
  refine hK16 _ _ (zT fun _ hK26 => rm rfl F25 fun _ F27 => zaa (zc rfl) rfl F27 rfl rfl (zE Tryz.func63 rfl) #[.int .i64 (X0 : Int)] (zwa (F27.get (t := 44) rfl)) (zca (kF X0 hX0 w22)) ?_)
  rintro _ w28 a28 ⟨rfl, b28⟩ F28
  have M28 := M22.step b28
  refine zr (zc rfl) rfl F28 M28 (k := 3) rfl _ _ _ rfl (F28.get (t := 6) rfl) (F28.get (t := 45) rfl) (numA X0) _ rfl (zL rfl) (zcc _) (zo rfl) zd ?_
  intro w29 M29
  refine hK26 _ _ (wp_ret ?_)
  try simp only [Exit.then, Exit.inBlock, Exit.jump]
  exact bodyPost_ret (results_cell_row rfl _ _ _ _ _ (0, 0) _ (F28.get rfl) (M29.blk (k := 3) rfl) Tryz.underlying27 rfl zd) F28.defers ⟨by rw [hres], M29.below⟩
 ·obtain ⟨Y, e1, hway⟩ := pr_step P a e j
  have hXm := pr_lt (show 0 < P by omega) a e (j + 1)
  obtain ⟨X, hX⟩ : ∃ X, prN P a e (j + 1) = X := ⟨_, rfl⟩
  rw [hX] at F22 e1 hXm
  have hYm : Y < P := by rw [← e1]; exact Nat.mod_lt _ (by omega)
  rw [show ((j + 1 : Nat) : Int) - 1 = (j : Int) by omega] at F22
  have eY : ((X : Int) * X) % pz = (Y : Int) := by rw [← hpz, ← e1]; simp
  have hbit := bit_dig e j
  have hjl : j < 256 := by omega
  rcases hway with ⟨hb, hY2⟩ | ⟨hb, hY2⟩
  ·rw [hb] at hbit
   refine zSk fun _ hK30 => zT fun _ hK31 => rm rfl F22 fun _ F32 => zj (w' := w22) (zc rfl) rfl F32 rfl (.bool true) (y_geq _ _ _ _ rfl (F32.get (t := 20) rfl) rfl (decide_eq_true (Int.natCast_nonneg j))) fun _ F33 => ?_
   refine hK31 _ _ (wp_cond_true (F33.get (t := 21) rfl) (wp_skip (hK30 _ _ (zSk fun _ hK34 => wp_block (zT fun _ hK35 => rm rfl F33 fun _ F36 => rm rfl F36 fun _ F37 => zj (w' := w22) (zc rfl) rfl F37 rfl (.int .i64 ((X : Int) * X)) (y_mulI _ _ _ _ rfl (F37.get (t := 24) rfl) (F37.get (t := 25) rfl) rfl (hXX X X hXm hXm)) fun _ F38 => ?_)))))
   refine rm rfl F38 fun _ F39 => zj (w' := w22) (zc rfl) rfl F39 rfl (.int .i64 (Y : Int)) (y_remI _ _ _ _ rfl (F39.get (t := 26) rfl) (F39.get (t := 27) rfl) (Int.mul_nonneg (Int.natCast_nonneg X) (Int.natCast_nonneg X)) (by omega) eY) fun _ F40 => ?_
   refine rm rfl F40 fun _ F41 => hK35 _ _ (zT fun _ hK42 => rm rfl F41 fun _ F43 => zj (w' := w22) (zc rfl) rfl F43 rfl (.int .i64 ((j / 32 : Nat) : Int)) (y_quoI _ _ _ _ rfl (F43.get (t := 29) rfl) rfl (by omega) (by omega) (by omega)) fun _ F44 => ?_)
   refine zj (w' := w22) (zc rfl) rfl F44 rfl (.pointer (some ⟨g4, (j / 32), none⟩)) (y_ixA (N := 8) _ _ 27 (by kernel_rfl) (by kernel_rfl) (by kernel_rfl) rfl (F44.get (t := 5) rfl) (F44.get (t := 30) rfl) rfl (by omega) (Nat.zero_add _)) fun _ F45 => ?_
   refine zj (w' := w22) (zc rfl) rfl F45 rfl (.int .u32 (digI e (j / 32))) (zkb _ _ rfl (F45.get (t := 31) rfl) (M22.blk (k := 2) rfl) (numA_get e (k := j / 32) (by omega)) Tryz.underlying25 rfl) fun _ F46 => ?_
   refine rm rfl F46 fun _ F47 => zj (w' := w22) (zc rfl) rfl F47 rfl (.int .i64 ((j % 32 : Nat) : Int)) (y_remI _ _ _ _ rfl (F47.get (t := 33) rfl) rfl (by omega) (by omega) (by omega)) fun _ F48 => ?_
   refine zj (w' := w22) (zc rfl) rfl F48 rfl (.int .u64 ((j % 32 : Nat) : Int)) (y_cvI _ _ _ rfl (F48.get (t := 34) rfl) Tryz.underlying3 Tryz.underlying91 (by rw [IntKind.wrap_u64]; omega)) fun _ F49 => ?_
   refine zj (w' := w22) (zc rfl) rfl F49 rfl (.int .u32 (digI e (j / 32) / 2 ^ (j % 32))) (y_shrI _ _ _ _ rfl (F49.get (t := 32) rfl) (F49.get (t := 35) rfl) (by show (0 : Int) ≤ ((j % 32 : Nat) : Int) ∧ ((j % 32 : Nat) : Int) ≤ 32; omega) rfl) fun _ F50 => ?_
   refine zj (w' := w22) (zc rfl) rfl F50 rfl (.int .u32 0) (y_andU _ _ _ _ rfl (F50.get (t := 36) rfl) rfl hbit) fun _ F51 => ?_
   refine zj (w' := w22) (zc rfl) rfl F51 rfl (.bool false) (y_gtr _ _ _ _ rfl (F51.get (t := 37) rfl) rfl (decide_eq_false (by decide))) fun _ F52 => ?_
   refine hK42 _ _ (wp_cond_false (F52.get (t := 38) rfl) (wp_skip (hK34 _ _ (zR (rm rfl F52 fun _ F53 => zj (w' := w22) (zc rfl) rfl F53 rfl (.int .i64 ((j : Int) - 1)) (y_subI _ _ _ _ rfl (F53.get (t := 22) rfl) rfl rfl (by omega)) fun _ F54 => ?_)))))
   refine rm rfl F54 fun _ F55 => ?_
   rw [hY2] at F55
   subst ek22
   exact hK22 _ j _ _ (Nat.lt_succ_self j) ⟨rfl, by omega⟩ (F55.sub ⟨rfl, rfl, rfl, rfl, rfl, rfl, rfl, rfl, rfl, rfl, rfl, rfl, rfl, rfl, rfl, rfl, rfl, rfl, rfl, rfl, trivial⟩) (M22.sub ⟨rfl, rfl, rfl, rfl, trivial⟩)
  ·rw [hb] at hbit
   rw [hy] at hY2
   have eZ : ((Y : Int) * y) % pz = ((prN P a e j : Nat) : Int) := by rw [← hpz, ← hY2]; simp
   refine zSk fun _ hK56 => zT fun _ hK57 => rm rfl F22 fun _ F58 => zj (w' := w22) (zc rfl) rfl F58 rfl (.bool true) (y_geq _ _ _ _ rfl (F58.get (t := 20) rfl) rfl (decide_eq_true (Int.natCast_nonneg j))) fun _ F59 => ?_
   refine hK57 _ _ (wp_cond_true (F59.get (t := 21) rfl) (wp_skip (hK56 _ _ (zSk fun _ hK60 => wp_block (zT fun _ hK61 => rm rfl F59 fun _ F62 => rm rfl F62 fun _ F63 => zj (w' := w22) (zc rfl) rfl F63 rfl (.int .i64 ((X : Int) * X)) (y_mulI _ _ _ _ rfl (F63.get (t := 24) rfl) (F63.get (t := 25) rfl) rfl (hXX X X hXm hXm)) fun _ F64 => ?_)))))
   refine rm rfl F64 fun _ F65 => zj (w' := w22) (zc rfl) rfl F65 rfl (.int .i64 (Y : Int)) (y_remI _ _ _ _ rfl (F65.get (t := 26) rfl) (F65.get (t := 27) rfl) (Int.mul_nonneg (Int.natCast_nonneg X) (Int.natCast_nonneg X)) (by omega) eY) fun _ F66 => ?_
   refine rm rfl F66 fun _ F67 => hK61 _ _ (zT fun _ hK68 => rm rfl F67 fun _ F69 => zj (w' := w22) (zc rfl) rfl F69 rfl (.int .i64 ((j / 32 : Nat) : Int)) (y_quoI _ _ _ _ rfl (F69.get (t := 29) rfl) rfl (by omega) (by omega) (by omega)) fun _ F70 => ?_)
   refine zj (w' := w22) (zc rfl) rfl F70 rfl (.pointer (some ⟨g4, (j / 32), none⟩)) (y_ixA (N := 8) _ _ 27 (by kernel_rfl) (by kernel_rfl) (by kernel_rfl) rfl (F70.get (t := 5) rfl) (F70.get (t := 30) rfl) rfl (by omega) (Nat.zero_add _)) fun _ F71 => ?_
   refine zj (w' := w22) (zc rfl) rfl F71 rfl (.int .u32 (digI e (j / 32))) (zkb _ _ rfl (F71.get (t := 31) rfl) (M22.blk (k := 2) rfl) (numA_get e (k := j / 32) (by omega)) Tryz.underlying25 rfl) fun _ F72 => ?_
   refine rm rfl F72 fun _ F73 => zj (w' := w22) (zc rfl) rfl F73 rfl (.int .i64 ((j % 32 : Nat) : Int)) (y_remI _ _ _ _ rfl (F73.get (t := 33) rfl) rfl (by omega) (by omega) (by omega)) fun _ F74 => ?_
   refine zj (w' := w22) (zc rfl) rfl F74 rfl (.int .u64 ((j % 32 : Nat) : Int)) (y_cvI _ _ _ rfl (F74.get (t := 34) rfl) Tryz.underlying3 Tryz.underlying91 (by rw [IntKind.wrap_u64]; omega)) fun _ F75 => ?_
   refine zj (w' := w22) (zc rfl) rfl F75 rfl (.int .u32 (digI e (j / 32) / 2 ^ (j % 32))) (y_shrI _ _ _ _ rfl (F75.get (t := 32) rfl) (F75.get (t := 35) rfl) (by show (0 : Int) ≤ ((j % 32 : Nat) : Int) ∧ ((j % 32 : Nat) : Int) ≤ 32; omega) rfl) fun _ F76 => ?_
   refine zj (w' := w22) (zc rfl) rfl F76 rfl (.int .u32 1) (y_andU _ _ _ _ rfl (F76.get (t := 36) rfl) rfl hbit) fun _ F77 => ?_
   refine zj (w' := w22) (zc rfl) rfl F77 rfl (.bool true) (y_gtr _ _ _ _ rfl (F77.get (t := 37) rfl) rfl (decide_eq_true (by decide))) fun _ F78 => ?_
   refine hK68 _ _ (wp_cond_true (F78.get (t := 38) rfl) (zR (rm rfl F78 fun _ F79 => rm rfl F79 fun _ F80 => zj (w' := w22) (zc rfl) rfl F80 rfl (.int .i64 ((Y : Int) * y)) (y_mulI _ _ _ _ rfl (F80.get (t := 39) rfl) (F80.get (t := 40) rfl) rfl (hXX Y y hYm hyl)) fun _ F81 => ?_)))
   refine rm rfl F81 fun _ F82 => zj (w' := w22) (zc rfl) rfl F82 rfl (.int .i64 ((prN P a e j : Nat) : Int)) (y_remI _ _ _ _ rfl (F82.get (t := 41) rfl) (F82.get (t := 42) rfl) (Int.mul_nonneg (Int.natCast_nonneg Y) (Int.natCast_nonneg y)) (by omega) eZ) fun _ F83 => ?_
   refine rm rfl F83 fun _ F84 => hK60 _ _ (zR (rm rfl F84 fun _ F85 => zj (w' := w22) (zc rfl) rfl F85 rfl (.int .i64 ((j : Int) - 1)) (y_subI _ _ _ _ rfl (F85.get (t := 22) rfl) rfl rfl (by omega)) fun _ F86 => ?_))
   refine rm rfl F86 fun _ F87 => ?_
   subst ek22
   exact hK22 _ j _ _ (Nat.lt_succ_self j) ⟨rfl, by omega⟩ (F87.sub ⟨rfl, rfl, rfl, rfl, rfl, rfl, rfl, rfl, rfl, rfl, rfl, rfl, rfl, rfl, rfl, rfl, rfl, rfl, rfl, rfl, trivial⟩) (M22.sub ⟨rfl, rfl, rfl, rfl, trivial⟩)
def chkT (k p D E : Nat) : Bool := primeF p D && (primeF (p / 2) D && (List.range (2 ^ k - 1 - p)).all fun j => compF (2 ^ k - 1 - j) E || compF ((2 ^ k - 1 - j) / 2) E)
theorem tab_of {k p D E : Nat} (hk : k ≤ 31) (h4 : 4 ≤ p) (hp : p < 2 ^ k) (hD : p < (D + 1) * (D + 1)) (hE : E * E ≤ p / 2) (h : chkT k p D E = true) : safeB (p : Int) = true ∧ ∀ x : Int, (p : Int) < x → x < 2 ^ k → safeB x = false := by
 unfold chkT at h
 simp only [Bool.and_eq_true, List.all_eq_true, Bool.or_eq_true] at h
 obtain ⟨h1, h2, h3⟩ := h
 have hl : 2 ^ k ≤ 2 ^ 31 := Nat.pow_le_pow_right (by decide) hk
 generalize hM : 2 ^ k = M at *
 have hM2 : M ≤ 2147483648 := hl
 have hE2 : E * E ≤ p := Nat.le_trans hE (Nat.div_le_self _ _)
 constructor
 ·unfold safeB
  rw [primeF_yes (by omega) (by omega) hD h1, show ((p : Nat) : Int) / 2 = ((p / 2 : Nat) : Int) by omega, primeF_yes (by omega) (by omega) (by omega) h2]
  rfl
 ·intro x x0 x1
  obtain ⟨y, rfl⟩ := Int.eq_ofNat_of_zero_le (show 0 ≤ x by omega)
  have e : ((2 : Int) ^ k) = ((M : Nat) : Int) := by rw [← hM]; simp
  rw [e] at x1
  have h4 := h3 (M - 1 - y) (List.mem_range.2 (by omega))
  rw [show M - 1 - (M - 1 - y) = y by omega] at h4
  unfold safeB
  rcases h4 with h4 | h4
  ·rw [compF_no (by omega) h4]; simp
  ·rw [show ((y : Nat) : Int) / 2 = ((y / 2 : Nat) : Int) by omega, compF_no (Nat.le_trans hE (Nat.div_le_div_right (by omega))) h4]; rfl
theorem tab12 : chkT 12 4079 63 45 = true := by decide +kernel
end Go.Proofs.YtcfepoopkfhojaaGreat
namespace Go.Proofs.YtcfepoopkfhojaaGreat
open Go.ChangeShapes Go.WideShapes Go.ChangeAt Go.RowKit
theorem tab13 : chkT 13 8147 90 63 = true := by decide +kernel
theorem tab14 : chkT 14 16223 127 90 = true := by decide +kernel
theorem tab15 : chkT 15 32603 180 127 = true := by decide +kernel
theorem tab16 : chkT 16 65267 255 180 = true := by decide +kernel
theorem tab17 : chkT 17 130787 361 255 = true := by decide +kernel
theorem tab18 : chkT 18 262127 511 362 = true := by decide +kernel
theorem tab19 : chkT 19 524243 724 511 = true := by decide +kernel
theorem tab20 : chkT 20 1048343 1023 723 = true := by decide +kernel
theorem tab21 : chkT 21 2097143 1448 1023 = true := by decide +kernel
theorem tab22 : chkT 22 4194287 2047 1448 = true := by decide +kernel
theorem tab23 : chkT 23 8388287 2896 2047 = true := by decide +kernel
theorem tab24 : chkT 24 16776899 4095 2896 = true := by decide +kernel
theorem tab25 : chkT 25 33553799 5792 4095 = true := by decide +kernel
theorem tab26 : chkT 26 67108187 8191 5792 = true := by decide +kernel
theorem tab27 : chkT 27 134217323 11585 8191 = true := by decide +kernel
theorem tabs {k : Nat} (h0 : 12 ≤ k) (h1 : k ≤ 27) : ∃ p : Nat, 4 ≤ p ∧ p % 2 = 1 ∧ p < 2 ^ k ∧ safeB (p : Int) = true ∧ ∀ x : Int, (p : Int) < x → x < 2 ^ k → safeB x = false := by
 have : k = 12 ∨ k = 13 ∨ k = 14 ∨ k = 15 ∨ k = 16 ∨ k = 17 ∨ k = 18 ∨ k = 19 ∨ k = 20 ∨ k = 21 ∨ k = 22 ∨ k = 23 ∨ k = 24 ∨ k = 25 ∨ k = 26 ∨ k = 27 := by omega
 rcases this with rfl | rfl | rfl | rfl | rfl | rfl | rfl | rfl | rfl | rfl | rfl | rfl | rfl | rfl | rfl | rfl
 ·exact ⟨4079, by decide, by decide, by decide, tab_of (D := 63) (E := 45) (by decide) (by decide) (by decide) (by decide) (by decide) tab12⟩
 ·exact ⟨8147, by decide, by decide, by decide, tab_of (D := 90) (E := 63) (by decide) (by decide) (by decide) (by decide) (by decide) tab13⟩
 ·exact ⟨16223, by decide, by decide, by decide, tab_of (D := 127) (E := 90) (by decide) (by decide) (by decide) (by decide) (by decide) tab14⟩
 ·exact ⟨32603, by decide, by decide, by decide, tab_of (D := 180) (E := 127) (by decide) (by decide) (by decide) (by decide) (by decide) tab15⟩
 ·exact ⟨65267, by decide, by decide, by decide, tab_of (D := 255) (E := 180) (by decide) (by decide) (by decide) (by decide) (by decide) tab16⟩
 ·exact ⟨130787, by decide, by decide, by decide, tab_of (D := 361) (E := 255) (by decide) (by decide) (by decide) (by decide) (by decide) tab17⟩
 ·exact ⟨262127, by decide, by decide, by decide, tab_of (D := 511) (E := 362) (by decide) (by decide) (by decide) (by decide) (by decide) tab18⟩
 ·exact ⟨524243, by decide, by decide, by decide, tab_of (D := 724) (E := 511) (by decide) (by decide) (by decide) (by decide) (by decide) tab19⟩
 ·exact ⟨1048343, by decide, by decide, by decide, tab_of (D := 1023) (E := 723) (by decide) (by decide) (by decide) (by decide) (by decide) tab20⟩
 ·exact ⟨2097143, by decide, by decide, by decide, tab_of (D := 1448) (E := 1023) (by decide) (by decide) (by decide) (by decide) (by decide) tab21⟩
 ·exact ⟨4194287, by decide, by decide, by decide, tab_of (D := 2047) (E := 1448) (by decide) (by decide) (by decide) (by decide) (by decide) tab22⟩
 ·exact ⟨8388287, by decide, by decide, by decide, tab_of (D := 2896) (E := 2047) (by decide) (by decide) (by decide) (by decide) (by decide) tab23⟩
 ·exact ⟨16776899, by decide, by decide, by decide, tab_of (D := 4095) (E := 2896) (by decide) (by decide) (by decide) (by decide) (by decide) tab24⟩
 ·exact ⟨33553799, by decide, by decide, by decide, tab_of (D := 5792) (E := 4095) (by decide) (by decide) (by decide) (by decide) (by decide) tab25⟩
 ·exact ⟨67108187, by decide, by decide, by decide, tab_of (D := 8191) (E := 5792) (by decide) (by decide) (by decide) (by decide) (by decide) tab26⟩
 ·exact ⟨134217323, by decide, by decide, by decide, tab_of (D := 11585) (E := 8191) (by decide) (by decide) (by decide) (by decide) (by decide) tab27⟩
end Go.Proofs.YtcfepoopkfhojaaGreat
namespace Go.Proofs.YtcfepoopkfhojaaGreat
open Go.ChangeShapes Go.WideShapes Go.ChangeAt Go.RowKit
def RmR (k p : Int) (V : Value) : Prop := ((12 ≤ k ∧ k ≤ 31) ∧ V = .tuple #[.agg (zg k p.toNat (p / 2).toNat 4), .bool true]) ∨ (¬ (12 ≤ k ∧ k ≤ 31) ∧ V = .tuple #[.agg (zg 0 0 0 0), .bool false])
theorem pow_even {k : Int} (h : 12 ≤ k ∧ k ≤ 31) : (2 : Int) ^ k.toNat % 2 = 0 := by
 obtain ⟨K, hK⟩ : ∃ K, k.toNat = K + 1 := ⟨k.toNat - 1, by omega⟩
 rw [hK, Int.pow_succ]
 omega
theorem rgmake_any (k p : Int) (h0 : -9223372036854775808 ≤ k) (h1 : k < 9223372036854775808) (hp : 12 ≤ k ∧ k ≤ 31 → p % 2 = 1 ∧ 3 ≤ p ∧ p < 2 ^ k.toNat ∧ safeB p = true ∧ ∀ x, p < x → x < 2 ^ k.toNat → safeB x = false) (w : World) :
  Calls Tryz.prog 31 #[.int .i64 k] w fun e w' => ∃ V, e = .returned V ∧ RmR k p V ∧ Below w.heap.size w w' := by
 skip
 go_enter Tryz.func31, Tryz.ntmps31
 go_upto_region 1 with fail
 obtain ⟨W, hW⟩ : ∃ W, W = w.alloc (.cells #[Value.int .i64 0, .int .u32 0, .int .u32 0, .int .u32 0, .int .u32 0, .int .u32 0, .int .u32 0, .int .u32 0, .int .u32 0, .int .u32 0, .int .u32 0, .int .u32 0, .int .u32 0, .int .u32 0, .int .u32 0, .int .u32 0, .int .u32 0, .int .u32 0, .int .u32 0, .int .u32 0, .int .u32 0, .int .u32 0, .int .u32 0, .int .u32 0, .int .u32 0] 29) := ⟨_, rfl⟩
 have q_g : Blk W (w.heap.size) 29 #[Value.int .i64 0, .int .u32 0, .int .u32 0, .int .u32 0, .int .u32 0, .int .u32 0, .int .u32 0, .int .u32 0, .int .u32 0, .int .u32 0, .int .u32 0, .int .u32 0, .int .u32 0, .int .u32 0, .int .u32 0, .int .u32 0, .int .u32 0, .int .u32 0, .int .u32 0, .int .u32 0, .int .u32 0, .int .u32 0, .int .u32 0, .int .u32 0, .int .u32 0] := by
  have := (Blk.new w 29 (zg 0 0 0 0))
  rw [zxb] at this
  rw [hW]; exact this
 have gb : Below w.heap.size w W := by rw [hW]; exact ((Below.refl _ _).alloc (by simp <;> omega) _)
 rw [← hW]
 clear hW
 have log := hid (show w.heap.size ≤ w.heap.size by omega)
 by_cases hr : 12 ≤ k ∧ k ≤ 31
 ·have hr0 := hid hr
  obtain ⟨hpo, hp3, hpB, hps, hpn⟩ := hp hr
  obtain ⟨B, hB⟩ : ∃ B : Int, 2 ^ k.toNat = B := ⟨_, rfl⟩
  obtain ⟨b0, b1⟩ : 0 ≤ B ∧ B ≤ 2147483648 := by rw [← hB]; exact pow_k hr
  have hBe : B % 2 = 0 := by rw [← hB]; exact pow_even hr
  rw [hB] at hpB hpn
  have HN := hid hpn
  have HS := hid hps
  clear hps hpn hp
  obtain ⟨hk0, hk1⟩ := hr
  go_wp2_with fail
  go_loopw [4] (fun x wr => ∃ X : Int, p ≤ X ∧ X < B ∧ X % 2 = 1 ∧ x = .int .i64 X ∧ W = wr) (fun x _ => (intOf x).toNat)
  case atStart => exact ⟨B - 1, by omega, by omega, by omega, rfl, rfl⟩
  case round =>
   obtain ⟨X, x0, x1, x2, rfl, rfl⟩ := hrel
   clear hB
   obtain ⟨H, hH⟩ : ∃ H, X / 2 = H := ⟨_, rfl⟩
   have ht : (X - 1).tdiv 2 = H := by rw [Int.tdiv_eq_ediv_of_nonneg (by omega)]; omega
   obtain ⟨u0, u1⟩ : 0 ≤ H ∧ H < 2147483648 := by omega
   have k1 := fun w => rprime_any X (by omega) (by omega) w
   have k2 := fun w => rprime_any H (by omega) (by omega) w
   obtain ⟨c, hc⟩ : ∃ b, primeB X = b := ⟨_, rfl⟩
   obtain ⟨e, he⟩ : ∃ b, primeB H = b := ⟨_, rfl⟩
   have hse : safeB X = (e && c) := by unfold safeB; rw [hH, hc, he]
   rw [hc] at k1
   rw [he] at k2
   have HX := hid hH
   clear hc he hH
   by_cases hXp : X = p
   ·subst hXp
    have hce : c = true ∧ e = true := by
     have := HS.out
     rw [hse] at this
     simpa [and_comm] using this
    obtain ⟨rfl, rfl⟩ := hce
    clear hse HN HS
    go_wp2_with fail
    refine (k1 _).mono ?_
    rintro e w1 ⟨rfl, rfl⟩
    go_wp2_with fail
    refine (k2 _).mono ?_
    rintro e w1 ⟨rfl, rfl⟩
    go_wp2_with fail
    refine (from_ref X (by omega) (by omega) _).mono ?_
    rintro e w4 ⟨rfl, bw4⟩
    have g4 := q_g.step bw4
    have c4 := zt gb bw4
    go_wp2_with fail
    refine (from_ref H (by omega) (by omega) _).mono ?_
    rintro e w5 ⟨rfl, bw5⟩
    have g5 := g4.step bw5
    have c5 := zt c4 bw5
    go_wp2_with fail
    refine (from_ref 4 (by omega) (by omega) _).mono ?_
    rintro e w6 ⟨rfl, bw6⟩
    have g6 := g5.step bw6
    have c6 := zt c5 bw6
    clear q_g gb bw4 g4 c4 bw5 g5 c5 bw6
    go_wp2_with (first | (refine wpList_op rfl _ (run_buildG (k := k) (p := X.toNat) (q := H.toNat) (g := 4) _ _ _ _ rfl rfl rfl rfl rfl) ?_) | (refine zx rfl _ (.tmp 2) _ rfl _ rfl (zg k X.toNat H.toNat 4) rfl (z3b _ _ _ _) _ g6 rfl zdc ?_; intro wz gz mz))
    exact bodyPost_ret (z9b rfl rfl mz Tryz.underlying29 rfl zdc) rfl ⟨.tuple #[.agg (zg k X.toNat H.toNat 4), .bool true], rfl, .inl ⟨hr0.out, by rw [HX.out]⟩, zf c6 gz c6.size (by omega)⟩
   ·have hce : c = false ∨ (c = true ∧ e = false) := by
     have := HN.out X (by omega) x1
     rw [hse] at this
     cases c <;> cases e <;> simp_all
    clear hse
    rcases hce with rfl | ⟨rfl, rfl⟩
    ·go_wp2_with fail
     refine (k1 _).mono ?_
     rintro e w1 ⟨rfl, rfl⟩
     go_wp2_with fail
     go_roundw
     case rel => exact ⟨X - 2, by omega, by omega, by omega, by go_num, (by first | rfl | trivial)⟩
     case measure => simp [intOf] <;> omega
    ·go_wp2_with fail
     refine (k1 _).mono ?_
     rintro e w1 ⟨rfl, rfl⟩
     go_wp2_with fail
     refine (k2 _).mono ?_
     rintro e w1 ⟨rfl, rfl⟩
     go_wp2_with fail
     go_roundw
     case rel => exact ⟨X - 2, by omega, by omega, by omega, by go_num, (by first | rfl | trivial)⟩
     case measure => simp [intOf] <;> omega
 ·have hr0 := hid hr
  have hway : k < 12 ∨ (¬ k < 12 ∧ 31 < k) := by omega
  rcases hway with hk | ⟨hk, hk2⟩
  ·go_wp2_with (refine zx rfl _ (.tmp 2) _ rfl _ rfl (#[Value.int .i64 0, .int .u32 0, .int .u32 0, .int .u32 0, .int .u32 0, .int .u32 0, .int .u32 0, .int .u32 0, .int .u32 0, .int .u32 0, .int .u32 0, .int .u32 0, .int .u32 0, .int .u32 0, .int .u32 0, .int .u32 0, .int .u32 0, .int .u32 0, .int .u32 0, .int .u32 0, .int .u32 0, .int .u32 0, .int .u32 0, .int .u32 0, .int .u32 0]) rfl zG_cells _ q_g rfl zdc ?_; intro wz gz mz)
   rw [← zxb] at mz
   exact bodyPost_ret (z9b rfl rfl mz Tryz.underlying29 rfl zdc) rfl ⟨.tuple #[.agg (zg 0 0 0 0), .bool false], rfl, .inr ⟨hr0.out, rfl⟩, zf gb gz gb.size (by omega)⟩
  ·have hkd : decide (k < 12) = false := decide_eq_false hk
   go_wp2_with (refine zx rfl _ (.tmp 2) _ rfl _ rfl (#[Value.int .i64 0, .int .u32 0, .int .u32 0, .int .u32 0, .int .u32 0, .int .u32 0, .int .u32 0, .int .u32 0, .int .u32 0, .int .u32 0, .int .u32 0, .int .u32 0, .int .u32 0, .int .u32 0, .int .u32 0, .int .u32 0, .int .u32 0, .int .u32 0, .int .u32 0, .int .u32 0, .int .u32 0, .int .u32 0, .int .u32 0, .int .u32 0, .int .u32 0]) rfl zG_cells _ q_g rfl zdc ?_; intro wz gz mz)
   rw [← zxb] at mz
   exact bodyPost_ret (z9b rfl rfl mz Tryz.underlying29 rfl zdc) rfl ⟨.tuple #[.agg (zg 0 0 0 0), .bool false], rfl, .inr ⟨hr0.out, rfl⟩, zf gb gz gb.size (by omega)⟩
end Go.Proofs.YtcfepoopkfhojaaGreat
namespace Go.Proofs.YtcfepoopkfhojaaGreat
open Go.ChangeShapes Go.WideShapes Go.ChangeAt Go.RowKit
theorem gwithin_any (a n : Int) (hn : 0 < n) (hn' : n < 9223372036854775808) (ha : -9223372036854775808 ≤ a) (ha' : a < 9223372036854775808) (w : World) :
  Calls Tryz.prog 32 #[.int .i64 a, .int .i64 n] w fun e w' => e = .returned (.int .i64 (a % n)) ∧ w = w' := by
 obtain ⟨h1, h2, h3, h4⟩ := tmod_case a n hn
 have hz : (n == 0) = false := by simp; omega
 by_cases h : a.tmod n < 0
 ·have H := hid (h2 h)
  clear h1 h2
  go_enter Tryz.func32, Tryz.ntmps32
  go_wp2
  go_ret
  exact ⟨congrArg (fun x => Ending.returned (.int .i64 x)) H.out, rfl⟩
 ·have H := hid (h1 (by omega))
  clear h1 h2
  go_enter Tryz.func32, Tryz.ntmps32
  go_wp2
  go_ret
  exact ⟨congrArg (fun x => Ending.returned (.int .i64 x)) H.out, rfl⟩
end Go.Proofs.YtcfepoopkfhojaaGreat
namespace Go.Proofs.YtcfepoopkfhojaaGreat
open Go.ChangeShapes Go.WideShapes Go.ChangeAt Go.RowKit
theorem rhas_pack {k : Int} {a P Q g : Nat} (h1 : 1 < P) (hP : P < 2147483648) (ha : a < 4294967296 ^ 8) (hQ : Q < 4294967296 ^ 8) : ∃ (V : Nat) (d e : Int), zic 55 #[numV a, numV 1] (.int .i64 d) ∧ zic 55 #[numV a, numV P] (.int .i64 e) ∧ zic 27 #[.agg (zg k P Q g), numV a, numV Q] (numV V) ∧
  ((¬ 0 < d ∧ hasB a P Q = false) ∨ (0 < d ∧ ¬ e < 0 ∧ hasB a P Q = false) ∨ (0 < d ∧ e < 0 ∧ V = 1 ∧ hasB a P Q = true) ∨ (0 < d ∧ e < 0 ∧ (∀ w, (Op.equalIn 10000 27 (.agg (numA V)) (.agg (numA 1))).run Tryz.prog w = .ok false w) ∧ hasB a P Q = false)) := by
 have hp : P < 4294967296 ^ 8 := Nat.lt_trans hP (by decide)
 refine ⟨a ^ Q % P, cmpI a 1, cmpI a P, rcmp_any a 1 ha (by decide), rcmp_any a P ha hp, zqc k P Q g h1 hP a Q ha hQ, ?_⟩
 unfold hasB cmpI
 by_cases c1 : 1 < a
 ·by_cases c2 : a < P
  ·by_cases c3 : a ^ Q % P = 1
   ·exact .inr (.inr (.inl ⟨by rw [if_neg (by omega), if_pos c1]; decide, by rw [if_pos c2]; decide, c3, decide_eq_true ⟨c1, c2, c3⟩⟩))
   ·exact .inr (.inr (.inr ⟨by rw [if_neg (by omega), if_pos c1]; decide, by rw [if_pos c2]; decide, eqn_diff (Nat.lt_trans (Nat.mod_lt _ (by omega)) hp) (by decide) c3, decide_eq_false (fun h => c3 h.2.2)⟩))
  ·exact .inr (.inl ⟨by rw [if_neg (by omega), if_pos c1]; decide, by rw [if_neg c2]; split <;> decide, decide_eq_false (fun h => c2 h.2.1)⟩)
 ·exact .inl ⟨by (rw [if_neg c1]; split <;> decide), decide_eq_false (fun h => c1 h.1)⟩
theorem rhas_any (k : Int) (P Q g : Nat) (h1 : 1 < P) (hP : P < 2147483648) (a : Nat) (ha : a < 4294967296 ^ 8) (hQ : Q < 4294967296 ^ 8) (w : World) :
  Calls Tryz.prog 30 #[.agg (zg k P Q g), numV a] w fun e' w' => e' = .returned (.bool (hasB a P Q)) ∧ Below w.heap.size w w' := by
 obtain ⟨V, d, e, k1, k2, k3, hw⟩ := rhas_pack (k := k) (g := g) h1 hP ha hQ
 have kO := fun w => from_ref 1 (by decide) (by decide) w
 clear h1 hP ha hQ
 rcases hw with ⟨c1, c4⟩ | ⟨c1, c2, c4⟩ | ⟨c1, c2, rfl, c4⟩ | ⟨c1, c2, c3, c4⟩
 ·rw [c4]
  clear c4
  refine zea (args := [.agg (zg k P Q g), numV a]) 25 Tryz.func30 rfl rfl rfl ?_
  intro fa F
  have M := Mx.start w
  refine zT fun _ hK1 => zh (zc rfl) rfl F rfl M 0 (t := 29) (c := zg k P Q g) (by unfold execOp; simp only [(F.get (t := 0) rfl)]; kernel_rfl) ?_
  intro g2 a2 w2 F2 M2
  refine zh (zc rfl) rfl F2 rfl M2 1 (t := 27) (c := numA a) (by unfold execOp; simp only [(F2.get (t := 1) rfl)]; kernel_rfl) ?_
  intro g3 a3 w3 F3 M3
  refine rm rfl F3 fun _ F4 => hK1 _ _ (zSk fun _ hK5 => ?_)
  have hD6 := (zp (M3.blk (k := 1) rfl) dnil)
  refine zha F4 (SK [.inl (numV a), .inl (numV 1), .inl (.int .i64 d), .inl (.bool false), .inl (.bool false), .inl (undef), .inl (undef), .inl (undef), .inl (undef), .inl (undef), .inl (.bool false), .inl (.bool false), .inl (undef), .inl (undef), .inl (undef), .inl (undef), .inl (undef), .inl (undef), .inl (undef), .inl (.bool false), .inl (.bool false)]) 21 rfl (by kernel_rfl) ⟨hopP F4 hD6 0 (some g3) (by kernel_rfl), ?_, hopC F4 [(5, numV a), (6, numV 1)] rfl (zE Tryz.func55 rfl) fun uw hb => k1 uw, hopR F4 [(7, .int .i64 d)] (v := .bool false) fun ua uw hb ⟨e7, _⟩ => (y_gtr _ _ _ _ rfl e7 rfl (decide_eq_false c1)), hop0 F4 (by kernel_rfl), hop0 F4 (by kernel_rfl), hop0 F4 (by kernel_rfl), hop0 F4 (by kernel_rfl), hop0 F4 (by kernel_rfl), hop0 F4 (by kernel_rfl), hop0 F4 (by kernel_rfl), hop0 F4 (by kernel_rfl), hop0 F4 (by kernel_rfl), hop0 F4 (by kernel_rfl), hop0 F4 (by kernel_rfl), hop0 F4 (by kernel_rfl), hop0 F4 (by kernel_rfl), hop0 F4 (by kernel_rfl), hop0 F4 (by kernel_rfl), hop0 F4 (by kernel_rfl), hop0 F4 (by kernel_rfl), trivial⟩ ?_
  ·intro ua uw hb hd
   exact zba (F := (StK.eq (numV 1)).F) (zc rfl) hb.size rfl #[.int .i64 1] (zwa rfl) (zE Tryz.func63 rfl) (zqa (kO uw))
  intro p7 a7 w7 b7 G7 y7
  obtain ⟨-, -, -, -, -, -, -, -, -, -, -, -, -, -, -, -, -, -, -, -, q20, -⟩ := y7
  have r20 : p7 20 = .bool false := q20 (by decide)
  simp only [List.take, layV, Nat.zero_add, Nat.reduceAdd, r20] at G7
  have M7 := M3.kc b7
  clear F4 M3 r20 q20
  refine hK5 _ _ (wp_ret ?_)
  try simp only [Exit.then, Exit.inBlock, Exit.jump]
  exact bodyPost_ret (res1 rfl (G7.get (t := 4) rfl)) G7.defers ⟨rfl, M7.below⟩
 ·rw [c4]
  clear c4
  refine zea (args := [.agg (zg k P Q g), numV a]) 25 Tryz.func30 rfl rfl rfl ?_
  intro fa F
  have M := Mx.start w
  refine zT fun _ hK1 => zh (zc rfl) rfl F rfl M 0 (t := 29) (c := zg k P Q g) (by unfold execOp; simp only [(F.get (t := 0) rfl)]; kernel_rfl) ?_
  intro g2 a2 w2 F2 M2
  refine zh (zc rfl) rfl F2 rfl M2 1 (t := 27) (c := numA a) (by unfold execOp; simp only [(F2.get (t := 1) rfl)]; kernel_rfl) ?_
  intro g3 a3 w3 F3 M3
  refine rm rfl F3 fun _ F4 => hK1 _ _ (zSk fun _ hK5 => ?_)
  have hD6 := (zp (M3.blk (k := 1) rfl) (zp (M3.blk (k := 0) rfl) dnil))
  refine zha F4 (SK [.inl (numV a), .inl (numV 1), .inl (.int .i64 d), .inl (.bool true), .inl (.bool true), .inl (numV a), .inl (.pointer (some ⟨g2, 1, none⟩)), .inl (numV P), .inl (.int .i64 e), .inl (.bool false), .inl (.bool false), .inl (.bool false), .inl (undef), .inl (undef), .inl (undef), .inl (undef), .inl (undef), .inl (undef), .inl (undef), .inl (.bool false), .inl (.bool false)]) 21 rfl (by kernel_rfl) ⟨hopP F4 hD6 0 (some g3) (by kernel_rfl), ?_, hopC F4 [(5, numV a), (6, numV 1)] rfl (zE Tryz.func55 rfl) fun uw hb => k1 uw, hopR F4 [(7, .int .i64 d)] (v := .bool true) fun ua uw hb ⟨e7, _⟩ => (y_gtr _ _ _ _ rfl e7 rfl (decide_eq_true c1)), hop0 F4 (by kernel_rfl), hopP F4 hD6 0 (some g3) (by kernel_rfl), hop0 F4 (by kernel_rfl), hopP F4 hD6 1 (some g2) (by kernel_rfl), hopC F4 [(10, numV a), (12, numV P)] rfl (zE Tryz.func55 rfl) fun uw hb => k2 uw, hopR F4 [(13, .int .i64 e)] (v := .bool false) fun ua uw hb ⟨e13, _⟩ => (y_lss _ _ _ _ rfl e13 rfl (decide_eq_false c2)), hop0 F4 (by kernel_rfl), hop0 F4 (by kernel_rfl), hop0 F4 (by kernel_rfl), hop0 F4 (by kernel_rfl), hop0 F4 (by kernel_rfl), hop0 F4 (by kernel_rfl), hop0 F4 (by kernel_rfl), hop0 F4 (by kernel_rfl), hop0 F4 (by kernel_rfl), hop0 F4 (by kernel_rfl), hop0 F4 (by kernel_rfl), trivial⟩ ?_
  ·intro ua uw hb hd
   exact zba (F := (StK.eq (numV 1)).F) (zc rfl) hb.size rfl #[.int .i64 1] (zwa rfl) (zE Tryz.func63 rfl) (zqa (kO uw))
  intro p7 a7 w7 b7 G7 y7
  obtain ⟨-, -, -, -, -, -, -, -, -, -, -, -, -, -, -, -, -, -, -, -, q20, -⟩ := y7
  have r20 : p7 20 = .bool false := q20 (by decide)
  simp only [List.take, layV, Nat.zero_add, Nat.reduceAdd, r20] at G7
  have M7 := M3.kc b7
  clear F4 M3 r20 q20
  refine hK5 _ _ (wp_ret ?_)
  try simp only [Exit.then, Exit.inBlock, Exit.jump]
  exact bodyPost_ret (res1 rfl (G7.get (t := 4) rfl)) G7.defers ⟨rfl, M7.below⟩
 ·rw [c4]
  clear c4
  refine zea (args := [.agg (zg k P Q g), numV a]) 25 Tryz.func30 rfl rfl rfl ?_
  intro fa F
  have M := Mx.start w
  refine zT fun _ hK1 => zh (zc rfl) rfl F rfl M 0 (t := 29) (c := zg k P Q g) (by unfold execOp; simp only [(F.get (t := 0) rfl)]; kernel_rfl) ?_
  intro g2 a2 w2 F2 M2
  refine zh (zc rfl) rfl F2 rfl M2 1 (t := 27) (c := numA a) (by unfold execOp; simp only [(F2.get (t := 1) rfl)]; kernel_rfl) ?_
  intro g3 a3 w3 F3 M3
  refine rm rfl F3 fun _ F4 => hK1 _ _ (zSk fun _ hK5 => ?_)
  have hD6 := (zp (M3.blk (k := 1) rfl) (zp (M3.blk (k := 0) rfl) dnil))
  refine zha F4 (SK [.inl (numV a), .inl (numV 1), .inl (.int .i64 d), .inl (.bool true), .inl (.bool true), .inl (numV a), .inl (.pointer (some ⟨g2, 1, none⟩)), .inl (numV P), .inl (.int .i64 e), .inl (.bool true), .inl (.bool true), .inl (.bool true), .inl (.agg (zg k P Q g)), .inl (numV a), .inl (.pointer (some ⟨g2, 9, none⟩)), .inl (numV Q), .inl (numV 1), .inl (numV 1), .inl (.bool true), .inl (.bool true), .inl (.bool true)]) 21 rfl (by kernel_rfl) ⟨hopP F4 hD6 0 (some g3) (by kernel_rfl), ?_, hopC F4 [(5, numV a), (6, numV 1)] rfl (zE Tryz.func55 rfl) fun uw hb => k1 uw, hopR F4 [(7, .int .i64 d)] (v := .bool true) fun ua uw hb ⟨e7, _⟩ => (y_gtr _ _ _ _ rfl e7 rfl (decide_eq_true c1)), hop0 F4 (by kernel_rfl), hopP F4 hD6 0 (some g3) (by kernel_rfl), hop0 F4 (by kernel_rfl), hopP F4 hD6 1 (some g2) (by kernel_rfl), hopC F4 [(10, numV a), (12, numV P)] rfl (zE Tryz.func55 rfl) fun uw hb => k2 uw, hopR F4 [(13, .int .i64 e)] (v := .bool true) fun ua uw hb ⟨e13, _⟩ => (y_lss _ _ _ _ rfl e13 rfl (decide_eq_true c2)), hop0 F4 (by kernel_rfl), hop0 F4 (by kernel_rfl), hopP F4 hD6 1 (some g2) (by kernel_rfl), hopP F4 hD6 0 (some g3) (by kernel_rfl), hop0 F4 (by kernel_rfl), hopP F4 hD6 1 (some g2) (by kernel_rfl), hopC F4 [(17, .agg (zg k P Q g)), (18, numV a), (20, numV Q)] rfl (zE Tryz.func27 rfl) fun uw hb => k3 uw, ?_, hopR F4 [(21, numV 1), (22, numV 1)] (v := .bool true) fun ua uw hb ⟨e21, e22, _⟩ => (y_eqA _ _ _ _ rfl e21 e22 (by kernel_rfl) (eqn_same 1 _)), hop0 F4 (by kernel_rfl), hop0 F4 (by kernel_rfl), trivial⟩ ?_
  ·intro ua uw hb hd
   exact zba (F := (StK.eq (numV 1)).F) (zc rfl) hb.size rfl #[.int .i64 1] (zwa rfl) (zE Tryz.func63 rfl) (zqa (kO uw))
  ·intro ua uw hb hd
   have eg : ua.eval (.tmp 16) = .bool true := hd 16 (by decide)
   exact zba (F := (StK.eq (numV 1)).F) (zob rfl rfl rfl eg) hb.size rfl #[.int .i64 1] (zwa rfl) (zE Tryz.func63 rfl) (zqa (kO uw))
  intro p7 a7 w7 b7 G7 y7
  obtain ⟨-, -, -, -, -, -, -, -, -, -, -, -, -, -, -, -, -, -, -, -, q20, -⟩ := y7
  have r20 : p7 20 = .bool true := q20 (by decide)
  simp only [List.take, layV, Nat.zero_add, Nat.reduceAdd, r20] at G7
  have M7 := M3.kc b7
  clear F4 M3 r20 q20
  refine hK5 _ _ (wp_ret ?_)
  try simp only [Exit.then, Exit.inBlock, Exit.jump]
  exact bodyPost_ret (res1 rfl (G7.get (t := 4) rfl)) G7.defers ⟨rfl, M7.below⟩
 ·rw [c4]
  clear c4
  refine zea (args := [.agg (zg k P Q g), numV a]) 25 Tryz.func30 rfl rfl rfl ?_
  intro fa F
  have M := Mx.start w
  refine zT fun _ hK1 => zh (zc rfl) rfl F rfl M 0 (t := 29) (c := zg k P Q g) (by unfold execOp; simp only [(F.get (t := 0) rfl)]; kernel_rfl) ?_
  intro g2 a2 w2 F2 M2
  refine zh (zc rfl) rfl F2 rfl M2 1 (t := 27) (c := numA a) (by unfold execOp; simp only [(F2.get (t := 1) rfl)]; kernel_rfl) ?_
  intro g3 a3 w3 F3 M3
  refine rm rfl F3 fun _ F4 => hK1 _ _ (zSk fun _ hK5 => ?_)
  have hD6 := (zp (M3.blk (k := 1) rfl) (zp (M3.blk (k := 0) rfl) dnil))
  refine zha F4 (SK [.inl (numV a), .inl (numV 1), .inl (.int .i64 d), .inl (.bool true), .inl (.bool true), .inl (numV a), .inl (.pointer (some ⟨g2, 1, none⟩)), .inl (numV P), .inl (.int .i64 e), .inl (.bool true), .inl (.bool true), .inl (.bool true), .inl (.agg (zg k P Q g)), .inl (numV a), .inl (.pointer (some ⟨g2, 9, none⟩)), .inl (numV Q), .inl (numV V), .inl (numV 1), .inl (.bool false), .inl (.bool false), .inl (.bool false)]) 21 rfl (by kernel_rfl) ⟨hopP F4 hD6 0 (some g3) (by kernel_rfl), ?_, hopC F4 [(5, numV a), (6, numV 1)] rfl (zE Tryz.func55 rfl) fun uw hb => k1 uw, hopR F4 [(7, .int .i64 d)] (v := .bool true) fun ua uw hb ⟨e7, _⟩ => (y_gtr _ _ _ _ rfl e7 rfl (decide_eq_true c1)), hop0 F4 (by kernel_rfl), hopP F4 hD6 0 (some g3) (by kernel_rfl), hop0 F4 (by kernel_rfl), hopP F4 hD6 1 (some g2) (by kernel_rfl), hopC F4 [(10, numV a), (12, numV P)] rfl (zE Tryz.func55 rfl) fun uw hb => k2 uw, hopR F4 [(13, .int .i64 e)] (v := .bool true) fun ua uw hb ⟨e13, _⟩ => (y_lss _ _ _ _ rfl e13 rfl (decide_eq_true c2)), hop0 F4 (by kernel_rfl), hop0 F4 (by kernel_rfl), hopP F4 hD6 1 (some g2) (by kernel_rfl), hopP F4 hD6 0 (some g3) (by kernel_rfl), hop0 F4 (by kernel_rfl), hopP F4 hD6 1 (some g2) (by kernel_rfl), hopC F4 [(17, .agg (zg k P Q g)), (18, numV a), (20, numV Q)] rfl (zE Tryz.func27 rfl) fun uw hb => k3 uw, ?_, hopR F4 [(21, numV V), (22, numV 1)] (v := .bool false) fun ua uw hb ⟨e21, e22, _⟩ => (y_eqA _ _ _ _ rfl e21 e22 (by kernel_rfl) (c3 _)), hop0 F4 (by kernel_rfl), hop0 F4 (by kernel_rfl), trivial⟩ ?_
  ·intro ua uw hb hd
   exact zba (F := (StK.eq (numV 1)).F) (zc rfl) hb.size rfl #[.int .i64 1] (zwa rfl) (zE Tryz.func63 rfl) (zqa (kO uw))
  ·intro ua uw hb hd
   have eg : ua.eval (.tmp 16) = .bool true := hd 16 (by decide)
   exact zba (F := (StK.eq (numV 1)).F) (zob rfl rfl rfl eg) hb.size rfl #[.int .i64 1] (zwa rfl) (zE Tryz.func63 rfl) (zqa (kO uw))
  intro p7 a7 w7 b7 G7 y7
  obtain ⟨-, -, -, -, -, -, -, -, -, -, -, -, -, -, -, -, -, -, -, -, q20, -⟩ := y7
  have r20 : p7 20 = .bool false := q20 (by decide)
  simp only [List.take, layV, Nat.zero_add, Nat.reduceAdd, r20] at G7
  have M7 := M3.kc b7
  clear F4 M3 r20 q20
  refine hK5 _ _ (wp_ret ?_)
  try simp only [Exit.then, Exit.inBlock, Exit.jump]
  exact bodyPost_ret (res1 rfl (G7.get (t := 4) rfl)) G7.defers ⟨rfl, M7.below⟩
end Go.Proofs.YtcfepoopkfhojaaGreat
