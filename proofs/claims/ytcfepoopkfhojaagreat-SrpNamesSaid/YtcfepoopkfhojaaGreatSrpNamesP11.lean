/- What SrpNames stands on, part 11. -/
import Derived.Test.YtcfepoopkfhojaaGreatSrpNamesP1
import Derived.Test.YtcfepoopkfhojaaGreatSrpNamesP2
import Derived.Test.YtcfepoopkfhojaaGreatSrpNamesP3
import Derived.Test.YtcfepoopkfhojaaGreatSrpNamesP4
import Derived.Test.YtcfepoopkfhojaaGreatSrpNamesP5
import Derived.Test.YtcfepoopkfhojaaGreatSrpNamesP6
import Derived.Test.YtcfepoopkfhojaaGreatSrpNamesP7
import Derived.Test.YtcfepoopkfhojaaGreatSrpNamesP8
import Derived.Test.YtcfepoopkfhojaaGreatSrpNamesP9
import Derived.Test.YtcfepoopkfhojaaGreatSrpNamesP10
set_option maxRecDepth 100000
set_option maxHeartbeats 8000000
set_option linter.unusedVariables false
set_option linter.unusedSimpArgs false
namespace Go.Proofs.YtcfepoopkfhojaaGreat
open Go.ChangeShapes Go.WideShapes Go.ChangeAt Go.RowKit
structure RecN where
 p : Int
 s : ByteArray
 l2 : List UInt8
 a : Nat
 b : Nat
 l5 : List UInt8
 t : Int
 c : Int
 z : Int
structure RecV where
 v2 : Value
 v5 : Value
def recA (r : RecN) (V : RecV) : Array Value := #[.int .i64 r.p, .string r.s, V.v2, numF r.a 0, numF r.a 1, numF r.a 2, numF r.a 3, numF r.a 4, numF r.a 5, numF r.a 6, numF r.a 7, numF r.b 0, numF r.b 1, numF r.b 2, numF r.b 3, numF r.b 4, numF r.b 5, numF r.b 6, numF r.b 7, V.v5, .int .i64 r.t, .int .i64 r.c, .int .i64 r.z]
structure RecIs (w : World) (r : RecN) (V : RecV) : Prop where
 h2 : IsB w r.l2 V.v2
 h5 : IsB w r.l5 V.v5
theorem recA_one {w : World} {r : RecN} {V : RecV} (h : RecIs w r V) : (recA r V).all (·.oneCell') = true := by
 obtain ⟨v2, v5⟩ := V
 obtain ⟨A2, c2, rfl⟩ := h.h2.shape
 obtain ⟨A5, c5, rfl⟩ := h.h5.shape
 simp [recA, numF, Value.oneCell']
theorem zjc (g : Nat) : ¬ bfp (zN) g := fun ⟨o, s, n, c, e, _⟩ => by cases e
theorem eqn_is {x : Nat} (h : x = 0) (w : World) : (Op.equalIn 10000 27 (.agg (numA x)) (.agg (numA 0))).run Tryz.prog w = .ok true w := by
 rw [h]; exact eqn_same 0 w
theorem eqn_no {x : Nat} (hx : x < 4294967296 ^ 8) (h : ¬ x = 0) (w : World) : (Op.equalIn 10000 27 (.agg (numA x)) (.agg (numA 0))).run Tryz.prog w = .ok false w := by
 rw [eq_num_run 9998 x 0 hx (by decide), decide_eq_false h]
noncomputable def offB (P Q g v o : Nat) : Nat := (kN Q * v % P + g ^ o % P) % P
noncomputable def offS (k : Int) (P Q g : Nat) (s : ByteArray) (l : List UInt8) (v a o : Nat) : SideN := ⟨k, P, Q, g, s, [], a, offB P Q g v o, o, l, v, fun _ => 0, fun _ => 0⟩
noncomputable def offN (P Q g v a o : Nat) : Nat := (a * (v ^ uN Q a (offB P Q g v o) % P) % P) ^ o % P
def zeroS : SideN := ⟨0, 0, 0, 0, "".toUTF8, [], 0, 0, 0, [], 0, fun _ => 0, fun _ => 0⟩
noncomputable def offOk (P Q g v a o : Nat) : Bool := hasB a P Q && hasB v P Q && !decide (offB P Q g v o = 0)
theorem offer_any (k : Int) (P Q g : Nat) (ho : P % 2 = 1) (h1 : 1 < P) (hP : P < 4294967296 ^ 8) (h2 : 2 < Q) (hQ : Q < 4294967296 ^ 8) (hP4 : P ≤ 4294967296) (hg : g < 4294967296 ^ 8) (r : RecN) (V : RecV) (hr : r.a < 4294967296 ^ 8) (hs : r.s.size ≤ 1000) (hrl : r.l2.length ≤ 100000) (a : Nat) (ha : a < 4294967296 ^ 8) (ld : List UInt8) (vd : Value) (w : World) (hm2 : RecIs w r V) (hd : IsB w ld vd) :
  Calls Tryz.prog 14 #[.agg (zg k P Q g), .agg (recA r V), numV a, vd] w fun e w' => ∃ vc, e = .returned (.tuple #[.agg (zl (cond (offOk P Q g r.a a (texN Q [98] [ld])) (zkb (offS k P Q g r.s r.l2 r.a a (texN Q [98] [ld])) (offN P Q g r.a a (texN Q [98] [ld]))) zeroS) ⟨zN, vc⟩), numV (cond (offOk P Q g r.a a (texN Q [98] [ld])) (offB P Q g r.a (texN Q [98] [ld])) 0), .bool (offOk P Q g r.a a (texN Q [98] [ld]))]) ∧ SideIs w' (cond (offOk P Q g r.a a (texN Q [98] [ld])) (zkb (offS k P Q g r.s r.l2 r.a a (texN Q [98] [ld])) (offN P Q g r.a a (texN Q [98] [ld]))) zeroS) ⟨zN, vc⟩ ∧ (∀ b, bfp vc b → w.heap.size ≤ b) ∧ Below w.heap.size w w' := by
 obtain ⟨O, hO⟩ : ∃ O, texN Q [98] [ld] = O := ⟨_, rfl⟩
 have hOl : O < 4294967296 ^ 8 := by rw [← hO]; exact Nat.lt_trans (expN_bd h2 _).2 hQ
 have kE := fun (w : World) (u : Value) (h : IsP w [ld] u) => texp_any k P Q g h2 hQ ({ data := #[98] } : ByteArray) (by decide) [ld] u (show 1 ≤ 90 by decide) w h
 rw [show texN Q (sBy ({ data := #[98] } : ByteArray)) [ld] = O from hO] at kE
 rw [hO]
 clear hO
 have hP0 : 0 < P := by omega
 have hm : ∀ x, x % P < 4294967296 ^ 8 := fun x => Nat.lt_trans (Nat.mod_lt _ hP0) hP
 have hm4 : ∀ x, x % P < 4294967296 := fun x => Nat.lt_of_lt_of_le (Nat.mod_lt _ hP0) hP4
 obtain ⟨b1, hb1⟩ : ∃ q, hasB a P Q = q := ⟨_, rfl⟩
 obtain ⟨b2, hb2⟩ : ∃ q, hasB r.a P Q = q := ⟨_, rfl⟩
 have kH1 := fun w => ghas_any k P Q g ho h1 hP a ha hQ w
 have kH2 := fun w => ghas_any k P Q g ho h1 hP r.a hr hQ w
 rw [hb1] at kH1
 rw [hb2] at kH2
 have kC := fun w => cover_any k P Q g ho h1 hP h2 hQ r.a hr w
 have kR1 := fun w => zkc k P Q g ho h1 hP g O hg hOl w
 have kT := fun w => together_any (kN Q * r.a % P) (g ^ O % P) P (hm4 _) (hm4 _) hP0 hP w
 obtain ⟨B, hB⟩ : ∃ B, offB P Q g r.a O = B := ⟨_, rfl⟩
 rw [show (kN Q * r.a % P + g ^ O % P) % P = B from hB] at kT
 have hBl : B < 4294967296 ^ 8 := by rw [← hB]; exact hm _
 obtain ⟨C, hC⟩ : ∃ C, kN Q * r.a % P = C := ⟨_, rfl⟩
 obtain ⟨G1, hG1⟩ : ∃ G1, g ^ O % P = G1 := ⟨_, rfl⟩
 rw [hC] at kC kT
 rw [hG1] at kR1 kT
 clear hC hG1
 obtain ⟨U, hU⟩ : ∃ U, uN Q a B = U := ⟨_, rfl⟩
 have hUl : U < 4294967296 ^ 8 := by rw [← hU]; exact Nat.lt_trans (expN_bd h2 _).2 hQ
 have kR2 := fun w => zkc k P Q g ho h1 hP r.a U hr hUl w
 obtain ⟨T1, hT1⟩ : ∃ T1, r.a ^ U % P = T1 := ⟨_, rfl⟩
 have hT1l : T1 < 4294967296 ^ 8 := by rw [← hT1]; exact hm _
 have kM := fun w => gtimes_any k P Q g ho h1 hP a T1 ha hT1l w
 obtain ⟨T2, hT2⟩ : ∃ T2, a * T1 % P = T2 := ⟨_, rfl⟩
 have hT2l : T2 < 4294967296 ^ 8 := by rw [← hT2]; exact hm _
 have kR3 := fun w => zkc k P Q g ho h1 hP T2 O hT2l hOl w
 obtain ⟨N, hN⟩ : ∃ N, T2 ^ O % P = N := ⟨_, rfl⟩
 have hoN : offN P Q g r.a a O = N := by unfold offN; rw [hB, hU, hT1, hT2, hN]
 have hoS : offS k P Q g r.s r.l2 r.a a O = ⟨k, P, Q, g, r.s, [], a, B, O, r.l2, r.a, fun _ => 0, fun _ => 0⟩ := by unfold offS; rw [hB]
 have hoK : offOk P Q g r.a a O = (b1 && b2 && !decide (B = 0)) := by unfold offOk; rw [hB, hb1, hb2]
 rw [hoN, hoS, hoK, hB]
 rw [hT1] at kR2
 rw [hT2] at kM
 rw [hN] at kR3
 clear hoN hoS hoK hN hT2 hT1 hB hb1 hb2
 obtain ⟨vr, v5⟩ := V
 obtain ⟨Ar, cr, rfl⟩ := id hm2.h2.shape
 obtain ⟨A5, c5, rfl⟩ := id hm2.h5.shape
 obtain ⟨As, cs, rfl⟩ := id hd.shape
 refine zra (args := [.agg (zg k P Q g), .agg (recA r ⟨.slice Ar r.l2.length cr, .slice A5 r.l5.length c5⟩), numV a, .slice As ld.length cs]) 77 Tryz.func14 rfl rfl rfl ?_
 intro fa F
 have M := Mx.start w
 replace M := M.argB 0 hm2.h2 (fun g e => by cases e)
 replace M := M.argB 1 hm2.h5 (fun g e => by cases e)
 replace M := M.argB 2 hd (fun g e => by cases e)
 refine zSk fun _ hK1 => ?_
 refine zR ?_
 refine zo (zc rfl) rfl F rfl M 3 (t := 29) (c := zg k P Q g) (by unfold execOp; simp only [(F.get (t := 0) rfl)]; kernel_rfl) ?_
 intro g2 a2 w2 F2 M2
 clear F M
 refine zo (zc rfl) rfl F2 rfl M2 4 (t := 33) (c := recA r ⟨.slice Ar r.l2.length cr, .slice A5 r.l5.length c5⟩) (by unfold execOp; simp only [(F2.get (t := 1) rfl)]; kernel_rfl) ?_
 intro g3 a3 w3 F3 M3
 clear F2 M2
 refine zo (zc rfl) rfl F3 rfl M3 5 (t := 27) (c := numA a) (by unfold execOp; simp only [(F3.get (t := 2) rfl)]; kernel_rfl) ?_
 intro g4 a4 w4 F4 M4
 clear F3 M3
 refine zo (zc rfl) rfl F4 rfl M4 6 (t := 37) (c := zl ⟨0, 0, 0, 0, "".toUTF8, [], 0, 0, 0, [], 0, (fun _ => 0), (fun _ => 0)⟩ ⟨zN, zN⟩) (by unfold execOp; kernel_rfl) ?_
 intro g5 a5 w5 F5 M5
 clear F4 M4
 refine zo (zc rfl) rfl F5 rfl M5 7 (t := 27) (c := numA 0) (zba rfl) ?_
 intro g6 a6 w6 F6 M6
 clear F5 M5
 refine rm rfl F6 fun _ F7 => ?_
 refine hK1 _ _ ?_
 refine zSk fun _ hK8 => ?_
 refine zSk fun _ hK9 => ?_
 refine zR ?_
 refine zAx 2 [(15, .agg (zg k P Q g)), (16, numV a)] [0, 1] (z7a (M6.blk (k := 3) rfl) (z7a (M6.blk (k := 5) rfl) dnil)) [g2, g4] F7 fun _ F10 => ?_
 clear F7
 refine zea (zc rfl) rfl F10 rfl rfl (zE Tryz.func37 rfl) #[.agg (zg k P Q g), numV a] (z7b (F10.get (t := 15) rfl) (F10.get (t := 16) rfl)) (zha (kH1 w6)) ?_
 rintro _ w11 a11 ⟨rfl, b11⟩ F11
 have M11 := M6.step b11
 cases b1
 ·refine zAx 8 [(18, .bool true), (19, .bool true), (20, undef), (21, undef), (22, undef), (23, undef), (24, undef), (25, .bool true)] [] dnil [] F11 fun _ F12 => ?_
  clear F11
  refine hK9 _ _ ?_
  refine wp_cond_true (F12.get (t := 25) rfl) ?_
  refine zSk fun _ hK13 => ?_
  refine zR ?_
  refine zh (w' := w11) (zc rfl) rfl F12 rfl (.agg (zl ⟨0, 0, 0, 0, "".toUTF8, [], 0, 0, 0, [], 0, (fun _ => 0), (fun _ => 0)⟩ ⟨zN, zN⟩)) (by unfold execOp; kernel_rfl) fun _ F14 => ?_
  clear F12
  refine zh (w' := w11) (zc rfl) rfl F14 rfl (numV 0) (y_zbuild rfl) fun _ F15 => ?_
  clear F14
  refine zka (zc rfl) rfl F15 M11 (k := 6) rfl _ _ _ rfl (F15.get (t := 8) rfl) (F15.get (t := 26) rfl) (zl ⟨0, 0, 0, 0, "".toUTF8, [], 0, 0, 0, [], 0, (fun _ => 0), (fun _ => 0)⟩ ⟨zN, zN⟩) _ rfl (zL rfl) (zpb (w := w11) ⟨(zva _), (zva _)⟩) (zx rfl) (by kernel_rfl) ?_
  intro w16 M16
  clear M11
  refine zka (zc rfl) rfl F15 M16 (k := 7) rfl _ _ _ rfl (F15.get (t := 9) rfl) (F15.get (t := 27) rfl) (numA 0) _ rfl (zL rfl) (zoa _) (zx rfl) ze ?_
  intro w17 M17
  clear M16
  refine rm rfl F15 fun _ F18 => ?_
  refine hK13 _ _ ?_
  refine wp_ret ?_
  try simp only [Exit.then, Exit.inBlock, Exit.jump]
  exact bodyPost_ret (res2ct rfl (F18.get rfl) (M17.blk (k := 6) rfl) (F18.get rfl) (M17.blk (k := 7) rfl) (F18.get rfl) Tryz.underlying37 rfl (by kernel_rfl) Tryz.underlying27 rfl ze) F18.defers (by simp only [Bool.false_and, Bool.true_and, Bool.and_false, Bool.and_true, Bool.not_true, Bool.not_false, cond_true, cond_false]; exact ⟨zN, rfl, ⟨zva _, zva _⟩, fun b hb => absurd hb (zjc b), M17.below⟩)
 ·refine zAx 5 [(18, .bool false), (19, .bool false), (20, .agg (zg k P Q g)), (21, .pointer (some ⟨g3, 3, none⟩)), (22, numV r.a)] [0, 1] (z7a (M11.blk (k := 3) rfl) (z7a (M11.blk (k := 4) rfl) dnil)) [g2, g3] F11 fun _ F19 => ?_
  clear F11
  refine zea (wanted_yes rfl rfl rfl (F19.get (t := 19) rfl)) rfl F19 rfl rfl (zE Tryz.func37 rfl) #[.agg (zg k P Q g), numV r.a] (z7b (F19.get (t := 20) rfl) (F19.get (t := 22) rfl)) (zha (kH2 w11)) ?_
  rintro _ w20 a20 ⟨rfl, b20⟩ F20
  have M20 := M11.step b20
  cases b2
  ·refine zAx 2 [(24, .bool true), (25, .bool true)] [] dnil [] F20 fun _ F21 => ?_
   clear F20
   refine hK9 _ _ ?_
   refine wp_cond_true (F21.get (t := 25) rfl) ?_
   refine zSk fun _ hK22 => ?_
   refine zR ?_
   refine zh (w' := w20) (zc rfl) rfl F21 rfl (.agg (zl ⟨0, 0, 0, 0, "".toUTF8, [], 0, 0, 0, [], 0, (fun _ => 0), (fun _ => 0)⟩ ⟨zN, zN⟩)) (by unfold execOp; kernel_rfl) fun _ F23 => ?_
   clear F21
   refine zh (w' := w20) (zc rfl) rfl F23 rfl (numV 0) (y_zbuild rfl) fun _ F24 => ?_
   clear F23
   refine zka (zc rfl) rfl F24 M20 (k := 6) rfl _ _ _ rfl (F24.get (t := 8) rfl) (F24.get (t := 26) rfl) (zl ⟨0, 0, 0, 0, "".toUTF8, [], 0, 0, 0, [], 0, (fun _ => 0), (fun _ => 0)⟩ ⟨zN, zN⟩) _ rfl (zL rfl) (zpb (w := w20) ⟨(zva _), (zva _)⟩) (zx rfl) (by kernel_rfl) ?_
   intro w25 M25
   clear M20
   refine zka (zc rfl) rfl F24 M25 (k := 7) rfl _ _ _ rfl (F24.get (t := 9) rfl) (F24.get (t := 27) rfl) (numA 0) _ rfl (zL rfl) (zoa _) (zx rfl) ze ?_
   intro w26 M26
   clear M25
   refine rm rfl F24 fun _ F27 => ?_
   refine hK22 _ _ ?_
   refine wp_ret ?_
   try simp only [Exit.then, Exit.inBlock, Exit.jump]
   exact bodyPost_ret (res2ct rfl (F27.get rfl) (M26.blk (k := 6) rfl) (F27.get rfl) (M26.blk (k := 7) rfl) (F27.get rfl) Tryz.underlying37 rfl (by kernel_rfl) Tryz.underlying27 rfl ze) F27.defers (by simp only [Bool.false_and, Bool.true_and, Bool.and_false, Bool.and_true, Bool.not_true, Bool.not_false, cond_true, cond_false]; exact ⟨zN, rfl, ⟨zva _, zva _⟩, fun b hb => absurd hb (zjc b), M26.below⟩)
  ·refine zAx 2 [(24, .bool false), (25, .bool false)] [] dnil [] F20 fun _ F28 => ?_
   clear F20
   refine hK9 _ _ ?_
   refine wp_cond_false (F28.get (t := 25) rfl) ?_
   refine wp_skip ?_
   refine hK8 _ _ ?_
   refine zSk fun _ hK29 => ?_
   refine zR ?_
   refine zh (w' := w20) (zc rfl) rfl F28 rfl _ (zga _ _ rfl (F28.get (t := 4) rfl) (M20.blk (k := 3) rfl) (zg k P Q g) (zta rfl) Tryz.underlying29 rfl (by kernel_rfl)) fun _ F30 => ?_
   clear F28
   refine rm rfl F30 fun _ F31 => ?_
   refine z3b (zc rfl) rfl F31 rfl M20 8 (t := 22) (c := #[.slice As ld.length cs]) (k := 1) (m := 1) (y_litG 54 22 (s := 1) (zv := zN) Tryz.underlying54 (by kernel_rfl) (by kernel_rfl) rfl (#[.slice As ld.length cs]) (by decide) (by decide) (by simp only [List.map_toArray, List.map_cons, List.map_nil, (F31.get (t := 29) rfl)]; kernel_rfl)) ?_
   intro g32 a32 w32 F32 M32
   clear F31 M20
   refine zea (zc rfl) rfl F32 rfl rfl (zE Tryz.func35 rfl) #[.agg (zg k P Q g), .string ({ data := #[98] }), .slice (some ⟨g32, 0, none⟩) 1 1] (args3 (F32.get (t := 28) rfl) rfl (F32.get (t := 30) rfl)) (zha ((kE w32 _ (isP_blk (M32.blk (k := 8) rfl) rfl rfl (by decide) (fun j l hj => by
     match j, hj with
     | 0, hj => obtain rfl : ld = l := Option.some.inj hj; exact ⟨_, rfl, (M32.isb (k := 2) rfl)⟩
     | n + 1, hj => cases hj))))) ?_
   rintro _ w33 a33 ⟨rfl, b33⟩ F33
   have M33 := M32.step b33
   refine zo (zc rfl) rfl F33 rfl M33 9 (t := 27) (c := numA 0) (zba rfl) ?_
   intro g34 a34 w34 F34 M34
   clear F33 M33
   refine zka (zc rfl) rfl F34 M34 (k := 9) rfl _ _ _ rfl (F34.get (t := 11) rfl) (F34.get (t := 31) rfl) (numA O) _ rfl (zL rfl) (zoa _) (zx rfl) ze ?_
   intro w35 M35
   clear M34
   refine hK29 _ _ ?_
   refine zSk fun _ hK36 => ?_
   refine zqb F34 [fun vE => vE = .agg (zg k P Q g), fun vE => vE = .pointer (some ⟨g3, 3, none⟩), fun vE => vE = numV r.a, fun vE => vE = numV C, fun vE => vE = .agg (zg k P Q g), fun vE => vE = .pointer (some ⟨g2, 17, none⟩), fun vE => vE = numV g, fun vE => vE = numV O, fun vE => vE = numV G1, fun vE => vE = .pointer (some ⟨g2, 1, none⟩), fun vE => vE = numV P, fun vE => vE = numV B, fun vE => ∃ g, vE = .pointer (some ⟨g, 0, none⟩)] (JM none w fun SV pV => [(0, bytR r.l2 (.slice Ar r.l2.length cr)), (1, bytR r.l5 (.slice A5 r.l5.length c5)), (2, bytR ld (.slice As ld.length cs)), (3, blkR g2 29 (zg k P Q g)), (4, blkR g3 33 (recA r ⟨.slice Ar r.l2.length cr, .slice A5 r.l5.length c5⟩)), (5, blkR g4 27 (numA a)), (6, blkR g5 37 (zl ⟨0, 0, 0, 0, "".toUTF8, [], 0, 0, 0, [], 0, (fun _ => 0), (fun _ => 0)⟩ ⟨zN, zN⟩)), (7, blkR g6 27 (numA 0)), (8, blkR g32 22 (#[.slice As ld.length cs])), (9, blkR g34 27 (numA O)), (10, condR (SV 12) (ptrR 27 (numA 0) (pV 12)))]) 13 rfl (by kernel_rfl) rfl ⟨trivial, trivial, trivial, trivial, trivial, trivial, trivial, trivial, trivial, trivial, trivial, trivial, trivial, trivial⟩ (fun p => ((M35.step (zya _)).triv 10).sub ⟨rfl, rfl, rfl, rfl, rfl, rfl, rfl, rfl, rfl, rfl, rfl, trivial⟩) ⟨?_, ?_, ?_, ?_, ?_, ?_, ?_, ?_, ?_, ?_, ?_, ?_, ?_, trivial⟩ ?_
   ·intro ua uw SV pV M0 hk hn hd
    have M : Mx none w uw _ := M0
    clear M0
    have e4 : ua.eval (.tmp 4) = .pointer (some ⟨g2, 0, none⟩) := (show ua.eval (.tmp 4) = _ from hd 4 (by decide)).trans (F34.get (t := 4) rfl)
    exact zp (zc rfl) _ (zga _ _ rfl e4 (M.blk (k := 3) rfl) (zg k P Q g) (zta rfl) Tryz.underlying29 rfl (by kernel_rfl)) rfl (M.sub ⟨rfl, rfl, rfl, rfl, rfl, rfl, rfl, rfl, rfl, rfl, rfl, trivial⟩)
   ·intro ua uw SV pV M0 hk hn hd
    have M : Mx none w uw _ := M0
    clear M0
    have e5 : ua.eval (.tmp 5) = .pointer (some ⟨g3, 0, none⟩) := (show ua.eval (.tmp 5) = _ from hd 5 (by decide)).trans (F34.get (t := 5) rfl)
    exact zp (zc rfl) (.pointer (some ⟨g3, 3, none⟩)) (y_fa (off := 3) rfl e5 (by kernel_rfl) rfl) rfl (M.sub ⟨rfl, rfl, rfl, rfl, rfl, rfl, rfl, rfl, rfl, rfl, rfl, trivial⟩)
   ·intro ua uw SV pV M0 hk hn hd
    have M : Mx none w uw _ := M0
    clear M0
    obtain ⟨s1, f33, q33⟩ := (show SV 1 = true ∧ ua.eval (.tmp 33) = pV 1 ∧ stE _ 1 (pV 1) from hd 33 (by decide))
    have e33 : ua.eval (.tmp 33) = .pointer (some ⟨g3, 3, none⟩) := f33.trans q33
    exact zp (zc rfl) (numV r.a) (zga _ _ rfl e33 (M.blk (k := 4) rfl) (numA r.a) (y_part8 rfl rfl rfl rfl rfl rfl rfl rfl) Tryz.underlying27 rfl ze) rfl (M.sub ⟨rfl, rfl, rfl, rfl, rfl, rfl, rfl, rfl, rfl, rfl, rfl, trivial⟩)
   ·intro ua uw SV pV M0 hk hn hd
    have M : Mx none w uw _ := M0
    clear M0
    obtain ⟨s0, f32, q32⟩ := (show SV 0 = true ∧ ua.eval (.tmp 32) = pV 0 ∧ stE _ 0 (pV 0) from hd 32 (by decide))
    have e32 : ua.eval (.tmp 32) = .agg (zg k P Q g) := f32.trans q32
    obtain ⟨s2, f34, q34⟩ := (show SV 2 = true ∧ ua.eval (.tmp 34) = pV 2 ∧ stE _ 2 (pV 2) from hd 34 (by decide))
    have e34 : ua.eval (.tmp 34) = numV r.a := f34.trans q34
    exact z4a (zc rfl) rfl #[.agg (zg k P Q g), numV r.a] (z7b e32 e34) (zE Tryz.func39 rfl) ((kC uw).mono fun e w2 h => ⟨_, h.1, rfl, (M.step h.2).sub ⟨rfl, rfl, rfl, rfl, rfl, rfl, rfl, rfl, rfl, rfl, rfl, trivial⟩⟩)
   ·intro ua uw SV pV M0 hk hn hd
    have M : Mx none w uw _ := M0
    clear M0
    have e4 : ua.eval (.tmp 4) = .pointer (some ⟨g2, 0, none⟩) := (show ua.eval (.tmp 4) = _ from hd 4 (by decide)).trans (F34.get (t := 4) rfl)
    exact zp (zc rfl) _ (zga _ _ rfl e4 (M.blk (k := 3) rfl) (zg k P Q g) (zta rfl) Tryz.underlying29 rfl (by kernel_rfl)) rfl (M.sub ⟨rfl, rfl, rfl, rfl, rfl, rfl, rfl, rfl, rfl, rfl, rfl, trivial⟩)
   ·intro ua uw SV pV M0 hk hn hd
    have M : Mx none w uw _ := M0
    clear M0
    have e4 : ua.eval (.tmp 4) = .pointer (some ⟨g2, 0, none⟩) := (show ua.eval (.tmp 4) = _ from hd 4 (by decide)).trans (F34.get (t := 4) rfl)
    exact zp (zc rfl) (.pointer (some ⟨g2, 17, none⟩)) (y_fa (off := 17) rfl e4 (by kernel_rfl) rfl) rfl (M.sub ⟨rfl, rfl, rfl, rfl, rfl, rfl, rfl, rfl, rfl, rfl, rfl, trivial⟩)
   ·intro ua uw SV pV M0 hk hn hd
    have M : Mx none w uw _ := M0
    clear M0
    obtain ⟨s5, f37, q37⟩ := (show SV 5 = true ∧ ua.eval (.tmp 37) = pV 5 ∧ stE _ 5 (pV 5) from hd 37 (by decide))
    have e37 : ua.eval (.tmp 37) = .pointer (some ⟨g2, 17, none⟩) := f37.trans q37
    exact zp (zc rfl) (numV g) (zga _ _ rfl e37 (M.blk (k := 3) rfl) (numA g) groupA_g Tryz.underlying27 rfl ze) rfl (M.sub ⟨rfl, rfl, rfl, rfl, rfl, rfl, rfl, rfl, rfl, rfl, rfl, trivial⟩)
   ·intro ua uw SV pV M0 hk hn hd
    have M : Mx none w uw _ := M0
    clear M0
    have e11 : ua.eval (.tmp 11) = .pointer (some ⟨g34, 0, none⟩) := (show ua.eval (.tmp 11) = _ from hd 11 (by decide)).trans (F34.get (t := 11) rfl)
    exact zp (zc rfl) (numV O) (zga _ _ rfl e11 (M.blk (k := 9) rfl) (numA O) (zta rfl) Tryz.underlying27 rfl ze) rfl (M.sub ⟨rfl, rfl, rfl, rfl, rfl, rfl, rfl, rfl, rfl, rfl, rfl, trivial⟩)
   ·intro ua uw SV pV M0 hk hn hd
    have M : Mx none w uw _ := M0
    clear M0
    obtain ⟨s4, f36, q36⟩ := (show SV 4 = true ∧ ua.eval (.tmp 36) = pV 4 ∧ stE _ 4 (pV 4) from hd 36 (by decide))
    have e36 : ua.eval (.tmp 36) = .agg (zg k P Q g) := f36.trans q36
    obtain ⟨s6, f38, q38⟩ := (show SV 6 = true ∧ ua.eval (.tmp 38) = pV 6 ∧ stE _ 6 (pV 6) from hd 38 (by decide))
    have e38 : ua.eval (.tmp 38) = numV g := f38.trans q38
    obtain ⟨s7, f39, q39⟩ := (show SV 7 = true ∧ ua.eval (.tmp 39) = pV 7 ∧ stE _ 7 (pV 7) from hd 39 (by decide))
    have e39 : ua.eval (.tmp 39) = numV O := f39.trans q39
    exact z4a (zc rfl) rfl #[.agg (zg k P Q g), numV g, numV O] (args3 e36 e38 e39) (zE Tryz.func33 rfl) ((kR1 uw).mono fun e w2 h => ⟨_, h.1, rfl, (M.step h.2).sub ⟨rfl, rfl, rfl, rfl, rfl, rfl, rfl, rfl, rfl, rfl, rfl, trivial⟩⟩)
   ·intro ua uw SV pV M0 hk hn hd
    have M : Mx none w uw _ := M0
    clear M0
    have e4 : ua.eval (.tmp 4) = .pointer (some ⟨g2, 0, none⟩) := (show ua.eval (.tmp 4) = _ from hd 4 (by decide)).trans (F34.get (t := 4) rfl)
    exact zp (zc rfl) (.pointer (some ⟨g2, 1, none⟩)) (y_fa (off := 1) rfl e4 (by kernel_rfl) rfl) rfl (M.sub ⟨rfl, rfl, rfl, rfl, rfl, rfl, rfl, rfl, rfl, rfl, rfl, trivial⟩)
   ·intro ua uw SV pV M0 hk hn hd
    have M : Mx none w uw _ := M0
    clear M0
    obtain ⟨s9, f41, q41⟩ := (show SV 9 = true ∧ ua.eval (.tmp 41) = pV 9 ∧ stE _ 9 (pV 9) from hd 41 (by decide))
    have e41 : ua.eval (.tmp 41) = .pointer (some ⟨g2, 1, none⟩) := f41.trans q41
    exact zp (zc rfl) (numV P) (zga _ _ rfl e41 (M.blk (k := 3) rfl) (numA P) groupA_p Tryz.underlying27 rfl ze) rfl (M.sub ⟨rfl, rfl, rfl, rfl, rfl, rfl, rfl, rfl, rfl, rfl, rfl, trivial⟩)
   ·intro ua uw SV pV M0 hk hn hd
    have M : Mx none w uw _ := M0
    clear M0
    obtain ⟨s3, f35, q35⟩ := (show SV 3 = true ∧ ua.eval (.tmp 35) = pV 3 ∧ stE _ 3 (pV 3) from hd 35 (by decide))
    have e35 : ua.eval (.tmp 35) = numV C := f35.trans q35
    obtain ⟨s8, f40, q40⟩ := (show SV 8 = true ∧ ua.eval (.tmp 40) = pV 8 ∧ stE _ 8 (pV 8) from hd 40 (by decide))
    have e40 : ua.eval (.tmp 40) = numV G1 := f40.trans q40
    obtain ⟨s10, f42, q42⟩ := (show SV 10 = true ∧ ua.eval (.tmp 42) = pV 10 ∧ stE _ 10 (pV 10) from hd 42 (by decide))
    have e42 : ua.eval (.tmp 42) = numV P := f42.trans q42
    exact z4a (zc rfl) rfl #[numV C, numV G1, numV P] (args3 e35 e40 e42) (zE Tryz.func38 rfl) ((kT uw).mono fun e w2 h => ⟨_, h.1, rfl, (M.step h.2).sub ⟨rfl, rfl, rfl, rfl, rfl, rfl, rfl, rfl, rfl, rfl, rfl, trivial⟩⟩)
   ·intro ua uw SV pV M0 hk hn hd
    have M : Mx none w uw _ := M0
    clear M0
    exact zp (zc rfl) _ (zba rfl) ⟨_, rfl⟩ ((M.allocP 10 27 (numA 0)).sub ⟨rfl, rfl, rfl, rfl, rfl, rfl, rfl, rfl, rfl, rfl, rfl, trivial⟩)
   intro p37 a37 w37 M37 G37 y37
   obtain ⟨-, -, -, -, -, -, -, -, -, -, -, q11, q12, -⟩ := y37
   obtain ⟨gp12x36, r12⟩ := (show ∃ g, p37 12 = .pointer (some ⟨g, 0, none⟩) from q12)
   have r11 : p37 11 = numV B := q11
   replace M37 : Mx _ _ w37 [(0, bytR r.l2 (.slice Ar r.l2.length cr)), (1, bytR r.l5 (.slice A5 r.l5.length c5)), (2, bytR ld (.slice As ld.length cs)), (3, blkR g2 29 (zg k P Q g)), (4, blkR g3 33 (recA r ⟨.slice Ar r.l2.length cr, .slice A5 r.l5.length c5⟩)), (5, blkR g4 27 (numA a)), (6, blkR g5 37 (zl ⟨0, 0, 0, 0, "".toUTF8, [], 0, 0, 0, [], 0, (fun _ => 0), (fun _ => 0)⟩ ⟨zN, zN⟩)), (7, blkR g6 27 (numA 0)), (8, blkR g32 22 (#[.slice As ld.length cs])), (9, blkR g34 27 (numA O)), (10, condR true (ptrR 27 (numA 0) (p37 12)))] := M37
   simp only [List.take, layV, Nat.zero_add, Nat.reduceAdd, r11, r12] at G37
   rw [r12] at M37
   have M37_10 := M37.ptr (k := 10) (g := gp12x36) rfl
   refine zka (zc rfl) rfl G37 M37_10 (k := 10) rfl _ _ _ rfl (G37.get (t := 12) rfl) (G37.get (t := 43) rfl) (numA B) _ rfl (zL rfl) (zoa _) (zx rfl) ze ?_
   intro w38 M38
   clear M37_10
   refine hK36 _ _ ?_
   refine zSk fun _ hK39 => ?_
   refine zSk fun _ hK40 => ?_
   refine zR ?_
   refine zh (w' := w38) (zc rfl) rfl G37 rfl (numV B) (zga _ _ rfl (G37.get (t := 12) rfl) (M38.blk (k := 10) rfl) (numA B) (zta rfl) Tryz.underlying27 rfl ze) fun _ F41 => ?_
   clear G37
   refine zh (w' := w38) (zc rfl) rfl F41 rfl (numV 0) (y_zbuild rfl) fun _ F42 => ?_
   clear F41
   by_cases h43 : B = 0
   ·refine zh (w' := w38) (zc rfl) rfl F42 rfl (.bool true) (y_eqA _ _ _ _ rfl (F42.get (t := 44) rfl) (F42.get (t := 45) rfl) (by kernel_rfl) (eqn_is h43 _)) fun _ F44 => ?_
    clear F42
    refine hK40 _ _ ?_
    refine wp_cond_true (F44.get (t := 46) rfl) ?_
    refine zSk fun _ hK45 => ?_
    refine zR ?_
    refine zh (w' := w38) (zc rfl) rfl F44 rfl (.agg (zl ⟨0, 0, 0, 0, "".toUTF8, [], 0, 0, 0, [], 0, (fun _ => 0), (fun _ => 0)⟩ ⟨zN, zN⟩)) (by unfold execOp; kernel_rfl) fun _ F46 => ?_
    clear F44
    refine zh (w' := w38) (zc rfl) rfl F46 rfl (numV 0) (y_zbuild rfl) fun _ F47 => ?_
    clear F46
    refine zka (zc rfl) rfl F47 M38 (k := 6) rfl _ _ _ rfl (F47.get (t := 8) rfl) (F47.get (t := 47) rfl) (zl ⟨0, 0, 0, 0, "".toUTF8, [], 0, 0, 0, [], 0, (fun _ => 0), (fun _ => 0)⟩ ⟨zN, zN⟩) _ rfl (zL rfl) (zpb (w := w38) ⟨(zva _), (zva _)⟩) (zx rfl) (by kernel_rfl) ?_
    intro w48 M48
    clear M38
    refine zka (zc rfl) rfl F47 M48 (k := 7) rfl _ _ _ rfl (F47.get (t := 9) rfl) (F47.get (t := 48) rfl) (numA 0) _ rfl (zL rfl) (zoa _) (zx rfl) ze ?_
    intro w49 M49
    clear M48
    refine rm rfl F47 fun _ F50 => ?_
    refine hK45 _ _ ?_
    refine wp_ret ?_
    try simp only [Exit.then, Exit.inBlock, Exit.jump]
    exact bodyPost_ret (res2ct rfl (F50.get rfl) (M49.blk (k := 6) rfl) (F50.get rfl) (M49.blk (k := 7) rfl) (F50.get rfl) Tryz.underlying37 rfl (by kernel_rfl) Tryz.underlying27 rfl ze) F50.defers (by simp only [Bool.false_and, Bool.true_and, Bool.and_false, Bool.and_true, Bool.not_true, Bool.not_false, cond_true, cond_false, decide_eq_true h43]; exact ⟨zN, rfl, ⟨zva _, zva _⟩, fun b hb => absurd hb (zjc b), M49.below⟩)
   ·refine zh (w' := w38) (zc rfl) rfl F42 rfl (.bool false) (y_eqA _ _ _ _ rfl (F42.get (t := 44) rfl) (F42.get (t := 45) rfl) (by kernel_rfl) (eqn_no hBl h43 _)) fun _ F51 => ?_
    clear F42
    refine hK40 _ _ ?_
    refine wp_cond_false (F51.get (t := 46) rfl) ?_
    refine wp_skip ?_
    refine hK39 _ _ ?_
    refine zSk fun _ hK52 => ?_
    refine zqb F51 [fun vE => vE = .agg (zg k P Q g), fun vE => vE = .pointer (some ⟨g3, 1, none⟩), fun vE => vE = .string r.s, fun vE => vE = numV a, fun vE => vE = numV B, fun vE => vE = numV O, fun vE => vE = .pointer (some ⟨g3, 2, none⟩), fun vE => vE = .slice Ar r.l2.length cr, fun _ => True, fun vE => vE = .pointer (some ⟨g3, 3, none⟩), fun vE => vE = numV r.a, fun _ => True, fun vE => ∃ g, vE = .pointer (some ⟨g, 0, none⟩)] (JM none w fun SV pV => [(0, bytR r.l2 (.slice Ar r.l2.length cr)), (1, bytR r.l5 (.slice A5 r.l5.length c5)), (2, bytR ld (.slice As ld.length cs)), (3, blkR g2 29 (zg k P Q g)), (4, blkR g3 33 (recA r ⟨.slice Ar r.l2.length cr, .slice A5 r.l5.length c5⟩)), (5, blkR g4 27 (numA a)), (6, blkR g5 37 (zl ⟨0, 0, 0, 0, "".toUTF8, [], 0, 0, 0, [], 0, (fun _ => 0), (fun _ => 0)⟩ ⟨zN, zN⟩)), (7, blkR g6 27 (numA 0)), (8, blkR g32 22 (#[.slice As ld.length cs])), (9, blkR g34 27 (numA O)), (10, blkR gp12x36 27 (numA B)), (11, condR (SV 8) (ownR r.l2 (pV 8))), (12, condR (SV 11) (prR (pV 11 = .agg (zl ⟨k, P, Q, g, r.s, [], a, B, O, r.l2, r.a, (fun _ => 0), (fun _ => 0)⟩ ⟨zN, (pV 8)⟩)))), (13, condR (SV 12) (ptrR 37 (zl ⟨0, 0, 0, 0, "".toUTF8, [], 0, 0, 0, [], 0, (fun _ => 0), (fun _ => 0)⟩ ⟨zN, zN⟩) (pV 12)))]) 13 rfl (by kernel_rfl) rfl ⟨trivial, trivial, trivial, trivial, trivial, trivial, trivial, trivial, trivial, trivial, trivial, trivial, trivial, trivial⟩ (fun p => ((((M38.step (zya _)).triv 11).triv 12).triv 13).sub ⟨rfl, rfl, rfl, rfl, rfl, rfl, rfl, rfl, rfl, rfl, rfl, rfl, rfl, rfl, trivial⟩) ⟨?_, ?_, ?_, ?_, ?_, ?_, ?_, ?_, ?_, ?_, ?_, ?_, ?_, trivial⟩ ?_
    ·intro ua uw SV pV M0 hk hn hd
     have M : Mx none w uw _ := M0
     clear M0
     have e4 : ua.eval (.tmp 4) = .pointer (some ⟨g2, 0, none⟩) := (show ua.eval (.tmp 4) = _ from hd 4 (by decide)).trans (F51.get (t := 4) rfl)
     exact zp (zc rfl) _ (zga _ _ rfl e4 (M.blk (k := 3) rfl) (zg k P Q g) (zta rfl) Tryz.underlying29 rfl (by kernel_rfl)) rfl (M.sub ⟨rfl, rfl, rfl, rfl, rfl, rfl, rfl, rfl, rfl, rfl, rfl, rfl, rfl, rfl, trivial⟩)
    ·intro ua uw SV pV M0 hk hn hd
     have M : Mx none w uw _ := M0
     clear M0
     have e5 : ua.eval (.tmp 5) = .pointer (some ⟨g3, 0, none⟩) := (show ua.eval (.tmp 5) = _ from hd 5 (by decide)).trans (F51.get (t := 5) rfl)
     exact zp (zc rfl) (.pointer (some ⟨g3, 1, none⟩)) (y_fa (off := 1) rfl e5 (by kernel_rfl) rfl) rfl (M.sub ⟨rfl, rfl, rfl, rfl, rfl, rfl, rfl, rfl, rfl, rfl, rfl, rfl, rfl, rfl, trivial⟩)
    ·intro ua uw SV pV M0 hk hn hd
     have M : Mx none w uw _ := M0
     clear M0
     obtain ⟨s1, f50, q50⟩ := (show SV 1 = true ∧ ua.eval (.tmp 50) = pV 1 ∧ stE _ 1 (pV 1) from hd 50 (by decide))
     have e50 : ua.eval (.tmp 50) = .pointer (some ⟨g3, 1, none⟩) := f50.trans q50
     exact zp (zc rfl) (.string r.s) (y_ld1 _ _ rfl e50 (M.blk (k := 4) rfl) rfl Tryz.underlying9 rfl) rfl (M.sub ⟨rfl, rfl, rfl, rfl, rfl, rfl, rfl, rfl, rfl, rfl, rfl, rfl, rfl, rfl, trivial⟩)
    ·intro ua uw SV pV M0 hk hn hd
     have M : Mx none w uw _ := M0
     clear M0
     have e6 : ua.eval (.tmp 6) = .pointer (some ⟨g4, 0, none⟩) := (show ua.eval (.tmp 6) = _ from hd 6 (by decide)).trans (F51.get (t := 6) rfl)
     exact zp (zc rfl) (numV a) (zga _ _ rfl e6 (M.blk (k := 5) rfl) (numA a) (zta rfl) Tryz.underlying27 rfl ze) rfl (M.sub ⟨rfl, rfl, rfl, rfl, rfl, rfl, rfl, rfl, rfl, rfl, rfl, rfl, rfl, rfl, trivial⟩)
    ·intro ua uw SV pV M0 hk hn hd
     have M : Mx none w uw _ := M0
     clear M0
     have e12 : ua.eval (.tmp 12) = .pointer (some ⟨gp12x36, 0, none⟩) := (show ua.eval (.tmp 12) = _ from hd 12 (by decide)).trans (F51.get (t := 12) rfl)
     exact zp (zc rfl) (numV B) (zga _ _ rfl e12 (M.blk (k := 10) rfl) (numA B) (zta rfl) Tryz.underlying27 rfl ze) rfl (M.sub ⟨rfl, rfl, rfl, rfl, rfl, rfl, rfl, rfl, rfl, rfl, rfl, rfl, rfl, rfl, trivial⟩)
    ·intro ua uw SV pV M0 hk hn hd
     have M : Mx none w uw _ := M0
     clear M0
     have e11 : ua.eval (.tmp 11) = .pointer (some ⟨g34, 0, none⟩) := (show ua.eval (.tmp 11) = _ from hd 11 (by decide)).trans (F51.get (t := 11) rfl)
     exact zp (zc rfl) (numV O) (zga _ _ rfl e11 (M.blk (k := 9) rfl) (numA O) (zta rfl) Tryz.underlying27 rfl ze) rfl (M.sub ⟨rfl, rfl, rfl, rfl, rfl, rfl, rfl, rfl, rfl, rfl, rfl, rfl, rfl, rfl, trivial⟩)
    ·intro ua uw SV pV M0 hk hn hd
     have M : Mx none w uw _ := M0
     clear M0
     have e5 : ua.eval (.tmp 5) = .pointer (some ⟨g3, 0, none⟩) := (show ua.eval (.tmp 5) = _ from hd 5 (by decide)).trans (F51.get (t := 5) rfl)
     exact zp (zc rfl) (.pointer (some ⟨g3, 2, none⟩)) (y_fa (off := 2) rfl e5 (by kernel_rfl) rfl) rfl (M.sub ⟨rfl, rfl, rfl, rfl, rfl, rfl, rfl, rfl, rfl, rfl, rfl, rfl, rfl, rfl, trivial⟩)
    ·intro ua uw SV pV M0 hk hn hd
     have M : Mx none w uw _ := M0
     clear M0
     obtain ⟨s6, f55, q55⟩ := (show SV 6 = true ∧ ua.eval (.tmp 55) = pV 6 ∧ stE _ 6 (pV 6) from hd 55 (by decide))
     have e55 : ua.eval (.tmp 55) = .pointer (some ⟨g3, 2, none⟩) := f55.trans q55
     exact zp (zc rfl) (.slice Ar r.l2.length cr) (y_ld1 _ _ rfl e55 (M.blk (k := 4) rfl) rfl Tryz.underlying22 rfl) rfl (M.sub ⟨rfl, rfl, rfl, rfl, rfl, rfl, rfl, rfl, rfl, rfl, rfl, rfl, rfl, rfl, trivial⟩)
    ·intro ua uw SV pV M0 hk hn hd
     have M : Mx none w uw _ := M0
     clear M0
     obtain ⟨s7, f56, q56⟩ := (show SV 7 = true ∧ ua.eval (.tmp 56) = pV 7 ∧ stE _ 7 (pV 7) from hd 56 (by decide))
     have e56 : ua.eval (.tmp 56) = .slice Ar r.l2.length cr := f56.trans q56
     exact z4a (zc rfl) rfl #[.slice Ar r.l2.length cr] (z2a e56) (zE Tryz.func36 rfl) (((clone_r r.l2 (.slice Ar r.l2.length cr) (by omega) uw (M.isb (k := 0) rfl))).mono fun e w2 h => (by obtain ⟨u, h1, h2, h3⟩ := h; exact ⟨u, h1, trivial, (M.newO h3 11 h2).sub ⟨rfl, rfl, rfl, rfl, rfl, rfl, rfl, rfl, rfl, rfl, rfl, rfl, (condR_off (hn 11 (by kernel_rfl)) rfl), rfl, trivial⟩⟩))
    ·intro ua uw SV pV M0 hk hn hd
     have M : Mx none w uw _ := M0
     clear M0
     have e5 : ua.eval (.tmp 5) = .pointer (some ⟨g3, 0, none⟩) := (show ua.eval (.tmp 5) = _ from hd 5 (by decide)).trans (F51.get (t := 5) rfl)
     exact zp (zc rfl) (.pointer (some ⟨g3, 3, none⟩)) (y_fa (off := 3) rfl e5 (by kernel_rfl) rfl) rfl (M.sub ⟨rfl, rfl, rfl, rfl, rfl, rfl, rfl, rfl, rfl, rfl, rfl, rfl, rfl, rfl, trivial⟩)
    ·intro ua uw SV pV M0 hk hn hd
     have M : Mx none w uw _ := M0
     clear M0
     obtain ⟨s9, f58, q58⟩ := (show SV 9 = true ∧ ua.eval (.tmp 58) = pV 9 ∧ stE _ 9 (pV 9) from hd 58 (by decide))
     have e58 : ua.eval (.tmp 58) = .pointer (some ⟨g3, 3, none⟩) := f58.trans q58
     exact zp (zc rfl) (numV r.a) (zga _ _ rfl e58 (M.blk (k := 4) rfl) (numA r.a) (y_part8 rfl rfl rfl rfl rfl rfl rfl rfl) Tryz.underlying27 rfl ze) rfl (M.sub ⟨rfl, rfl, rfl, rfl, rfl, rfl, rfl, rfl, rfl, rfl, rfl, rfl, rfl, rfl, trivial⟩)
    ·intro ua uw SV pV M0 hk hn hd
     have M : Mx none w uw _ := M0
     clear M0
     obtain ⟨s0, f49, q49⟩ := (show SV 0 = true ∧ ua.eval (.tmp 49) = pV 0 ∧ stE _ 0 (pV 0) from hd 49 (by decide))
     have e49 : ua.eval (.tmp 49) = .agg (zg k P Q g) := f49.trans q49
     obtain ⟨s2, f51, q51⟩ := (show SV 2 = true ∧ ua.eval (.tmp 51) = pV 2 ∧ stE _ 2 (pV 2) from hd 51 (by decide))
     have e51 : ua.eval (.tmp 51) = .string r.s := f51.trans q51
     obtain ⟨s3, f52, q52⟩ := (show SV 3 = true ∧ ua.eval (.tmp 52) = pV 3 ∧ stE _ 3 (pV 3) from hd 52 (by decide))
     have e52 : ua.eval (.tmp 52) = numV a := f52.trans q52
     obtain ⟨s4, f53, q53⟩ := (show SV 4 = true ∧ ua.eval (.tmp 53) = pV 4 ∧ stE _ 4 (pV 4) from hd 53 (by decide))
     have e53 : ua.eval (.tmp 53) = numV B := f53.trans q53
     obtain ⟨s5, f54, q54⟩ := (show SV 5 = true ∧ ua.eval (.tmp 54) = pV 5 ∧ stE _ 5 (pV 5) from hd 54 (by decide))
     have e54 : ua.eval (.tmp 54) = numV O := f54.trans q54
     obtain ⟨s8, f57, q57⟩ := (show SV 8 = true ∧ ua.eval (.tmp 57) = pV 8 ∧ stE _ 8 (pV 8) from hd 57 (by decide))
     have e57 : ua.eval (.tmp 57) = (pV 8) := f57
     obtain ⟨s10, f59, q59⟩ := (show SV 10 = true ∧ ua.eval (.tmp 59) = pV 10 ∧ stE _ 10 (pV 10) from hd 59 (by decide))
     have e59 : ua.eval (.tmp 59) = numV r.a := f59.trans q59
     obtain ⟨A0_, c0_, h0_⟩ := (M.isO (k := 11) (condR_look s8 rfl)).shape
     exact zp (zc rfl) (.agg (zl ⟨k, P, Q, g, r.s, [], a, B, O, r.l2, r.a, (fun _ => 0), (fun _ => 0)⟩ ⟨zN, (pV 8)⟩)) (by unfold execOp; simp only [List.map_toArray, List.map_cons, List.map_nil, e49, e51, e52, e53, e54, e57, e59, h0_]; kernel_rfl) trivial ((M.prP 12 rfl).sub ⟨rfl, rfl, rfl, rfl, rfl, rfl, rfl, rfl, rfl, rfl, rfl, rfl, rfl, rfl, trivial⟩)
    ·intro ua uw SV pV M0 hk hn hd
     have M : Mx none w uw _ := M0
     clear M0
     exact zp (zc rfl) _ (by unfold execOp; kernel_rfl) ⟨_, rfl⟩ ((M.allocP 13 37 (zl ⟨0, 0, 0, 0, "".toUTF8, [], 0, 0, 0, [], 0, (fun _ => 0), (fun _ => 0)⟩ ⟨zN, zN⟩)).sub ⟨rfl, rfl, rfl, rfl, rfl, rfl, rfl, rfl, rfl, rfl, rfl, rfl, rfl, rfl, trivial⟩)
    intro p53 a53 w53 M53 G53 y53
    obtain ⟨-, -, -, -, -, -, -, -, -, -, -, q11, q12, -⟩ := y53
    obtain ⟨gp12x52, r12⟩ := (show ∃ g, p53 12 = .pointer (some ⟨g, 0, none⟩) from q12)
    have r11 : p53 11 = .agg (zl ⟨k, P, Q, g, r.s, [], a, B, O, r.l2, r.a, (fun _ => 0), (fun _ => 0)⟩ ⟨zN, (p53 8)⟩) := (show (prR (p53 11 = .agg (zl ⟨k, P, Q, g, r.s, [], a, B, O, r.l2, r.a, (fun _ => 0), (fun _ => 0)⟩ ⟨zN, (p53 8)⟩))).F _ from Mx.at_ (show Mx _ _ _ _ from M53) 12 _ rfl)
    replace M53 : Mx _ _ w53 [(0, bytR r.l2 (.slice Ar r.l2.length cr)), (1, bytR r.l5 (.slice A5 r.l5.length c5)), (2, bytR ld (.slice As ld.length cs)), (3, blkR g2 29 (zg k P Q g)), (4, blkR g3 33 (recA r ⟨.slice Ar r.l2.length cr, .slice A5 r.l5.length c5⟩)), (5, blkR g4 27 (numA a)), (6, blkR g5 37 (zl ⟨0, 0, 0, 0, "".toUTF8, [], 0, 0, 0, [], 0, (fun _ => 0), (fun _ => 0)⟩ ⟨zN, zN⟩)), (7, blkR g6 27 (numA 0)), (8, blkR g32 22 (#[.slice As ld.length cs])), (9, blkR g34 27 (numA O)), (10, blkR gp12x36 27 (numA B)), (11, condR true (ownR r.l2 (p53 8))), (12, condR true (prR (p53 11 = .agg (zl ⟨k, P, Q, g, r.s, [], a, B, O, r.l2, r.a, (fun _ => 0), (fun _ => 0)⟩ ⟨zN, (p53 8)⟩)))), (13, condR true (ptrR 37 (zl ⟨0, 0, 0, 0, "".toUTF8, [], 0, 0, 0, [], 0, (fun _ => 0), (fun _ => 0)⟩ ⟨zN, zN⟩) (p53 12)))] := M53
    simp only [List.take, layV, Nat.zero_add, Nat.reduceAdd, r11, r12] at G53
    rw [r12] at M53
    have M53_13 := M53.ptr (k := 13) (g := gp12x52) rfl
    obtain ⟨Ap53_11, cp53_11, hp53_11⟩ := (M53_13.isO (k := 11) rfl).shape
    rw [hp53_11] at M53_13
    try rw [hp53_11] at G53
    refine zka (zc rfl) rfl G53 M53_13 (k := 13) rfl _ _ _ rfl (G53.get (t := 13) rfl) (G53.get (t := 60) rfl) (zl ⟨k, P, Q, g, r.s, [], a, B, O, r.l2, r.a, (fun _ => 0), (fun _ => 0)⟩ ⟨zN, (.slice Ap53_11 (r.l2).length cp53_11)⟩) _ rfl (zL rfl) (zpb (w := w53) ⟨(zva _), (M53_13.isO (k := 11) rfl)⟩) (zx rfl) (by kernel_rfl) ?_
    intro w54 M54
    clear M53_13
    refine hK52 _ _ ?_
    refine zSk fun _ hK55 => ?_
    refine zqb G53 [fun vE => vE = .agg (zg k P Q g), fun vE => vE = numV a, fun vE => vE = .agg (zg k P Q g), fun vE => vE = .pointer (some ⟨g3, 3, none⟩), fun vE => vE = numV r.a, fun vE => vE = .agg (zl ⟨k, P, Q, g, r.s, [], a, B, O, r.l2, r.a, (fun _ => 0), (fun _ => 0)⟩ ⟨zN, (.slice Ap53_11 (r.l2).length cp53_11)⟩), fun vE => vE = numV U, fun vE => vE = numV T1, fun vE => vE = numV T2, fun vE => ∃ g, vE = .pointer (some ⟨g, 0, none⟩)] (JM none w fun SV pV => [(0, bytR r.l2 (.slice Ar r.l2.length cr)), (1, bytR r.l5 (.slice A5 r.l5.length c5)), (2, bytR ld (.slice As ld.length cs)), (3, blkR g2 29 (zg k P Q g)), (4, blkR g3 33 (recA r ⟨.slice Ar r.l2.length cr, .slice A5 r.l5.length c5⟩)), (5, blkR g4 27 (numA a)), (6, blkR g5 37 (zl ⟨0, 0, 0, 0, "".toUTF8, [], 0, 0, 0, [], 0, (fun _ => 0), (fun _ => 0)⟩ ⟨zN, zN⟩)), (7, blkR g6 27 (numA 0)), (8, blkR g32 22 (#[.slice As ld.length cs])), (9, blkR g34 27 (numA O)), (10, blkR gp12x36 27 (numA B)), (11, ownR r.l2 (.slice Ap53_11 (r.l2).length cp53_11)), (12, prR (p53 11 = .agg (zl ⟨k, P, Q, g, r.s, [], a, B, O, r.l2, r.a, (fun _ => 0), (fun _ => 0)⟩ ⟨zN, (.slice Ap53_11 (r.l2).length cp53_11)⟩))), (13, blkR gp12x52 37 (zl ⟨k, P, Q, g, r.s, [], a, B, O, r.l2, r.a, (fun _ => 0), (fun _ => 0)⟩ ⟨zN, (.slice Ap53_11 (r.l2).length cp53_11)⟩)), (14, condR (SV 9) (ptrR 27 (numA 0) (pV 9)))]) 10 rfl (by kernel_rfl) rfl ⟨trivial, trivial, trivial, trivial, trivial, trivial, trivial, trivial, trivial, trivial, trivial⟩ (fun p => ((M54.step (zya _)).triv 14).sub ⟨rfl, rfl, rfl, rfl, rfl, rfl, rfl, rfl, rfl, rfl, rfl, rfl, rfl, rfl, rfl, trivial⟩) ⟨?_, ?_, ?_, ?_, ?_, ?_, ?_, ?_, ?_, ?_, trivial⟩ ?_
    ·intro ua uw SV pV M0 hk hn hd
     have M : Mx none w uw _ := M0
     clear M0
     have e4 : ua.eval (.tmp 4) = .pointer (some ⟨g2, 0, none⟩) := (show ua.eval (.tmp 4) = _ from hd 4 (by decide)).trans (G53.get (t := 4) rfl)
     exact zp (zc rfl) _ (zga _ _ rfl e4 (M.blk (k := 3) rfl) (zg k P Q g) (zta rfl) Tryz.underlying29 rfl (by kernel_rfl)) rfl (M.sub ⟨rfl, rfl, rfl, rfl, rfl, rfl, rfl, rfl, rfl, rfl, rfl, rfl, rfl, rfl, rfl, trivial⟩)
    ·intro ua uw SV pV M0 hk hn hd
     have M : Mx none w uw _ := M0
     clear M0
     have e6 : ua.eval (.tmp 6) = .pointer (some ⟨g4, 0, none⟩) := (show ua.eval (.tmp 6) = _ from hd 6 (by decide)).trans (G53.get (t := 6) rfl)
     exact zp (zc rfl) (numV a) (zga _ _ rfl e6 (M.blk (k := 5) rfl) (numA a) (zta rfl) Tryz.underlying27 rfl ze) rfl (M.sub ⟨rfl, rfl, rfl, rfl, rfl, rfl, rfl, rfl, rfl, rfl, rfl, rfl, rfl, rfl, rfl, trivial⟩)
    ·intro ua uw SV pV M0 hk hn hd
     have M : Mx none w uw _ := M0
     clear M0
     have e4 : ua.eval (.tmp 4) = .pointer (some ⟨g2, 0, none⟩) := (show ua.eval (.tmp 4) = _ from hd 4 (by decide)).trans (G53.get (t := 4) rfl)
     exact zp (zc rfl) _ (zga _ _ rfl e4 (M.blk (k := 3) rfl) (zg k P Q g) (zta rfl) Tryz.underlying29 rfl (by kernel_rfl)) rfl (M.sub ⟨rfl, rfl, rfl, rfl, rfl, rfl, rfl, rfl, rfl, rfl, rfl, rfl, rfl, rfl, rfl, trivial⟩)
    ·intro ua uw SV pV M0 hk hn hd
     have M : Mx none w uw _ := M0
     clear M0
     have e5 : ua.eval (.tmp 5) = .pointer (some ⟨g3, 0, none⟩) := (show ua.eval (.tmp 5) = _ from hd 5 (by decide)).trans (G53.get (t := 5) rfl)
     exact zp (zc rfl) (.pointer (some ⟨g3, 3, none⟩)) (y_fa (off := 3) rfl e5 (by kernel_rfl) rfl) rfl (M.sub ⟨rfl, rfl, rfl, rfl, rfl, rfl, rfl, rfl, rfl, rfl, rfl, rfl, rfl, rfl, rfl, trivial⟩)
    ·intro ua uw SV pV M0 hk hn hd
     have M : Mx none w uw _ := M0
     clear M0
     obtain ⟨s3, f64, q64⟩ := (show SV 3 = true ∧ ua.eval (.tmp 64) = pV 3 ∧ stE _ 3 (pV 3) from hd 64 (by decide))
     have e64 : ua.eval (.tmp 64) = .pointer (some ⟨g3, 3, none⟩) := f64.trans q64
     exact zp (zc rfl) (numV r.a) (zga _ _ rfl e64 (M.blk (k := 4) rfl) (numA r.a) (y_part8 rfl rfl rfl rfl rfl rfl rfl rfl) Tryz.underlying27 rfl ze) rfl (M.sub ⟨rfl, rfl, rfl, rfl, rfl, rfl, rfl, rfl, rfl, rfl, rfl, rfl, rfl, rfl, rfl, trivial⟩)
    ·intro ua uw SV pV M0 hk hn hd
     have M : Mx none w uw _ := M0
     clear M0
     have e13 : ua.eval (.tmp 13) = .pointer (some ⟨gp12x52, 0, none⟩) := (show ua.eval (.tmp 13) = _ from hd 13 (by decide)).trans (G53.get (t := 13) rfl)
     exact zp (zc rfl) _ (zga _ _ rfl e13 (M.blk (k := 13) rfl) (zl ⟨k, P, Q, g, r.s, [], a, B, O, r.l2, r.a, (fun _ => 0), (fun _ => 0)⟩ ⟨zN, (.slice Ap53_11 (r.l2).length cp53_11)⟩) (zta rfl) Tryz.underlying37 rfl (by kernel_rfl)) rfl (M.sub ⟨rfl, rfl, rfl, rfl, rfl, rfl, rfl, rfl, rfl, rfl, rfl, rfl, rfl, rfl, rfl, trivial⟩)
    ·intro ua uw SV pV M0 hk hn hd
     have M : Mx none w uw _ := M0
     clear M0
     obtain ⟨s5, f66, q66⟩ := (show SV 5 = true ∧ ua.eval (.tmp 66) = pV 5 ∧ stE _ 5 (pV 5) from hd 66 (by decide))
     have e66 : ua.eval (.tmp 66) = .agg (zl ⟨k, P, Q, g, r.s, [], a, B, O, r.l2, r.a, (fun _ => 0), (fun _ => 0)⟩ ⟨zN, (.slice Ap53_11 (r.l2).length cp53_11)⟩) := f66.trans q66
     exact z4a (zc rfl) rfl #[.agg (zl ⟨k, P, Q, g, r.s, [], a, B, O, r.l2, r.a, (fun _ => 0), (fun _ => 0)⟩ ⟨zN, (.slice Ap53_11 (r.l2).length cp53_11)⟩)] (z2a e66) (zE Tryz.func41 rfl) (((hU ▸ scramble_any ⟨k, P, Q, g, r.s, [], a, B, O, r.l2, r.a, (fun _ => 0), (fun _ => 0)⟩ ⟨zN, (.slice Ap53_11 (r.l2).length cp53_11)⟩ h2 hQ uw ⟨(zva _), (M.isO (k := 11) rfl)⟩)).mono fun e w2 h => ⟨_, h.1, rfl, (M.step h.2).sub ⟨rfl, rfl, rfl, rfl, rfl, rfl, rfl, rfl, rfl, rfl, rfl, rfl, rfl, rfl, rfl, trivial⟩⟩)
    ·intro ua uw SV pV M0 hk hn hd
     have M : Mx none w uw _ := M0
     clear M0
     obtain ⟨s2, f63, q63⟩ := (show SV 2 = true ∧ ua.eval (.tmp 63) = pV 2 ∧ stE _ 2 (pV 2) from hd 63 (by decide))
     have e63 : ua.eval (.tmp 63) = .agg (zg k P Q g) := f63.trans q63
     obtain ⟨s4, f65, q65⟩ := (show SV 4 = true ∧ ua.eval (.tmp 65) = pV 4 ∧ stE _ 4 (pV 4) from hd 65 (by decide))
     have e65 : ua.eval (.tmp 65) = numV r.a := f65.trans q65
     obtain ⟨s6, f67, q67⟩ := (show SV 6 = true ∧ ua.eval (.tmp 67) = pV 6 ∧ stE _ 6 (pV 6) from hd 67 (by decide))
     have e67 : ua.eval (.tmp 67) = numV U := f67.trans q67
     exact z4a (zc rfl) rfl #[.agg (zg k P Q g), numV r.a, numV U] (args3 e63 e65 e67) (zE Tryz.func33 rfl) ((kR2 uw).mono fun e w2 h => ⟨_, h.1, rfl, (M.step h.2).sub ⟨rfl, rfl, rfl, rfl, rfl, rfl, rfl, rfl, rfl, rfl, rfl, rfl, rfl, rfl, rfl, trivial⟩⟩)
    ·intro ua uw SV pV M0 hk hn hd
     have M : Mx none w uw _ := M0
     clear M0
     obtain ⟨s0, f61, q61⟩ := (show SV 0 = true ∧ ua.eval (.tmp 61) = pV 0 ∧ stE _ 0 (pV 0) from hd 61 (by decide))
     have e61 : ua.eval (.tmp 61) = .agg (zg k P Q g) := f61.trans q61
     obtain ⟨s1, f62, q62⟩ := (show SV 1 = true ∧ ua.eval (.tmp 62) = pV 1 ∧ stE _ 1 (pV 1) from hd 62 (by decide))
     have e62 : ua.eval (.tmp 62) = numV a := f62.trans q62
     obtain ⟨s7, f68, q68⟩ := (show SV 7 = true ∧ ua.eval (.tmp 68) = pV 7 ∧ stE _ 7 (pV 7) from hd 68 (by decide))
     have e68 : ua.eval (.tmp 68) = numV T1 := f68.trans q68
     exact z4a (zc rfl) rfl #[.agg (zg k P Q g), numV a, numV T1] (args3 e61 e62 e68) (zE Tryz.func40 rfl) ((kM uw).mono fun e w2 h => ⟨_, h.1, rfl, (M.step h.2).sub ⟨rfl, rfl, rfl, rfl, rfl, rfl, rfl, rfl, rfl, rfl, rfl, rfl, rfl, rfl, rfl, trivial⟩⟩)
    ·intro ua uw SV pV M0 hk hn hd
     have M : Mx none w uw _ := M0
     clear M0
     exact zp (zc rfl) _ (zba rfl) ⟨_, rfl⟩ ((M.allocP 14 27 (numA 0)).sub ⟨rfl, rfl, rfl, rfl, rfl, rfl, rfl, rfl, rfl, rfl, rfl, rfl, rfl, rfl, rfl, trivial⟩)
    intro p56 a56 w56 M56 G56 y56
    obtain ⟨-, -, -, -, -, -, -, -, q8, q9, -⟩ := y56
    obtain ⟨gp9x55, r9⟩ := (show ∃ g, p56 9 = .pointer (some ⟨g, 0, none⟩) from q9)
    have r8 : p56 8 = numV T2 := q8
    replace M56 : Mx _ _ w56 [(0, bytR r.l2 (.slice Ar r.l2.length cr)), (1, bytR r.l5 (.slice A5 r.l5.length c5)), (2, bytR ld (.slice As ld.length cs)), (3, blkR g2 29 (zg k P Q g)), (4, blkR g3 33 (recA r ⟨.slice Ar r.l2.length cr, .slice A5 r.l5.length c5⟩)), (5, blkR g4 27 (numA a)), (6, blkR g5 37 (zl ⟨0, 0, 0, 0, "".toUTF8, [], 0, 0, 0, [], 0, (fun _ => 0), (fun _ => 0)⟩ ⟨zN, zN⟩)), (7, blkR g6 27 (numA 0)), (8, blkR g32 22 (#[.slice As ld.length cs])), (9, blkR g34 27 (numA O)), (10, blkR gp12x36 27 (numA B)), (11, ownR r.l2 (.slice Ap53_11 (r.l2).length cp53_11)), (12, prR (p53 11 = .agg (zl ⟨k, P, Q, g, r.s, [], a, B, O, r.l2, r.a, (fun _ => 0), (fun _ => 0)⟩ ⟨zN, (.slice Ap53_11 (r.l2).length cp53_11)⟩))), (13, blkR gp12x52 37 (zl ⟨k, P, Q, g, r.s, [], a, B, O, r.l2, r.a, (fun _ => 0), (fun _ => 0)⟩ ⟨zN, (.slice Ap53_11 (r.l2).length cp53_11)⟩)), (14, condR true (ptrR 27 (numA 0) (p56 9)))] := M56
    simp only [List.take, layV, Nat.zero_add, Nat.reduceAdd, r8, r9] at G56
    rw [r9] at M56
    have M56_14 := M56.ptr (k := 14) (g := gp9x55) rfl
    refine zka (zc rfl) rfl G56 M56_14 (k := 14) rfl _ _ _ rfl (G56.get (t := 14) rfl) (G56.get (t := 69) rfl) (numA T2) _ rfl (zL rfl) (zoa _) (zx rfl) ze ?_
    intro w57 M57
    clear M56_14
    refine hK55 _ _ ?_
    refine zSk fun _ hK58 => ?_
    refine zqb G56 [fun vE => vE = .agg (zl ⟨k, P, Q, g, r.s, [], a, B, O, r.l2, r.a, (fun _ => 0), (fun _ => 0)⟩ ⟨zN, (.slice Ap53_11 (r.l2).length cp53_11)⟩), fun vE => vE = .agg (zg k P Q g), fun vE => vE = numV T2, fun vE => vE = numV O, fun vE => vE = numV N, fun vE => vE = .agg (zl (zkb ⟨k, P, Q, g, r.s, [], a, B, O, r.l2, r.a, (fun _ => 0), (fun _ => 0)⟩ N) ⟨zN, (.slice Ap53_11 (r.l2).length cp53_11)⟩), fun vE => vE = numV B, fun vE => vE = undef] (JM none w fun SV pV => [(0, bytR r.l2 (.slice Ar r.l2.length cr)), (1, bytR r.l5 (.slice A5 r.l5.length c5)), (2, bytR ld (.slice As ld.length cs)), (3, blkR g2 29 (zg k P Q g)), (4, blkR g3 33 (recA r ⟨.slice Ar r.l2.length cr, .slice A5 r.l5.length c5⟩)), (5, blkR g4 27 (numA a)), (6, blkR g5 37 (zl (cond (SV 7) ((zkb ⟨k, P, Q, g, r.s, [], a, B, O, r.l2, r.a, (fun _ => 0), (fun _ => 0)⟩ N) : SideN) ⟨0, 0, 0, 0, "".toUTF8, [], 0, 0, 0, [], 0, (fun _ => 0), (fun _ => 0)⟩) (cond (SV 7) (⟨zN, (.slice Ap53_11 (r.l2).length cp53_11)⟩ : SideV) ⟨zN, zN⟩))), (7, blkR g6 27 (numA 0)), (8, blkR g32 22 (#[.slice As ld.length cs])), (9, blkR g34 27 (numA O)), (10, blkR gp12x36 27 (numA B)), (11, ownR r.l2 (.slice Ap53_11 (r.l2).length cp53_11)), (12, prR (p53 11 = .agg (zl ⟨k, P, Q, g, r.s, [], a, B, O, r.l2, r.a, (fun _ => 0), (fun _ => 0)⟩ ⟨zN, (.slice Ap53_11 (r.l2).length cp53_11)⟩))), (13, blkR gp12x52 37 (zl ⟨k, P, Q, g, r.s, [], a, B, O, r.l2, r.a, (fun _ => 0), (fun _ => 0)⟩ ⟨zN, (.slice Ap53_11 (r.l2).length cp53_11)⟩)), (14, blkR gp9x55 27 (numA T2))]) 8 rfl (by kernel_rfl) rfl ⟨trivial, trivial, trivial, trivial, trivial, trivial, trivial, fun _ => Iff.rfl, trivial⟩ (fun p => (M57.step (zya _)).sub ⟨rfl, rfl, rfl, rfl, rfl, rfl, rfl, rfl, rfl, rfl, rfl, rfl, rfl, rfl, rfl, trivial⟩) ⟨?_, ?_, ?_, ?_, ?_, ?_, ?_, ?_, trivial⟩ ?_
    ·intro ua uw SV pV M0 hk hn hd
     have M : Mx none w uw _ := M0
     clear M0
     have e13 : ua.eval (.tmp 13) = .pointer (some ⟨gp12x52, 0, none⟩) := (show ua.eval (.tmp 13) = _ from hd 13 (by decide)).trans (G56.get (t := 13) rfl)
     exact zp (zc rfl) _ (zga _ _ rfl e13 (M.blk (k := 13) rfl) (zl ⟨k, P, Q, g, r.s, [], a, B, O, r.l2, r.a, (fun _ => 0), (fun _ => 0)⟩ ⟨zN, (.slice Ap53_11 (r.l2).length cp53_11)⟩) (zta rfl) Tryz.underlying37 rfl (by kernel_rfl)) rfl (M.sub ⟨rfl, rfl, rfl, rfl, rfl, rfl, rfl, rfl, rfl, rfl, rfl, rfl, rfl, rfl, rfl, trivial⟩)
    ·intro ua uw SV pV M0 hk hn hd
     have M : Mx none w uw _ := M0
     clear M0
     have e4 : ua.eval (.tmp 4) = .pointer (some ⟨g2, 0, none⟩) := (show ua.eval (.tmp 4) = _ from hd 4 (by decide)).trans (G56.get (t := 4) rfl)
     exact zp (zc rfl) _ (zga _ _ rfl e4 (M.blk (k := 3) rfl) (zg k P Q g) (zta rfl) Tryz.underlying29 rfl (by kernel_rfl)) rfl (M.sub ⟨rfl, rfl, rfl, rfl, rfl, rfl, rfl, rfl, rfl, rfl, rfl, rfl, rfl, rfl, rfl, trivial⟩)
    ·intro ua uw SV pV M0 hk hn hd
     have M : Mx none w uw _ := M0
     clear M0
     have e14 : ua.eval (.tmp 14) = .pointer (some ⟨gp9x55, 0, none⟩) := (show ua.eval (.tmp 14) = _ from hd 14 (by decide)).trans (G56.get (t := 14) rfl)
     exact zp (zc rfl) (numV T2) (zga _ _ rfl e14 (M.blk (k := 14) rfl) (numA T2) (zta rfl) Tryz.underlying27 rfl ze) rfl (M.sub ⟨rfl, rfl, rfl, rfl, rfl, rfl, rfl, rfl, rfl, rfl, rfl, rfl, rfl, rfl, rfl, trivial⟩)
    ·intro ua uw SV pV M0 hk hn hd
     have M : Mx none w uw _ := M0
     clear M0
     have e11 : ua.eval (.tmp 11) = .pointer (some ⟨g34, 0, none⟩) := (show ua.eval (.tmp 11) = _ from hd 11 (by decide)).trans (G56.get (t := 11) rfl)
     exact zp (zc rfl) (numV O) (zga _ _ rfl e11 (M.blk (k := 9) rfl) (numA O) (zta rfl) Tryz.underlying27 rfl ze) rfl (M.sub ⟨rfl, rfl, rfl, rfl, rfl, rfl, rfl, rfl, rfl, rfl, rfl, rfl, rfl, rfl, rfl, trivial⟩)
    ·intro ua uw SV pV M0 hk hn hd
     have M : Mx none w uw _ := M0
     clear M0
     obtain ⟨s1, f71, q71⟩ := (show SV 1 = true ∧ ua.eval (.tmp 71) = pV 1 ∧ stE _ 1 (pV 1) from hd 71 (by decide))
     have e71 : ua.eval (.tmp 71) = .agg (zg k P Q g) := f71.trans q71
     obtain ⟨s2, f72, q72⟩ := (show SV 2 = true ∧ ua.eval (.tmp 72) = pV 2 ∧ stE _ 2 (pV 2) from hd 72 (by decide))
     have e72 : ua.eval (.tmp 72) = numV T2 := f72.trans q72
     obtain ⟨s3, f73, q73⟩ := (show SV 3 = true ∧ ua.eval (.tmp 73) = pV 3 ∧ stE _ 3 (pV 3) from hd 73 (by decide))
     have e73 : ua.eval (.tmp 73) = numV O := f73.trans q73
     exact z4a (zc rfl) rfl #[.agg (zg k P Q g), numV T2, numV O] (args3 e71 e72 e73) (zE Tryz.func33 rfl) ((kR3 uw).mono fun e w2 h => ⟨_, h.1, rfl, (M.step h.2).sub ⟨rfl, rfl, rfl, rfl, rfl, rfl, rfl, rfl, rfl, rfl, rfl, rfl, rfl, rfl, rfl, trivial⟩⟩)
    ·intro ua uw SV pV M0 hk hn hd
     have M : Mx none w uw _ := M0
     clear M0
     obtain ⟨s0, f70, q70⟩ := (show SV 0 = true ∧ ua.eval (.tmp 70) = pV 0 ∧ stE _ 0 (pV 0) from hd 70 (by decide))
     have e70 : ua.eval (.tmp 70) = .agg (zl ⟨k, P, Q, g, r.s, [], a, B, O, r.l2, r.a, (fun _ => 0), (fun _ => 0)⟩ ⟨zN, (.slice Ap53_11 (r.l2).length cp53_11)⟩) := f70.trans q70
     obtain ⟨s4, f74, q74⟩ := (show SV 4 = true ∧ ua.eval (.tmp 74) = pV 4 ∧ stE _ 4 (pV 4) from hd 74 (by decide))
     have e74 : ua.eval (.tmp 74) = numV N := f74.trans q74
     exact z4a (zc rfl) rfl #[.agg (zl ⟨k, P, Q, g, r.s, [], a, B, O, r.l2, r.a, (fun _ => 0), (fun _ => 0)⟩ ⟨zN, (.slice Ap53_11 (r.l2).length cp53_11)⟩), numV N] (z7b e70 e74) (zE Tryz.func42 rfl) (((sharing_any ⟨k, P, Q, g, r.s, [], a, B, O, r.l2, r.a, (fun _ => 0), (fun _ => 0)⟩ ⟨zN, (.slice Ap53_11 (r.l2).length cp53_11)⟩ N hs uw ⟨(zva _), (M.isO (k := 11) rfl)⟩)).mono fun e w2 h => ⟨_, h.1, rfl, (M.step h.2).sub ⟨rfl, rfl, rfl, rfl, rfl, rfl, rfl, rfl, rfl, rfl, rfl, rfl, rfl, rfl, rfl, trivial⟩⟩)
    ·intro ua uw SV pV M0 hk hn hd
     have M : Mx none w uw _ := M0
     clear M0
     have e12 : ua.eval (.tmp 12) = .pointer (some ⟨gp12x36, 0, none⟩) := (show ua.eval (.tmp 12) = _ from hd 12 (by decide)).trans (G56.get (t := 12) rfl)
     exact zp (zc rfl) (numV B) (zga _ _ rfl e12 (M.blk (k := 10) rfl) (numA B) (zta rfl) Tryz.underlying27 rfl ze) rfl (M.sub ⟨rfl, rfl, rfl, rfl, rfl, rfl, rfl, rfl, rfl, rfl, rfl, rfl, rfl, rfl, rfl, trivial⟩)
    ·intro ua uw SV pV M0 hk hn hd
     have M : Mx none w uw _ := M0
     clear M0
     have e8 : ua.eval (.tmp 8) = .pointer (some ⟨g5, 0, none⟩) := (show ua.eval (.tmp 8) = _ from hd 8 (by decide)).trans (G56.get (t := 8) rfl)
     obtain ⟨s5, f75, q75⟩ := (show SV 5 = true ∧ ua.eval (.tmp 75) = pV 5 ∧ stE _ 5 (pV 5) from hd 75 (by decide))
     have e75 : ua.eval (.tmp 75) = .agg (zl (zkb ⟨k, P, Q, g, r.s, [], a, B, O, r.l2, r.a, (fun _ => 0), (fun _ => 0)⟩ N) ⟨zN, (.slice Ap53_11 (r.l2).length cp53_11)⟩) := f75.trans q75
     exact hopM_doM (zc rfl) rfl (run_st M (k := 6) rfl _ _ _ rfl e8 e75 (zl (zkb ⟨k, P, Q, g, r.s, [], a, B, O, r.l2, r.a, (fun _ => 0), (fun _ => 0)⟩ N) ⟨zN, (.slice Ap53_11 (r.l2).length cp53_11)⟩) _ rfl (zL rfl) (zpb (w := w57) ⟨(zva _), (M57.isO (k := 11) rfl)⟩) (zx rfl) (by kernel_rfl)) (fun w2 h2 => h2.sub ⟨rfl, rfl, rfl, rfl, rfl, rfl, rfl, rfl, rfl, rfl, rfl, rfl, rfl, rfl, rfl, trivial⟩) rfl
    intro p59 a59 w59 M59 G59 y59
    obtain ⟨-, -, -, -, -, -, q6, -, -⟩ := y59
    have r6 : p59 6 = numV B := q6
    replace M59 : Mx _ _ w59 [(0, bytR r.l2 (.slice Ar r.l2.length cr)), (1, bytR r.l5 (.slice A5 r.l5.length c5)), (2, bytR ld (.slice As ld.length cs)), (3, blkR g2 29 (zg k P Q g)), (4, blkR g3 33 (recA r ⟨.slice Ar r.l2.length cr, .slice A5 r.l5.length c5⟩)), (5, blkR g4 27 (numA a)), (6, blkR g5 37 (zl (zkb ⟨k, P, Q, g, r.s, [], a, B, O, r.l2, r.a, (fun _ => 0), (fun _ => 0)⟩ N) ⟨zN, (.slice Ap53_11 (r.l2).length cp53_11)⟩)), (7, blkR g6 27 (numA 0)), (8, blkR g32 22 (#[.slice As ld.length cs])), (9, blkR g34 27 (numA O)), (10, blkR gp12x36 27 (numA B)), (11, ownR r.l2 (.slice Ap53_11 (r.l2).length cp53_11)), (12, prR (p53 11 = .agg (zl ⟨k, P, Q, g, r.s, [], a, B, O, r.l2, r.a, (fun _ => 0), (fun _ => 0)⟩ ⟨zN, (.slice Ap53_11 (r.l2).length cp53_11)⟩))), (13, blkR gp12x52 37 (zl ⟨k, P, Q, g, r.s, [], a, B, O, r.l2, r.a, (fun _ => 0), (fun _ => 0)⟩ ⟨zN, (.slice Ap53_11 (r.l2).length cp53_11)⟩)), (14, blkR gp9x55 27 (numA T2))] := M59
    simp only [List.take, layV, Nat.zero_add, Nat.reduceAdd, r6] at G59
    refine zka (zc rfl) rfl G59 M59 (k := 7) rfl _ _ _ rfl (G59.get (t := 9) rfl) (G59.get (t := 76) rfl) (numA B) _ rfl (zL rfl) (zoa _) (zx rfl) ze ?_
    intro w60 M60
    clear M59
    refine rm rfl G59 fun _ F61 => ?_
    refine hK58 _ _ ?_
    refine wp_ret ?_
    try simp only [Exit.then, Exit.inBlock, Exit.jump]
    exact bodyPost_ret (res2ct rfl (F61.get rfl) (M60.blk (k := 6) rfl) (F61.get rfl) (M60.blk (k := 7) rfl) (F61.get rfl) Tryz.underlying37 rfl (by kernel_rfl) Tryz.underlying27 rfl ze) F61.defers (by simp only [Bool.false_and, Bool.true_and, Bool.and_false, Bool.and_true, Bool.not_true, Bool.not_false, cond_true, cond_false, decide_eq_false h43]; exact ⟨_, rfl, ⟨zva _, (M60.isO (k := 11) rfl)⟩, fun b hb => (M60.owns (k := 11) rfl b (bfp_ofp hb)), M60.below⟩)
theorem Mx.ptrV {G : Option Nat} {w0 w : World} {R : List (Nat × Res)} (M : Mx G w0 w R) {k g : Nat} {t : TypeId} {c : Array Value} {v : Value} (hk : look R k = some (ptrR t c v)) (hv : v = .pointer (some ⟨g, 0, none⟩)) : Mx G w0 w ((k, blkR g t c) :: R) := by
 subst hv; exact M.ptr hk
theorem Mx.toPtr {G : Option Nat} {w0 w : World} {R : List (Nat × Res)} (M : Mx G w0 w R) {k g : Nat} {t : TypeId} {c c' : Array Value} {v : Value} (hk : look R k = some (blkR g t c)) (hv : v = .pointer (some ⟨g, 0, none⟩)) (hc : c' = c) : Mx G w0 w ((k, ptrR t c' v) :: R) := by
 subst hv hc
 have h := M.at_ k _ hk
 exact M.cons k _ ⟨g, rfl, h⟩ ptrR_dep (fun b hb => by cases hb; exact z9b h) (fun _ b hb => M.own k _ hk rfl b (by cases hb; rfl)) fun j s e hj _ b hb => M.dis k j _ s hk e hj rfl b (by cases hb; rfl)
theorem Mx.toB {G : Option Nat} {w0 w : World} {R : List (Nat × Res)} (M : Mx G w0 w R) {k g : Nat} {t : TypeId} {c c2 : Array Value} (hk : look R k = some (blkR g t c)) (hc : c2 = c) : Mx G w0 w ((k, blkR g t c2) :: R) := by
 subst hc
 have h := M.at_ k _ hk
 exact M.cons k _ h blkR_dep (fun b hb => by cases hb; exact z9b h) (fun _ b hb => M.own k _ hk rfl b hb) fun j s e hj _ b hb => M.dis k j _ s hk e hj rfl b hb
noncomputable def prvB (P Q g X b : Nat) : Nat := (b + (P - kN Q * (g ^ X % P) % P)) % P
noncomputable def prvX (x : SideN) (l : List UInt8) : Nat := secN x.Q (sBy x.s) x.lp l
def prvS (x : SideN) (l : List UInt8) (b : Nat) : SideN := ⟨x.k, x.P, x.Q, x.g, x.s, x.lp, x.A, b, x.O, l, x.V, x.Ky, x.Pr⟩
noncomputable def prvN (x : SideN) (l : List UInt8) (b : Nat) : Nat := prvB x.P x.Q x.g (prvX x l) b ^ ((x.O + uN x.Q x.A b * prvX x l % x.Q) % x.Q) % x.P
noncomputable def prvOk (x : SideN) (l : List UInt8) (b : Nat) : Bool := !decide (b = 0) && decide (b < x.P) && hasB (prvB x.P x.Q x.g (prvX x l) b) x.P x.Q
theorem prove_any (x : SideN) (y : SideV) (ho : x.P % 2 = 1) (h1 : 1 < x.P) (hP4 : x.P < 4294967296) (h2 : 2 < x.Q) (hQ4 : x.Q ≤ 4294967296) (hO : x.O < 4294967296) (hg : x.g < 4294967296 ^ 8) (ht : x.s.size ≤ 1000) (hpl : x.lp.length ≤ 100000) (l : List UInt8) (hll : l.length ≤ 100000) (vl : Value) (b : Nat) (hb : b < 4294967296 ^ 8) (w : World) (hx : SideIs w x y) (hd : IsB w l vl) :
  Calls Tryz.prog 16 #[.agg (zl x y), vl, numV b] w fun e w' => ∃ y', e = .returned (.tuple #[.agg (zl (cond (prvOk x l b) (zkb (prvS x l b) (prvN x l b)) zeroS) y'), .agg (zk (cond (prvOk x l b) (zkb (prvS x l b) (prvN x l b)) zeroS).Pr), .bool (prvOk x l b)]) ∧ SideIs w' (cond (prvOk x l b) (zkb (prvS x l b) (prvN x l b)) zeroS) y' ∧ (∀ b, bfp y'.vp b → w.heap.size ≤ b) ∧ (∀ b, bfp y'.vs b → w.heap.size ≤ b) ∧ Below w.heap.size w w' := by
 have hP0 : 0 < x.P := by omega
 have hQ0 : 0 < x.Q := by omega
 have hP : x.P < 4294967296 ^ 8 := Nat.lt_trans hP4 (by decide)
 have hQ : x.Q < 4294967296 ^ 8 := Nat.lt_of_le_of_lt hQ4 (by decide)
 have hm : ∀ q, q % x.P < 4294967296 ^ 8 := fun q => Nat.lt_trans (Nat.mod_lt _ hP0) hP
 have hm4 : ∀ q, q % x.P < 4294967296 := fun q => Nat.lt_trans (Nat.mod_lt _ hP0) hP4
 obtain ⟨X, hX⟩ : ∃ X, prvX x l = X := ⟨_, rfl⟩
 have hXl : X < 4294967296 ^ 8 := by rw [← hX]; exact Nat.lt_trans (expN_bd h2 _).2 hQ
 have kX := fun (w : World) (vp vs : Value) (hp : IsB w x.lp vp) (hs : IsB w l vs) => secret_any x.k x.P x.Q x.g h2 hQ x.s ht x.lp l vp vs w hp hs
 rw [show secN x.Q (sBy x.s) x.lp l = X from hX] at kX
 have kR1 := fun w => zkc x.k x.P x.Q x.g ho h1 hP x.g X hg hXl w
 obtain ⟨G1, hG1⟩ : ∃ G1, x.g ^ X % x.P = G1 := ⟨_, rfl⟩
 have hG1l : G1 < 4294967296 ^ 8 := by rw [← hG1]; exact hm _
 have kC := fun w => cover_any x.k x.P x.Q x.g ho h1 hP h2 hQ G1 hG1l w
 obtain ⟨C, hC⟩ : ∃ C, kN x.Q * G1 % x.P = C := ⟨_, rfl⟩
 have hCP : C < x.P := by rw [← hC]; exact Nat.mod_lt _ hP0
 have kS := fun w => sub_any x.P C hP (Nat.lt_trans hCP hP) w
 obtain ⟨u1, hu1⟩ : ∃ u1, lentI x.P C = u1 := ⟨_, rfl⟩
 obtain ⟨S1, hS1⟩ : ∃ S1, x.P - C = S1 := ⟨_, rfl⟩
 rw [hu1, show subN x.P C = S1 by unfold subN; rw [if_pos (by omega), hS1]] at kS
 have hS14 : S1 < 4294967296 := by omega
 obtain ⟨Bs, hBs⟩ : ∃ Bs, (b + S1) % x.P = Bs := ⟨_, rfl⟩
 have hBsl : Bs < 4294967296 ^ 8 := by rw [← hBs]; exact hm _
 have hB : prvB x.P x.Q x.g X b = Bs := by unfold prvB; rw [hG1, hC, hS1, hBs]
 obtain ⟨b3, hb3⟩ : ∃ q, hasB Bs x.P x.Q = q := ⟨_, rfl⟩
 have kH := fun w => ghas_any x.k x.P x.Q x.g ho h1 hP Bs hBsl hQ w
 rw [hb3] at kH
 rw [hC] at kC
 rw [hG1] at kR1
 obtain ⟨U, hU⟩ : ∃ U, uN x.Q x.A b = U := ⟨_, rfl⟩
 have hUl : U < 4294967296 ^ 8 := by rw [← hU]; exact Nat.lt_trans (expN_bd h2 _).2 hQ
 have kMu := fun w => mul_any U X hUl hXl w
 have hq : U * X % 4294967296 ^ 8 + U * X / 4294967296 ^ 8 * 4294967296 ^ 8 = U * X := by rw [Nat.mul_comm (U * X / _)]; exact Nat.mod_add_div _ _
 have kRe := fun w => rest_pos (U * X % 4294967296 ^ 8) (U * X / 4294967296 ^ 8) x.Q (Nat.mod_lt _ (by decide)) (Nat.div_lt_of_lt_mul (Nat.mul_lt_mul'' hUl hXl)) hQ hQ0 w
 rw [hq] at kRe
 obtain ⟨Mo, hMo⟩ : ∃ Mo, U * X % x.Q = Mo := ⟨_, rfl⟩
 have hMo4 : Mo < 4294967296 := by rw [← hMo]; exact Nat.lt_of_lt_of_le (Nat.mod_lt _ hQ0) hQ4
 rw [hMo] at kRe
 obtain ⟨L, hL⟩ : ∃ L, U * X % 4294967296 ^ 8 = L := ⟨_, rfl⟩
 obtain ⟨H, hH⟩ : ∃ H, U * X / 4294967296 ^ 8 = H := ⟨_, rfl⟩
 rw [hL, hH] at kMu kRe
 have kT2 := fun w => together_any x.O Mo x.Q hO hMo4 hQ0 hQ w
 obtain ⟨E, hE⟩ : ∃ E, (x.O + Mo) % x.Q = E := ⟨_, rfl⟩
 have hEl : E < 4294967296 ^ 8 := by rw [← hE]; exact Nat.lt_trans (Nat.mod_lt _ hQ0) hQ
 rw [hE] at kT2
 have kR3 := fun w => zkc x.k x.P x.Q x.g ho h1 hP Bs E hBsl hEl w
 obtain ⟨N, hN⟩ : ∃ N, Bs ^ E % x.P = N := ⟨_, rfl⟩
 rw [hN] at kR3
 have hoN : prvN x l b = N := by unfold prvN; rw [hX, hB, hU, hMo, hE, hN]
 have hoK : prvOk x l b = (!decide (b = 0) && decide (b < x.P) && b3) := by unfold prvOk; rw [hX, hB, hb3]
 rw [hoN, hoK]
 obtain ⟨D, hD⟩ : ∃ D, cmpI b x.P = D := ⟨_, rfl⟩
 have kCm := fun w => cmp_any b x.P hb hP w
 rw [hD] at kCm
 have hDb : 0 ≤ D ↔ ¬ b < x.P := by
  rw [← hD]; unfold cmpI
  by_cases h : b < x.P
  ·rw [if_pos h]; exact ⟨fun h => absurd h (by decide), fun h2 => absurd h h2⟩
  ·rw [if_neg h]; exact ⟨fun _ => h, fun _ => by split <;> decide⟩
 clear hoN hoK hN hE hH hL hMo hq hX hC hG1 hS1 hb3 hu1 hD hB
 obtain ⟨vp, vs⟩ := y
 obtain ⟨Ap, cp, rfl⟩ := id hx.hp.shape
 obtain ⟨As, cs, rfl⟩ := id hx.hs.shape
 obtain ⟨Al, cl, rfl⟩ := id hd.shape
 refine zra (args := [.agg (zl x ⟨.slice Ap x.lp.length cp, .slice As x.ls.length cs⟩), .slice Al l.length cl, numV b]) 109 Tryz.func16 rfl rfl rfl ?_
 intro fa F
 have M := Mx.start w
 replace M := M.argB 0 hx.hp (fun g e => by cases e)
 replace M := M.argB 1 hx.hs (fun g e => by cases e)
 replace M := M.argB 2 hd (fun g e => by cases e)
 refine zSk fun _ hK1 => ?_
 refine zR ?_
 refine zo (zc rfl) rfl F rfl M 3 (t := 37) (c := zl x ⟨.slice Ap x.lp.length cp, .slice As x.ls.length cs⟩) (by unfold execOp; simp only [(F.get (t := 0) rfl)]; kernel_rfl) ?_
 intro g2 a2 w2 F2 M2
 clear F M
 refine zo (zc rfl) rfl F2 rfl M2 4 (t := 27) (c := numA b) (by unfold execOp; simp only [(F2.get (t := 2) rfl)]; kernel_rfl) ?_
 intro g3 a3 w3 F3 M3
 clear F2 M2
 refine zo (zc rfl) rfl F3 rfl M3 5 (t := 37) (c := zl ⟨0, 0, 0, 0, "".toUTF8, [], 0, 0, 0, [], 0, (fun _ => 0), (fun _ => 0)⟩ ⟨zN, zN⟩) (by unfold execOp; kernel_rfl) ?_
 intro g4 a4 w4 F4 M4
 clear F3 M3
 refine zo (zc rfl) rfl F4 rfl M4 6 (t := 35) (c := zk (fun _ => 0)) (by unfold execOp; kernel_rfl) ?_
 intro g5 a5 w5 F5 M5
 clear F4 M4
 refine rm rfl F5 fun _ F6 => ?_
 refine hK1 _ _ ?_
 refine zSk fun _ hK7 => ?_
 refine zSk fun _ hK8 => ?_
 refine zR ?_
 refine zh (w' := w5) (zc rfl) rfl F6 rfl (numV b) (zga _ _ rfl (F6.get (t := 5) rfl) (M5.blk (k := 4) rfl) (numA b) (zta rfl) Tryz.underlying27 rfl ze) fun _ F9 => ?_
 clear F6
 refine zh (w' := w5) (zc rfl) rfl F9 rfl (numV 0) (y_zbuild rfl) fun _ F10 => ?_
 clear F9
 by_cases h11 : b = 0
 ·refine zh (w' := w5) (zc rfl) rfl F10 rfl (.bool true) (y_eqA _ _ _ _ rfl (F10.get (t := 17) rfl) (F10.get (t := 18) rfl) (by kernel_rfl) (eqn_is h11 _)) fun _ F12 => ?_
  clear F10
  refine zAx 8 [(20, .bool true), (21, undef), (22, undef), (23, undef), (24, undef), (25, undef), (26, undef), (27, .bool true)] [] dnil [] F12 fun _ F13 => ?_
  clear F12
  refine hK8 _ _ ?_
  refine wp_cond_true (F13.get (t := 27) rfl) ?_
  refine zSk fun _ hK14 => ?_
  refine zR ?_
  refine zh (w' := w5) (zc rfl) rfl F13 rfl (.agg (zl ⟨0, 0, 0, 0, "".toUTF8, [], 0, 0, 0, [], 0, (fun _ => 0), (fun _ => 0)⟩ ⟨zN, zN⟩)) (by unfold execOp; kernel_rfl) fun _ F15 => ?_
  clear F13
  refine zh (w' := w5) (zc rfl) rfl F15 rfl (.agg (zk (fun _ => 0))) (by unfold execOp; kernel_rfl) fun _ F16 => ?_
  clear F15
  refine zka (zc rfl) rfl F16 M5 (k := 5) rfl _ _ _ rfl (F16.get (t := 6) rfl) (F16.get (t := 28) rfl) (zl ⟨0, 0, 0, 0, "".toUTF8, [], 0, 0, 0, [], 0, (fun _ => 0), (fun _ => 0)⟩ ⟨zN, zN⟩) _ rfl (zL rfl) (zpb (w := w5) ⟨(zva _), (zva _)⟩) (zx rfl) (by kernel_rfl) ?_
  intro w17 M17
  clear M5
  refine zka (zc rfl) rfl F16 M17 (k := 6) rfl _ _ _ rfl (F16.get (t := 7) rfl) (F16.get (t := 29) rfl) (zk (fun _ => 0)) _ rfl (zL rfl) (zla _) (zx rfl) (by kernel_rfl) ?_
  intro w18 M18
  clear M17
  refine rm rfl F16 fun _ F19 => ?_
  refine hK14 _ _ ?_
  refine wp_ret ?_
  try simp only [Exit.then, Exit.inBlock, Exit.jump]
  exact bodyPost_ret (res2ct rfl (F19.get rfl) (M18.blk (k := 5) rfl) (F19.get rfl) (M18.blk (k := 6) rfl) (F19.get rfl) Tryz.underlying37 rfl (by kernel_rfl) Tryz.underlying35 rfl (by kernel_rfl)) F19.defers (by simp only [Bool.false_and, Bool.true_and, Bool.and_false, Bool.and_true, Bool.not_true, Bool.not_false, cond_true, cond_false, decide_eq_true h11]; exact ⟨⟨zN, zN⟩, rfl, ⟨zva _, zva _⟩, fun b hb => absurd hb (zjc b), fun b hb => absurd hb (zjc b), M18.below⟩)
 ·refine zh (w' := w5) (zc rfl) rfl F10 rfl (.bool false) (y_eqA _ _ _ _ rfl (F10.get (t := 17) rfl) (F10.get (t := 18) rfl) (by kernel_rfl) (eqn_no hb h11 _)) fun _ F20 => ?_
  clear F10
  refine zAx 5 [(20, .bool false), (21, numV b), (22, .pointer (some ⟨g2, 0, none⟩)), (23, .pointer (some ⟨g2, 1, none⟩)), (24, numV x.P)] [0, 1] (z7a (M5.blk (k := 4) rfl) (z7a (M5.blk (k := 3) rfl) dnil)) [g3, g2] F20 fun _ F21 => ?_
  clear F20
  refine zea (wanted_yes rfl rfl rfl (F21.get (t := 20) rfl)) rfl F21 rfl rfl (zE Tryz.func47 rfl) #[numV b, numV x.P] (z7b (F21.get (t := 21) rfl) (F21.get (t := 24) rfl)) (zha (kCm w5)) ?_
  rintro _ w22 a22 ⟨rfl, b22⟩ F22
  have M22 := M5.step b22
  by_cases h23 : 0 ≤ D
  ·have hbP : ¬ b < x.P := hDb.1 h23
   refine zh (w' := w22) (wanted_yes rfl rfl rfl (F22.get (t := 20) rfl)) rfl F22 rfl (.bool true) (y_geq _ _ _ _ rfl (F22.get (t := 25) rfl) rfl (decide_eq_true h23)) fun _ F24 => ?_
   clear F22
   refine zh (w' := w22) (zc rfl) rfl F24 rfl (.bool true) (run_pick_f rfl (F24.get (t := 20) rfl) (F24.get (t := 26) rfl)) fun _ F25 => ?_
   clear F24
   refine hK8 _ _ ?_
   refine wp_cond_true (F25.get (t := 27) rfl) ?_
   refine zSk fun _ hK26 => ?_
   refine zR ?_
   refine zh (w' := w22) (zc rfl) rfl F25 rfl (.agg (zl ⟨0, 0, 0, 0, "".toUTF8, [], 0, 0, 0, [], 0, (fun _ => 0), (fun _ => 0)⟩ ⟨zN, zN⟩)) (by unfold execOp; kernel_rfl) fun _ F27 => ?_
   clear F25
   refine zh (w' := w22) (zc rfl) rfl F27 rfl (.agg (zk (fun _ => 0))) (by unfold execOp; kernel_rfl) fun _ F28 => ?_
   clear F27
   refine zka (zc rfl) rfl F28 M22 (k := 5) rfl _ _ _ rfl (F28.get (t := 6) rfl) (F28.get (t := 28) rfl) (zl ⟨0, 0, 0, 0, "".toUTF8, [], 0, 0, 0, [], 0, (fun _ => 0), (fun _ => 0)⟩ ⟨zN, zN⟩) _ rfl (zL rfl) (zpb (w := w22) ⟨(zva _), (zva _)⟩) (zx rfl) (by kernel_rfl) ?_
   intro w29 M29
   clear M22
   refine zka (zc rfl) rfl F28 M29 (k := 6) rfl _ _ _ rfl (F28.get (t := 7) rfl) (F28.get (t := 29) rfl) (zk (fun _ => 0)) _ rfl (zL rfl) (zla _) (zx rfl) (by kernel_rfl) ?_
   intro w30 M30
   clear M29
   refine rm rfl F28 fun _ F31 => ?_
   refine hK26 _ _ ?_
   refine wp_ret ?_
   try simp only [Exit.then, Exit.inBlock, Exit.jump]
   exact bodyPost_ret (res2ct rfl (F31.get rfl) (M30.blk (k := 5) rfl) (F31.get rfl) (M30.blk (k := 6) rfl) (F31.get rfl) Tryz.underlying37 rfl (by kernel_rfl) Tryz.underlying35 rfl (by kernel_rfl)) F31.defers (by simp only [Bool.false_and, Bool.true_and, Bool.and_false, Bool.and_true, Bool.not_true, Bool.not_false, cond_true, cond_false, decide_eq_false h11, decide_eq_false hbP]; exact ⟨⟨zN, zN⟩, rfl, ⟨zva _, zva _⟩, fun b hb => absurd hb (zjc b), fun b hb => absurd hb (zjc b), M30.below⟩)
  ·have hbP : b < x.P := Decidable.byContradiction fun h9 => h23 (hDb.2 h9)
   have kT := fun w => together_any b S1 x.P (Nat.lt_trans hbP hP4) hS14 hP0 hP w
   rw [hBs] at kT
   refine zh (w' := w22) (wanted_yes rfl rfl rfl (F22.get (t := 20) rfl)) rfl F22 rfl (.bool false) (y_geq _ _ _ _ rfl (F22.get (t := 25) rfl) rfl (decide_eq_false h23)) fun _ F32 => ?_
   clear F22
   refine zh (w' := w22) (zc rfl) rfl F32 rfl (.bool false) (run_pick_f rfl (F32.get (t := 20) rfl) (F32.get (t := 26) rfl)) fun _ F33 => ?_
   clear F32
   refine hK8 _ _ ?_
   refine wp_cond_false (F33.get (t := 27) rfl) ?_
   refine wp_skip ?_
   refine hK7 _ _ ?_
   refine zSk fun _ hK34 => ?_
   refine zR ?_
   refine zAx 7 [(30, .pointer (some ⟨g2, 0, none⟩)), (31, .agg (zg x.k x.P x.Q x.g)), (32, .pointer (some ⟨g2, 25, none⟩)), (33, .string x.s), (34, .pointer (some ⟨g2, 26, none⟩)), (35, .slice Ap x.lp.length cp), (36, .slice Al l.length cl)] [0, 0, 0] (z7a (M22.blk (k := 3) rfl) dnil) [g2, g2, g2] F33 fun _ F35 => ?_
   clear F33
   refine zea (zc rfl) rfl F35 rfl rfl (zE Tryz.func34 rfl) #[.agg (zg x.k x.P x.Q x.g), .string x.s, .slice Ap x.lp.length cp, .slice Al l.length cl] (args4 (F35.get (t := 31) rfl) (F35.get (t := 33) rfl) (F35.get (t := 35) rfl) (F35.get (t := 36) rfl)) (zha ((kX w22 _ _ (M22.isb (k := 0) rfl) (M22.isb (k := 2) rfl)))) ?_
   rintro _ w36 a36 ⟨rfl, b36⟩ F36
   have M36 := M22.step b36
   refine zo (zc rfl) rfl F36 rfl M36 7 (t := 27) (c := numA 0) (zba rfl) ?_
   intro g37 a37 w37 F37 M37
   clear F36 M36
   refine zka (zc rfl) rfl F37 M37 (k := 7) rfl _ _ _ rfl (F37.get (t := 9) rfl) (F37.get (t := 37) rfl) (numA X) _ rfl (zL rfl) (zoa _) (zx rfl) ze ?_
   intro w38 M38
   clear M37
   refine hK34 _ _ ?_
   refine zSk fun _ hK39 => ?_
   refine zqb F37 [fun vE => vE = .pointer (some ⟨g2, 0, none⟩), fun vE => vE = .pointer (some ⟨g2, 1, none⟩), fun vE => vE = numV x.P, fun vE => vE = .pointer (some ⟨g2, 0, none⟩), fun vE => vE = .agg (zg x.k x.P x.Q x.g), fun vE => vE = .pointer (some ⟨g2, 0, none⟩), fun vE => vE = .agg (zg x.k x.P x.Q x.g), fun vE => vE = .pointer (some ⟨g2, 0, none⟩), fun vE => vE = .pointer (some ⟨g2, 17, none⟩), fun vE => vE = numV x.g, fun vE => vE = numV X, fun vE => vE = numV G1, fun vE => vE = numV C, fun vE => vE = .tuple #[numV S1, .int .u32 u1], fun vE => vE = .tuple #[numV S1, .int .u32 u1], fun vE => vE = numV S1, fun vE => vE = .int .u32 u1, fun vE => ∃ g, vE = .pointer (some ⟨g, 0, none⟩), fun vE => vE = undef] (JM none w fun SV pV => [(0, bytR x.lp (.slice Ap x.lp.length cp)), (1, bytR x.ls (.slice As x.ls.length cs)), (2, bytR l (.slice Al l.length cl)), (3, blkR g2 37 (zl x ⟨.slice Ap x.lp.length cp, .slice As x.ls.length cs⟩)), (4, blkR g3 27 (numA b)), (5, blkR g4 37 (zl ⟨0, 0, 0, 0, "".toUTF8, [], 0, 0, 0, [], 0, (fun _ => 0), (fun _ => 0)⟩ ⟨zN, zN⟩)), (6, blkR g5 35 (zk (fun _ => 0))), (7, blkR g37 27 (numA X)), (8, eitherR (SV 18) (ptrR 27 (numA S1) (pV 17)) (condR (SV 17) (ptrR 27 (numA 0) (pV 17))))]) 19 rfl (by kernel_rfl) rfl ⟨trivial, trivial, trivial, trivial, trivial, trivial, trivial, trivial, trivial, trivial, trivial, trivial, trivial, trivial, trivial, trivial, trivial, trivial, fun _ => Iff.rfl, trivial⟩ (fun p => ((M38.step (zya _)).triv 8).sub ⟨rfl, rfl, rfl, rfl, rfl, rfl, rfl, rfl, rfl, trivial⟩) ⟨?_, ?_, ?_, ?_, ?_, ?_, ?_, ?_, ?_, ?_, ?_, ?_, ?_, ?_, ?_, ?_, ?_, ?_, ?_, trivial⟩ ?_
   ·intro ua uw SV pV M0 hk hn hd
    have M : Mx none w uw _ := M0
    clear M0
    have e3 : ua.eval (.tmp 3) = .pointer (some ⟨g2, 0, none⟩) := (show ua.eval (.tmp 3) = _ from hd 3 (by decide)).trans (F37.get (t := 3) rfl)
    exact zp (zc rfl) (.pointer (some ⟨g2, 0, none⟩)) (y_fa (off := 0) rfl e3 (by kernel_rfl) rfl) rfl (M.sub ⟨rfl, rfl, rfl, rfl, rfl, rfl, rfl, rfl, rfl, trivial⟩)
   ·intro ua uw SV pV M0 hk hn hd
    have M : Mx none w uw _ := M0
    clear M0
    obtain ⟨s0, f39, q39⟩ := (show SV 0 = true ∧ ua.eval (.tmp 39) = pV 0 ∧ stE _ 0 (pV 0) from hd 39 (by decide))
    have e39 : ua.eval (.tmp 39) = .pointer (some ⟨g2, 0, none⟩) := f39.trans q39
    exact zp (zc rfl) (.pointer (some ⟨g2, 1, none⟩)) (y_fa (off := 1) rfl e39 (by kernel_rfl) rfl) rfl (M.sub ⟨rfl, rfl, rfl, rfl, rfl, rfl, rfl, rfl, rfl, trivial⟩)
   ·intro ua uw SV pV M0 hk hn hd
    have M : Mx none w uw _ := M0
    clear M0
    obtain ⟨s1, f40, q40⟩ := (show SV 1 = true ∧ ua.eval (.tmp 40) = pV 1 ∧ stE _ 1 (pV 1) from hd 40 (by decide))
    have e40 : ua.eval (.tmp 40) = .pointer (some ⟨g2, 1, none⟩) := f40.trans q40
    exact zp (zc rfl) (numV x.P) (zga _ _ rfl e40 (M.blk (k := 3) rfl) (numA x.P) (y_part8 rfl rfl rfl rfl rfl rfl rfl rfl) Tryz.underlying27 rfl ze) rfl (M.sub ⟨rfl, rfl, rfl, rfl, rfl, rfl, rfl, rfl, rfl, trivial⟩)
   ·intro ua uw SV pV M0 hk hn hd
    have M : Mx none w uw _ := M0
    clear M0
    have e3 : ua.eval (.tmp 3) = .pointer (some ⟨g2, 0, none⟩) := (show ua.eval (.tmp 3) = _ from hd 3 (by decide)).trans (F37.get (t := 3) rfl)
    exact zp (zc rfl) (.pointer (some ⟨g2, 0, none⟩)) (y_fa (off := 0) rfl e3 (by kernel_rfl) rfl) rfl (M.sub ⟨rfl, rfl, rfl, rfl, rfl, rfl, rfl, rfl, rfl, trivial⟩)
   ·intro ua uw SV pV M0 hk hn hd
    have M : Mx none w uw _ := M0
    clear M0
    obtain ⟨s3, f42, q42⟩ := (show SV 3 = true ∧ ua.eval (.tmp 42) = pV 3 ∧ stE _ 3 (pV 3) from hd 42 (by decide))
    have e42 : ua.eval (.tmp 42) = .pointer (some ⟨g2, 0, none⟩) := f42.trans q42
    exact zp (zc rfl) _ (zga _ _ rfl e42 (M.blk (k := 3) rfl) (zg x.k x.P x.Q x.g) (side_G _ _) Tryz.underlying29 rfl (by kernel_rfl)) rfl (M.sub ⟨rfl, rfl, rfl, rfl, rfl, rfl, rfl, rfl, rfl, trivial⟩)
   ·intro ua uw SV pV M0 hk hn hd
    have M : Mx none w uw _ := M0
    clear M0
    have e3 : ua.eval (.tmp 3) = .pointer (some ⟨g2, 0, none⟩) := (show ua.eval (.tmp 3) = _ from hd 3 (by decide)).trans (F37.get (t := 3) rfl)
    exact zp (zc rfl) (.pointer (some ⟨g2, 0, none⟩)) (y_fa (off := 0) rfl e3 (by kernel_rfl) rfl) rfl (M.sub ⟨rfl, rfl, rfl, rfl, rfl, rfl, rfl, rfl, rfl, trivial⟩)
   ·intro ua uw SV pV M0 hk hn hd
    have M : Mx none w uw _ := M0
    clear M0
    obtain ⟨s5, f44, q44⟩ := (show SV 5 = true ∧ ua.eval (.tmp 44) = pV 5 ∧ stE _ 5 (pV 5) from hd 44 (by decide))
    have e44 : ua.eval (.tmp 44) = .pointer (some ⟨g2, 0, none⟩) := f44.trans q44
    exact zp (zc rfl) _ (zga _ _ rfl e44 (M.blk (k := 3) rfl) (zg x.k x.P x.Q x.g) (side_G _ _) Tryz.underlying29 rfl (by kernel_rfl)) rfl (M.sub ⟨rfl, rfl, rfl, rfl, rfl, rfl, rfl, rfl, rfl, trivial⟩)
   ·intro ua uw SV pV M0 hk hn hd
    have M : Mx none w uw _ := M0
    clear M0
    have e3 : ua.eval (.tmp 3) = .pointer (some ⟨g2, 0, none⟩) := (show ua.eval (.tmp 3) = _ from hd 3 (by decide)).trans (F37.get (t := 3) rfl)
    exact zp (zc rfl) (.pointer (some ⟨g2, 0, none⟩)) (y_fa (off := 0) rfl e3 (by kernel_rfl) rfl) rfl (M.sub ⟨rfl, rfl, rfl, rfl, rfl, rfl, rfl, rfl, rfl, trivial⟩)
   ·intro ua uw SV pV M0 hk hn hd
    have M : Mx none w uw _ := M0
    clear M0
    obtain ⟨s7, f46, q46⟩ := (show SV 7 = true ∧ ua.eval (.tmp 46) = pV 7 ∧ stE _ 7 (pV 7) from hd 46 (by decide))
    have e46 : ua.eval (.tmp 46) = .pointer (some ⟨g2, 0, none⟩) := f46.trans q46
    exact zp (zc rfl) (.pointer (some ⟨g2, 17, none⟩)) (y_fa (off := 17) rfl e46 (by kernel_rfl) rfl) rfl (M.sub ⟨rfl, rfl, rfl, rfl, rfl, rfl, rfl, rfl, rfl, trivial⟩)
   ·intro ua uw SV pV M0 hk hn hd
    have M : Mx none w uw _ := M0
    clear M0
    obtain ⟨s8, f47, q47⟩ := (show SV 8 = true ∧ ua.eval (.tmp 47) = pV 8 ∧ stE _ 8 (pV 8) from hd 47 (by decide))
    have e47 : ua.eval (.tmp 47) = .pointer (some ⟨g2, 17, none⟩) := f47.trans q47
    exact zp (zc rfl) (numV x.g) (zga _ _ rfl e47 (M.blk (k := 3) rfl) (numA x.g) (y_part8 rfl rfl rfl rfl rfl rfl rfl rfl) Tryz.underlying27 rfl ze) rfl (M.sub ⟨rfl, rfl, rfl, rfl, rfl, rfl, rfl, rfl, rfl, trivial⟩)
   ·intro ua uw SV pV M0 hk hn hd
    have M : Mx none w uw _ := M0
    clear M0
    have e9 : ua.eval (.tmp 9) = .pointer (some ⟨g37, 0, none⟩) := (show ua.eval (.tmp 9) = _ from hd 9 (by decide)).trans (F37.get (t := 9) rfl)
    exact zp (zc rfl) (numV X) (zga _ _ rfl e9 (M.blk (k := 7) rfl) (numA X) (zta rfl) Tryz.underlying27 rfl ze) rfl (M.sub ⟨rfl, rfl, rfl, rfl, rfl, rfl, rfl, rfl, rfl, trivial⟩)
   ·intro ua uw SV pV M0 hk hn hd
    have M : Mx none w uw _ := M0
    clear M0
    obtain ⟨s6, f45, q45⟩ := (show SV 6 = true ∧ ua.eval (.tmp 45) = pV 6 ∧ stE _ 6 (pV 6) from hd 45 (by decide))
    have e45 : ua.eval (.tmp 45) = .agg (zg x.k x.P x.Q x.g) := f45.trans q45
    obtain ⟨s9, f48, q48⟩ := (show SV 9 = true ∧ ua.eval (.tmp 48) = pV 9 ∧ stE _ 9 (pV 9) from hd 48 (by decide))
    have e48 : ua.eval (.tmp 48) = numV x.g := f48.trans q48
    obtain ⟨s10, f49, q49⟩ := (show SV 10 = true ∧ ua.eval (.tmp 49) = pV 10 ∧ stE _ 10 (pV 10) from hd 49 (by decide))
    have e49 : ua.eval (.tmp 49) = numV X := f49.trans q49
    exact z4a (zc rfl) rfl #[.agg (zg x.k x.P x.Q x.g), numV x.g, numV X] (args3 e45 e48 e49) (zE Tryz.func33 rfl) ((kR1 uw).mono fun e w2 h => ⟨_, h.1, rfl, (M.step h.2).sub ⟨rfl, rfl, rfl, rfl, rfl, rfl, rfl, rfl, rfl, trivial⟩⟩)
   ·intro ua uw SV pV M0 hk hn hd
    have M : Mx none w uw _ := M0
    clear M0
    obtain ⟨s4, f43, q43⟩ := (show SV 4 = true ∧ ua.eval (.tmp 43) = pV 4 ∧ stE _ 4 (pV 4) from hd 43 (by decide))
    have e43 : ua.eval (.tmp 43) = .agg (zg x.k x.P x.Q x.g) := f43.trans q43
    obtain ⟨s11, f50, q50⟩ := (show SV 11 = true ∧ ua.eval (.tmp 50) = pV 11 ∧ stE _ 11 (pV 11) from hd 50 (by decide))
    have e50 : ua.eval (.tmp 50) = numV G1 := f50.trans q50
    exact z4a (zc rfl) rfl #[.agg (zg x.k x.P x.Q x.g), numV G1] (z7b e43 e50) (zE Tryz.func39 rfl) ((kC uw).mono fun e w2 h => ⟨_, h.1, rfl, (M.step h.2).sub ⟨rfl, rfl, rfl, rfl, rfl, rfl, rfl, rfl, rfl, trivial⟩⟩)
   ·intro ua uw SV pV M0 hk hn hd
    have M : Mx none w uw _ := M0
    clear M0
    obtain ⟨s2, f41, q41⟩ := (show SV 2 = true ∧ ua.eval (.tmp 41) = pV 2 ∧ stE _ 2 (pV 2) from hd 41 (by decide))
    have e41 : ua.eval (.tmp 41) = numV x.P := f41.trans q41
    obtain ⟨s12, f51, q51⟩ := (show SV 12 = true ∧ ua.eval (.tmp 51) = pV 12 ∧ stE _ 12 (pV 12) from hd 51 (by decide))
    have e51 : ua.eval (.tmp 51) = numV C := f51.trans q51
    exact z4a (zc rfl) rfl #[numV x.P, numV C] (z7b e41 e51) (zE Tryz.func48 rfl) ((kS uw).mono fun e w2 h => ⟨_, h.1, rfl, (M.step h.2).sub ⟨rfl, rfl, rfl, rfl, rfl, rfl, rfl, rfl, rfl, trivial⟩⟩)
   ·intro ua uw SV pV M0 hk hn hd
    have M : Mx none w uw _ := M0
    clear M0
    obtain ⟨s13, f52, q52⟩ := (show SV 13 = true ∧ ua.eval (.tmp 52) = pV 13 ∧ stE _ 13 (pV 13) from hd 52 (by decide))
    have e52 : ua.eval (.tmp 52) = .tuple #[numV S1, .int .u32 u1] := f52.trans q52
    exact zp (zc rfl) (.tuple #[numV S1, .int .u32 u1]) (zia _ (.inl rfl) e52) rfl (M.sub ⟨rfl, rfl, rfl, rfl, rfl, rfl, rfl, rfl, rfl, trivial⟩)
   ·intro ua uw SV pV M0 hk hn hd
    have M : Mx none w uw _ := M0
    clear M0
    obtain ⟨s14, f38, q38⟩ := (show SV 14 = true ∧ ua.eval (.tmp 38) = pV 14 ∧ stE _ 14 (pV 14) from hd 38 (by decide))
    have e38 : ua.eval (.tmp 38) = .tuple #[numV S1, .int .u32 u1] := f38.trans q38
    exact zp (zc rfl) (numV S1) (y_ext _ _ rfl e38 rfl) rfl (M.sub ⟨rfl, rfl, rfl, rfl, rfl, rfl, rfl, rfl, rfl, trivial⟩)
   ·intro ua uw SV pV M0 hk hn hd
    have M : Mx none w uw _ := M0
    clear M0
    obtain ⟨s14, f38, q38⟩ := (show SV 14 = true ∧ ua.eval (.tmp 38) = pV 14 ∧ stE _ 14 (pV 14) from hd 38 (by decide))
    have e38 : ua.eval (.tmp 38) = .tuple #[numV S1, .int .u32 u1] := f38.trans q38
    exact zp (zc rfl) (.int .u32 u1) (y_ext _ _ rfl e38 rfl) rfl (M.sub ⟨rfl, rfl, rfl, rfl, rfl, rfl, rfl, rfl, rfl, trivial⟩)
   ·intro ua uw SV pV M0 hk hn hd
    have M : Mx none w uw _ := M0
    clear M0
    exact zp (zc rfl) _ (zba rfl) ⟨_, rfl⟩ ((M.allocP 8 27 (numA 0)).sub ⟨rfl, rfl, rfl, rfl, rfl, rfl, rfl, rfl, (eitherR_at (hn 18 (by kernel_rfl)) rfl), trivial⟩)
   ·intro ua uw SV pV M0 hk hn hd
    have M : Mx none w uw _ := M0
    clear M0
    obtain ⟨s17, f10, q10⟩ := (show SV 17 = true ∧ ua.eval (.tmp 10) = pV 17 ∧ stE _ 17 (pV 17) from hd 10 (by decide))
    obtain ⟨s15, f53, q53⟩ := (show SV 15 = true ∧ ua.eval (.tmp 53) = pV 15 ∧ stE _ 15 (pV 15) from hd 53 (by decide))
    have e53 : ua.eval (.tmp 53) = numV S1 := f53.trans q53
    obtain ⟨g_, r_⟩ := (show ∃ g, pV 17 = .pointer (some ⟨g, 0, none⟩) from q10)
    have M2 := M.ptrV (k := 8) (g := g_) (condR_look s17 (eitherR_r hk rfl)) r_
    exact hopM_doM (zc rfl) rfl (run_st M2 (k := 8) rfl _ _ _ rfl (f10.trans r_) e53 (numA S1) _ rfl (zL rfl) (zoa _) (zx rfl) ze) (fun w2 h2 => (h2.toPtr (k := 8) rfl r_ rfl).sub ⟨rfl, rfl, rfl, rfl, rfl, rfl, rfl, rfl, rfl, trivial⟩) rfl
   intro p40 a40 w40 M40 G40 y40
   obtain ⟨-, -, -, -, -, -, -, -, -, -, -, -, -, -, -, -, q16, q17, -, -⟩ := y40
   obtain ⟨gp17x39, r17⟩ := (show ∃ g, p40 17 = .pointer (some ⟨g, 0, none⟩) from q17)
   have r16 : p40 16 = .int .u32 u1 := q16
   replace M40 : Mx _ _ w40 [(0, bytR x.lp (.slice Ap x.lp.length cp)), (1, bytR x.ls (.slice As x.ls.length cs)), (2, bytR l (.slice Al l.length cl)), (3, blkR g2 37 (zl x ⟨.slice Ap x.lp.length cp, .slice As x.ls.length cs⟩)), (4, blkR g3 27 (numA b)), (5, blkR g4 37 (zl ⟨0, 0, 0, 0, "".toUTF8, [], 0, 0, 0, [], 0, (fun _ => 0), (fun _ => 0)⟩ ⟨zN, zN⟩)), (6, blkR g5 35 (zk (fun _ => 0))), (7, blkR g37 27 (numA X)), (8, eitherR true (ptrR 27 (numA S1) (p40 17)) (condR true (ptrR 27 (numA 0) (p40 17))))] := M40
   simp only [List.take, layV, Nat.zero_add, Nat.reduceAdd, r16, r17] at G40
   rw [r17] at M40
   have M40_8 := M40.ptr (k := 8) (g := gp17x39) rfl
   replace M40_8 := M40_8.toB (k := 8) (c2 := numA S1) rfl rfl
   refine rm rfl G40 fun _ F41 => ?_
   refine hK39 _ _ ?_
   refine zSk fun _ hK42 => ?_
   refine zR ?_
   refine zAx 5 [(55, numV b), (56, numV S1), (57, .pointer (some ⟨g2, 0, none⟩)), (58, .pointer (some ⟨g2, 1, none⟩)), (59, numV x.P)] [0, 1, 2] (z7a (M40_8.blk (k := 4) rfl) (z7a (M40_8.blk (k := 8) rfl) (z7a (M40_8.blk (k := 3) rfl) dnil))) [g3, gp17x39, g2] F41 fun _ F43 => ?_
   clear F41
   refine zea (zc rfl) rfl F43 rfl rfl (zE Tryz.func38 rfl) #[numV b, numV S1, numV x.P] (args3 (F43.get (t := 55) rfl) (F43.get (t := 56) rfl) (F43.get (t := 59) rfl)) (zha (kT w40)) ?_
   rintro _ w44 a44 ⟨rfl, b44⟩ F44
   have M44 := M40_8.step b44
   refine zo (zc rfl) rfl F44 rfl M44 9 (t := 27) (c := numA 0) (zba rfl) ?_
   intro g45 a45 w45 F45 M45
   clear F44 M44
   refine zka (zc rfl) rfl F45 M45 (k := 9) rfl _ _ _ rfl (F45.get (t := 12) rfl) (F45.get (t := 60) rfl) (numA Bs) _ rfl (zL rfl) (zoa _) (zx rfl) ze ?_
   intro w46 M46
   clear M45
   refine hK42 _ _ ?_
   refine zSk fun _ hK47 => ?_
   refine zSk fun _ hK48 => ?_
   refine zR ?_
   refine zAx 3 [(61, .pointer (some ⟨g2, 0, none⟩)), (62, .agg (zg x.k x.P x.Q x.g)), (63, numV Bs)] [0, 1] (z7a (M46.blk (k := 3) rfl) (z7a (M46.blk (k := 9) rfl) dnil)) [g2, g45] F45 fun _ F49 => ?_
   clear F45
   refine zea (zc rfl) rfl F49 rfl rfl (zE Tryz.func37 rfl) #[.agg (zg x.k x.P x.Q x.g), numV Bs] (z7b (F49.get (t := 62) rfl) (F49.get (t := 63) rfl)) (zha (kH w46)) ?_
   rintro _ w50 a50 ⟨rfl, b50⟩ F50
   have M50 := M46.step b50
   cases b3
   ·refine zh (w' := w50) (zc rfl) rfl F50 rfl (.bool true) (run_not _ _ rfl (F50.get (t := 64) rfl)) fun _ F51 => ?_
    clear F50
    refine hK48 _ _ ?_
    refine wp_cond_true (F51.get (t := 65) rfl) ?_
    refine zSk fun _ hK52 => ?_
    refine zR ?_
    refine zh (w' := w50) (zc rfl) rfl F51 rfl (.agg (zl ⟨0, 0, 0, 0, "".toUTF8, [], 0, 0, 0, [], 0, (fun _ => 0), (fun _ => 0)⟩ ⟨zN, zN⟩)) (by unfold execOp; kernel_rfl) fun _ F53 => ?_
    clear F51
    refine zh (w' := w50) (zc rfl) rfl F53 rfl (.agg (zk (fun _ => 0))) (by unfold execOp; kernel_rfl) fun _ F54 => ?_
    clear F53
    refine zka (zc rfl) rfl F54 M50 (k := 5) rfl _ _ _ rfl (F54.get (t := 6) rfl) (F54.get (t := 66) rfl) (zl ⟨0, 0, 0, 0, "".toUTF8, [], 0, 0, 0, [], 0, (fun _ => 0), (fun _ => 0)⟩ ⟨zN, zN⟩) _ rfl (zL rfl) (zpb (w := w50) ⟨(zva _), (zva _)⟩) (zx rfl) (by kernel_rfl) ?_
    intro w55 M55
    clear M50
    refine zka (zc rfl) rfl F54 M55 (k := 6) rfl _ _ _ rfl (F54.get (t := 7) rfl) (F54.get (t := 67) rfl) (zk (fun _ => 0)) _ rfl (zL rfl) (zla _) (zx rfl) (by kernel_rfl) ?_
    intro w56 M56
    clear M55
    refine rm rfl F54 fun _ F57 => ?_
    refine hK52 _ _ ?_
    refine wp_ret ?_
    try simp only [Exit.then, Exit.inBlock, Exit.jump]
    exact bodyPost_ret (res2ct rfl (F57.get rfl) (M56.blk (k := 5) rfl) (F57.get rfl) (M56.blk (k := 6) rfl) (F57.get rfl) Tryz.underlying37 rfl (by kernel_rfl) Tryz.underlying35 rfl (by kernel_rfl)) F57.defers (by simp only [Bool.false_and, Bool.true_and, Bool.and_false, Bool.and_true, Bool.not_true, Bool.not_false, cond_true, cond_false, decide_eq_false h11, decide_eq_true hbP]; exact ⟨⟨zN, zN⟩, rfl, ⟨zva _, zva _⟩, fun b hb => absurd hb (zjc b), fun b hb => absurd hb (zjc b), M56.below⟩)
   ·refine zh (w' := w50) (zc rfl) rfl F50 rfl (.bool false) (run_not _ _ rfl (F50.get (t := 64) rfl)) fun _ F58 => ?_
    clear F50
    refine hK48 _ _ ?_
    refine wp_cond_false (F58.get (t := 65) rfl) ?_
    refine wp_skip ?_
    refine hK47 _ _ ?_
    refine zSk fun _ hK59 => ?_
    refine zqb F58 [fun vE => vE = numV b, fun vE => vE = .slice Al l.length cl, fun _ => True, fun vE => vE = .pointer (some ⟨g2, 26, none⟩), fun vE => vE = .slice Ap x.lp.length cp, fun _ => True, fun vE => vE = .pointer (some ⟨g2, 35, none⟩)] (JM none w fun SV pV => [(0, bytR x.lp (.slice Ap x.lp.length cp)), (1, bytR x.ls (.slice As x.ls.length cs)), (2, bytR l (.slice Al l.length cl)), (3, blkR g2 37 (zl x ⟨.slice Ap x.lp.length cp, .slice As x.ls.length cs⟩)), (4, blkR g3 27 (numA b)), (5, blkR g4 37 (zl ⟨0, 0, 0, 0, "".toUTF8, [], 0, 0, 0, [], 0, (fun _ => 0), (fun _ => 0)⟩ ⟨zN, zN⟩)), (6, blkR g5 35 (zk (fun _ => 0))), (7, blkR g37 27 (numA X)), (8, blkR gp17x39 27 (numA S1)), (9, blkR g45 27 (numA Bs)), (10, condR (SV 2) (ownR l (pV 2))), (11, condR (SV 5) (ownR x.lp (pV 5)))]) 7 rfl (by kernel_rfl) rfl ⟨trivial, trivial, trivial, trivial, trivial, trivial, trivial, trivial⟩ (fun p => (((M50.step (zya _)).triv 10).triv 11).sub ⟨rfl, rfl, rfl, rfl, rfl, rfl, rfl, rfl, rfl, rfl, rfl, rfl, trivial⟩) ⟨?_, ?_, ?_, ?_, ?_, ?_, ?_, trivial⟩ ?_
    ·intro ua uw SV pV M0 hk hn hd
     have M : Mx none w uw _ := M0
     clear M0
     have e5 : ua.eval (.tmp 5) = .pointer (some ⟨g3, 0, none⟩) := (show ua.eval (.tmp 5) = _ from hd 5 (by decide)).trans (F58.get (t := 5) rfl)
     exact zp (zc rfl) (numV b) (zga _ _ rfl e5 (M.blk (k := 4) rfl) (numA b) (zta rfl) Tryz.underlying27 rfl ze) rfl (M.sub ⟨rfl, rfl, rfl, rfl, rfl, rfl, rfl, rfl, rfl, rfl, rfl, rfl, trivial⟩)
    ·intro ua uw SV pV M0 hk hn hd
     have M : Mx none w uw _ := M0
     clear M0
     have e1 : ua.eval (.tmp 1) = .slice Al l.length cl := (show ua.eval (.tmp 1) = _ from hd 1 (by decide)).trans (F58.get (t := 1) rfl)
     exact zp (zc rfl) (.slice Al l.length cl) (zia _ (.inl rfl) e1) rfl (M.sub ⟨rfl, rfl, rfl, rfl, rfl, rfl, rfl, rfl, rfl, rfl, rfl, rfl, trivial⟩)
    ·intro ua uw SV pV M0 hk hn hd
     have M : Mx none w uw _ := M0
     clear M0
     obtain ⟨s1, f69, q69⟩ := (show SV 1 = true ∧ ua.eval (.tmp 69) = pV 1 ∧ stE _ 1 (pV 1) from hd 69 (by decide))
     have e69 : ua.eval (.tmp 69) = .slice Al l.length cl := f69.trans q69
     exact z4a (zc rfl) rfl #[.slice Al l.length cl] (z2a e69) (zE Tryz.func36 rfl) (((clone_r l (.slice Al l.length cl) (by omega) uw (M.isb (k := 2) rfl))).mono fun e w2 h => (by obtain ⟨u, h1, h2, h3⟩ := h; exact ⟨u, h1, trivial, (M.newO h3 10 h2).sub ⟨rfl, rfl, rfl, rfl, rfl, rfl, rfl, rfl, rfl, rfl, rfl, rfl, trivial⟩⟩))
    ·intro ua uw SV pV M0 hk hn hd
     have M : Mx none w uw _ := M0
     clear M0
     have e3 : ua.eval (.tmp 3) = .pointer (some ⟨g2, 0, none⟩) := (show ua.eval (.tmp 3) = _ from hd 3 (by decide)).trans (F58.get (t := 3) rfl)
     exact zp (zc rfl) (.pointer (some ⟨g2, 26, none⟩)) (y_fa (off := 26) rfl e3 (by kernel_rfl) rfl) rfl (M.sub ⟨rfl, rfl, rfl, rfl, rfl, rfl, rfl, rfl, rfl, rfl, rfl, rfl, trivial⟩)
    ·intro ua uw SV pV M0 hk hn hd
     have M : Mx none w uw _ := M0
     clear M0
     obtain ⟨s3, f71, q71⟩ := (show SV 3 = true ∧ ua.eval (.tmp 71) = pV 3 ∧ stE _ 3 (pV 3) from hd 71 (by decide))
     have e71 : ua.eval (.tmp 71) = .pointer (some ⟨g2, 26, none⟩) := f71.trans q71
     exact zp (zc rfl) (.slice Ap x.lp.length cp) (y_ld1 _ _ rfl e71 (M.blk (k := 3) rfl) rfl Tryz.underlying22 rfl) rfl (M.sub ⟨rfl, rfl, rfl, rfl, rfl, rfl, rfl, rfl, rfl, rfl, rfl, rfl, trivial⟩)
    ·intro ua uw SV pV M0 hk hn hd
     have M : Mx none w uw _ := M0
     clear M0
     obtain ⟨s4, f72, q72⟩ := (show SV 4 = true ∧ ua.eval (.tmp 72) = pV 4 ∧ stE _ 4 (pV 4) from hd 72 (by decide))
     have e72 : ua.eval (.tmp 72) = .slice Ap x.lp.length cp := f72.trans q72
     exact z4a (zc rfl) rfl #[.slice Ap x.lp.length cp] (z2a e72) (zE Tryz.func36 rfl) (((clone_r x.lp (.slice Ap x.lp.length cp) (by omega) uw (M.isb (k := 0) rfl))).mono fun e w2 h => (by obtain ⟨u, h1, h2, h3⟩ := h; exact ⟨u, h1, trivial, (M.newO h3 11 h2).sub ⟨rfl, rfl, rfl, rfl, rfl, rfl, rfl, rfl, rfl, rfl, rfl, rfl, trivial⟩⟩))
    ·intro ua uw SV pV M0 hk hn hd
     have M : Mx none w uw _ := M0
     clear M0
     have e3 : ua.eval (.tmp 3) = .pointer (some ⟨g2, 0, none⟩) := (show ua.eval (.tmp 3) = _ from hd 3 (by decide)).trans (F58.get (t := 3) rfl)
     exact zp (zc rfl) (.pointer (some ⟨g2, 35, none⟩)) (y_fa (off := 35) rfl e3 (by kernel_rfl) rfl) rfl (M.sub ⟨rfl, rfl, rfl, rfl, rfl, rfl, rfl, rfl, rfl, rfl, rfl, rfl, trivial⟩)
    intro p60 a60 w60 M60 G60 y60
    obtain ⟨q0, -, q2, -, -, q5, q6, -⟩ := y60
    have r0 : p60 0 = numV b := q0
    have r6 : p60 6 = .pointer (some ⟨g2, 35, none⟩) := q6
    replace M60 : Mx _ _ w60 [(0, bytR x.lp (.slice Ap x.lp.length cp)), (1, bytR x.ls (.slice As x.ls.length cs)), (2, bytR l (.slice Al l.length cl)), (3, blkR g2 37 (zl x ⟨.slice Ap x.lp.length cp, .slice As x.ls.length cs⟩)), (4, blkR g3 27 (numA b)), (5, blkR g4 37 (zl ⟨0, 0, 0, 0, "".toUTF8, [], 0, 0, 0, [], 0, (fun _ => 0), (fun _ => 0)⟩ ⟨zN, zN⟩)), (6, blkR g5 35 (zk (fun _ => 0))), (7, blkR g37 27 (numA X)), (8, blkR gp17x39 27 (numA S1)), (9, blkR g45 27 (numA Bs)), (10, condR true (ownR l (p60 2))), (11, condR true (ownR x.lp (p60 5)))] := M60
    simp only [List.take, layV, Nat.zero_add, Nat.reduceAdd, r0, r6] at G60
    obtain ⟨Ap60_10, cp60_10, hp60_10⟩ := (M60.isO (k := 10) rfl).shape
    rw [hp60_10] at M60
    try rw [hp60_10] at G60
    obtain ⟨Ap60_11, cp60_11, hp60_11⟩ := (M60.isO (k := 11) rfl).shape
    rw [hp60_11] at M60
    try rw [hp60_11] at G60
    refine zka (zc rfl) rfl G60 M60 (k := 3) rfl _ _ _ rfl (G60.get (t := 74) rfl) (G60.get (t := 68) rfl) (numA b) (zl ⟨x.k, x.P, x.Q, x.g, x.s, x.lp, x.A, b, x.O, x.ls, x.V, x.Ky, x.Pr⟩ ⟨.slice Ap x.lp.length cp, .slice As x.ls.length cs⟩) rfl (zL rfl) (zoa _) (by kernel_rfl) ze ?_
    intro w61 M61
    clear M60
    refine zh (w' := w61) (zc rfl) rfl G60 rfl (.pointer (some ⟨g2, 51, none⟩)) (y_fa (off := 51) rfl (G60.get (t := 3) rfl) (by kernel_rfl) rfl) fun _ F62 => ?_
    clear G60
    refine zka (zc rfl) rfl F62 M61 (k := 3) rfl _ _ _ rfl (F62.get (t := 75) rfl) (F62.get (t := 70) rfl) (#[(.slice Ap60_10 (l).length cp60_10)]) (zl ⟨x.k, x.P, x.Q, x.g, x.s, x.lp, x.A, b, x.O, l, x.V, x.Ky, x.Pr⟩ ⟨.slice Ap x.lp.length cp, (.slice Ap60_10 (l).length cp60_10)⟩) rfl (zL rfl) (one_slcB (M61.isO (k := 10) rfl)) (by kernel_rfl) (by kernel_rfl) ?_
    intro w63 M63
    clear M61
    refine zh (w' := w63) (zc rfl) rfl F62 rfl (.pointer (some ⟨g2, 26, none⟩)) (y_fa (off := 26) rfl (F62.get (t := 3) rfl) (by kernel_rfl) rfl) fun _ F64 => ?_
    clear F62
    refine zka (zc rfl) rfl F64 M63 (k := 3) rfl _ _ _ rfl (F64.get (t := 76) rfl) (F64.get (t := 73) rfl) (#[(.slice Ap60_11 (x.lp).length cp60_11)]) (zl ⟨x.k, x.P, x.Q, x.g, x.s, x.lp, x.A, b, x.O, l, x.V, x.Ky, x.Pr⟩ ⟨(.slice Ap60_11 (x.lp).length cp60_11), (.slice Ap60_10 (l).length cp60_10)⟩) rfl (zL rfl) (one_slcB (M63.isO (k := 11) rfl)) (by kernel_rfl) (by kernel_rfl) ?_
    intro w65 M65
    clear M63
    refine hK59 _ _ ?_
    refine zSk fun _ hK66 => ?_
    refine zqb F64 [fun vE => vE = .agg (zl ⟨x.k, x.P, x.Q, x.g, x.s, x.lp, x.A, b, x.O, l, x.V, x.Ky, x.Pr⟩ ⟨(.slice Ap60_11 (x.lp).length cp60_11), (.slice Ap60_10 (l).length cp60_10)⟩), fun vE => vE = numV U, fun vE => vE = numV X, fun vE => vE = .tuple #[numV L, numV H], fun vE => vE = .tuple #[numV L, numV H], fun vE => vE = numV L, fun vE => vE = numV H, fun vE => ∃ g, vE = .pointer (some ⟨g, 0, none⟩), fun vE => ∃ g, vE = .pointer (some ⟨g, 0, none⟩), fun vE => vE = undef] (JM none w fun SV pV => [(0, bytR x.lp (.slice Ap x.lp.length cp)), (1, bytR x.ls (.slice As x.ls.length cs)), (2, bytR l (.slice Al l.length cl)), (3, blkR g2 37 (zl ⟨x.k, x.P, x.Q, x.g, x.s, x.lp, x.A, b, x.O, l, x.V, x.Ky, x.Pr⟩ ⟨(.slice Ap60_11 (x.lp).length cp60_11), (.slice Ap60_10 (l).length cp60_10)⟩)), (4, blkR g3 27 (numA b)), (5, blkR g4 37 (zl ⟨0, 0, 0, 0, "".toUTF8, [], 0, 0, 0, [], 0, (fun _ => 0), (fun _ => 0)⟩ ⟨zN, zN⟩)), (6, blkR g5 35 (zk (fun _ => 0))), (7, blkR g37 27 (numA X)), (8, blkR gp17x39 27 (numA S1)), (9, blkR g45 27 (numA Bs)), (10, ownR l (.slice Ap60_10 (l).length cp60_10)), (11, ownR x.lp (.slice Ap60_11 (x.lp).length cp60_11)), (12, eitherR (SV 9) (ptrR 27 (numA L) (pV 7)) (condR (SV 7) (ptrR 27 (numA 0) (pV 7)))), (13, condR (SV 8) (ptrR 27 (numA 0) (pV 8)))]) 10 rfl (by kernel_rfl) rfl ⟨trivial, trivial, trivial, trivial, trivial, trivial, trivial, trivial, trivial, fun _ => Iff.rfl, trivial⟩ (fun p => (((M65.step (zya _)).triv 12).triv 13).sub ⟨rfl, rfl, rfl, rfl, rfl, rfl, rfl, rfl, rfl, rfl, rfl, rfl, rfl, rfl, trivial⟩) ⟨?_, ?_, ?_, ?_, ?_, ?_, ?_, ?_, ?_, ?_, trivial⟩ ?_
    ·intro ua uw SV pV M0 hk hn hd
     have M : Mx none w uw _ := M0
     clear M0
     have e3 : ua.eval (.tmp 3) = .pointer (some ⟨g2, 0, none⟩) := (show ua.eval (.tmp 3) = _ from hd 3 (by decide)).trans (F64.get (t := 3) rfl)
     exact zp (zc rfl) _ (zga _ _ rfl e3 (M.blk (k := 3) rfl) (zl ⟨x.k, x.P, x.Q, x.g, x.s, x.lp, x.A, b, x.O, l, x.V, x.Ky, x.Pr⟩ ⟨(.slice Ap60_11 (x.lp).length cp60_11), (.slice Ap60_10 (l).length cp60_10)⟩) (zta rfl) Tryz.underlying37 rfl (by kernel_rfl)) rfl (M.sub ⟨rfl, rfl, rfl, rfl, rfl, rfl, rfl, rfl, rfl, rfl, rfl, rfl, rfl, rfl, trivial⟩)
    ·intro ua uw SV pV M0 hk hn hd
     have M : Mx none w uw _ := M0
     clear M0
     obtain ⟨s0, f78, q78⟩ := (show SV 0 = true ∧ ua.eval (.tmp 78) = pV 0 ∧ stE _ 0 (pV 0) from hd 78 (by decide))
     have e78 : ua.eval (.tmp 78) = .agg (zl ⟨x.k, x.P, x.Q, x.g, x.s, x.lp, x.A, b, x.O, l, x.V, x.Ky, x.Pr⟩ ⟨(.slice Ap60_11 (x.lp).length cp60_11), (.slice Ap60_10 (l).length cp60_10)⟩) := f78.trans q78
     exact z4a (zc rfl) rfl #[.agg (zl ⟨x.k, x.P, x.Q, x.g, x.s, x.lp, x.A, b, x.O, l, x.V, x.Ky, x.Pr⟩ ⟨(.slice Ap60_11 (x.lp).length cp60_11), (.slice Ap60_10 (l).length cp60_10)⟩)] (z2a e78) (zE Tryz.func41 rfl) (((hU ▸ scramble_any ⟨x.k, x.P, x.Q, x.g, x.s, x.lp, x.A, b, x.O, l, x.V, x.Ky, x.Pr⟩ ⟨(.slice Ap60_11 (x.lp).length cp60_11), (.slice Ap60_10 (l).length cp60_10)⟩ h2 hQ uw ⟨(M.isO (k := 11) rfl), (M.isO (k := 10) rfl)⟩)).mono fun e w2 h => ⟨_, h.1, rfl, (M.step h.2).sub ⟨rfl, rfl, rfl, rfl, rfl, rfl, rfl, rfl, rfl, rfl, rfl, rfl, rfl, rfl, trivial⟩⟩)
    ·intro ua uw SV pV M0 hk hn hd
     have M : Mx none w uw _ := M0
     clear M0
     have e9 : ua.eval (.tmp 9) = .pointer (some ⟨g37, 0, none⟩) := (show ua.eval (.tmp 9) = _ from hd 9 (by decide)).trans (F64.get (t := 9) rfl)
     exact zp (zc rfl) (numV X) (zga _ _ rfl e9 (M.blk (k := 7) rfl) (numA X) (zta rfl) Tryz.underlying27 rfl ze) rfl (M.sub ⟨rfl, rfl, rfl, rfl, rfl, rfl, rfl, rfl, rfl, rfl, rfl, rfl, rfl, rfl, trivial⟩)
    ·intro ua uw SV pV M0 hk hn hd
     have M : Mx none w uw _ := M0
     clear M0
     obtain ⟨s1, f79, q79⟩ := (show SV 1 = true ∧ ua.eval (.tmp 79) = pV 1 ∧ stE _ 1 (pV 1) from hd 79 (by decide))
     have e79 : ua.eval (.tmp 79) = numV U := f79.trans q79
     obtain ⟨s2, f80, q80⟩ := (show SV 2 = true ∧ ua.eval (.tmp 80) = pV 2 ∧ stE _ 2 (pV 2) from hd 80 (by decide))
     have e80 : ua.eval (.tmp 80) = numV X := f80.trans q80
     exact z4a (zc rfl) rfl #[numV U, numV X] (z7b e79 e80) (zE Tryz.func49 rfl) ((kMu uw).mono fun e w2 h => ⟨_, h.1, rfl, (M.step h.2).sub ⟨rfl, rfl, rfl, rfl, rfl, rfl, rfl, rfl, rfl, rfl, rfl, rfl, rfl, rfl, trivial⟩⟩)
    ·intro ua uw SV pV M0 hk hn hd
     have M : Mx none w uw _ := M0
     clear M0
     obtain ⟨s3, f81, q81⟩ := (show SV 3 = true ∧ ua.eval (.tmp 81) = pV 3 ∧ stE _ 3 (pV 3) from hd 81 (by decide))
     have e81 : ua.eval (.tmp 81) = .tuple #[numV L, numV H] := f81.trans q81
     exact zp (zc rfl) (.tuple #[numV L, numV H]) (zia _ (.inl rfl) e81) rfl (M.sub ⟨rfl, rfl, rfl, rfl, rfl, rfl, rfl, rfl, rfl, rfl, rfl, rfl, rfl, rfl, trivial⟩)
    ·intro ua uw SV pV M0 hk hn hd
     have M : Mx none w uw _ := M0
     clear M0
     obtain ⟨s4, f77, q77⟩ := (show SV 4 = true ∧ ua.eval (.tmp 77) = pV 4 ∧ stE _ 4 (pV 4) from hd 77 (by decide))
     have e77 : ua.eval (.tmp 77) = .tuple #[numV L, numV H] := f77.trans q77
     exact zp (zc rfl) (numV L) (y_ext _ _ rfl e77 rfl) rfl (M.sub ⟨rfl, rfl, rfl, rfl, rfl, rfl, rfl, rfl, rfl, rfl, rfl, rfl, rfl, rfl, trivial⟩)
    ·intro ua uw SV pV M0 hk hn hd
     have M : Mx none w uw _ := M0
     clear M0
     obtain ⟨s4, f77, q77⟩ := (show SV 4 = true ∧ ua.eval (.tmp 77) = pV 4 ∧ stE _ 4 (pV 4) from hd 77 (by decide))
     have e77 : ua.eval (.tmp 77) = .tuple #[numV L, numV H] := f77.trans q77
     exact zp (zc rfl) (numV H) (y_ext _ _ rfl e77 rfl) rfl (M.sub ⟨rfl, rfl, rfl, rfl, rfl, rfl, rfl, rfl, rfl, rfl, rfl, rfl, rfl, rfl, trivial⟩)
    ·intro ua uw SV pV M0 hk hn hd
     have M : Mx none w uw _ := M0
     clear M0
     exact zp (zc rfl) _ (zba rfl) ⟨_, rfl⟩ ((M.allocP 12 27 (numA 0)).sub ⟨rfl, rfl, rfl, rfl, rfl, rfl, rfl, rfl, rfl, rfl, rfl, rfl, (eitherR_at (hn 9 (by kernel_rfl)) rfl), rfl, trivial⟩)
    ·intro ua uw SV pV M0 hk hn hd
     have M : Mx none w uw _ := M0
     clear M0
     exact zp (zc rfl) _ (zba rfl) ⟨_, rfl⟩ ((M.allocP 13 27 (numA 0)).sub ⟨rfl, rfl, rfl, rfl, rfl, rfl, rfl, rfl, rfl, rfl, rfl, rfl, rfl, rfl, trivial⟩)
    ·intro ua uw SV pV M0 hk hn hd
     have M : Mx none w uw _ := M0
     clear M0
     obtain ⟨s7, f13, q13⟩ := (show SV 7 = true ∧ ua.eval (.tmp 13) = pV 7 ∧ stE _ 7 (pV 7) from hd 13 (by decide))
     obtain ⟨s5, f82, q82⟩ := (show SV 5 = true ∧ ua.eval (.tmp 82) = pV 5 ∧ stE _ 5 (pV 5) from hd 82 (by decide))
     have e82 : ua.eval (.tmp 82) = numV L := f82.trans q82
     obtain ⟨g_, r_⟩ := (show ∃ g, pV 7 = .pointer (some ⟨g, 0, none⟩) from q13)
     have M2 := M.ptrV (k := 12) (g := g_) (condR_look s7 (eitherR_r hk rfl)) r_
     exact hopM_doM (zc rfl) rfl (run_st M2 (k := 12) rfl _ _ _ rfl (f13.trans r_) e82 (numA L) _ rfl (zL rfl) (zoa _) (zx rfl) ze) (fun w2 h2 => (h2.toPtr (k := 12) rfl r_ rfl).sub ⟨rfl, rfl, rfl, rfl, rfl, rfl, rfl, rfl, rfl, rfl, rfl, rfl, rfl, rfl, trivial⟩) rfl
    intro p67 a67 w67 M67 G67 y67
    obtain ⟨-, -, -, -, -, -, q6, q7, q8, -, -⟩ := y67
    obtain ⟨gp7x66, r7⟩ := (show ∃ g, p67 7 = .pointer (some ⟨g, 0, none⟩) from q7)
    obtain ⟨gp8x66, r8⟩ := (show ∃ g, p67 8 = .pointer (some ⟨g, 0, none⟩) from q8)
    have r6 : p67 6 = numV H := q6
    replace M67 : Mx _ _ w67 [(0, bytR x.lp (.slice Ap x.lp.length cp)), (1, bytR x.ls (.slice As x.ls.length cs)), (2, bytR l (.slice Al l.length cl)), (3, blkR g2 37 (zl ⟨x.k, x.P, x.Q, x.g, x.s, x.lp, x.A, b, x.O, l, x.V, x.Ky, x.Pr⟩ ⟨(.slice Ap60_11 (x.lp).length cp60_11), (.slice Ap60_10 (l).length cp60_10)⟩)), (4, blkR g3 27 (numA b)), (5, blkR g4 37 (zl ⟨0, 0, 0, 0, "".toUTF8, [], 0, 0, 0, [], 0, (fun _ => 0), (fun _ => 0)⟩ ⟨zN, zN⟩)), (6, blkR g5 35 (zk (fun _ => 0))), (7, blkR g37 27 (numA X)), (8, blkR gp17x39 27 (numA S1)), (9, blkR g45 27 (numA Bs)), (10, ownR l (.slice Ap60_10 (l).length cp60_10)), (11, ownR x.lp (.slice Ap60_11 (x.lp).length cp60_11)), (12, eitherR true (ptrR 27 (numA L) (p67 7)) (condR true (ptrR 27 (numA 0) (p67 7)))), (13, condR true (ptrR 27 (numA 0) (p67 8)))] := M67
    simp only [List.take, layV, Nat.zero_add, Nat.reduceAdd, r6, r7, r8] at G67
    rw [r7, r8] at M67
    have M67_12 := M67.ptr (k := 12) (g := gp7x66) rfl
    replace M67_12 := M67_12.toB (k := 12) (c2 := numA L) rfl rfl
    have M67_13 := M67_12.ptr (k := 13) (g := gp8x66) rfl
    refine zka (zc rfl) rfl G67 M67_13 (k := 13) rfl _ _ _ rfl (G67.get (t := 14) rfl) (G67.get (t := 83) rfl) (numA H) _ rfl (zL rfl) (zoa _) (zx rfl) ze ?_
    intro w68 M68
    clear M67_13
    refine hK66 _ _ ?_
    refine zSk fun _ hK69 => ?_
    refine zR ?_
    refine zAx 5 [(85, numV L), (86, numV H), (87, .pointer (some ⟨g2, 0, none⟩)), (88, .pointer (some ⟨g2, 9, none⟩)), (89, numV x.Q)] [0, 1, 2] (z7a (M68.blk (k := 12) rfl) (z7a (M68.blk (k := 13) rfl) (z7a (M68.blk (k := 3) rfl) dnil))) [gp7x66, gp8x66, g2] G67 fun _ F70 => ?_
    clear G67
    refine zea (zc rfl) rfl F70 rfl rfl (zE Tryz.func50 rfl) #[numV L, numV H, numV x.Q] (args3 (F70.get (t := 85) rfl) (F70.get (t := 86) rfl) (F70.get (t := 89) rfl)) (zha (kRe w68)) ?_
    rintro _ w71 a71 ⟨rfl, b71⟩ F71
    have M71 := M68.step b71
    refine zAx 3 [(84, .tuple #[numV Mo, .bool true]), (91, numV Mo), (92, .bool true)] [] dnil [] F71 fun _ F72 => ?_
    clear F71
    refine zo (zc rfl) rfl F72 rfl M71 14 (t := 27) (c := numA 0) (zba rfl) ?_
    intro g73 a73 w73 F73 M73
    clear F72 M71
    refine zka (zc rfl) rfl F73 M73 (k := 14) rfl _ _ _ rfl (F73.get (t := 15) rfl) (F73.get (t := 91) rfl) (numA Mo) _ rfl (zL rfl) (zoa _) (zx rfl) ze ?_
    intro w74 M74
    clear M73
    refine rm rfl F73 fun _ F75 => ?_
    refine hK69 _ _ ?_
    refine zSk fun _ hK76 => ?_
    refine zqb F75 [fun vE => vE = .agg (zl ⟨x.k, x.P, x.Q, x.g, x.s, x.lp, x.A, b, x.O, l, x.V, x.Ky, x.Pr⟩ ⟨(.slice Ap60_11 (x.lp).length cp60_11), (.slice Ap60_10 (l).length cp60_10)⟩), fun vE => vE = .pointer (some ⟨g2, 0, none⟩), fun vE => vE = .agg (zg x.k x.P x.Q x.g), fun vE => vE = numV Bs, fun vE => vE = .pointer (some ⟨g2, 43, none⟩), fun vE => vE = numV x.O, fun vE => vE = numV Mo, fun vE => vE = .pointer (some ⟨g2, 0, none⟩), fun vE => vE = .pointer (some ⟨g2, 9, none⟩), fun vE => vE = numV x.Q, fun vE => vE = numV E, fun vE => vE = numV N] (JM none w fun SV pV => [(0, bytR x.lp (.slice Ap x.lp.length cp)), (1, bytR x.ls (.slice As x.ls.length cs)), (2, bytR l (.slice Al l.length cl)), (3, blkR g2 37 (zl ⟨x.k, x.P, x.Q, x.g, x.s, x.lp, x.A, b, x.O, l, x.V, x.Ky, x.Pr⟩ ⟨(.slice Ap60_11 (x.lp).length cp60_11), (.slice Ap60_10 (l).length cp60_10)⟩)), (4, blkR g3 27 (numA b)), (5, blkR g4 37 (zl ⟨0, 0, 0, 0, "".toUTF8, [], 0, 0, 0, [], 0, (fun _ => 0), (fun _ => 0)⟩ ⟨zN, zN⟩)), (6, blkR g5 35 (zk (fun _ => 0))), (7, blkR g37 27 (numA X)), (8, blkR gp17x39 27 (numA S1)), (9, blkR g45 27 (numA Bs)), (10, ownR l (.slice Ap60_10 (l).length cp60_10)), (11, ownR x.lp (.slice Ap60_11 (x.lp).length cp60_11)), (12, blkR gp7x66 27 (numA L)), (13, blkR gp8x66 27 (numA H)), (14, blkR g73 27 (numA Mo))]) 12 rfl (by kernel_rfl) rfl ⟨trivial, trivial, trivial, trivial, trivial, trivial, trivial, trivial, trivial, trivial, trivial, trivial, trivial⟩ (fun p => (M74.step (zya _)).sub ⟨rfl, rfl, rfl, rfl, rfl, rfl, rfl, rfl, rfl, rfl, rfl, rfl, rfl, rfl, rfl, trivial⟩) ⟨?_, ?_, ?_, ?_, ?_, ?_, ?_, ?_, ?_, ?_, ?_, ?_, trivial⟩ ?_
    ·intro ua uw SV pV M0 hk hn hd
     have M : Mx none w uw _ := M0
     clear M0
     have e3 : ua.eval (.tmp 3) = .pointer (some ⟨g2, 0, none⟩) := (show ua.eval (.tmp 3) = _ from hd 3 (by decide)).trans (F75.get (t := 3) rfl)
     exact zp (zc rfl) _ (zga _ _ rfl e3 (M.blk (k := 3) rfl) (zl ⟨x.k, x.P, x.Q, x.g, x.s, x.lp, x.A, b, x.O, l, x.V, x.Ky, x.Pr⟩ ⟨(.slice Ap60_11 (x.lp).length cp60_11), (.slice Ap60_10 (l).length cp60_10)⟩) (zta rfl) Tryz.underlying37 rfl (by kernel_rfl)) rfl (M.sub ⟨rfl, rfl, rfl, rfl, rfl, rfl, rfl, rfl, rfl, rfl, rfl, rfl, rfl, rfl, rfl, trivial⟩)
    ·intro ua uw SV pV M0 hk hn hd
     have M : Mx none w uw _ := M0
     clear M0
     have e3 : ua.eval (.tmp 3) = .pointer (some ⟨g2, 0, none⟩) := (show ua.eval (.tmp 3) = _ from hd 3 (by decide)).trans (F75.get (t := 3) rfl)
     exact zp (zc rfl) (.pointer (some ⟨g2, 0, none⟩)) (y_fa (off := 0) rfl e3 (by kernel_rfl) rfl) rfl (M.sub ⟨rfl, rfl, rfl, rfl, rfl, rfl, rfl, rfl, rfl, rfl, rfl, rfl, rfl, rfl, rfl, trivial⟩)
    ·intro ua uw SV pV M0 hk hn hd
     have M : Mx none w uw _ := M0
     clear M0
     obtain ⟨s1, f94, q94⟩ := (show SV 1 = true ∧ ua.eval (.tmp 94) = pV 1 ∧ stE _ 1 (pV 1) from hd 94 (by decide))
     have e94 : ua.eval (.tmp 94) = .pointer (some ⟨g2, 0, none⟩) := f94.trans q94
     exact zp (zc rfl) _ (zga _ _ rfl e94 (M.blk (k := 3) rfl) (zg x.k x.P x.Q x.g) (side_G ⟨x.k, x.P, x.Q, x.g, x.s, x.lp, x.A, b, x.O, l, x.V, x.Ky, x.Pr⟩ ⟨(.slice Ap60_11 (x.lp).length cp60_11), (.slice Ap60_10 (l).length cp60_10)⟩) Tryz.underlying29 rfl (by kernel_rfl)) rfl (M.sub ⟨rfl, rfl, rfl, rfl, rfl, rfl, rfl, rfl, rfl, rfl, rfl, rfl, rfl, rfl, rfl, trivial⟩)
    ·intro ua uw SV pV M0 hk hn hd
     have M : Mx none w uw _ := M0
     clear M0
     have e12 : ua.eval (.tmp 12) = .pointer (some ⟨g45, 0, none⟩) := (show ua.eval (.tmp 12) = _ from hd 12 (by decide)).trans (F75.get (t := 12) rfl)
     exact zp (zc rfl) (numV Bs) (zga _ _ rfl e12 (M.blk (k := 9) rfl) (numA Bs) (zta rfl) Tryz.underlying27 rfl ze) rfl (M.sub ⟨rfl, rfl, rfl, rfl, rfl, rfl, rfl, rfl, rfl, rfl, rfl, rfl, rfl, rfl, rfl, trivial⟩)
    ·intro ua uw SV pV M0 hk hn hd
     have M : Mx none w uw _ := M0
     clear M0
     have e3 : ua.eval (.tmp 3) = .pointer (some ⟨g2, 0, none⟩) := (show ua.eval (.tmp 3) = _ from hd 3 (by decide)).trans (F75.get (t := 3) rfl)
     exact zp (zc rfl) (.pointer (some ⟨g2, 43, none⟩)) (y_fa (off := 43) rfl e3 (by kernel_rfl) rfl) rfl (M.sub ⟨rfl, rfl, rfl, rfl, rfl, rfl, rfl, rfl, rfl, rfl, rfl, rfl, rfl, rfl, rfl, trivial⟩)
    ·intro ua uw SV pV M0 hk hn hd
     have M : Mx none w uw _ := M0
     clear M0
     obtain ⟨s4, f97, q97⟩ := (show SV 4 = true ∧ ua.eval (.tmp 97) = pV 4 ∧ stE _ 4 (pV 4) from hd 97 (by decide))
     have e97 : ua.eval (.tmp 97) = .pointer (some ⟨g2, 43, none⟩) := f97.trans q97
     exact zp (zc rfl) (numV x.O) (zga _ _ rfl e97 (M.blk (k := 3) rfl) (numA x.O) (y_part8 rfl rfl rfl rfl rfl rfl rfl rfl) Tryz.underlying27 rfl ze) rfl (M.sub ⟨rfl, rfl, rfl, rfl, rfl, rfl, rfl, rfl, rfl, rfl, rfl, rfl, rfl, rfl, rfl, trivial⟩)
    ·intro ua uw SV pV M0 hk hn hd
     have M : Mx none w uw _ := M0
     clear M0
     have e15 : ua.eval (.tmp 15) = .pointer (some ⟨g73, 0, none⟩) := (show ua.eval (.tmp 15) = _ from hd 15 (by decide)).trans (F75.get (t := 15) rfl)
     exact zp (zc rfl) (numV Mo) (zga _ _ rfl e15 (M.blk (k := 14) rfl) (numA Mo) (zta rfl) Tryz.underlying27 rfl ze) rfl (M.sub ⟨rfl, rfl, rfl, rfl, rfl, rfl, rfl, rfl, rfl, rfl, rfl, rfl, rfl, rfl, rfl, trivial⟩)
    ·intro ua uw SV pV M0 hk hn hd
     have M : Mx none w uw _ := M0
     clear M0
     have e3 : ua.eval (.tmp 3) = .pointer (some ⟨g2, 0, none⟩) := (show ua.eval (.tmp 3) = _ from hd 3 (by decide)).trans (F75.get (t := 3) rfl)
     exact zp (zc rfl) (.pointer (some ⟨g2, 0, none⟩)) (y_fa (off := 0) rfl e3 (by kernel_rfl) rfl) rfl (M.sub ⟨rfl, rfl, rfl, rfl, rfl, rfl, rfl, rfl, rfl, rfl, rfl, rfl, rfl, rfl, rfl, trivial⟩)
    ·intro ua uw SV pV M0 hk hn hd
     have M : Mx none w uw _ := M0
     clear M0
     obtain ⟨s7, f100, q100⟩ := (show SV 7 = true ∧ ua.eval (.tmp 100) = pV 7 ∧ stE _ 7 (pV 7) from hd 100 (by decide))
     have e100 : ua.eval (.tmp 100) = .pointer (some ⟨g2, 0, none⟩) := f100.trans q100
     exact zp (zc rfl) (.pointer (some ⟨g2, 9, none⟩)) (y_fa (off := 9) rfl e100 (by kernel_rfl) rfl) rfl (M.sub ⟨rfl, rfl, rfl, rfl, rfl, rfl, rfl, rfl, rfl, rfl, rfl, rfl, rfl, rfl, rfl, trivial⟩)
    ·intro ua uw SV pV M0 hk hn hd
     have M : Mx none w uw _ := M0
     clear M0
     obtain ⟨s8, f101, q101⟩ := (show SV 8 = true ∧ ua.eval (.tmp 101) = pV 8 ∧ stE _ 8 (pV 8) from hd 101 (by decide))
     have e101 : ua.eval (.tmp 101) = .pointer (some ⟨g2, 9, none⟩) := f101.trans q101
     exact zp (zc rfl) (numV x.Q) (zga _ _ rfl e101 (M.blk (k := 3) rfl) (numA x.Q) (y_part8 rfl rfl rfl rfl rfl rfl rfl rfl) Tryz.underlying27 rfl ze) rfl (M.sub ⟨rfl, rfl, rfl, rfl, rfl, rfl, rfl, rfl, rfl, rfl, rfl, rfl, rfl, rfl, rfl, trivial⟩)
    ·intro ua uw SV pV M0 hk hn hd
     have M : Mx none w uw _ := M0
     clear M0
     obtain ⟨s5, f98, q98⟩ := (show SV 5 = true ∧ ua.eval (.tmp 98) = pV 5 ∧ stE _ 5 (pV 5) from hd 98 (by decide))
     have e98 : ua.eval (.tmp 98) = numV x.O := f98.trans q98
     obtain ⟨s6, f99, q99⟩ := (show SV 6 = true ∧ ua.eval (.tmp 99) = pV 6 ∧ stE _ 6 (pV 6) from hd 99 (by decide))
     have e99 : ua.eval (.tmp 99) = numV Mo := f99.trans q99
     obtain ⟨s9, f102, q102⟩ := (show SV 9 = true ∧ ua.eval (.tmp 102) = pV 9 ∧ stE _ 9 (pV 9) from hd 102 (by decide))
     have e102 : ua.eval (.tmp 102) = numV x.Q := f102.trans q102
     exact z4a (zc rfl) rfl #[numV x.O, numV Mo, numV x.Q] (args3 e98 e99 e102) (zE Tryz.func38 rfl) ((kT2 uw).mono fun e w2 h => ⟨_, h.1, rfl, (M.step h.2).sub ⟨rfl, rfl, rfl, rfl, rfl, rfl, rfl, rfl, rfl, rfl, rfl, rfl, rfl, rfl, rfl, trivial⟩⟩)
    ·intro ua uw SV pV M0 hk hn hd
     have M : Mx none w uw _ := M0
     clear M0
     obtain ⟨s2, f95, q95⟩ := (show SV 2 = true ∧ ua.eval (.tmp 95) = pV 2 ∧ stE _ 2 (pV 2) from hd 95 (by decide))
     have e95 : ua.eval (.tmp 95) = .agg (zg x.k x.P x.Q x.g) := f95.trans q95
     obtain ⟨s3, f96, q96⟩ := (show SV 3 = true ∧ ua.eval (.tmp 96) = pV 3 ∧ stE _ 3 (pV 3) from hd 96 (by decide))
     have e96 : ua.eval (.tmp 96) = numV Bs := f96.trans q96
     obtain ⟨s10, f103, q103⟩ := (show SV 10 = true ∧ ua.eval (.tmp 103) = pV 10 ∧ stE _ 10 (pV 10) from hd 103 (by decide))
     have e103 : ua.eval (.tmp 103) = numV E := f103.trans q103
     exact z4a (zc rfl) rfl #[.agg (zg x.k x.P x.Q x.g), numV Bs, numV E] (args3 e95 e96 e103) (zE Tryz.func33 rfl) ((kR3 uw).mono fun e w2 h => ⟨_, h.1, rfl, (M.step h.2).sub ⟨rfl, rfl, rfl, rfl, rfl, rfl, rfl, rfl, rfl, rfl, rfl, rfl, rfl, rfl, rfl, trivial⟩⟩)
    intro p77 a77 w77 M77 G77 y77
    obtain ⟨q0, -, -, -, -, -, -, -, -, -, -, q11, -⟩ := y77
    have r0 : p77 0 = .agg (zl ⟨x.k, x.P, x.Q, x.g, x.s, x.lp, x.A, b, x.O, l, x.V, x.Ky, x.Pr⟩ ⟨(.slice Ap60_11 (x.lp).length cp60_11), (.slice Ap60_10 (l).length cp60_10)⟩) := q0
    have r11 : p77 11 = numV N := q11
    replace M77 : Mx _ _ w77 [(0, bytR x.lp (.slice Ap x.lp.length cp)), (1, bytR x.ls (.slice As x.ls.length cs)), (2, bytR l (.slice Al l.length cl)), (3, blkR g2 37 (zl ⟨x.k, x.P, x.Q, x.g, x.s, x.lp, x.A, b, x.O, l, x.V, x.Ky, x.Pr⟩ ⟨(.slice Ap60_11 (x.lp).length cp60_11), (.slice Ap60_10 (l).length cp60_10)⟩)), (4, blkR g3 27 (numA b)), (5, blkR g4 37 (zl ⟨0, 0, 0, 0, "".toUTF8, [], 0, 0, 0, [], 0, (fun _ => 0), (fun _ => 0)⟩ ⟨zN, zN⟩)), (6, blkR g5 35 (zk (fun _ => 0))), (7, blkR g37 27 (numA X)), (8, blkR gp17x39 27 (numA S1)), (9, blkR g45 27 (numA Bs)), (10, ownR l (.slice Ap60_10 (l).length cp60_10)), (11, ownR x.lp (.slice Ap60_11 (x.lp).length cp60_11)), (12, blkR gp7x66 27 (numA L)), (13, blkR gp8x66 27 (numA H)), (14, blkR g73 27 (numA Mo))] := M77
    simp only [List.take, layV, Nat.zero_add, Nat.reduceAdd, r0, r11] at G77
    refine zea (zc rfl) rfl G77 rfl rfl (zE Tryz.func42 rfl) #[.agg (zl ⟨x.k, x.P, x.Q, x.g, x.s, x.lp, x.A, b, x.O, l, x.V, x.Ky, x.Pr⟩ ⟨(.slice Ap60_11 (x.lp).length cp60_11), (.slice Ap60_10 (l).length cp60_10)⟩), numV N] (z7b (G77.get (t := 93) rfl) (G77.get (t := 104) rfl)) (zha ((sharing_any ⟨x.k, x.P, x.Q, x.g, x.s, x.lp, x.A, b, x.O, l, x.V, x.Ky, x.Pr⟩ ⟨(.slice Ap60_11 (x.lp).length cp60_11), (.slice Ap60_10 (l).length cp60_10)⟩ N ht w77 ⟨(M77.isO (k := 11) rfl), (M77.isO (k := 10) rfl)⟩))) ?_
    rintro _ w78 a78 ⟨rfl, b78⟩ F78
    have M78 := M77.step b78
    refine zka (zc rfl) rfl F78 M78 (k := 3) rfl _ _ _ rfl (F78.get (t := 3) rfl) (F78.get (t := 105) rfl) (zl (zkb ⟨x.k, x.P, x.Q, x.g, x.s, x.lp, x.A, b, x.O, l, x.V, x.Ky, x.Pr⟩ N) ⟨(.slice Ap60_11 (x.lp).length cp60_11), (.slice Ap60_10 (l).length cp60_10)⟩) _ rfl (zL rfl) (zpb (w := w78) ⟨(M78.isO (k := 11) rfl), (M78.isO (k := 10) rfl)⟩) (zx rfl) (by kernel_rfl) ?_
    intro w79 M79
    clear M78
    refine hK76 _ _ ?_
    refine zSk fun _ hK80 => ?_
    refine zqb F78 [fun vE => vE = .agg (zl (zkb ⟨x.k, x.P, x.Q, x.g, x.s, x.lp, x.A, b, x.O, l, x.V, x.Ky, x.Pr⟩ N) ⟨(.slice Ap60_11 (x.lp).length cp60_11), (.slice Ap60_10 (l).length cp60_10)⟩), fun vE => vE = .pointer (some ⟨g2, 76, none⟩), fun vE => vE = .agg (zk ((zkb ⟨x.k, x.P, x.Q, x.g, x.s, x.lp, x.A, b, x.O, l, x.V, x.Ky, x.Pr⟩ N).Pr)), fun vE => vE = undef] (JM none w fun SV pV => [(0, bytR x.lp (.slice Ap x.lp.length cp)), (1, bytR x.ls (.slice As x.ls.length cs)), (2, bytR l (.slice Al l.length cl)), (3, blkR g2 37 (zl (zkb ⟨x.k, x.P, x.Q, x.g, x.s, x.lp, x.A, b, x.O, l, x.V, x.Ky, x.Pr⟩ N) ⟨(.slice Ap60_11 (x.lp).length cp60_11), (.slice Ap60_10 (l).length cp60_10)⟩)), (4, blkR g3 27 (numA b)), (5, blkR g4 37 (zl (cond (SV 3) ((zkb ⟨x.k, x.P, x.Q, x.g, x.s, x.lp, x.A, b, x.O, l, x.V, x.Ky, x.Pr⟩ N) : SideN) ⟨0, 0, 0, 0, "".toUTF8, [], 0, 0, 0, [], 0, (fun _ => 0), (fun _ => 0)⟩) (cond (SV 3) (⟨(.slice Ap60_11 (x.lp).length cp60_11), (.slice Ap60_10 (l).length cp60_10)⟩ : SideV) ⟨zN, zN⟩))), (6, blkR g5 35 (zk (fun _ => 0))), (7, blkR g37 27 (numA X)), (8, blkR gp17x39 27 (numA S1)), (9, blkR g45 27 (numA Bs)), (10, ownR l (.slice Ap60_10 (l).length cp60_10)), (11, ownR x.lp (.slice Ap60_11 (x.lp).length cp60_11)), (12, blkR gp7x66 27 (numA L)), (13, blkR gp8x66 27 (numA H)), (14, blkR g73 27 (numA Mo))]) 4 rfl (by kernel_rfl) rfl ⟨trivial, trivial, trivial, fun _ => Iff.rfl, trivial⟩ (fun p => (M79.step (zya _)).sub ⟨rfl, rfl, rfl, rfl, rfl, rfl, rfl, rfl, rfl, rfl, rfl, rfl, rfl, rfl, rfl, trivial⟩) ⟨?_, ?_, ?_, ?_, trivial⟩ ?_
    ·intro ua uw SV pV M0 hk hn hd
     have M : Mx none w uw _ := M0
     clear M0
     have e3 : ua.eval (.tmp 3) = .pointer (some ⟨g2, 0, none⟩) := (show ua.eval (.tmp 3) = _ from hd 3 (by decide)).trans (F78.get (t := 3) rfl)
     exact zp (zc rfl) _ (zga _ _ rfl e3 (M.blk (k := 3) rfl) (zl (zkb ⟨x.k, x.P, x.Q, x.g, x.s, x.lp, x.A, b, x.O, l, x.V, x.Ky, x.Pr⟩ N) ⟨(.slice Ap60_11 (x.lp).length cp60_11), (.slice Ap60_10 (l).length cp60_10)⟩) (zta rfl) Tryz.underlying37 rfl (by kernel_rfl)) rfl (M.sub ⟨rfl, rfl, rfl, rfl, rfl, rfl, rfl, rfl, rfl, rfl, rfl, rfl, rfl, rfl, rfl, trivial⟩)
    ·intro ua uw SV pV M0 hk hn hd
     have M : Mx none w uw _ := M0
     clear M0
     have e3 : ua.eval (.tmp 3) = .pointer (some ⟨g2, 0, none⟩) := (show ua.eval (.tmp 3) = _ from hd 3 (by decide)).trans (F78.get (t := 3) rfl)
     exact zp (zc rfl) (.pointer (some ⟨g2, 76, none⟩)) (y_fa (off := 76) rfl e3 (by kernel_rfl) rfl) rfl (M.sub ⟨rfl, rfl, rfl, rfl, rfl, rfl, rfl, rfl, rfl, rfl, rfl, rfl, rfl, rfl, rfl, trivial⟩)
    ·intro ua uw SV pV M0 hk hn hd
     have M : Mx none w uw _ := M0
     clear M0
     obtain ⟨s1, f107, q107⟩ := (show SV 1 = true ∧ ua.eval (.tmp 107) = pV 1 ∧ stE _ 1 (pV 1) from hd 107 (by decide))
     have e107 : ua.eval (.tmp 107) = .pointer (some ⟨g2, 76, none⟩) := f107.trans q107
     exact zp (zc rfl) _ (zga _ _ rfl e107 (M.blk (k := 3) rfl) (zk ((zkb ⟨x.k, x.P, x.Q, x.g, x.s, x.lp, x.A, b, x.O, l, x.V, x.Ky, x.Pr⟩ N).Pr)) (side_Pr _ _) Tryz.underlying35 rfl (by kernel_rfl)) rfl (M.sub ⟨rfl, rfl, rfl, rfl, rfl, rfl, rfl, rfl, rfl, rfl, rfl, rfl, rfl, rfl, rfl, trivial⟩)
    ·intro ua uw SV pV M0 hk hn hd
     have M : Mx none w uw _ := M0
     clear M0
     have e6 : ua.eval (.tmp 6) = .pointer (some ⟨g4, 0, none⟩) := (show ua.eval (.tmp 6) = _ from hd 6 (by decide)).trans (F78.get (t := 6) rfl)
     obtain ⟨s0, f106, q106⟩ := (show SV 0 = true ∧ ua.eval (.tmp 106) = pV 0 ∧ stE _ 0 (pV 0) from hd 106 (by decide))
     have e106 : ua.eval (.tmp 106) = .agg (zl (zkb ⟨x.k, x.P, x.Q, x.g, x.s, x.lp, x.A, b, x.O, l, x.V, x.Ky, x.Pr⟩ N) ⟨(.slice Ap60_11 (x.lp).length cp60_11), (.slice Ap60_10 (l).length cp60_10)⟩) := f106.trans q106
     exact hopM_doM (zc rfl) rfl (run_st M (k := 5) rfl _ _ _ rfl e6 e106 (zl (zkb ⟨x.k, x.P, x.Q, x.g, x.s, x.lp, x.A, b, x.O, l, x.V, x.Ky, x.Pr⟩ N) ⟨(.slice Ap60_11 (x.lp).length cp60_11), (.slice Ap60_10 (l).length cp60_10)⟩) _ rfl (zL rfl) (zpb (w := w79) ⟨(M79.isO (k := 11) rfl), (M79.isO (k := 10) rfl)⟩) (zx rfl) (by kernel_rfl)) (fun w2 h2 => h2.sub ⟨rfl, rfl, rfl, rfl, rfl, rfl, rfl, rfl, rfl, rfl, rfl, rfl, rfl, rfl, rfl, trivial⟩) rfl
    intro p81 a81 w81 M81 G81 y81
    obtain ⟨-, -, q2, -, -⟩ := y81
    have r2 : p81 2 = .agg (zk ((zkb ⟨x.k, x.P, x.Q, x.g, x.s, x.lp, x.A, b, x.O, l, x.V, x.Ky, x.Pr⟩ N).Pr)) := q2
    replace M81 : Mx _ _ w81 [(0, bytR x.lp (.slice Ap x.lp.length cp)), (1, bytR x.ls (.slice As x.ls.length cs)), (2, bytR l (.slice Al l.length cl)), (3, blkR g2 37 (zl (zkb ⟨x.k, x.P, x.Q, x.g, x.s, x.lp, x.A, b, x.O, l, x.V, x.Ky, x.Pr⟩ N) ⟨(.slice Ap60_11 (x.lp).length cp60_11), (.slice Ap60_10 (l).length cp60_10)⟩)), (4, blkR g3 27 (numA b)), (5, blkR g4 37 (zl (zkb ⟨x.k, x.P, x.Q, x.g, x.s, x.lp, x.A, b, x.O, l, x.V, x.Ky, x.Pr⟩ N) ⟨(.slice Ap60_11 (x.lp).length cp60_11), (.slice Ap60_10 (l).length cp60_10)⟩)), (6, blkR g5 35 (zk (fun _ => 0))), (7, blkR g37 27 (numA X)), (8, blkR gp17x39 27 (numA S1)), (9, blkR g45 27 (numA Bs)), (10, ownR l (.slice Ap60_10 (l).length cp60_10)), (11, ownR x.lp (.slice Ap60_11 (x.lp).length cp60_11)), (12, blkR gp7x66 27 (numA L)), (13, blkR gp8x66 27 (numA H)), (14, blkR g73 27 (numA Mo))] := M81
    simp only [List.take, layV, Nat.zero_add, Nat.reduceAdd, r2] at G81
    refine zka (zc rfl) rfl G81 M81 (k := 6) rfl _ _ _ rfl (G81.get (t := 7) rfl) (G81.get (t := 108) rfl) (zk ((zkb ⟨x.k, x.P, x.Q, x.g, x.s, x.lp, x.A, b, x.O, l, x.V, x.Ky, x.Pr⟩ N).Pr)) _ rfl (zL rfl) (zla _) (zx rfl) (by kernel_rfl) ?_
    intro w82 M82
    clear M81
    refine rm rfl G81 fun _ F83 => ?_
    refine hK80 _ _ ?_
    refine wp_ret ?_
    try simp only [Exit.then, Exit.inBlock, Exit.jump]
    exact bodyPost_ret (res2ct rfl (F83.get rfl) (M82.blk (k := 5) rfl) (F83.get rfl) (M82.blk (k := 6) rfl) (F83.get rfl) Tryz.underlying37 rfl (by kernel_rfl) Tryz.underlying35 rfl (by kernel_rfl)) F83.defers (by simp only [Bool.false_and, Bool.true_and, Bool.and_false, Bool.and_true, Bool.not_true, Bool.not_false, cond_true, cond_false, decide_eq_false h11, decide_eq_true hbP]; exact ⟨_, rfl, ⟨(M82.isO (k := 11) rfl), (M82.isO (k := 10) rfl)⟩, fun b hb => (M82.owns (k := 11) rfl b (bfp_ofp hb)), fun b hb => (M82.owns (k := 10) rfl b (bfp_ofp hb)), M82.below⟩)
end Go.Proofs.YtcfepoopkfhojaaGreat
