/- What SrpNames stands on, part 10. -/
import Derived.RangeFuncWrites
import Derived.Test.YtcfepoopkfhojaaGreatSrpNamesP1
import Derived.Test.YtcfepoopkfhojaaGreatSrpNamesP2
import Derived.Test.YtcfepoopkfhojaaGreatSrpNamesP3
import Derived.Test.YtcfepoopkfhojaaGreatSrpNamesP4
import Derived.Test.YtcfepoopkfhojaaGreatSrpNamesP5
import Derived.Test.YtcfepoopkfhojaaGreatSrpNamesP6
import Derived.Test.YtcfepoopkfhojaaGreatSrpNamesP7
import Derived.Test.YtcfepoopkfhojaaGreatSrpNamesP8
import Derived.Test.YtcfepoopkfhojaaGreatSrpNamesP9
set_option maxRecDepth 100000
set_option maxHeartbeats 8000000
set_option linter.unusedVariables false
set_option linter.unusedSimpArgs false
namespace Go.Proofs.YtcfepoopkfhojaaGreat
open Go.ChangeShapes Go.WideShapes Go.ChangeAt Go.RowKit
theorem secret_any (k : Int) (P Q g : Nat) (h2 : 2 < Q) (hQ : Q < 4294967296 ^ 8) (t : ByteArray) (ht : t.size ≤ 1000) (lp ls : List UInt8) (vp vs : Value) (w : World) (hp : IsB w lp vp) (hs : IsB w ls vs) :
  Calls Tryz.prog 34 #[.agg (zg k P Q g), .string t, vp, vs] w fun e w' => e = .returned (numV (secN Q (sBy t) lp ls)) ∧ Below w.heap.size w w' := by
 obtain ⟨S, hS⟩ : ∃ S, macW [] [[120], sBy t, lp] = S := ⟨_, rfl⟩
 have kM := fun (w : World) (u : Value) (h : IsP w [[120], sBy t, lp] u) => of_b h
 rw [hS] at kM
 obtain ⟨Y, hY⟩ : ∃ Y, strA (sumY (outF S)) ls 2 = Y := ⟨_, rfl⟩
 have hyb : ∀ k, 0 ≤ Y k ∧ Y k < 256 := by rw [← hY]; exact strA_bd _ _ 2
 have kS := fun (w : World) (v u : Value) (h : IsB w (sumY (outF S)) v) (h2 : IsB w ls u) => stretch_b h h2
 rw [hY] at kS
 obtain ⟨N, hN⟩ : ∃ N, expN Q (sumY Y) = N := ⟨_, rfl⟩
 rw [show secN Q (sBy t) lp ls = N by unfold secN; rw [hS, hY, hN]]
 have hbd := zdc S
 have kE := fun (w : World) (v : Value) (h : IsB w (sumY Y) v) => gexp_any k P Q g h2 hQ (sumY Y) v w h
 rw [hN] at kE
 clear hN hS hY
 obtain ⟨Ap, cp, rfl⟩ := id hp.shape
 obtain ⟨As, cs, rfl⟩ := id hs.shape
 refine zra (args := [.agg (zg k P Q g), .string t, .slice Ap lp.length cp, .slice As ls.length cs]) 24 Tryz.func34 rfl rfl rfl ?_
 intro fa F
 have M := Mx.start w
 replace M := M.argB 0 hp (fun g e => by cases e)
 replace M := M.argB 1 hs (fun g e => by cases e)
 refine zSk fun _ hK1 => ?_
 refine zR ?_
 refine zo (zc rfl) rfl F rfl M 2 (t := 29) (c := zg k P Q g) (by unfold execOp; simp only [(F.get (t := 0) rfl)]; kernel_rfl) ?_
 intro g2 a2 w2 F2 M2
 clear F M
 refine zo (zc rfl) rfl F2 rfl M2 3 (t := 27) (c := numA 0) (zba rfl) ?_
 intro g3 a3 w3 F3 M3
 clear F2 M2
 refine hK1 _ _ ?_
 refine zSk fun _ hK4 => ?_
 refine zR ?_
 refine z6a (zc rfl) rfl F3 rfl (run_litO M3 4 [120] 1 rfl (by decide) (by decide) rfl (by simp only [List.map_toArray, List.map_cons, List.map_nil]; kernel_rfl)) ?_
 intro v5 a5 w5 F5 M5
 clear F3 M3
 obtain ⟨A5, c5, rfl⟩ := (M5.isO (k := 4) rfl).shape
 refine z6a (zc rfl) rfl F5 rfl (run_cvL M5 (k := 4) rfl (by decide) _ rfl (F5.get (t := 11) rfl)) ?_
 intro v6 a6 w6 F6 M6
 clear F5 M5
 obtain ⟨A6, c6, rfl⟩ := (M6.isb (k := 4) rfl).shape
 refine rm rfl F6 fun _ F7 => ?_
 refine z6a (zc rfl) rfl F7 rfl (run_cvS M6 5 _ rfl (F7.get (t := 13) rfl) (by omega)) ?_
 intro v8 a8 w8 F8 M8
 clear F7 M6
 have fr8 := M8.frN (k := 5) rfl
 replace M8 := M8.unN (k := 5) rfl
 obtain ⟨A8, c8, rfl⟩ := (M8.isb (k := 5) rfl).shape
 refine rm rfl F8 fun _ F9 => ?_
 refine z3b (zc rfl) rfl F9 rfl M8 6 (t := 22) (c := #[.slice A6 ([120]).length c6, .slice A8 ((sBy t)).length c8, .slice Ap lp.length cp]) (k := 3) (m := 3) (y_litG 54 22 (s := 1) (zv := zN) Tryz.underlying54 (by kernel_rfl) (by kernel_rfl) rfl (#[.slice A6 ([120]).length c6, .slice A8 ((sBy t)).length c8, .slice Ap lp.length cp]) (by decide) (by decide) (by simp only [List.map_toArray, List.map_cons, List.map_nil, (F9.get (t := 12) rfl), (F9.get (t := 14) rfl), (F9.get (t := 15) rfl)]; kernel_rfl)) ?_
 intro g10 a10 w10 F10 M10
 clear F9 M8
 refine zea (zc rfl) rfl F10 rfl rfl (zE Tryz.func69 rfl) #[.slice (some ⟨g10, 0, none⟩) 3 3] (z2a (F10.get (t := 16) rfl)) (zha ((kM w10 _ (isP_blk (M10.blk (k := 6) rfl) rfl rfl (by decide) (fun j l hj => by
   match j, hj with
   | 0, hj => obtain rfl : [120] = l := Option.some.inj hj; exact ⟨_, rfl, (M10.isb (k := 4) rfl)⟩
   | 1, hj => obtain rfl : sBy t = l := Option.some.inj hj; exact ⟨_, rfl, (M10.isb (k := 5) rfl)⟩
   | 2, hj => obtain rfl : lp = l := Option.some.inj hj; exact ⟨_, rfl, (M10.isb (k := 0) rfl)⟩
   | n + 3, hj => cases hj))))) ?_
 rintro _ w11 a11 ⟨rfl, b11⟩ F11
 have M11 := M10.step b11
 refine zo (zc rfl) rfl F11 rfl M11 7 (t := 35) (c := zk (fun _ => 0)) (by unfold execOp; kernel_rfl) ?_
 intro g12 a12 w12 F12 M12
 clear F11 M11
 refine zka (zc rfl) rfl F12 M12 (k := 7) rfl _ _ _ rfl (F12.get (t := 9) rfl) (F12.get (t := 17) rfl) (zk (outF S)) _ rfl (zL rfl) (zla _) (zx rfl) (by kernel_rfl) ?_
 intro w13 M13
 clear M12
 refine hK4 _ _ ?_
 refine zSk fun _ hK14 => ?_
 refine zR ?_
 refine zh (w' := w13) (zc rfl) rfl F12 rfl (.slice (some ⟨g12, 0, none⟩) 16 16) (zmc _ rfl (F12.get (t := 9) rfl)) fun _ F15 => ?_
 clear F12
 refine rm rfl F15 fun _ F16 => ?_
 refine zea (zc rfl) rfl F16 rfl rfl (zE Tryz.func70 rfl) #[.slice (some ⟨g12, 0, none⟩) 16 16, .slice As ls.length cs, .int .i64 3] (args3 (F16.get (t := 18) rfl) (F16.get (t := 19) rfl) rfl) (zha ((kS w13 _ _ (isb_sum hbd (M13.blk (k := 7) rfl)) (M13.isb (k := 1) rfl)))) ?_
 rintro _ w17 a17 ⟨rfl, b17⟩ F17
 have M17 := M13.step b17
 refine zo (zc rfl) rfl F17 rfl M17 8 (t := 35) (c := zk (fun _ => 0)) (by unfold execOp; kernel_rfl) ?_
 intro g18 a18 w18 F18 M18
 clear F17 M17
 refine zka (zc rfl) rfl F18 M18 (k := 8) rfl _ _ _ rfl (F18.get (t := 10) rfl) (F18.get (t := 20) rfl) (zk Y) _ rfl (zL rfl) (zla _) (zx rfl) (by kernel_rfl) ?_
 intro w19 M19
 clear M18
 refine hK14 _ _ ?_
 refine zSk fun _ hK20 => ?_
 refine zqb F18 [fun vE => vE = .agg (zg k P Q g), fun vE => vE = .slice (some ⟨g18, 0, none⟩) 16 16] (JM none w fun SV pV => [(0, bytR lp (.slice Ap lp.length cp)), (1, bytR ls (.slice As ls.length cs)), (2, blkR g2 29 (zg k P Q g)), (3, blkR g3 27 (numA 0)), (4, bytR [120] (.slice A6 ([120]).length c6)), (5, bytR (sBy t) (.slice A8 ((sBy t)).length c8)), (6, blkR g10 22 (#[.slice A6 ([120]).length c6, .slice A8 ((sBy t)).length c8, .slice Ap lp.length cp])), (7, blkR g12 35 (zk (outF S))), (8, blkR g18 35 (zk Y))]) 2 rfl (by kernel_rfl) rfl ⟨trivial, trivial, trivial⟩ (fun p => (M19.step (zya _)).sub ⟨rfl, rfl, rfl, rfl, rfl, rfl, rfl, rfl, rfl, trivial⟩) ⟨?_, ?_, trivial⟩ ?_
 ·intro ua uw SV pV M0 hk hn hd
  have M : Mx none w uw _ := M0
  clear M0
  have e4 : ua.eval (.tmp 4) = .pointer (some ⟨g2, 0, none⟩) := (show ua.eval (.tmp 4) = _ from hd 4 (by decide)).trans (F18.get (t := 4) rfl)
  exact zp (zc rfl) _ (zga _ _ rfl e4 (M.blk (k := 2) rfl) (zg k P Q g) (zta rfl) Tryz.underlying29 rfl (by kernel_rfl)) rfl (M.sub ⟨rfl, rfl, rfl, rfl, rfl, rfl, rfl, rfl, rfl, trivial⟩)
 ·intro ua uw SV pV M0 hk hn hd
  have M : Mx none w uw _ := M0
  clear M0
  have e10 : ua.eval (.tmp 10) = .pointer (some ⟨g18, 0, none⟩) := (show ua.eval (.tmp 10) = _ from hd 10 (by decide)).trans (F18.get (t := 10) rfl)
  exact zp (zc rfl) (.slice (some ⟨g18, 0, none⟩) 16 16) (zmc _ rfl e10) rfl (M.sub ⟨rfl, rfl, rfl, rfl, rfl, rfl, rfl, rfl, rfl, trivial⟩)
 intro p21 a21 w21 M21 G21 y21
 obtain ⟨q0, q1, -⟩ := y21
 have r0 : p21 0 = .agg (zg k P Q g) := q0
 have r1 : p21 1 = .slice (some ⟨g18, 0, none⟩) 16 16 := q1
 replace M21 : Mx _ _ w21 [(0, bytR lp (.slice Ap lp.length cp)), (1, bytR ls (.slice As ls.length cs)), (2, blkR g2 29 (zg k P Q g)), (3, blkR g3 27 (numA 0)), (4, bytR [120] (.slice A6 ([120]).length c6)), (5, bytR (sBy t) (.slice A8 ((sBy t)).length c8)), (6, blkR g10 22 (#[.slice A6 ([120]).length c6, .slice A8 ((sBy t)).length c8, .slice Ap lp.length cp])), (7, blkR g12 35 (zk (outF S))), (8, blkR g18 35 (zk Y))] := M21
 simp only [List.take, layV, Nat.zero_add, Nat.reduceAdd, r0, r1] at G21
 refine zea (zc rfl) rfl G21 rfl rfl (zE Tryz.func71 rfl) #[.agg (zg k P Q g), .slice (some ⟨g18, 0, none⟩) 16 16] (z7b (G21.get (t := 21) rfl) (G21.get (t := 22) rfl)) (zha ((kE w21 _ (isb_sum hyb (M21.blk (k := 8) rfl))))) ?_
 rintro _ w22 a22 ⟨rfl, b22⟩ F22
 have M22 := M21.step b22
 refine zka (zc rfl) rfl F22 M22 (k := 3) rfl _ _ _ rfl (F22.get (t := 8) rfl) (F22.get (t := 23) rfl) (numA N) _ rfl (zL rfl) (zoa _) (zx rfl) ze ?_
 intro w23 M23
 clear M22
 refine hK20 _ _ ?_
 refine wp_ret ?_
 try simp only [Exit.then, Exit.inBlock, Exit.jump]
 exact bodyPost_ret (results_cell_row rfl _ _ _ _ _ (0, 0) _ (F22.get rfl) (M23.blk (k := 3) rfl) Tryz.underlying27 rfl ze) F22.defers ⟨rfl, M23.below⟩
theorem verifier_any (k : Int) (P Q g : Nat) (ho : P % 2 = 1) (h1 : 1 < P) (hP : P < 4294967296 ^ 8) (h2 : 2 < Q) (hQ : Q < 4294967296 ^ 8) (hg : g < 4294967296 ^ 8) (t : ByteArray) (ht : t.size ≤ 1000) (lp ls : List UInt8) (vp vs : Value) (w : World) (hp : IsB w lp vp) (hs : IsB w ls vs) :
  Calls Tryz.prog 12 #[.agg (zg k P Q g), .string t, vp, vs] w fun e w' => e = .returned (numV (g ^ secN Q (sBy t) lp ls % P)) ∧ Below w.heap.size w w' := by
 obtain ⟨X, hX⟩ : ∃ X, secN Q (sBy t) lp ls = X := ⟨_, rfl⟩
 have hXl : X < 4294967296 ^ 8 := by rw [← hX]; exact Nat.lt_trans (expN_bd h2 _).2 hQ
 have kX := fun (w : World) (vp vs : Value) (hp : IsB w lp vp) (hs : IsB w ls vs) => secret_any k P Q g h2 hQ t ht lp ls vp vs w hp hs
 rw [hX] at kX ⊢
 have kR := fun w => zkc k P Q g ho h1 hP g X hg hXl w
 obtain ⟨N, hN⟩ : ∃ N, g ^ X % P = N := ⟨_, rfl⟩
 rw [hN] at kR ⊢
 clear hN hX
 obtain ⟨Ap, cp, rfl⟩ := id hp.shape
 obtain ⟨As, cs, rfl⟩ := id hs.shape
 refine zra (args := [.agg (zg k P Q g), .string t, .slice Ap lp.length cp, .slice As ls.length cs]) 18 Tryz.func12 rfl rfl rfl ?_
 intro fa F
 have M := Mx.start w
 replace M := M.argB 0 hp (fun g e => by cases e)
 replace M := M.argB 1 hs (fun g e => by cases e)
 refine zSk fun _ hK1 => ?_
 refine zR ?_
 refine zo (zc rfl) rfl F rfl M 2 (t := 29) (c := zg k P Q g) (by unfold execOp; simp only [(F.get (t := 0) rfl)]; kernel_rfl) ?_
 intro g2 a2 w2 F2 M2
 clear F M
 refine zo (zc rfl) rfl F2 rfl M2 3 (t := 27) (c := numA 0) (zba rfl) ?_
 intro g3 a3 w3 F3 M3
 clear F2 M2
 refine hK1 _ _ ?_
 refine zSk fun _ hK4 => ?_
 have hD5 := (z7a (M3.blk (k := 2) rfl) dnil)
 refine zec F3 (SK [.inl (.agg (zg k P Q g)), .inl (.pointer (some ⟨g2, 17, none⟩)), .inl (numV g), .inl (.agg (zg k P Q g)), .inl (.string t), .inl (.slice Ap lp.length cp), .inl (.slice As ls.length cs), .inl (numV X), .inl (numV N)]) 9 rfl (by kernel_rfl) ⟨hopP F3 hD5 0 (some g2) (by kernel_rfl), hop0 F3 (by kernel_rfl), hopP F3 hD5 0 (some g2) (by kernel_rfl), hopP F3 hD5 0 (some g2) (by kernel_rfl), hop0 F3 (by kernel_rfl), hop0 F3 (by kernel_rfl), hop0 F3 (by kernel_rfl), ?_, ?_, trivial⟩ ?_
 ·intro ua uw hb hd
  have e12 : ua.eval (.tmp 12) = .agg (zg k P Q g) := hd 12 (by decide)
  have e13 : ua.eval (.tmp 13) = .string t := hd 13 (by decide)
  have e14 : ua.eval (.tmp 14) = .slice Ap lp.length cp := hd 14 (by decide)
  have e15 : ua.eval (.tmp 15) = .slice As ls.length cs := hd 15 (by decide)
  exact zda (F := (StK.eq (numV X)).F) (zc rfl) hb.size rfl #[.agg (zg k P Q g), .string t, .slice Ap lp.length cp, .slice As ls.length cs] (args4 e12 e13 e14 e15) (zE Tryz.func34 rfl) (zsa ((kX uw _ _ ((M3.step hb).isb (k := 0) rfl) ((M3.step hb).isb (k := 1) rfl))))
 ·intro ua uw hb hd
  have e9 : ua.eval (.tmp 9) = .agg (zg k P Q g) := hd 9 (by decide)
  have e11 : ua.eval (.tmp 11) = numV g := hd 11 (by decide)
  have e16 : ua.eval (.tmp 16) = numV X := hd 16 (by decide)
  exact zda (F := (StK.eq (numV N)).F) (zc rfl) hb.size rfl #[.agg (zg k P Q g), numV g, numV X] (args3 e9 e11 e16) (zE Tryz.func33 rfl) (zsa (kR uw))
 intro p6 a6 w6 b6 G6 y6
 obtain ⟨-, -, -, -, -, -, -, -, q8, -⟩ := y6
 have r8 : p6 8 = numV N := q8 (by decide)
 simp only [List.take, layV, Nat.zero_add, Nat.reduceAdd, r8] at G6
 have M6 := M3.kc b6
 clear F3 M3 r8 q8
 refine zka (zc rfl) rfl G6 M6 (k := 3) rfl _ _ _ rfl (G6.get (t := 8) rfl) (G6.get (t := 17) rfl) (numA N) _ rfl (zL rfl) (zoa _) (zx rfl) ze ?_
 intro w7 M7
 clear M6
 refine hK4 _ _ ?_
 refine wp_ret ?_
 try simp only [Exit.then, Exit.inBlock, Exit.jump]
 exact bodyPost_ret (results_cell_row rfl _ _ _ _ _ (0, 0) _ (G6.get (t := 8) rfl) (M7.blk (k := 3) rfl) Tryz.underlying27 rfl ze) G6.defers ⟨rfl, M7.below⟩
theorem clone_none  (w : World) :
  Calls Tryz.prog 36 #[zN] w fun e w' => e = .returned (zN) ∧ Below w.heap.size w w' := by
 refine zra (args := [zN]) 8 Tryz.func36 rfl rfl rfl ?_
 intro fa F
 have M := Mx.start w
 refine zSk fun _ hK1 => ?_
 refine zR ?_
 refine rm rfl F fun _ F2 => ?_
 refine hK1 _ _ ?_
 refine zSk fun _ hK3 => ?_
 refine zSk fun _ hK4 => ?_
 refine zR ?_
 refine rm rfl F2 fun _ F5 => ?_
 refine zh (w' := w) (zc rfl) rfl F5 rfl (.bool true) (y_nilB _ _ rfl (F5.get (t := 3) rfl) rfl) fun _ F6 => ?_
 clear F5
 refine hK4 _ _ ?_
 refine wp_cond_true (F6.get (t := 4) rfl) ?_
 refine zSk fun _ hK7 => ?_
 refine zR ?_
 refine rm rfl F6 fun _ F8 => ?_
 refine hK7 _ _ ?_
 refine wp_ret ?_
 try simp only [Exit.then, Exit.inBlock, Exit.jump]
 exact bodyPost_ret (res1 rfl (F8.get rfl)) F8.defers ⟨rfl, M.below⟩
theorem clone_some (l : List UInt8) (p : Addr) (c : Nat) (hm : l.length ≤ 100000) (w : World) (hv : IsB w l (.slice (some p) l.length c)) :
  Calls Tryz.prog 36 #[.slice (some p) l.length c] w fun e w' => ∃ v, e = .returned v ∧ Byt w' w.heap.size v l ∧ Below w.heap.size w w' := by
 refine zra (args := [.slice (some p) l.length c]) 8 Tryz.func36 rfl rfl rfl ?_
 intro fa F
 have M := Mx.start w
 replace M := M.argB 0 hv (fun g e => by cases e)
 refine zSk fun _ hK1 => ?_
 refine zR ?_
 refine rm rfl F fun _ F2 => ?_
 refine hK1 _ _ ?_
 refine zSk fun _ hK3 => ?_
 refine zSk fun _ hK4 => ?_
 refine zR ?_
 refine rm rfl F2 fun _ F5 => ?_
 refine zh (w' := w) (zc rfl) rfl F5 rfl (.bool false) (y_nilB _ _ rfl (F5.get (t := 3) rfl) rfl) fun _ F6 => ?_
 clear F5
 refine hK4 _ _ ?_
 refine wp_cond_false (F6.get (t := 4) rfl) ?_
 refine wp_skip ?_
 refine hK3 _ _ ?_
 refine zSk fun _ hK7 => ?_
 refine zR ?_
 refine z6a (zc rfl) rfl F6 rfl (run_lit0 M 1 rfl) ?_
 intro v8 a8 w8 F8 M8
 clear F6 M
 obtain ⟨A8, c8, rfl⟩ := (M8.isO (k := 1) rfl).shape
 refine rm rfl F8 fun _ F9 => ?_
 refine z6a (zc rfl) rfl F9 rfl (run_app M8 (k := 1) rfl _ _ rfl (F9.get (t := 5) rfl) (F9.get (t := 6) rfl) (M8.isb (k := 0) rfl) (by simp only [List.length_nil]; omega)) ?_
 intro v10 a10 w10 F10 M10
 clear F9 M8
 obtain ⟨A10, c10, rfl⟩ := (M10.isO (k := 1) rfl).shape
 refine rm rfl F10 fun _ F11 => ?_
 refine hK7 _ _ ?_
 refine wp_ret ?_
 try simp only [Exit.then, Exit.inBlock, Exit.jump]
 exact bodyPost_ret (res1 rfl (F11.get rfl)) F11.defers ⟨_, rfl, (by have h := M10.byt (k := 1) rfl; rwa [List.nil_append] at h), M10.below⟩
theorem clone_any (l : List UInt8) (v : Value) (hm : l.length ≤ 100000) (w : World) (hv : IsB w l v) : Calls Tryz.prog 36 #[v] w fun e w' => ∃ u, e = .returned u ∧ Byt w' w.heap.size u l ∧ Below w.heap.size w w' := by
 obtain ⟨A, c, rfl, h1, h2, h3, h4⟩ := id hv
 cases A with
 | none =>
  have hc := h3 rfl
  subst hc
  have hl : l = [] := List.eq_nil_of_length_eq_zero (by omega)
  subst hl
  exact (clone_none w).mono fun e w' h => ⟨_, h.1, Byt.nil _ _, h.2⟩
 | some p => exact clone_some l p c hm w hv
end Go.Proofs.YtcfepoopkfhojaaGreat
namespace Go.Proofs.YtcfepoopkfhojaaGreat
open Go.ChangeShapes Go.WideShapes Go.ChangeAt Go.RowKit Go.Shelf
structure SideN where
 k : Int
 P : Nat
 Q : Nat
 g : Nat
 s : ByteArray
 lp : List UInt8
 A : Nat
 B : Nat
 O : Nat
 ls : List UInt8
 V : Nat
 Ky : Nat → Int
 Pr : Nat → Int
structure SideV where
 vp : Value
 vs : Value
def zl (x : SideN) (y : SideV) : Array Value := #[.int .i64 x.k, numF x.P 0, numF x.P 1, numF x.P 2, numF x.P 3, numF x.P 4, numF x.P 5, numF x.P 6, numF x.P 7, numF x.Q 0, numF x.Q 1, numF x.Q 2, numF x.Q 3, numF x.Q 4, numF x.Q 5, numF x.Q 6, numF x.Q 7, numF x.g 0, numF x.g 1, numF x.g 2, numF x.g 3, numF x.g 4, numF x.g 5, numF x.g 6, numF x.g 7, .string x.s, y.vp, numF x.A 0, numF x.A 1, numF x.A 2, numF x.A 3, numF x.A 4, numF x.A 5, numF x.A 6, numF x.A 7, numF x.B 0, numF x.B 1, numF x.B 2, numF x.B 3, numF x.B 4, numF x.B 5, numF x.B 6, numF x.B 7, numF x.O 0, numF x.O 1, numF x.O 2, numF x.O 3, numF x.O 4, numF x.O 5, numF x.O 6, numF x.O 7, y.vs, numF x.V 0, numF x.V 1, numF x.V 2, numF x.V 3, numF x.V 4, numF x.V 5, numF x.V 6, numF x.V 7, .int .u8 (x.Ky 0), .int .u8 (x.Ky 1), .int .u8 (x.Ky 2), .int .u8 (x.Ky 3), .int .u8 (x.Ky 4), .int .u8 (x.Ky 5), .int .u8 (x.Ky 6), .int .u8 (x.Ky 7), .int .u8 (x.Ky 8), .int .u8 (x.Ky 9), .int .u8 (x.Ky 10), .int .u8 (x.Ky 11), .int .u8 (x.Ky 12), .int .u8 (x.Ky 13), .int .u8 (x.Ky 14), .int .u8 (x.Ky 15), .int .u8 (x.Pr 0), .int .u8 (x.Pr 1), .int .u8 (x.Pr 2), .int .u8 (x.Pr 3), .int .u8 (x.Pr 4), .int .u8 (x.Pr 5), .int .u8 (x.Pr 6), .int .u8 (x.Pr 7), .int .u8 (x.Pr 8), .int .u8 (x.Pr 9), .int .u8 (x.Pr 10), .int .u8 (x.Pr 11), .int .u8 (x.Pr 12), .int .u8 (x.Pr 13), .int .u8 (x.Pr 14), .int .u8 (x.Pr 15)]
structure SideIs (w : World) (x : SideN) (y : SideV) : Prop where
 hp : IsB w x.lp y.vp
 hs : IsB w x.ls y.vs
theorem SideIs.step {w w' : World} {x : SideN} {y : SideV} (h : SideIs w x y) (hb : Below w.heap.size w w') : SideIs w' x y := ⟨h.hp.step hb, h.hs.step hb⟩
structure SideOk (x : SideN) : Prop where
 ky : ∀ k, 0 ≤ x.Ky k ∧ x.Ky k < 256
 pr : ∀ k, 0 ≤ x.Pr k ∧ x.Pr k < 256
section
theorem zpb {w : World} {x : SideN} {y : SideV} (h : SideIs w x y) : (zl x y).all (·.oneCell') = true := by
 obtain ⟨vp, vs⟩ := y
 obtain ⟨A2, c2, rfl⟩ := h.hp.shape
 obtain ⟨A5, c5, rfl⟩ := h.hs.shape
 simp [zl, numF, Value.oneCell']
theorem arr_part7 {A B : Array Value} {o n : Nat} (h : (A.toList.drop o).take n = B.toList) : ∀ (i : Nat) (v : Value), B[i]? = some v → A[o + i]? = some v := fun i v hv => by
 rw [← Array.getElem?_toList, ← h, List.getElem?_take] at hv
 split at hv
 ·rw [List.getElem?_drop] at hv
  rw [← Array.getElem?_toList]; exact hv
 ·cases hv
theorem side_G (x : SideN) (y : SideV) : ∀ (i : Nat) (v : Value), (zg x.k x.P x.Q x.g)[i]? = some v → (zl x y)[0 + i]? = some v := arr_part7 (n := 25) (by show _ = _; kernel_rfl)
theorem side_Ky (x : SideN) (y : SideV) : ∀ (i : Nat) (v : Value), (zk x.Ky)[i]? = some v → (zl x y)[60 + i]? = some v := arr_part7 (n := 16) (by show _ = _; kernel_rfl)
theorem side_Pr (x : SideN) (y : SideV) : ∀ (i : Nat) (v : Value), (zk x.Pr)[i]? = some v → (zl x y)[76 + i]? = some v := arr_part7 (n := 16) (by show _ = _; kernel_rfl)
end
theorem bytes_r (a : Nat) (w : World) : Calls Tryz.prog 74 #[numV a] w fun e w' => ∃ v, e = .returned v ∧ Below w.heap.size w w' ∧ IsB w' (zz a) v :=
 (bytes_any a w).mono fun e w' ⟨g, h1, h2, h3, h4⟩ => ⟨_, h1, h4, some ⟨g, 0, none⟩, 32, by rw [zac], by rw [zac]; exact Nat.le_refl _, by unfold maxLen; decide, fun e => (by cases e), h3.rd⟩
def prR (p : Prop) : Res := ⟨false, fun _ => False, fun _ => p⟩
theorem Mx.prP {G : Option Nat} {w0 w : World} {R : List (Nat × Res)} (M : Mx G w0 w R) (i : Nat) {p : Prop} (h : p) : Mx G w0 w ((i, prR p) :: R) := M.cons i _ h (fun _ _ _ h => h) (fun _ h => h.elim) (fun e => by cases e) fun _ _ _ _ _ _ h => h.elim
theorem res2c {P : Program} {fn : Func} {p q : Tmp} {ty tz : TypeId} (h : fn.results = #[.cell p ty, .cell q tz]) {a : Act} {w : World} {g g2 : Nat} {t t2 : TypeId} {c c2 : Array Value} {d d2 : TypeDesc}
  (hp : a.eval (.tmp p) = .pointer (some ⟨g, 0, none⟩)) (hg : w.heap[g]? = some (.cells c t (0, 0))) (hq : a.eval (.tmp q) = .pointer (some ⟨g2, 0, none⟩)) (hg2 : w.heap[g2]? = some (.cells c2 t2 (0, 0))) (hu : P.underlying ty = some d) (hd : yPlain d = false) (hi : (P.info? ty).map (·.size) = some c.size) (hu2 : P.underlying tz = some d2) (hd2 : yPlain d2 = false) (hi2 : (P.info? tz).map (·.size) = some c2.size) : (results fn a.tmps).run P w = .ok (.tuple #[.agg c, .agg c2]) w := by
 have hp' : a.tmps[p]?.getD undef = .pointer (some ⟨g, 0, none⟩) := by simpa [Act.eval] using hp
 have hq' : a.tmps[q]?.getD undef = .pointer (some ⟨g2, 0, none⟩) := by simpa [Act.eval] using hq
 have l1 : (loadVar ty ⟨g, 0, none⟩).run P w = .ok (.agg c) w := by
  cases d with
  | struct fs => exact run_loadVar_row w g t ty c (0, 0) _ hg hu rfl hi
  | array n e => exact run_loadVar_row w g t ty c (0, 0) _ hg hu rfl hi
  | _ => cases hd
 have l2 : (loadVar tz ⟨g2, 0, none⟩).run P w = .ok (.agg c2) w := by
  cases d2 with
  | struct fs => exact run_loadVar_row w g2 t2 tz c2 (0, 0) _ hg2 hu2 rfl hi2
  | array n e => exact run_loadVar_row w g2 t2 tz c2 (0, 0) _ hg2 hu2 rfl hi2
  | _ => cases hd2
 simp [results, h, hp', hq', asAddr, l1, l2]
theorem clone_r (l : List UInt8) (v : Value) (hm : l.length ≤ 100000) (w : World) (hv : IsB w l v) : Calls Tryz.prog 36 #[v] w fun e w' => ∃ u, e = .returned u ∧ Byt w' w.heap.size u l ∧ Below w.heap.size w w' := clone_any l v hm w hv
theorem condR_off {R : List (Nat × Res)} {i : Nat} {b : Bool} {r r2 : Res} (hb : b = false) (h : look R i = some (condR b r)) : look R i = some (condR b r2) := by subst hb; exact h
theorem side_off {R : List (Nat × Res)} {i g : Nat} {T : TypeId} {b : Bool} {X X2 X0 : SideN} {Y Y2 Y0 : SideV} (hb : b = false) (h : look R i = some (blkR g T (zl (cond b X X0) (cond b Y Y0)))) : look R i = some (blkR g T (zl (cond b X2 X0) (cond b Y2 Y0))) := by subst hb; exact h
def ansY (K P : Nat → Int) : Nat → Int := outF (macW (sumY K) [[50], sumY P])
end Go.Proofs.YtcfepoopkfhojaaGreat
namespace Go.Proofs.YtcfepoopkfhojaaGreat
open Go.ChangeShapes Go.WideShapes Go.ChangeAt Go.RowKit
theorem answer_any (K P : Nat → Int) (hK : ∀ k, 0 ≤ K k ∧ K k < 256) (hP : ∀ k, 0 ≤ P k ∧ P k < 256) (w : World) :
  Calls Tryz.prog 90 #[.agg (zk K), .agg (zk P)] w fun e w' => e = .returned (.agg (zk (ansY K P))) ∧ Below w.heap.size w w' := by
 obtain ⟨S, hS⟩ : ∃ S, macW (sumY K) [[50], sumY P] = S := ⟨_, rfl⟩
 have kM := fun (w : World) (v u : Value) (h : IsB w (sumY K) v) (h2 : IsP w [[50], sumY P] u) => mac_b h h2
 rw [hS] at kM
 rw [show ansY K P = outF S by unfold ansY; rw [hS]]
 clear hS
 refine zra (args := [.agg (zk K), .agg (zk P)]) 11 Tryz.func90 rfl rfl rfl ?_
 intro fa F
 have M := Mx.start w
 refine zSk fun _ hK1 => ?_
 refine zR ?_
 refine zo (zc rfl) rfl F rfl M 0 (t := 35) (c := zk K) (by unfold execOp; simp only [(F.get (t := 0) rfl)]; kernel_rfl) ?_
 intro g2 a2 w2 F2 M2
 clear F M
 refine zo (zc rfl) rfl F2 rfl M2 1 (t := 35) (c := zk P) (by unfold execOp; simp only [(F2.get (t := 1) rfl)]; kernel_rfl) ?_
 intro g3 a3 w3 F3 M3
 clear F2 M2
 refine zo (zc rfl) rfl F3 rfl M3 2 (t := 35) (c := zk (fun _ => 0)) (by unfold execOp; kernel_rfl) ?_
 intro g4 a4 w4 F4 M4
 clear F3 M3
 refine hK1 _ _ ?_
 refine zSk fun _ hK5 => ?_
 refine zec F4 (SK [.inl (.slice (some ⟨g2, 0, none⟩) 16 16), .inr (StK.lit w4.heap.size [50]), .inr (StK.lit w4.heap.size [50]), .inl (.slice (some ⟨g3, 0, none⟩) 16 16), .inr (StK.parts [[50], (sumY P)]), .inl (.agg (zk (outF S)))]) 6 rfl (by kernel_rfl) ⟨?_, ?_, ?_, ?_, ?_, ?_, trivial⟩ ?_
 ·intro ua uw hb hd
  have e2 : ua.eval (.tmp 2) = .pointer (some ⟨g2, 0, none⟩) := (show ua.eval (.tmp 2) = _ from hd 2 (by decide)).trans (F4.get (t := 2) rfl)
  exact zaa (F := (StK.eq (.slice (some ⟨g2, 0, none⟩) 16 16)).F) (zc rfl) (.slice (some ⟨g2, 0, none⟩) 16 16) (zmc _ rfl e2) rfl
 ·intro ua uw hb hd
  exact hop_lit (zc rfl) hb.size [50] (by decide) (by decide) _ rfl (by simp only [List.map_toArray, List.map_cons, List.map_nil]; kernel_rfl)
 ·intro ua uw hb hd
  have l6 : LitB w4.heap.size uw [50] (ua.eval (.tmp 6)) := hd 6 (by decide)
  have e6 := l6.isB
  exact hop_convK (zc rfl) _ rfl l6
 ·intro ua uw hb hd
  have e3 : ua.eval (.tmp 3) = .pointer (some ⟨g3, 0, none⟩) := (show ua.eval (.tmp 3) = _ from hd 3 (by decide)).trans (F4.get (t := 3) rfl)
  exact zaa (F := (StK.eq (.slice (some ⟨g3, 0, none⟩) 16 16)).F) (zc rfl) (.slice (some ⟨g3, 0, none⟩) 16 16) (zmc _ rfl e3) rfl
 ·intro ua uw hb hd
  have l7 : LitB w4.heap.size uw [50] (ua.eval (.tmp 7)) := hd 7 (by decide)
  have e7 := l7.isB
  have e8 : ua.eval (.tmp 8) = .slice (some ⟨g3, 0, none⟩) 16 16 := hd 8 (by decide)
  exact hop_parts2 (zc rfl) hb.size (.tmp 7) (.tmp 8) rfl e7 (by rw [e8]; exact (isb_sum hP ((M4.step hb).blk (k := 1) rfl)))
 ·intro ua uw hb hd
  have e5 : ua.eval (.tmp 5) = .slice (some ⟨g2, 0, none⟩) 16 16 := hd 5 (by decide)
  have e9 : IsP uw [[50], (sumY P)] (ua.eval (.tmp 9)) := hd 9 (by decide)
  exact zda (F := (StK.eq (.agg (zk (outF S)))).F) (zc rfl) hb.size rfl #[.slice (some ⟨g2, 0, none⟩) 16 16, (ua.eval (.tmp 9))] (z7b e5 rfl) (zE Tryz.func76 rfl) (zsa ((kM _ _ _ (isb_sum hK ((M4.step hb).blk (k := 0) rfl)) e9)))
 intro p7 a7 w7 b7 G7 y7
 obtain ⟨-, -, -, -, -, q5, -⟩ := y7
 have r5 : p7 5 = .agg (zk (outF S)) := q5 (by decide)
 simp only [List.take, layV, Nat.zero_add, Nat.reduceAdd, r5] at G7
 have M7 := M4.kc b7
 clear F4 M4 r5 q5
 refine zka (zc rfl) rfl G7 M7 (k := 2) rfl _ _ _ rfl (G7.get (t := 4) rfl) (G7.get (t := 10) rfl) (zk (outF S)) _ rfl (zL rfl) (zla _) (zx rfl) (by kernel_rfl) ?_
 intro w8 M8
 clear M7
 refine hK5 _ _ ?_
 refine wp_ret ?_
 try simp only [Exit.then, Exit.inBlock, Exit.jump]
 exact bodyPost_ret (results_cell_row rfl _ _ _ _ _ (0, 0) _ (G7.get (t := 4) rfl) (M8.blk (k := 2) rfl) Tryz.underlying35 rfl (by kernel_rfl)) G7.defers ⟨rfl, M8.below⟩
theorem sfirst_any (x : SideN) (y : SideV) (w : World) (hx : SideIs w x y) :
  Calls Tryz.prog 52 #[.agg (zl x y)] w fun e w' => e = .returned (.agg (zk x.Pr)) ∧ Below w.heap.size w w' := by
 obtain ⟨Ap, cp, e1⟩ := id hx.hp.shape
 obtain ⟨As, cs, e2⟩ := id hx.hs.shape
 refine zra (args := [.agg (zl x y)]) 5 Tryz.func52 rfl rfl rfl ?_
 intro fa F
 have M := Mx.start w
 replace M := M.argB 0 hx.hp (fun g e => by cases e)
 replace M := M.argB 1 hx.hs (fun g e => by cases e)
 refine zSk fun _ hK1 => ?_
 refine zR ?_
 refine zo (zc rfl) rfl F rfl M 2 (t := 37) (c := zl x y) (by unfold execOp; simp only [(F.get (t := 0) rfl)]; kernel_rfl) ?_
 intro g2 a2 w2 F2 M2
 clear F M
 refine zo (zc rfl) rfl F2 rfl M2 3 (t := 35) (c := zk (fun _ => 0)) (by unfold execOp; kernel_rfl) ?_
 intro g3 a3 w3 F3 M3
 clear F2 M2
 refine hK1 _ _ ?_
 refine zSk fun _ hK4 => ?_
 refine zR ?_
 refine zB 2 [(2, .pointer (some ⟨g3, 0, none⟩)), (4, .agg (zk x.Pr))] [0] (z7a (M3.blk (k := 2) rfl) dnil) [g2] F3 fun _ F5 => ?_
 clear F3
 refine zka (zc rfl) rfl F5 M3 (k := 3) rfl _ _ _ rfl (F5.get (t := 2) rfl) (F5.get (t := 4) rfl) (zk x.Pr) _ rfl (zL rfl) (zla _) (zx rfl) (by kernel_rfl) ?_
 intro w6 M6
 clear M3
 refine hK4 _ _ ?_
 refine wp_ret ?_
 try simp only [Exit.then, Exit.inBlock, Exit.jump]
 exact bodyPost_ret (results_cell_row rfl _ _ _ _ _ (0, 0) _ (F5.get rfl) (M6.blk (k := 3) rfl) Tryz.underlying35 rfl (by kernel_rfl)) F5.defers ⟨rfl, M6.below⟩
theorem second_any (x : SideN) (y : SideV) (ho : SideOk x) (w : World) (hx : SideIs w x y) :
  Calls Tryz.prog 53 #[.agg (zl x y)] w fun e w' => e = .returned (.agg (zk (ansY x.Ky x.Pr))) ∧ Below w.heap.size w w' := by
 refine zra (args := [.agg (zl x y)]) 8 Tryz.func53 rfl rfl rfl ?_
 intro fa F
 have M := Mx.start w
 replace M := M.argB 0 hx.hp (fun g e => by cases e)
 replace M := M.argB 1 hx.hs (fun g e => by cases e)
 refine zSk fun _ hK1 => ?_
 refine zR ?_
 refine zo (zc rfl) rfl F rfl M 2 (t := 37) (c := zl x y) (by unfold execOp; simp only [(F.get (t := 0) rfl)]; kernel_rfl) ?_
 intro g2 a2 w2 F2 M2
 clear F M
 refine zo (zc rfl) rfl F2 rfl M2 3 (t := 35) (c := zk (fun _ => 0)) (by unfold execOp; kernel_rfl) ?_
 intro g3 a3 w3 F3 M3
 clear F2 M2
 refine hK1 _ _ ?_
 refine zSk fun _ hK4 => ?_
 refine zR ?_
 refine zB 4 [(2, .pointer (some ⟨g3, 0, none⟩)), (4, .agg (zk x.Ky)), (6, .agg (zk x.Pr))] [0, 0] (z7a (M3.blk (k := 2) rfl) dnil) [g2, g2] F3 fun _ F5 => ?_
 clear F3
 refine zea (zc rfl) rfl F5 rfl rfl (zE Tryz.func90 rfl) #[.agg (zk x.Ky), .agg (zk x.Pr)] (z7b (F5.get (t := 4) rfl) (F5.get (t := 6) rfl)) (zha ((answer_any x.Ky x.Pr ho.ky ho.pr w3))) ?_
 rintro _ w6 a6 ⟨rfl, b6⟩ F6
 have M6 := M3.step b6
 refine zka (zc rfl) rfl F6 M6 (k := 3) rfl _ _ _ rfl (F6.get (t := 2) rfl) (F6.get (t := 7) rfl) (zk (ansY x.Ky x.Pr)) _ rfl (zL rfl) (zla _) (zx rfl) (by kernel_rfl) ?_
 intro w7 M7
 clear M6
 refine hK4 _ _ ?_
 refine wp_ret ?_
 try simp only [Exit.then, Exit.inBlock, Exit.jump]
 exact bodyPost_ret (results_cell_row rfl _ _ _ _ _ (0, 0) _ (F6.get rfl) (M7.blk (k := 3) rfl) Tryz.underlying35 rfl (by kernel_rfl)) F6.defers ⟨rfl, M7.below⟩
end Go.Proofs.YtcfepoopkfhojaaGreat
namespace Go.Proofs.YtcfepoopkfhojaaGreat
open Go.ChangeShapes Go.WideShapes Go.ChangeAt Go.RowKit Go.Shelf
def lxI (l : List UInt8) : Nat → Int := fun j => (((l.getD j 0).toNat : Nat) : Int)
theorem isB_rdB {w : World} {l : List UInt8} {v : Value} (h : IsB w l v) : ∃ A c, v = .slice A l.length c ∧ RdB w A l.length (lxI l) := by
 obtain ⟨A, c, rfl, h1, h2, h3, h4⟩ := h
 refine ⟨A, c, rfl, by omega, fun k => ⟨by unfold lxI; omega, by have := UInt8.toNat_lt (l.getD k 0); unfold lxI; omega⟩, fun hp => ?_⟩
 obtain ⟨b, o, e, hb, hc⟩ := h4.at hp
 refine ⟨b, o, e, hb, fun k hk => ?_⟩
 have := hc k _ (List.getElem?_eq_getElem hk)
 rw [this]
 unfold lxI
 rw [List.getD_eq_getElem?_getD, List.getElem?_eq_getElem hk]; rfl
theorem agree_list {l m : List UInt8} (h : l.length = m.length) : AgreeTo (lxI l) (lxI m) l.length ↔ l = m := by
 constructor
 ·intro ha
  apply List.ext_getElem h
  intro j h1 h2
  have := ha j h1
  unfold lxI at this
  rw [List.getD_eq_getElem?_getD, List.getD_eq_getElem?_getD, List.getElem?_eq_getElem h1, List.getElem?_eq_getElem h2] at this
  have h3 : ((l[j].toNat : Nat) : Int) = ((m[j].toNat : Nat) : Int) := this
  exact UInt8.toNat_inj.1 (by omega)
 ·rintro rfl j _; rfl
theorem same_b {w : World} {l m : List UInt8} {v u : Value} (hv : IsB w l v) (hu : IsB w m u) (q : Bool) (hq : decide (l = m) = q) : Calls Tryz.prog 89 #[v, u] w fun e w' => e = .returned (.bool q) ∧ Below w.heap.size w w' := by
 obtain ⟨A, c, rfl, h1⟩ := isB_rdB hv
 obtain ⟨B, d, rfl, h2⟩ := isB_rdB hu
 by_cases e : l.length = m.length
 ·rw [← e] at h2 ⊢
  have h := same_any A B l.length c d (lxI l) (lxI m) w h1 h2
  have hs : sameB (lxI l) (lxI m) l.length = q := by
   rw [← hq]
   unfold sameB
   by_cases e2 : l = m
   ·rw [decide_eq_true e2]; exact @decide_eq_true _ (Classical.propDecidable _) ((agree_list e).2 e2)
   ·rw [decide_eq_false e2]; exact @decide_eq_false _ (Classical.propDecidable _) fun h => e2 ((agree_list e).1 h)
  rwa [hs] at h
 ·have h := same_len A B l.length m.length c d (lxI l) (lxI m) w h1 h2 e
  rw [decide_eq_false (fun h => e (by rw [h]))] at hq
  subst hq
  exact h
end Go.Proofs.YtcfepoopkfhojaaGreat
namespace Go.Proofs.YtcfepoopkfhojaaGreat
open Go.ChangeShapes Go.WideShapes Go.ChangeAt Go.RowKit
theorem holds_first (x : SideN) (y : SideV) (ho : SideOk x) (l : List UInt8) (v : Value) (w : World) (hx : SideIs w x y) (hb : IsB w l v) :
  Calls Tryz.prog 51 #[.agg (zl x y), v, .func (.func 52) #[] #[]] w fun e w' => e = .returned (.bool (decide (sumY x.Pr = l))) ∧ Below w.heap.size w w' := by
 obtain ⟨Y, hY⟩ : ∃ Y, x.Pr = Y := ⟨_, rfl⟩
 have hyb : ∀ k, 0 ≤ Y k ∧ Y k < 256 := by rw [← hY]; exact ho.pr
 have kT := fun (w : World) (h : SideIs w x y) => sfirst_any x y w h
 rw [hY] at kT ⊢
 clear hY
 obtain ⟨q, hq⟩ : ∃ q, decide (sumY Y = l) = q := ⟨_, rfl⟩
 rw [hq]
 obtain ⟨Ab, cb, rfl⟩ := id hb.shape
 refine zra (args := [.agg (zl x y), .slice Ab l.length cb, .func (.func 52) #[] #[]]) 14 Tryz.func51 rfl rfl rfl ?_
 intro fa F
 have M := Mx.start w
 replace M := M.argB 0 hx.hp (fun g e => by cases e)
 replace M := M.argB 1 hx.hs (fun g e => by cases e)
 replace M := M.argB 2 hb (fun g e => by cases e)
 refine zSk fun _ hK1 => ?_
 refine zR ?_
 refine zo (zc rfl) rfl F rfl M 3 (t := 37) (c := zl x y) (by unfold execOp; simp only [(F.get (t := 0) rfl)]; kernel_rfl) ?_
 intro g2 a2 w2 F2 M2
 clear F M
 refine rm rfl F2 fun _ F3 => ?_
 refine hK1 _ _ ?_
 refine zSk fun _ hK4 => ?_
 refine zR ?_
 refine rm rfl F3 fun _ F5 => ?_
 refine zh (w' := w2) (zc rfl) rfl F5 rfl _ (zga _ _ rfl (F5.get (t := 3) rfl) (M2.blk (k := 3) rfl) (zl x y) (zta rfl) Tryz.underlying37 rfl (by kernel_rfl)) fun _ F6 => ?_
 clear F5
 refine wl_callV (zc rfl) rfl F6 rfl rfl (F6.get (t := 8) rfl) (zE Tryz.func52 rfl) #[.agg (zl x y)] (show _ ++ _ = _ from by rw [(z2a (F6.get (t := 9) rfl))]; rfl) (zha ((kT w2 ⟨(M2.isb (k := 0) rfl), (M2.isb (k := 1) rfl)⟩))) ?_
 rintro _ w7 a7 ⟨rfl, b7⟩ F7
 have M7 := M2.step b7
 refine zo (zc rfl) rfl F7 rfl M7 4 (t := 35) (c := zk (fun _ => 0)) (by unfold execOp; kernel_rfl) ?_
 intro g8 a8 w8 F8 M8
 clear F7 M7
 refine zka (zc rfl) rfl F8 M8 (k := 4) rfl _ _ _ rfl (F8.get (t := 7) rfl) (F8.get (t := 10) rfl) (zk Y) _ rfl (zL rfl) (zla _) (zx rfl) (by kernel_rfl) ?_
 intro w9 M9
 clear M8
 refine hK4 _ _ ?_
 refine zSk fun _ hK10 => ?_
 refine zR ?_
 refine zh (w' := w9) (zc rfl) rfl F8 rfl (.slice (some ⟨g8, 0, none⟩) 16 16) (zmc _ rfl (F8.get (t := 7) rfl)) fun _ F11 => ?_
 clear F8
 refine rm rfl F11 fun _ F12 => ?_
 refine zea (zc rfl) rfl F12 rfl rfl (zE Tryz.func89 rfl) #[.slice (some ⟨g8, 0, none⟩) 16 16, .slice Ab l.length cb] (z7b (F12.get (t := 11) rfl) (F12.get (t := 12) rfl)) (zha ((same_b (isb_sum hyb (M9.blk (k := 4) rfl)) (M9.isb (k := 2) rfl) q hq))) ?_
 rintro _ w13 a13 ⟨rfl, b13⟩ F13
 have M13 := M9.step b13
 refine rm rfl F13 fun _ F14 => ?_
 refine hK10 _ _ ?_
 refine wp_ret ?_
 try simp only [Exit.then, Exit.inBlock, Exit.jump]
 exact bodyPost_ret (res1 rfl (F14.get rfl)) F14.defers ⟨rfl, M13.below⟩
theorem holds_second (x : SideN) (y : SideV) (ho : SideOk x) (l : List UInt8) (v : Value) (w : World) (hx : SideIs w x y) (hb : IsB w l v) :
  Calls Tryz.prog 51 #[.agg (zl x y), v, .func (.func 53) #[] #[]] w fun e w' => e = .returned (.bool (decide (sumY (ansY x.Ky x.Pr) = l))) ∧ Below w.heap.size w w' := by
 obtain ⟨Y, hY⟩ : ∃ Y, (ansY x.Ky x.Pr) = Y := ⟨_, rfl⟩
 have hyb : ∀ k, 0 ≤ Y k ∧ Y k < 256 := by rw [← hY]; exact zdc _
 have kT := fun (w : World) (h : SideIs w x y) => second_any x y ho w h
 rw [hY] at kT ⊢
 clear hY
 obtain ⟨q, hq⟩ : ∃ q, decide (sumY Y = l) = q := ⟨_, rfl⟩
 rw [hq]
 obtain ⟨Ab, cb, rfl⟩ := id hb.shape
 refine zra (args := [.agg (zl x y), .slice Ab l.length cb, .func (.func 53) #[] #[]]) 14 Tryz.func51 rfl rfl rfl ?_
 intro fa F
 have M := Mx.start w
 replace M := M.argB 0 hx.hp (fun g e => by cases e)
 replace M := M.argB 1 hx.hs (fun g e => by cases e)
 replace M := M.argB 2 hb (fun g e => by cases e)
 refine zSk fun _ hK1 => ?_
 refine zR ?_
 refine zo (zc rfl) rfl F rfl M 3 (t := 37) (c := zl x y) (by unfold execOp; simp only [(F.get (t := 0) rfl)]; kernel_rfl) ?_
 intro g2 a2 w2 F2 M2
 clear F M
 refine rm rfl F2 fun _ F3 => ?_
 refine hK1 _ _ ?_
 refine zSk fun _ hK4 => ?_
 refine zR ?_
 refine rm rfl F3 fun _ F5 => ?_
 refine zh (w' := w2) (zc rfl) rfl F5 rfl _ (zga _ _ rfl (F5.get (t := 3) rfl) (M2.blk (k := 3) rfl) (zl x y) (zta rfl) Tryz.underlying37 rfl (by kernel_rfl)) fun _ F6 => ?_
 clear F5
 refine wl_callV (zc rfl) rfl F6 rfl rfl (F6.get (t := 8) rfl) (zE Tryz.func53 rfl) #[.agg (zl x y)] (show _ ++ _ = _ from by rw [(z2a (F6.get (t := 9) rfl))]; rfl) (zha ((kT w2 ⟨(M2.isb (k := 0) rfl), (M2.isb (k := 1) rfl)⟩))) ?_
 rintro _ w7 a7 ⟨rfl, b7⟩ F7
 have M7 := M2.step b7
 refine zo (zc rfl) rfl F7 rfl M7 4 (t := 35) (c := zk (fun _ => 0)) (by unfold execOp; kernel_rfl) ?_
 intro g8 a8 w8 F8 M8
 clear F7 M7
 refine zka (zc rfl) rfl F8 M8 (k := 4) rfl _ _ _ rfl (F8.get (t := 7) rfl) (F8.get (t := 10) rfl) (zk Y) _ rfl (zL rfl) (zla _) (zx rfl) (by kernel_rfl) ?_
 intro w9 M9
 clear M8
 refine hK4 _ _ ?_
 refine zSk fun _ hK10 => ?_
 refine zR ?_
 refine zh (w' := w9) (zc rfl) rfl F8 rfl (.slice (some ⟨g8, 0, none⟩) 16 16) (zmc _ rfl (F8.get (t := 7) rfl)) fun _ F11 => ?_
 clear F8
 refine rm rfl F11 fun _ F12 => ?_
 refine zea (zc rfl) rfl F12 rfl rfl (zE Tryz.func89 rfl) #[.slice (some ⟨g8, 0, none⟩) 16 16, .slice Ab l.length cb] (z7b (F12.get (t := 11) rfl) (F12.get (t := 12) rfl)) (zha ((same_b (isb_sum hyb (M9.blk (k := 4) rfl)) (M9.isb (k := 2) rfl) q hq))) ?_
 rintro _ w13 a13 ⟨rfl, b13⟩ F13
 have M13 := M9.step b13
 refine rm rfl F13 fun _ F14 => ?_
 refine hK10 _ _ ?_
 refine wp_ret ?_
 try simp only [Exit.then, Exit.inBlock, Exit.jump]
 exact bodyPost_ret (res1 rfl (F14.get rfl)) F14.defers ⟨rfl, M13.below⟩
theorem scramble_any (x : SideN) (y : SideV) (h2 : 2 < x.Q) (hQ : x.Q < 4294967296 ^ 8) (w : World) (hx : SideIs w x y) :
  Calls Tryz.prog 41 #[.agg (zl x y)] w fun e w' => e = .returned (numV (uN x.Q x.A x.B)) ∧ Below w.heap.size w w' := by
 obtain ⟨N, hN⟩ : ∃ N, uN x.Q x.A x.B = N := ⟨_, rfl⟩
 have kE := fun (w : World) (u : Value) (h : IsP w [zz x.A, zz x.B] u) => texp_any x.k x.P x.Q x.g h2 hQ ({ data := #[117] } : ByteArray) (by decide) [zz x.A, zz x.B] u (show 2 ≤ 90 by decide) w h
 rw [show texN x.Q (sBy ({ data := #[117] } : ByteArray)) [zz x.A, zz x.B] = N from hN] at kE
 rw [hN]
 clear hN
 refine zra (args := [.agg (zl x y)]) 13 Tryz.func41 rfl rfl rfl ?_
 intro fa F
 have M := Mx.start w
 replace M := M.argB 0 hx.hp (fun g e => by cases e)
 replace M := M.argB 1 hx.hs (fun g e => by cases e)
 refine zSk fun _ hK1 => ?_
 refine zR ?_
 refine zo (zc rfl) rfl F rfl M 2 (t := 37) (c := zl x y) (by unfold execOp; simp only [(F.get (t := 0) rfl)]; kernel_rfl) ?_
 intro g2 a2 w2 F2 M2
 clear F M
 refine zo (zc rfl) rfl F2 rfl M2 3 (t := 27) (c := numA 0) (zba rfl) ?_
 intro g3 a3 w3 F3 M3
 clear F2 M2
 refine hK1 _ _ ?_
 refine zSk fun _ hK4 => ?_
 have hD5 := (z7a (M3.blk (k := 2) rfl) dnil)
 refine zec F3 (SK [.inl (.pointer (some ⟨g2, 0, none⟩)), .inl (.agg (zg x.k x.P x.Q x.g)), .inl (.pointer (some ⟨g2, 27, none⟩)), .inl (numV x.A), .inr (StK.bytes (zz x.A)), .inl (.pointer (some ⟨g2, 35, none⟩)), .inl (numV x.B), .inr (StK.bytes (zz x.B)), .inr (StK.parts [(zz x.A), (zz x.B)]), .inl (numV N)]) 10 rfl (by kernel_rfl) ⟨hop0 F3 (by kernel_rfl), hopP F3 hD5 0 (some g2) (by kernel_rfl), hop0 F3 (by kernel_rfl), hopP F3 hD5 0 (some g2) (by kernel_rfl), ?_, hop0 F3 (by kernel_rfl), hopP F3 hD5 0 (some g2) (by kernel_rfl), ?_, ?_, ?_, trivial⟩ ?_
 ·intro ua uw hb hd
  have e6 : ua.eval (.tmp 6) = numV x.A := hd 6 (by decide)
  exact zda (F := (StK.bytes (zz x.A)).F) (zc rfl) hb.size rfl #[numV x.A] (z2a e6) (zE Tryz.func74 rfl) ((bytes_r x.A uw))
 ·intro ua uw hb hd
  have e9 : ua.eval (.tmp 9) = numV x.B := hd 9 (by decide)
  exact zda (F := (StK.bytes (zz x.B)).F) (zc rfl) hb.size rfl #[numV x.B] (z2a e9) (zE Tryz.func74 rfl) ((bytes_r x.B uw))
 ·intro ua uw hb hd
  have e7 : IsB uw (zz x.A) (ua.eval (.tmp 7)) := hd 7 (by decide)
  have e10 : IsB uw (zz x.B) (ua.eval (.tmp 10)) := hd 10 (by decide)
  exact hop_parts2 (zc rfl) hb.size (.tmp 7) (.tmp 10) rfl e7 e10
 ·intro ua uw hb hd
  have e4 : ua.eval (.tmp 4) = .agg (zg x.k x.P x.Q x.g) := hd 4 (by decide)
  have e11 : IsP uw [(zz x.A), (zz x.B)] (ua.eval (.tmp 11)) := hd 11 (by decide)
  exact zda (F := (StK.eq (numV N)).F) (zc rfl) hb.size rfl #[.agg (zg x.k x.P x.Q x.g), .string ({ data := #[117] }), (ua.eval (.tmp 11))] (args3 e4 rfl rfl) (zE Tryz.func35 rfl) (zsa ((kE _ _ e11)))
 intro p6 a6 w6 b6 G6 y6
 obtain ⟨-, -, -, -, -, -, -, -, -, q9, -⟩ := y6
 have r9 : p6 9 = numV N := q9 (by decide)
 simp only [List.take, layV, Nat.zero_add, Nat.reduceAdd, r9] at G6
 have M6 := M3.kc b6
 clear F3 M3 r9 q9
 refine zka (zc rfl) rfl G6 M6 (k := 3) rfl _ _ _ rfl (G6.get (t := 2) rfl) (G6.get (t := 12) rfl) (numA N) _ rfl (zL rfl) (zoa _) (zx rfl) ze ?_
 intro w7 M7
 clear M6
 refine hK4 _ _ ?_
 refine wp_ret ?_
 try simp only [Exit.then, Exit.inBlock, Exit.jump]
 exact bodyPost_ret (results_cell_row rfl _ _ _ _ _ (0, 0) _ (G6.get (t := 2) rfl) (M7.blk (k := 3) rfl) Tryz.underlying27 rfl ze) G6.defers ⟨rfl, M7.below⟩
theorem check_any (x : SideN) (y : SideV) (ho : SideOk x) (l : List UInt8) (v : Value) (q : Bool) (hq : decide (sumY x.Pr = l) = q) (w : World) (hx : SideIs w x y) (hb : IsB w l v) :
  Calls Tryz.prog 17 #[.agg (zl x y), v] w fun e w' => e = .returned (.tuple #[.agg (zk (cond q (ansY x.Ky x.Pr) (fun _ => 0))), .bool q]) ∧ Below w.heap.size w w' := by
 obtain ⟨Ab, cb, rfl⟩ := id hb.shape
 refine zra (args := [.agg (zl x y), .slice Ab l.length cb]) 13 Tryz.func17 rfl rfl rfl ?_
 intro fa F
 have M := Mx.start w
 replace M := M.argB 0 hx.hp (fun g e => by cases e)
 replace M := M.argB 1 hx.hs (fun g e => by cases e)
 replace M := M.argB 2 hb (fun g e => by cases e)
 refine zSk fun _ hK1 => ?_
 refine zR ?_
 refine zo (zc rfl) rfl F rfl M 3 (t := 37) (c := zl x y) (by unfold execOp; simp only [(F.get (t := 0) rfl)]; kernel_rfl) ?_
 intro g2 a2 w2 F2 M2
 clear F M
 refine zo (zc rfl) rfl F2 rfl M2 4 (t := 35) (c := zk (fun _ => 0)) (by unfold execOp; kernel_rfl) ?_
 intro g3 a3 w3 F3 M3
 clear F2 M2
 refine rm rfl F3 fun _ F4 => ?_
 refine hK1 _ _ ?_
 refine zSk fun _ hK5 => ?_
 refine zSk fun _ hK6 => ?_
 refine zR ?_
 refine zh (w' := w3) (zc rfl) rfl F4 rfl _ (zga _ _ rfl (F4.get (t := 2) rfl) (M3.blk (k := 3) rfl) (zl x y) (zta rfl) Tryz.underlying37 rfl (by kernel_rfl)) fun _ F7 => ?_
 clear F4
 refine rm rfl F7 fun _ F8 => ?_
 refine zea (zc rfl) rfl F8 rfl rfl (zE Tryz.func51 rfl) #[.agg (zl x y), .slice Ab l.length cb, .func (.func 52) #[] #[]] (args3 (F8.get (t := 6) rfl) (F8.get (t := 7) rfl) rfl) (zha ((hq ▸ holds_first x y ho l _ w3 ⟨(M3.isb (k := 0) rfl), (M3.isb (k := 1) rfl)⟩ (M3.isb (k := 2) rfl)))) ?_
 rintro _ w9 a9 ⟨rfl, b9⟩ F9
 have M9 := M3.step b9
 cases q
 ·refine zh (w' := w9) (zc rfl) rfl F9 rfl (.bool true) (run_not _ _ rfl (F9.get (t := 8) rfl)) fun _ F10 => ?_
  clear F9
  refine hK6 _ _ ?_
  refine wp_cond_true (F10.get (t := 9) rfl) ?_
  refine zSk fun _ hK11 => ?_
  refine zR ?_
  refine zh (w' := w9) (zc rfl) rfl F10 rfl (.agg (zk (fun _ => 0))) (by unfold execOp; kernel_rfl) fun _ F12 => ?_
  clear F10
  refine zka (zc rfl) rfl F12 M9 (k := 4) rfl _ _ _ rfl (F12.get (t := 4) rfl) (F12.get (t := 10) rfl) (zk (fun _ => 0)) _ rfl (zL rfl) (zla _) (zx rfl) (by kernel_rfl) ?_
  intro w13 M13
  clear M9
  refine rm rfl F12 fun _ F14 => ?_
  refine hK11 _ _ ?_
  refine wp_ret ?_
  try simp only [Exit.then, Exit.inBlock, Exit.jump]
  exact bodyPost_ret (resCT rfl (F14.get rfl) (M13.blk (k := 4) rfl) (F14.get rfl) Tryz.underlying35 rfl (by kernel_rfl)) F14.defers ⟨rfl, M13.below⟩
 ·refine zh (w' := w9) (zc rfl) rfl F9 rfl (.bool false) (run_not _ _ rfl (F9.get (t := 8) rfl)) fun _ F15 => ?_
  clear F9
  refine hK6 _ _ ?_
  refine wp_cond_false (F15.get (t := 9) rfl) ?_
  refine wp_skip ?_
  refine hK5 _ _ ?_
  refine zSk fun _ hK16 => ?_
  refine zR ?_
  refine zh (w' := w9) (zc rfl) rfl F15 rfl _ (zga _ _ rfl (F15.get (t := 2) rfl) (M9.blk (k := 3) rfl) (zl x y) (zta rfl) Tryz.underlying37 rfl (by kernel_rfl)) fun _ F17 => ?_
  clear F15
  refine zea (zc rfl) rfl F17 rfl rfl (zE Tryz.func53 rfl) #[.agg (zl x y)] (z2a (F17.get (t := 11) rfl)) (zha ((second_any x y ho w9 ⟨(M9.isb (k := 0) rfl), (M9.isb (k := 1) rfl)⟩))) ?_
  rintro _ w18 a18 ⟨rfl, b18⟩ F18
  have M18 := M9.step b18
  refine zka (zc rfl) rfl F18 M18 (k := 4) rfl _ _ _ rfl (F18.get (t := 4) rfl) (F18.get (t := 12) rfl) (zk (ansY x.Ky x.Pr)) _ rfl (zL rfl) (zla _) (zx rfl) (by kernel_rfl) ?_
  intro w19 M19
  clear M18
  refine rm rfl F18 fun _ F20 => ?_
  refine hK16 _ _ ?_
  refine wp_ret ?_
  try simp only [Exit.then, Exit.inBlock, Exit.jump]
  exact bodyPost_ret (resCT rfl (F20.get rfl) (M19.blk (k := 4) rfl) (F20.get rfl) Tryz.underlying35 rfl (by kernel_rfl)) F20.defers ⟨rfl, M19.below⟩
theorem done_any (x : SideN) (y : SideV) (ho : SideOk x) (l : List UInt8) (v : Value) (q : Bool) (hq : decide (sumY (ansY x.Ky x.Pr) = l) = q) (w : World) (hx : SideIs w x y) (hb : IsB w l v) :
  Calls Tryz.prog 19 #[.agg (zl x y), v] w fun e w' => e = .returned (.bool q) ∧ Below w.heap.size w w' := by
 obtain ⟨Ab, cb, rfl⟩ := id hb.shape
 refine zra (args := [.agg (zl x y), .slice Ab l.length cb]) 8 Tryz.func19 rfl rfl rfl ?_
 intro fa F
 have M := Mx.start w
 replace M := M.argB 0 hx.hp (fun g e => by cases e)
 replace M := M.argB 1 hx.hs (fun g e => by cases e)
 replace M := M.argB 2 hb (fun g e => by cases e)
 refine zSk fun _ hK1 => ?_
 refine zR ?_
 refine zo (zc rfl) rfl F rfl M 3 (t := 37) (c := zl x y) (by unfold execOp; simp only [(F.get (t := 0) rfl)]; kernel_rfl) ?_
 intro g2 a2 w2 F2 M2
 clear F M
 refine rm rfl F2 fun _ F3 => ?_
 refine hK1 _ _ ?_
 refine zSk fun _ hK4 => ?_
 refine zR ?_
 refine zh (w' := w2) (zc rfl) rfl F3 rfl _ (zga _ _ rfl (F3.get (t := 2) rfl) (M2.blk (k := 3) rfl) (zl x y) (zta rfl) Tryz.underlying37 rfl (by kernel_rfl)) fun _ F5 => ?_
 clear F3
 refine rm rfl F5 fun _ F6 => ?_
 refine zea (zc rfl) rfl F6 rfl rfl (zE Tryz.func51 rfl) #[.agg (zl x y), .slice Ab l.length cb, .func (.func 53) #[] #[]] (args3 (F6.get (t := 5) rfl) (F6.get (t := 6) rfl) rfl) (zha ((hq ▸ holds_second x y ho l _ w2 ⟨(M2.isb (k := 0) rfl), (M2.isb (k := 1) rfl)⟩ (M2.isb (k := 2) rfl)))) ?_
 rintro _ w7 a7 ⟨rfl, b7⟩ F7
 have M7 := M2.step b7
 refine rm rfl F7 fun _ F8 => ?_
 refine hK4 _ _ ?_
 refine wp_ret ?_
 try simp only [Exit.then, Exit.inBlock, Exit.jump]
 exact bodyPost_ret (res1 rfl (F8.get rfl)) F8.defers ⟨rfl, M7.below⟩
end Go.Proofs.YtcfepoopkfhojaaGreat
namespace Go.Proofs.YtcfepoopkfhojaaGreat
open Go.ChangeShapes Go.WideShapes Go.ChangeAt Go.RowKit Go.Shelf
variable {ds : List Deferred}
def roundEnd3 (D l : Nat) (W2 : World) (R : World → Prop) (S : Code → World → Prop) : Exit → Act → World → Prop
 | .normal, _, W3 => KeepsOthers W2 W3 ∧ ∀ o, R (W3.putObj l o)
 | .ret, _, W3 => KeepsFrom D W2 W3 ∧ ∀ o, S .ret (W3.putObj l o)
 | .exit id, _, W3 => KeepsFrom D W2 W3 ∧ ∀ o, S (.exit id) (W3.putObj l o)
 | _, _, _ => False
def MidOk3 (n : Nat) (P : Program) (D l : Nat) (body : Code) (W : World) (R : World → Prop) (S : Code → World → Prop) (a₁ : Act) (W1 : World) : Prop :=
 KeepsOthers W W1 ∧ ∀ o, NotCells W1 l → o.isCells = false → body.wpIn (Fence.wide.inRound l) n P (roundEnd3 D l (W1.putObj l o) R S) a₁ (W1.putObj l o)
def LeftAt (l D : Nat) (S : Code → World → Prop) (W : World) : Prop :=
 ∃ c r, W.heap[l]? = some (.loop r) ∧ r.pending = some c ∧ r.state ≠ .busy ∧ W.heap[D]? = some (.deferred (some [])) ∧ S c W
theorem LeftAt.put {l D : Nat} {S : Code → World → Prop} {W : World} (h : LeftAt l D S W) {l' : Nat} {o : Obj} (h1 : l ≠ l') (h2 : D ≠ l') (hS : ∀ c, S c W → S c (W.putObj l' o)) : LeftAt l D S (W.putObj l' o) := by
 obtain ⟨c, r, k1, k2, k3, k4, k5⟩ := h
 exact ⟨c, r, (World.putObj_heap_other h1).trans k1, k2, k3, (World.putObj_heap_other h2).trans k4, hS c k5⟩
theorem LeftAt.below {l D : Nat} {S : Code → World → Prop} {W W' : World} (h : LeftAt l D S W) (hb : Below W.heap.size W W') (hS : ∀ c, S c W → S c W') : LeftAt l D S W' := by
 obtain ⟨c, r, k1, k2, k3, k4, k5⟩ := h
 exact ⟨c, r, (hb.block l (Array.getElem?_eq_some_iff.1 k1).1).trans k1, k2, k3, (hb.block D (Array.getElem?_eq_some_iff.1 k4).1).trans k4, hS c k5⟩
def YieldsAt (P : Program) (l D : Nat) (o1 o2 : Obj) (args : Array Value) (W : World) (Post Sx : World → Prop) : Prop :=
 YieldAt Fence.wide 1 P l args W fun e W' => (e = .returned (.bool true) ∧ RecAt l D o1 o2 W' ∧ KeepsOthers W W' ∧ Post W') ∨ (e = .returned (.bool false) ∧ KeepsFrom (l + 1) W W' ∧ Sx W')
theorem wpIn_range3 {P : Program} {g : Operand} {ps : Array Tmp} {assign body : Code} {Q : Exit → Act → World → Prop} {a : Act} {w : World}
  {gf : Nat} {lb : Array Value} (hg : a.eval g = .func (.func gf) #[] lb) (eg : ∀ args w, (callFunc gf args).run P w = .ok (.enter gf args) w)
  {α : Type} (encs : α → Array Value) (hps : ∀ x, (encs x).size = ps.size) (Pre : α → World → Prop) (Post : α → World → Prop) (S : Code → World → Prop) (Fin : World → Prop)
  (hround : ∀ (l : Nat) (x : α) (W : World), w.heap.size < l → l < W.heap.size → Pre x W →
   assign.wpIn (Fence.wide.inRound l) 1 P (Exit.then (MidOk3 1 P w.heap.size l body W (Post x) S) (fun _ _ _ => False)) { tmps := (ps.zip (encs x)).foldl (fun t (p, v) => t.setIfInBounds p v) a.tmps, defers := [] } W)
  (hiter : ∀ (l D : Nat) (o1 o2 : Obj) (W1 : World), D = w.heap.size → l = w.heap.size + 1 → W1 = (w.alloc o2).alloc o1 → RecAt l D o1 o2 W1 →
   (∀ x W, Pre x W → RecAt l D o1 o2 W → YieldsAt P l D o1 o2 (encs x) W (Post x) (LeftAt l D S)) →
   CallsIn Fence.wide 2 P gf (#[.func (.yield l) #[] #[]] ++ lb) W1 fun e W' => (∃ v, e = .returned v) ∧ ((RecAt l D o1 o2 W' ∧ Fin W') ∨ LeftAt l D S W'))
  (hdone : ∀ (l D : Nat) (o : Obj) (W : World), D = w.heap.size → l = w.heap.size + 1 → Fin W → l < W.heap.size → NotCells W l → (W.putObj l o).heap[D]? = some (.deferred (some [])) →
   Q .normal { a with defers := { target := .collected D, args := #[] } :: a.defers } (W.putObj l o))
  (hleft : ∀ (l D : Nat) (o : Obj) (c : Code) (W : World), D = w.heap.size → l = w.heap.size + 1 → S c W → l < W.heap.size → NotCells W l → (W.putObj l o).heap[D]? = some (.deferred (some [])) →
   c.wpIn Fence.wide 3 P Q { a with defers := { target := .collected D, args := #[] } :: a.defers } (W.putObj l o)) :
  (Code.rangeFunc g ps assign body).wpIn Fence.wide 3 P Q a w := by
 refine wpIn_rangeFunc ?_
 intro fn hfn
 show ∃ (l : Nat) (mark : List Deferred) (w₁ : World) (d : Deferred) (w₁' : World) (f : FuncId) (args : Array Value) (w₂ : World), (Instr.enterLoop fn a.tmps ps assign body none).run P w = .ok (l, mark) w₁ ∧ _
 obtain ⟨rec, hrec⟩ : ∃ rec : LoopState → Option Code → Loop, rec = fun st pe => { state := st, pending := pe, fn, tmps := a.tmps, params := ps, assign, body, defers := w.heap.size } := ⟨_, rfl⟩
 obtain ⟨W1, hW1⟩ : ∃ W1, (w.alloc (.deferred (some []))).alloc (.loop (rec .ready none)) = W1 := ⟨_, rfl⟩
 have hL1 : W1.heap[w.heap.size + 1]? = some (.loop (rec .ready none)) := by
  rw [← hW1]; have := World.alloc_heap_new (w.alloc (.deferred (some []))) (.loop (rec .ready none)); rwa [World.size_alloc] at this
 have hK1 : W1.heap[w.heap.size]? = some (.deferred (some [])) := by
  rw [← hW1]; exact (Below.heap_alloc _ _ _ (by simp)).trans (World.alloc_heap_new w _)
 refine ⟨w.heap.size + 1, [{ target := .collected w.heap.size, args := #[] }], W1, { target := .fn (.func gf) lb, args := #[.func (.yield (w.heap.size + 1)) #[] #[]] }, W1, gf,
  #[.func (.yield (w.heap.size + 1)) #[] #[]] ++ lb, W1, ?_, ?_, ?_, ?_, fun _ => by omega, ?_⟩
 ·rw [← hW1, hrec]; exact run_enterLoop_outer _ _ _ _ _
 ·simp only [resolve, hg]
  simp [go_sem]
 ·intro f' hf'; trivial
 ·simp [invoke, go_sem, eg]
 ·refine (hiter (w.heap.size + 1) w.heap.size (.loop (rec .ready none)) (.deferred (some [])) W1 rfl rfl hW1.symm ⟨hL1, hK1, rfl, rfl⟩ ?_).mono ?_
  ·rintro x W hpre ⟨hl, hk, -, -⟩
   have hlt : w.heap.size + 1 < W.heap.size := (Array.getElem?_eq_some_iff.1 hl).1
   have hlW := hl
   have hy := run_yield (P := P) (args := encs x) hl (by rw [hrec]; exact hps x)
   rw [hrec] at hy
   refine ⟨fn, _, assign, body, hy, roundIn_of_wpIn hfn (wpIn_mono (hround (w.heap.size + 1) x W (by omega) hlt hpre) ?_)⟩
   rintro e a1 W2 hp
   cases e with
   | normal =>
    obtain ⟨hk2, hb⟩ := hp
    have hl2 := hk2.same _ _ hl rfl
    have hd2 := hk2.same _ _ hk rfl
    have hlt2 := (Array.getElem?_eq_some_iff.1 hl2).1
    refine ⟨_, run_beginRound hl2 (by rw [hrec]), ?_⟩
    refine wpIn_mono (hb (.loop { rec .ready none with state := .busy }) (fun o' ho' => by rw [hl2] at ho'; cases ho'; rfl) rfl) ?_
    have left : ∀ (c : Code) (W3 : World), KeepsFrom w.heap.size (W2.putObj (w.heap.size + 1) (.loop { rec .ready none with state := .busy })) W3 → (∀ o, S c (W3.putObj (w.heap.size + 1) o)) →
      ∃ v w', (Instr.endRound (w.heap.size + 1) (some c)).run P W3 = .ok v w' ∧ ((Ending.returned v = .returned (.bool true) ∧ RecAt (w.heap.size + 1) w.heap.size (.loop (rec .ready none)) (.deferred (some [])) w' ∧ KeepsOthers W w' ∧ Post x w') ∨ (Ending.returned v = .returned (.bool false) ∧ KeepsFrom (w.heap.size + 1 + 1) W w' ∧ LeftAt (w.heap.size + 1) w.heap.size S w')) := by
     intro c W3 hk3 hS
     have hl3 : W3.heap[w.heap.size + 1]? = some (.loop { rec .ready none with state := .busy }) := hk3.same _ _ (by omega) (World.putObj_heap_same hlt2) rfl
     have hd3 : W3.heap[w.heap.size]? = some (.deferred (some [])) := hk3.same _ _ (Nat.le_refl _) ((World.putObj_heap_other (by omega)).trans hd2) rfl
     have hend := run_endRound (P := P) (some c) hl3
     rw [hrec] at hend
     have hkf : ∀ ob, KeepsFrom (w.heap.size + 1 + 1) W (W3.putObj (w.heap.size + 1) ob) := fun ob => ⟨by
       have h1 := hk2.size
       have h2 := hk3.size
       simp only [World.putObj_size] at h2 ⊢
       omega, fun k o hk0 hko ho => (World.putObj_heap_other (by omega)).trans (hk3.same k o (by omega) ((World.putObj_heap_other (by omega)).trans (hk2.same k o hko ho)) ho)⟩
     refine ⟨_, _, hend, .inr ⟨rfl, hkf _, c, _, World.putObj_heap_same (Array.getElem?_eq_some_iff.1 hl3).1, rfl, by simp, (World.putObj_heap_other (by omega)).trans hd3, hS _⟩⟩
    rintro e3 a3 W3 hp3
    cases e3 with
    | normal =>
     obtain ⟨hk3, hR⟩ := hp3
     have hl3 : W3.heap[w.heap.size + 1]? = some (.loop { rec .ready none with state := .busy }) := hk3.same _ _ (World.putObj_heap_same hlt2) rfl
     have hd3 : W3.heap[w.heap.size]? = some (.deferred (some [])) := hk3.same _ _ ((World.putObj_heap_other (by omega)).trans hd2) rfl
     have hend := run_endRound (P := P) none hl3
     rw [hrec] at hend
     refine ⟨_, _, hend, .inl ⟨rfl, ⟨?_, ?_, rfl, rfl⟩, ⟨?_, ?_⟩, hR _⟩⟩
     rotate_left 2
     ·have h1 := hk2.size
      have h2 := hk3.size
      simp only [World.putObj_size] at h2 ⊢
      omega
     ·intro k o hko ho
      by_cases hkl : k = w.heap.size + 1
      ·subst hkl
       rw [hlW] at hko
       cases hko
       rw [World.putObj_heap_same (Array.getElem?_eq_some_iff.1 hl3).1, hrec]; rfl
      ·exact (World.putObj_heap_other hkl).trans (hk3.same k o ((World.putObj_heap_other hkl).trans (hk2.same k o hko ho)) ho)
     ·rw [hrec]; exact World.putObj_heap_same (Array.getElem?_eq_some_iff.1 hl3).1
     ·exact (World.putObj_heap_other (by omega)).trans hd3
    | ret => exact left .ret W3 hp3.1 hp3.2
    | exit id => exact left (.exit id) W3 hp3.1 hp3.2
    | goto t => exact hp3.elim
    | panic ch => exact hp3.elim
    | outgrown => exact hp3.elim
   | _ => exact hp.elim
  ·rintro e W2 ⟨⟨v, rfl⟩, h⟩
   rcases h with ⟨⟨hl, hk, -, -⟩, hf⟩ | ⟨c, r, hl, hp, hb, hk, hS⟩
   ·refine ⟨none, _, by have := run_endLoop (P := P) hl (by rw [hrec]; simp); rw [hrec] at this; exact this, ?_⟩
    exact hdone (w.heap.size + 1) w.heap.size _ W2 rfl rfl hf (Array.getElem?_eq_some_iff.1 hl).1 (fun o' ho' => by rw [hl] at ho'; cases ho'; rfl) ((World.putObj_heap_other (by omega)).trans hk)
   ·refine ⟨some c, _, by have := run_endLoop (P := P) hl hb; rw [hp] at this; exact this, ?_⟩
    exact hleft (w.heap.size + 1) w.heap.size _ c W2 rfl rfl hS (Array.getElem?_eq_some_iff.1 hl).1 (fun o' ho' => by rw [hl] at ho'; cases ho'; rfl) ((World.putObj_heap_other (by omega)).trans hk)
theorem range_fx3 {n : Nat} {P : Program} {g : Operand} {p1 : Tmp} {assign body : Code} {Q : Exit → Act → World → Prop} {a : Act} {w : World} {V : List (Nat × Value)} (F : Fx n a V ds)
  {gf : Nat} {lb : Array Value} (hg : a.eval g = .func (.func gf) #[] lb) (eg : ∀ args w, (callFunc gf args).run P w = .ok (.enter gf args) w) (b1 : Nat.blt p1 n = true)
  {α : Type} (f1 : α → Value) (Pre : α → World → Prop) (Post : α → World → Prop) (S : Code → World → Prop) (Fin : World → Prop)
  (hiter : ∀ (l D : Nat) (o1 o2 : Obj) (W1 : World), D = w.heap.size → l = w.heap.size + 1 → Below w.heap.size w W1 → RecAt l D o1 o2 W1 →
   (∀ x W, Pre x W → RecAt l D o1 o2 W → YieldsAt P l D o1 o2 #[f1 x] W (Post x) (LeftAt l D S)) →
   CallsIn Fence.wide 2 P gf (#[.func (.yield l) #[] #[]] ++ lb) W1 fun e W' => (∃ v, e = .returned v) ∧ ((RecAt l D o1 o2 W' ∧ Fin W') ∨ LeftAt l D S W'))
  (hround : ∀ (l : Nat) (x : α) (W : World) (ra : Act), Fx n ra ((p1, f1 x) :: V) [] → w.heap.size < l → l < W.heap.size → Pre x W →
   assign.wpIn (Fence.wide.inRound l) 1 P (Exit.then (MidOk3 1 P w.heap.size l body W (Post x) S) (fun _ _ _ => False)) ra W)
  (hdone : ∀ (l D : Nat) (o : Obj) (W : World) (a' : Act), D = w.heap.size → l = w.heap.size + 1 → Fin W → NotCells W l → (W.putObj l o).heap[D]? = some (.deferred (some [])) → Fx n a' V ({ target := .collected D, args := #[] } :: ds) →
   Q .normal a' (W.putObj l o))
  (hleft : ∀ (l D : Nat) (o : Obj) (c : Code) (W : World) (a' : Act), D = w.heap.size → l = w.heap.size + 1 → S c W → NotCells W l → (W.putObj l o).heap[D]? = some (.deferred (some [])) → Fx n a' V ({ target := .collected D, args := #[] } :: ds) →
   c.wp P Q a' (W.putObj l o)) :
  (Code.rangeFunc g #[p1] assign body).wp P Q a w := by
 refine (wpIn_wide (n := 3)).1 (wpIn_range3 hg eg (fun x => #[f1 x]) (fun _ => rfl) Pre Post S Fin ?_ ?_ ?_ ?_)
 ·intro l x W h1 h2 h3
  have e : ({ tmps := (#[p1].zip #[f1 x]).foldl (fun t (p, v) => t.setIfInBounds p v) a.tmps, defers := [] } : Act) = (({ a with defers := [] } : Act).put (some p1) (f1 x)) := by simp [Act.put]
  show assign.wpIn _ _ _ _ ({ tmps := (#[p1].zip #[f1 x]).foldl (fun t (p, v) => t.setIfInBounds p v) a.tmps, defers := [] } : Act) W
  rw [e]
  exact hround l x W _ ((F.fresh []).put p1 (f1 x) b1) h1 h2 h3
 ·intro l D o1 o2 W1 hD hl hW hr hY
  refine hiter l D o1 o2 W1 hD hl ?_ hr hY
  rw [hW]
  exact ((Below.refl _ _).alloc (Nat.le_refl _) _).alloc (by simp) _
 ·intro l D o W hD hl hf hlt hnc hdd
  have F' := F.fresh ({ target := .collected D, args := #[] } :: a.defers)
  rw [F.defers] at F'
  have := hdone l D o W _ hD hl hf hnc hdd F'
  rw [← F.defers] at this
  exact this
 ·intro l D o c W hD hl hf hlt hnc hdd
  have F' := F.fresh ({ target := .collected D, args := #[] } :: a.defers)
  rw [F.defers] at F'
  have := hleft l D o c W _ hD hl hf hnc hdd F'
  rw [← F.defers] at this
  exact wpIn_wide.2 this
section
variable {P : Program} {ops : Array Oper} {Q : Exit → Act → World → Prop} {a : Act} {w w' : World} {rest : List Oper} {o : Oper} {n m : Nat} {V : List (Nat × Value)} {r : Option Nat}
theorem roundIn_lvl {n m : Nat} {l : Nat} {fn : FuncId} {tmps : Array Value} {assign body : Code} {w : World} {R : Ending → World → Prop} (h : RoundIn Fence.wide n P l fn tmps assign body w R) : RoundIn Fence.wide m P l fn tmps assign body w R :=
 ⟨h.1, fun c cs _ => h.2 c cs (fun d hd => by cases hd)⟩
theorem wi_yields (hw : Region.wanted o (yielded ops a.tmps) = true) {d : Nat} (hd : o.dst = some d) (F : Fx n a V ds) (hn : Nat.blt d n = true) {args : Array Operand} {ts : Array TypeId} {t : Tmp} (ho : o.op = .call { callee := .value (.tmp t), args := args, argTypes := ts }) {l D : Nat} {o1 o2 : Obj} (hf : a.eval (.tmp t) = .func (.yield l) #[] #[])
  (vals : Array Value) (hv : args.map a.eval = vals) {Z Sx : World → Prop} (hy : YieldsAt P l D o1 o2 vals w Z Sx)
  (h : ∀ w' a', RecAt l D o1 o2 w' → KeepsOthers w w' → Z w' → Fx n a' ((d, .bool true) :: V) ds → wpListIn (wideR r) m P ops Q rest a' w')
  (h2 : ∀ w' a', KeepsFrom (l + 1) w w' → Sx w' → Fx n a' ((d, .bool false) :: V) ds → wpListIn (wideR r) m P ops Q rest a' w') : wpListIn (wideR r) m P ops Q (o :: rest) a w := by
 subst hv
 obtain ⟨fn, tmps, assign, body, h1, hR⟩ := hy
 unfold wpListIn
 rw [if_pos hw]
 refine ⟨fun _ _ => trivial, ?_⟩
 have e : (o.semAt (wideR r).round a.eval).run P w = .ok (.round l fn tmps assign body) w := by
  rw [Oper.semAt_plain _ _ _ (by rw [ho]; intro c hc'; cases hc')]
  unfold execOp
  simp only [ho, resolve, hf]
  simp [invoke, go_sem, h1]
 rw [e]
 refine ⟨fun e => Bool.noConfusion e, RoundIn.mono (show RoundIn Fence.wide (m - 1) P l fn tmps assign body w _ from roundIn_lvl hR) fun e w' he => ?_⟩
 rcases he with ⟨rfl, hr, hk, hz⟩ | ⟨rfl, hk, hs⟩
 ·have := F.put d (.bool true) hn
  rw [← hd] at this
  exact h _ _ hr hk hz this
 ·have := F.put d (.bool false) hn
  rw [← hd] at this
  exact h2 _ _ hk hs this
end
end Go.Proofs.YtcfepoopkfhojaaGreat
namespace Go.Proofs.YtcfepoopkfhojaaGreat
open Go.ChangeShapes Go.WideShapes Go.ChangeAt Go.RowKit Go.Shelf
def JQ {α : Type} (G : Option Nat) (w0 : World) (PRE : (Nat → Bool) → Prop) (RL : α → (Nat → Bool) → (Nat → Value) → List (Nat × Res)) (S : Nat → Bool) (p : Nat → Value) (w : World) : Prop := PRE S ∧ ∃ x, Mx G w0 w (RL x S p)
theorem JQ.mk {α : Type} {G : Option Nat} {w0 : World} {PRE : (Nat → Bool) → Prop} {RL : α → (Nat → Bool) → (Nat → Value) → List (Nat × Res)} {S : Nat → Bool} {p : Nat → Value} {w : World} (h : PRE S) (x : α) (M : Mx G w0 w (RL x S p)) : JQ G w0 PRE RL S p w := ⟨h, x, M⟩
def ifp (A : Option Addr) (n : Nat) (g : Nat) : Prop := 0 < n ∧ ∃ o, A = some ⟨g, o, none⟩
theorem RdI.same {u u' : World} {A : Option Addr} {n : Nat} {x : Nat → Int} (hs : Same (ifp A n) u u') (h : RdI u A n x) : RdI u' A n x :=
 ⟨h.1, h.2.1, fun hn => by
  obtain ⟨b, o, e, h1, h2⟩ := h.2.2 hn
  refine ⟨b, o, e, Nat.lt_of_lt_of_le h1 hs.size, fun k hk => ?_⟩
  have hb := hs.at_ b _ ⟨hn, o, e⟩ (Array.getElem?_eq_getElem h1)
  rw [← h2 k hk]
  simp only [World.cell?, hb, Array.getElem?_eq_getElem h1]⟩
section
variable {G : Option Nat} {w0 w : World} {R : List (Nat × Res)}
end
section
variable {a : Act} {w : World} {o : Oper} {A : Option Addr} {n c : Nat} {x : Nat → Int}
end
end Go.Proofs.YtcfepoopkfhojaaGreat
namespace Go.Proofs.YtcfepoopkfhojaaGreat
open Go.ChangeShapes Go.WideShapes Go.ChangeAt Go.RowKit
theorem wi_call {P : Program} {ops : Array Oper} {Q : Exit → Act → World → Prop} {a : Act} {w : World} {rest : List Oper} {o : Oper} {n m : Nat} {ds : List Deferred} {V : List (Nat × Value)} {r : Option Nat} (hw : Region.wanted o (yielded ops a.tmps) = true) {d : Nat} (hd : o.dst = some d) (F : Fx n a V ds) (hn : Nat.blt d n = true) {f : FuncId} {args : Array Operand} {ts : Array TypeId} (ho : o.op = .call { callee := .value (.func f), args := args, argTypes := ts })
  (hr : ∀ args w, (callFunc f args).run P w = .ok (.enter f args) w) (vals : Array Value) (hv : args.map a.eval = vals) {G : Value → World → Prop}
  (hc : Calls P f vals w fun e w' => ∃ v, e = .returned v ∧ G v w')
  (h : ∀ v w' a', G v w' → Fx n a' ((d, v) :: V) ds → wpListIn (wideR r) m P ops Q rest a' w') : wpListIn (wideR r) m P ops Q (o :: rest) a w := by
 unfold wpListIn
 rw [if_pos hw]
 refine op_in (fun c e => by rw [ho] at e; cases e) ?_
 subst hv
 unfold Oper.wp
 have : (execOp a.eval o).run P w = .ok (.enter f (args.map a.eval)) w := by
  simp [execOp, ho, resolve, invoke, Act.eval, go_sem, hr]
 rw [this]
 refine hc.mono fun e w' ⟨v, he, hb⟩ => ?_
 subst he
 have := F.put d v hn
 rw [← hd] at this
 exact h _ _ _ hb this
theorem bytes_o (a : Nat) (w : World) : Calls Tryz.prog 74 #[numV a] w fun e w' => ∃ v, e = .returned v ∧ Byt w' w.heap.size v (zz a) ∧ Below w.heap.size w w' :=
 (bytes_any a w).mono fun e w' ⟨g, h1, h2, h3, h4⟩ => ⟨_, h1, ⟨by simp [zz], .inr ⟨g, 32, bvs (zz a), by simp [zz], h2, h3, by simp [zz], by unfold maxLen; omega, by simp [bvs, zz], by simp only [bvs, Nat.mul_one]; exact List.take_of_length_le (by simp)⟩⟩, h4⟩
def nn2 (a b : Nat) : Array Value := #[numF a 0, numF a 1, numF a 2, numF a 3, numF a 4, numF a 5, numF a 6, numF a 7, numF b 0, numF b 1, numF b 2, numF b 3, numF b 4, numF b 5, numF b 6, numF b 7]
def sel2 (a b : Nat) (k : Nat) : Nat := if k = 0 then a else b
theorem written_any (gs : Nat) (w : World) :
  Calls Tryz.prog 75 #[.slice (some ⟨gs, 0, none⟩) 2 2] w fun e w' => ∃ gb, e = .returned (.func (.func 108) #[] #[.pointer (some ⟨gb, 0, none⟩)]) ∧ w.heap.size ≤ gb ∧ w'.heap[gb]? = some (.cells #[.slice (some ⟨gs, 0, none⟩) 2 2] 137 (0, 0)) ∧ Below w.heap.size w w' := by
 refine zra (args := [.slice (some ⟨gs, 0, none⟩) 2 2]) 4 Tryz.func75 rfl rfl rfl ?_
 intro fa F
 have M := Mx.start w
 refine zSk fun _ hK1 => ?_
 refine zR ?_
 refine zo (zc rfl) rfl F rfl M 0 (t := 137) (c := #[.slice (some ⟨gs, 0, none⟩) 2 2]) (by unfold execOp; simp only [(F.get (t := 0) rfl)]; kernel_rfl) ?_
 intro g2 a2 w2 F2 M2
 clear F M
 refine rm rfl F2 fun _ F3 => ?_
 refine hK1 _ _ ?_
 refine zSk fun _ hK4 => ?_
 refine zR ?_
 refine zh (w' := w2) (zc rfl) rfl F3 rfl (.func (.func 108) #[] #[.pointer (some ⟨g2, 0, none⟩)]) (by unfold execOp; simp only [List.map_toArray, List.map_cons, List.map_nil, (F3.get (t := 1) rfl)]; kernel_rfl) fun _ F5 => ?_
 clear F3
 refine rm rfl F5 fun _ F6 => ?_
 refine hK4 _ _ ?_
 refine wp_ret ?_
 try simp only [Exit.then, Exit.inBlock, Exit.jump]
 exact bodyPost_ret (res1 rfl (F6.get rfl)) F6.defers ⟨g2, rfl, (M2.own 0 _ rfl rfl g2 rfl).resolve_right (fun e => by cases e), M2.blk (k := 0) rfl, M2.below⟩
theorem written1_any (gb gs A B : Nat) (C : Nat → World → Prop) (Sx : World → Prop) (l D : Nat) (o1 o2 : Obj) (w : World)
  (hC : ∀ k W, C k W → W.heap[gb]? = some (.cells #[.slice (some ⟨gs, 0, none⟩) 2 2] 137 (0, 0)) ∧ W.heap[gs]? = some (.cells (nn2 A B) 27 (0, 0)))
  (hyield : ∀ (k : Nat) (W W' : World) (v : Value), k < 2 → C k W → Below W.heap.size W W' → IsB W' (zz (sel2 A B k)) v → (∀ b, bfp v b → W.heap.size ≤ b) → RecAt l D o1 o2 W' → YieldsAt Tryz.prog l D o1 o2 #[v] W' (C (k + 1)) Sx)
  (h0 : C 0 w) (hr : RecAt l D o1 o2 w) :
  CallsIn Fence.wide 2 Tryz.prog 108 #[.func (.yield l) #[] #[], .pointer (some ⟨gb, 0, none⟩)] w fun e W' => (∃ v, e = .returned v) ∧ ((RecAt l D o1 o2 W' ∧ C 2 W') ∨ Sx W') := by
 refine callsIn_wide.2 ?_
 refine zra (args := [.func (.yield l) #[] #[], .pointer (some ⟨gb, 0, none⟩)]) 17 Tryz.func108 rfl rfl rfl ?_
 intro fa F
 have M := Mx.start w
 have M9 := M.argO 0 (hC _ _ h0).1 (fun b e => by cases e)
 clear M
 refine zSk fun _ hK1 => ?_
 refine zR ?_
 refine zh (w' := w) (zc rfl) rfl F rfl (.slice (some ⟨gs, 0, none⟩) 2 2) (y_ld1 _ _ rfl (F.get (t := 1) rfl) (M9.roB (k := 0) rfl) rfl Tryz.underlying137 rfl) fun _ F2 => ?_
 clear F
 refine zh (w' := w) (zc rfl) rfl F2 rfl (.int .i64 2) (y_lnG 137 Tryz.underlying137 _ rfl (F2.get (t := 5) rfl) rfl) fun _ F3 => ?_
 clear F2
 refine rm rfl F3 fun _ F4 => ?_
 refine hK1 _ _ ?_
 refine wp_block ?_
 refine wp_loop_ghost (fun k a w => ∃ q : Nat, k = 2 - q ∧ q ≤ 2 ∧ Fx 17 a [(0, .func (.yield l) #[] #[]), (1, .pointer (some ⟨gb, 0, none⟩)), (5, .slice (some ⟨gs, 0, none⟩) 2 2), (6, .int .i64 2), (7, .int .i64 (q : Int))] ∧ C q w ∧ RecAt l D o1 o2 w) 2 ⟨0, rfl, by omega, F4.sub ⟨rfl, rfl, rfl, rfl, rfl, trivial⟩, h0, hr⟩ ?_
 clear F4 M9
 rintro kk la lw ⟨q, ek, hx, LF, hc, hre⟩
 replace LF : Fx 17 la [(0, .func (.yield l) #[] #[]), (1, .pointer (some ⟨gb, 0, none⟩)), (5, .slice (some ⟨gs, 0, none⟩) 2 2), (6, .int .i64 2), (7, .int .i64 (q : Int))] := LF
 have hq : q = 0 ∨ q = 1 ∨ q = 2 := by omega
 rcases hq with rfl | rfl | rfl
 ·have LM0 := Mx.start lw
  have LM := LM0.argO 1 (hC _ _ hc).2 (fun b e => by cases e)
  clear LM0
  refine zSk fun _ hK5 => ?_
  refine zR ?_
  refine zh (w' := lw) (zc rfl) rfl LF rfl (.bool true) (y_lss _ _ _ _ rfl (LF.get (t := 7) rfl) (LF.get (t := 6) rfl) (decide_eq_true (by decide))) fun _ F6 => ?_
  clear LF
  refine hK5 _ _ ?_
  refine zSk fun _ hK7 => ?_
  refine wp_cond_true (F6.get (t := 8) rfl) ?_
  refine wp_skip ?_
  refine hK7 _ _ ?_
  refine zSk fun _ hK8 => ?_
  refine wp_block ?_
  refine zSk fun _ hK9 => ?_
  refine zR ?_
  refine zh (w' := lw) (zc rfl) rfl F6 rfl (.pointer (some ⟨gs, 0, none⟩)) (y_ixG 137 (s := 8) Tryz.underlying137 (by kernel_rfl) _ _ rfl (F6.get (t := 5) rfl) (F6.get (t := 7) rfl) rfl (by decide) rfl) fun _ F10 => ?_
  clear F6
  refine zh (w' := lw) (zc rfl) rfl F10 rfl (numV A) (zga _ _ rfl (F10.get (t := 9) rfl) (LM.roB (k := 1) rfl) (numA A) (y_part8 rfl rfl rfl rfl rfl rfl rfl rfl) Tryz.underlying27 rfl ze) fun _ F11 => ?_
  clear F10
  refine zo (zc rfl) rfl F11 rfl LM 5 (t := 27) (c := numA 0) (zba rfl) ?_
  intro g12 a12 w12 F12 M12
  clear F11 LM
  refine zka (zc rfl) rfl F12 M12 (k := 5) rfl _ _ _ rfl (F12.get (t := 4) rfl) (F12.get (t := 10) rfl) (numA A) _ rfl (zL rfl) (zoa _) (zx rfl) ze ?_
  intro w13 M13
  clear M12
  refine hK9 _ _ ?_
  refine zSk fun _ hK14 => ?_
  refine (wpIn_wide (n := 2)).1 (wpIn_region_lit ?_)
  refine wi_run (r := none) (fun c e => by cases e) (w' := w13) (zc rfl) rfl F12 rfl (.func (.yield l) #[] #[]) (zia _ (.inl rfl) (F12.get (t := 0) rfl)) fun _ F15 => ?_
  clear F12
  refine wi_run (r := none) (fun c e => by cases e) (w' := w13) (zc rfl) rfl F15 rfl (numV A) (zga _ _ rfl (F15.get (t := 4) rfl) (M13.blk (k := 5) rfl) (numA A) (zta rfl) Tryz.underlying27 rfl ze) fun _ F16 => ?_
  clear F15
  refine wi_call (r := none) (zc rfl) rfl F16 rfl rfl (zE Tryz.func74 rfl) #[numV A] (z2a (F16.get (t := 12) rfl)) ((bytes_o A w13)) ?_
  rintro v17 w17 a17 h17 F17
  have M17 := M13.newO h17.2 6 h17.1
  clear M13 h17
  obtain ⟨A17, c17, rfl⟩ := (M17.isO (k := 6) rfl).shape
  refine wi_yields (r := none) (zc rfl) rfl F17 rfl rfl (F17.get (t := 11) rfl) #[.slice A17 ((zz A)).length c17] (z2a (F17.get (t := 13) rfl)) (hyield 0 lw w17 _ (by decide) hc M17.below (M17.isO (k := 6) rfl) (fun b hb => (M17.owns (k := 6) rfl b (bfp_ofp hb))) (hre.below M17.below)) ?_ ?_
  ·intro w18 a18 re18 ko18 hc18 F18
   clear F17
   refine wi_run (r := none) (fun c e => by cases e) (w' := w18) (zc rfl) rfl F18 rfl (.bool false) (run_not _ _ rfl (F18.get (t := 14) rfl)) fun _ F19 => ?_
   clear F18
   refine hK14 _ _ ?_
   refine wp_cond_false (F19.get (t := 15) rfl) ?_
   refine wp_skip ?_
   refine hK8 _ _ ?_
   refine zR ?_
   refine zh (w' := w18) (zc rfl) rfl F19 rfl (.int .i64 1) (y_addI _ _ _ _ rfl (F19.get (t := 7) rfl) rfl rfl (by omega)) fun _ F20 => ?_
   clear F19
   refine rm rfl F20 fun _ F21 => ?_
   exact ⟨1, by omega, 1, by omega, by omega, F21.sub ⟨rfl, rfl, rfl, rfl, rfl, trivial⟩, hc18, re18⟩
  ·intro w18 a18 kf18 hs18 F18
   clear F17
   refine wi_run (r := none) (fun c e => by cases e) (w' := w18) (zc rfl) rfl F18 rfl (.bool true) (run_not _ _ rfl (F18.get (t := 14) rfl)) fun _ F22 => ?_
   clear F18
   refine hK14 _ _ ?_
   refine wp_cond_true (F22.get (t := 15) rfl) ?_
   refine wp_ret ?_
   try simp only [Exit.then, Exit.inBlock, Exit.jump]
   exact bodyPost_ret (res0 rfl) F22.defers ⟨⟨_, rfl⟩, .inr hs18⟩
 ·have LM0 := Mx.start lw
  have LM := LM0.argO 1 (hC _ _ hc).2 (fun b e => by cases e)
  clear LM0
  refine zSk fun _ hK23 => ?_
  refine zR ?_
  refine zh (w' := lw) (zc rfl) rfl LF rfl (.bool true) (y_lss _ _ _ _ rfl (LF.get (t := 7) rfl) (LF.get (t := 6) rfl) (decide_eq_true (by decide))) fun _ F24 => ?_
  clear LF
  refine hK23 _ _ ?_
  refine zSk fun _ hK25 => ?_
  refine wp_cond_true (F24.get (t := 8) rfl) ?_
  refine wp_skip ?_
  refine hK25 _ _ ?_
  refine zSk fun _ hK26 => ?_
  refine wp_block ?_
  refine zSk fun _ hK27 => ?_
  refine zR ?_
  refine zh (w' := lw) (zc rfl) rfl F24 rfl (.pointer (some ⟨gs, 8, none⟩)) (y_ixG 137 (s := 8) Tryz.underlying137 (by kernel_rfl) _ _ rfl (F24.get (t := 5) rfl) (F24.get (t := 7) rfl) rfl (by decide) rfl) fun _ F28 => ?_
  clear F24
  refine zh (w' := lw) (zc rfl) rfl F28 rfl (numV B) (zga _ _ rfl (F28.get (t := 9) rfl) (LM.roB (k := 1) rfl) (numA B) (y_part8 rfl rfl rfl rfl rfl rfl rfl rfl) Tryz.underlying27 rfl ze) fun _ F29 => ?_
  clear F28
  refine zo (zc rfl) rfl F29 rfl LM 5 (t := 27) (c := numA 0) (zba rfl) ?_
  intro g30 a30 w30 F30 M30
  clear F29 LM
  refine zka (zc rfl) rfl F30 M30 (k := 5) rfl _ _ _ rfl (F30.get (t := 4) rfl) (F30.get (t := 10) rfl) (numA B) _ rfl (zL rfl) (zoa _) (zx rfl) ze ?_
  intro w31 M31
  clear M30
  refine hK27 _ _ ?_
  refine zSk fun _ hK32 => ?_
  refine (wpIn_wide (n := 2)).1 (wpIn_region_lit ?_)
  refine wi_run (r := none) (fun c e => by cases e) (w' := w31) (zc rfl) rfl F30 rfl (.func (.yield l) #[] #[]) (zia _ (.inl rfl) (F30.get (t := 0) rfl)) fun _ F33 => ?_
  clear F30
  refine wi_run (r := none) (fun c e => by cases e) (w' := w31) (zc rfl) rfl F33 rfl (numV B) (zga _ _ rfl (F33.get (t := 4) rfl) (M31.blk (k := 5) rfl) (numA B) (zta rfl) Tryz.underlying27 rfl ze) fun _ F34 => ?_
  clear F33
  refine wi_call (r := none) (zc rfl) rfl F34 rfl rfl (zE Tryz.func74 rfl) #[numV B] (z2a (F34.get (t := 12) rfl)) ((bytes_o B w31)) ?_
  rintro v35 w35 a35 h35 F35
  have M35 := M31.newO h35.2 6 h35.1
  clear M31 h35
  obtain ⟨A35, c35, rfl⟩ := (M35.isO (k := 6) rfl).shape
  refine wi_yields (r := none) (zc rfl) rfl F35 rfl rfl (F35.get (t := 11) rfl) #[.slice A35 ((zz B)).length c35] (z2a (F35.get (t := 13) rfl)) (hyield 1 lw w35 _ (by decide) hc M35.below (M35.isO (k := 6) rfl) (fun b hb => (M35.owns (k := 6) rfl b (bfp_ofp hb))) (hre.below M35.below)) ?_ ?_
  ·intro w36 a36 re36 ko36 hc36 F36
   clear F35
   refine wi_run (r := none) (fun c e => by cases e) (w' := w36) (zc rfl) rfl F36 rfl (.bool false) (run_not _ _ rfl (F36.get (t := 14) rfl)) fun _ F37 => ?_
   clear F36
   refine hK32 _ _ ?_
   refine wp_cond_false (F37.get (t := 15) rfl) ?_
   refine wp_skip ?_
   refine hK26 _ _ ?_
   refine zR ?_
   refine zh (w' := w36) (zc rfl) rfl F37 rfl (.int .i64 2) (y_addI _ _ _ _ rfl (F37.get (t := 7) rfl) rfl rfl (by omega)) fun _ F38 => ?_
   clear F37
   refine rm rfl F38 fun _ F39 => ?_
   exact ⟨0, by omega, 2, by omega, by omega, F39.sub ⟨rfl, rfl, rfl, rfl, rfl, trivial⟩, hc36, re36⟩
  ·intro w36 a36 kf36 hs36 F36
   clear F35
   refine wi_run (r := none) (fun c e => by cases e) (w' := w36) (zc rfl) rfl F36 rfl (.bool true) (run_not _ _ rfl (F36.get (t := 14) rfl)) fun _ F40 => ?_
   clear F36
   refine hK32 _ _ ?_
   refine wp_cond_true (F40.get (t := 15) rfl) ?_
   refine wp_ret ?_
   try simp only [Exit.then, Exit.inBlock, Exit.jump]
   exact bodyPost_ret (res0 rfl) F40.defers ⟨⟨_, rfl⟩, .inr hs36⟩
 ·have LM0 := Mx.start lw
  have LM := LM0.argO 1 (hC _ _ hc).2 (fun b e => by cases e)
  clear LM0
  refine zSk fun _ hK41 => ?_
  refine zR ?_
  refine zh (w' := lw) (zc rfl) rfl LF rfl (.bool false) (y_lss _ _ _ _ rfl (LF.get (t := 7) rfl) (LF.get (t := 6) rfl) (decide_eq_false (by decide))) fun _ F42 => ?_
  clear LF
  refine hK41 _ _ ?_
  refine zSk fun _ hK43 => ?_
  refine wp_cond_false (F42.get (t := 8) rfl) ?_
  refine wp_exit ?_
  simp only [Exit.then, Exit.inBlock, ↓reduceIte, Nat.reduceEqDiff]
  try simp only [Exit.then, Exit.inBlock, Exit.jump]
  exact bodyPost_end (res0 rfl) F42.defers ⟨⟨_, rfl⟩, .inl ⟨hre, hc⟩⟩
end Go.Proofs.YtcfepoopkfhojaaGreat
namespace Go.Proofs.YtcfepoopkfhojaaGreat
open Go.ChangeShapes Go.WideShapes Go.ChangeAt Go.RowKit Go.Shelf
def valsR (L : List (List UInt8)) (vs : List Value) : Res := ⟨false, fun b => ∃ v, v ∈ vs ∧ bfp v b, fun w => vs.length = L.length ∧ ∀ (j : Nat) (l : List UInt8), L[j]? = some l → ∃ v, vs[j]? = some v ∧ IsB w l v⟩
theorem vals_dep {L : List (List UInt8)} {vs : List Value} : ∀ u u', Same (valsR L vs).fp u u' → (valsR L vs).F u → (valsR L vs).F u' := fun u u' hs ⟨h1, h2⟩ => ⟨h1, fun j l hl => by
 obtain ⟨v, q1, q2⟩ := h2 j l hl
 exact ⟨v, q1, q2.same ⟨fun g o hg ho => hs.at_ g o ⟨v, List.mem_of_getElem? q1, hg⟩ ho, hs.size⟩⟩⟩
theorem vals_lt {L : List (List UInt8)} {vs : List Value} {w : World} (h : (valsR L vs).F w) : ∀ b, (valsR L vs).fp b → b < w.heap.size := fun b ⟨v, hv, hb⟩ => by
 obtain ⟨j, hj, e⟩ := List.getElem_of_mem hv
 obtain ⟨l, hl⟩ : ∃ l, L[j]? = some l := ⟨_, List.getElem?_eq_getElem (by have := h.1; omega)⟩
 obtain ⟨u, q1, q2⟩ := h.2 j l hl
 rw [List.getElem?_eq_getElem hj, e] at q1
 obtain rfl := Option.some.inj q1
 exact q2.lt hb
section
variable {G : Option Nat} {w0 w : World} {R : List (Nat × Res)} {k k2 i g : Nat} {L : List (List UInt8)} {vs : List Value} {l : List UInt8} {v : Value} {T : TypeId} {c : Array Value}
theorem Mx.valsNil (M : Mx G w0 w R) (i : Nat) : Mx G w0 w ((i, valsR [] []) :: R) :=
 M.cons i _ ⟨rfl, fun j l h => by cases h⟩ vals_dep (fun b ⟨v, hv, _⟩ => by cases hv) (fun e => by cases e) fun _ _ _ _ _ b ⟨v, hv, _⟩ => by cases hv
theorem Mx.valsAdd (M : Mx G w0 w R) (hk : look R k = some (valsR L vs)) (h2 : look R k2 = some (bytR l v)) : Mx G w0 w ((k, valsR (L ++ [l]) (vs ++ [v])) :: R) := by
 have hF := M.at_ k _ hk
 have hB := M.isb h2
 have hF2 : (valsR (L ++ [l]) (vs ++ [v])).F w := ⟨by rw [List.length_append, List.length_append, hF.1]; rfl, fun j l2 hj => by
  by_cases e : j < L.length
  ·rw [List.getElem?_append_left e] at hj
   obtain ⟨u, q1, q2⟩ := hF.2 j l2 hj
   exact ⟨u, by rw [List.getElem?_append_left (by rw [hF.1]; exact e)]; exact q1, q2⟩
  ·have hlen := (List.getElem?_eq_some_iff.1 hj).1
   rw [List.length_append] at hlen
   have e2 : j = L.length := by simp at hlen; omega
   subst e2
   rw [List.getElem?_append_right (Nat.le_refl _), Nat.sub_self] at hj
   obtain rfl : l = l2 := Option.some.inj hj
   exact ⟨v, by rw [List.getElem?_append_right (by rw [hF.1]; exact Nat.le_refl _), hF.1, Nat.sub_self]; rfl, hB⟩⟩
 refine M.cons k _ hF2 vals_dep (vals_lt hF2) (fun e => by cases e) fun q t e hq hw b hb h3 => ?_
 rcases hw with hw | hw
 ·cases hw
 obtain ⟨u, hu, hub⟩ := hb
 rcases List.mem_append.1 hu with hu | hu
 ·exact M.dis q k t _ e hk (fun e2 => hq e2.symm) hw b h3 ⟨u, hu, hub⟩
 ·obtain rfl := List.mem_singleton.1 hu
  exact M.dis q k2 t _ e h2 (fun e2 => by subst e2; rw [h2] at e; cases e; cases hw) hw b h3 hub
theorem Mx.blkRow (M : Mx G w0 w R) (hk : look R k = some (blkR g T c)) {n : Nat} (hn : c.size = n) (hm : n ≤ 1000) (h0 : 0 < n) : Mx G w0 w ((k, rowR T 1 n c.toList (.slice (some ⟨g, 0, none⟩) n n)) :: R) := by
 subst hn
 have hb := M.blk hk
 refine M.cons k _ ⟨by rw [Array.length_toList, Nat.mul_one], .inr ⟨g, c.size, c, rfl, Nat.zero_le _, hb, Nat.le_refl _, by unfold maxLen; omega, by rw [Nat.mul_one], by rw [Nat.mul_one, ← Array.length_toList, List.take_length]⟩⟩ row_dep (fun b hb2 => ?_) (fun _ b hb2 => ?_) fun q t e hq hw b hb2 h3 => ?_
 ·obtain rfl : g = b := Option.some.inj hb2
  exact z9b hb
 ·obtain rfl : g = b := Option.some.inj hb2
  exact M.own k _ hk rfl g rfl
 ·obtain rfl : g = b := Option.some.inj hb2
  exact M.dis k q _ t hk e hq rfl g rfl h3
theorem Mx.rowP (M : Mx G w0 w R) {n : Nat} {u : Value} (hk : look R k = some (rowR T 1 n vs u)) (h2 : look R k2 = some (valsR L vs)) (hn : n = L.length) : IsP w L u := isP_row (M.rowF hk) hn (M.at_ k2 _ h2).2
end
theorem res2ct {P : Program} {fn : Func} {p q r : Tmp} {ty tz : TypeId} (h : fn.results = #[.cell p ty, .cell q tz, .tmp r]) {a : Act} {w : World} {g g2 : Nat} {t t2 : TypeId} {c c2 : Array Value} {v : Value} {d d2 : TypeDesc}
  (hp : a.eval (.tmp p) = .pointer (some ⟨g, 0, none⟩)) (hg : w.heap[g]? = some (.cells c t (0, 0))) (hq : a.eval (.tmp q) = .pointer (some ⟨g2, 0, none⟩)) (hg2 : w.heap[g2]? = some (.cells c2 t2 (0, 0))) (hr : a.eval (.tmp r) = v) (hu : P.underlying ty = some d) (hd : yPlain d = false) (hi : (P.info? ty).map (·.size) = some c.size) (hu2 : P.underlying tz = some d2) (hd2 : yPlain d2 = false) (hi2 : (P.info? tz).map (·.size) = some c2.size) : (results fn a.tmps).run P w = .ok (.tuple #[.agg c, .agg c2, v]) w := by
 have hp' : a.tmps[p]?.getD undef = .pointer (some ⟨g, 0, none⟩) := by simpa [Act.eval] using hp
 have hq' : a.tmps[q]?.getD undef = .pointer (some ⟨g2, 0, none⟩) := by simpa [Act.eval] using hq
 have hr' : a.tmps[r]?.getD undef = v := by simpa [Act.eval] using hr
 have l1 : (loadVar ty ⟨g, 0, none⟩).run P w = .ok (.agg c) w := by
  cases d with
  | struct fs => exact run_loadVar_row w g t ty c (0, 0) _ hg hu rfl hi
  | array n e => exact run_loadVar_row w g t ty c (0, 0) _ hg hu rfl hi
  | _ => cases hd
 have l2 : (loadVar tz ⟨g2, 0, none⟩).run P w = .ok (.agg c2) w := by
  cases d2 with
  | struct fs => exact run_loadVar_row w g2 t2 tz c2 (0, 0) _ hg2 hu2 rfl hi2
  | array n e => exact run_loadVar_row w g2 t2 tz c2 (0, 0) _ hg2 hu2 rfl hi2
  | _ => cases hd2
 simp [results, h, hp', hq', hr', asAddr, l1, l2]
theorem cells_vals {w : World} {L : List (List UInt8)} {vs : List Value} (h : (valsR L vs).F w) : CellsF w (valsR L vs) := fun b ⟨v, hv, hb⟩ => by
 obtain ⟨j, hj, e⟩ := List.getElem_of_mem hv
 obtain ⟨l, hl⟩ : ∃ l, L[j]? = some l := ⟨_, List.getElem?_eq_getElem (by have := h.1; omega)⟩
 obtain ⟨u, q1, q2⟩ := h.2 j l hl
 rw [List.getElem?_eq_getElem hj, e] at q1
 obtain rfl := Option.some.inj q1
 exact z9a q2 b hb
theorem cells_row {w : World} {e : TypeId} {sz n : Nat} {xs : List Value} {v : Value} (h : (rowR e sz n xs v).F w) : CellsF w (rowR e sz n xs v) := fun g hg => by
 have h : w.ownsRow 0 e sz v n xs := h
 have hg' : v.ownBlock = some g := hg
 rcases h.2 with ⟨rfl, _⟩ | ⟨b, c, cur, rfl, _, h1, _⟩
 ·cases hg'
 ·cases hg'; exact ⟨_, h1, rfl⟩
end Go.Proofs.YtcfepoopkfhojaaGreat
namespace Go.Proofs.YtcfepoopkfhojaaGreat
open Go.ChangeShapes Go.WideShapes Go.ChangeAt Go.RowKit
noncomputable def shL (x : SideN) (k : Nat) : List (List UInt8) := [[49], sBy x.s, x.ls] ++ [zz x.A, zz x.B].take k
theorem shL_succ (x : SideN) {k : Nat} (hk : k < 2) : shL x (k + 1) = shL x k ++ [zz (sel2 x.A x.B k)] := by
 match k, hk with
 | 0, _ => rfl
 | 1, _ => rfl
noncomputable def zkb (x : SideN) (n : Nat) : SideN := { x with Ky := outF (macW [] [[107, 101, 121], zz n]), Pr := outF (macW (sumY (outF (macW [] [[107, 101, 121], zz n]))) (shL x 2)) }
theorem written_ex (gs : Nat) (w : World) : Calls Tryz.prog 75 #[.slice (some ⟨gs, 0, none⟩) 2 2] w fun e w' => ∃ v, e = .returned v ∧ ∃ gb, v = .func (.func 108) #[] #[.pointer (some ⟨gb, 0, none⟩)] ∧ w.heap.size ≤ gb ∧ w'.heap[gb]? = some (.cells #[.slice (some ⟨gs, 0, none⟩) 2 2] 137 (0, 0)) ∧ Below w.heap.size w w' :=
 (written_any gs w).mono fun e w' ⟨gb, h1, h2, h3, h4⟩ => ⟨_, h1, gb, rfl, h2, h3, h4⟩
theorem y_sliceSumO {a : Act} {w : World} {o : Oper} (x : Operand) (ho : o.op = .slice 35 x none none none) {g q : Nat} (hx : a.eval x = .pointer (some ⟨g, q, none⟩)) : (execOp a.eval o).run Tryz.prog w = .ok (.value (.slice (some ⟨g, q, none⟩) 16 16)) w := by
 have h : (Instr.sliceAt 35 (.pointer (some ⟨g, q, none⟩)) none none none).run Tryz.prog w = .ok (.slice (some ⟨g, q, none⟩) 16 16) w := by
  have hl : Tryz.prog.arrayLen 35 = 16 := by kernel_rfl
  have he : Tryz.prog.elem 35 = 5 := by kernel_rfl
  have hu : Tryz.prog.underlying 35 = some (.array (Tryz.prog.arrayLen 35) (Tryz.prog.elem 35)) := by rw [hl, he]; exact Tryz.underlying35
  rw [run_sliceAt_array_all w 35 ⟨g, q, none⟩ hu, he, sizeOf_u8]
  simp only [Result.andThen_ok, slicedAt, hl]
  simp [add_zero']
 unfold execOp
 simp only [ho, hx]
 simp only [Option.map_none, Sem.run_bind]
 rw [h]; rfl
theorem isb_sumO {w : World} {g q : Nat} {y : Nat → Int} {t : TypeId} {c : Array Value} (hy : ∀ k, 0 ≤ y k ∧ y k < 256) (h : w.heap[g]? = some (.cells c t (0, 0))) (hp : ∀ (i : Nat) (v : Value), (zk y)[i]? = some v → c[q + i]? = some v) : IsB w (sumY y) (.slice (some ⟨g, q, none⟩) 16 16) :=
 ⟨some ⟨g, q, none⟩, 16, (by rw [zyb]), (by rw [zyb]; exact Nat.le_refl _), (by unfold maxLen; decide), (fun e => by cases e), fun _ => by
  refine ⟨_, rfl, z9b h, fun j b hj => ?_⟩
  have hj16 : j < 16 := by have := (List.getElem?_eq_some_iff.1 hj).1; rwa [zyb] at this
  rw [zua]
  unfold sumY at hj
  rw [List.getElem?_map, List.getElem?_range hj16] at hj
  obtain rfl := Option.some.inj hj
  have hc : w.cell? ⟨g, q + j, none⟩ = some (.int .u8 (y j)) := by simp [World.cell?, h, hp j _ (arr16_get y hj16)]
  rw [hc]
  unfold bv
  rw [sumY_val (hy j)]⟩
theorem sharing_any (x : SideN) (y : SideV) (n : Nat) (hs : x.s.size ≤ 1000) (w : World) (hx : SideIs w x y) :
  Calls Tryz.prog 42 #[.agg (zl x y), numV n] w fun e w' => e = .returned (.agg (zl (zkb x n) y)) ∧ Below w.heap.size w w' := by
 obtain ⟨S, hS⟩ : ∃ S, macW [] [[107, 101, 121], zz n] = S := ⟨_, rfl⟩
 have kO := fun (w : World) (u : Value) (h : IsP w [[107, 101, 121], zz n] u) => of_b h
 rw [hS] at kO
 obtain ⟨U, hU⟩ : ∃ U, macW (sumY (outF S)) (shL x 2) = U := ⟨_, rfl⟩
 have kM := fun (w : World) (v u : Value) (h : IsB w (sumY (outF S)) v) (h2 : IsP w (shL x 2) u) => mac_b h h2
 rw [hU] at kM
 have hbd := zdc S
 rw [show zkb x n = { x with Ky := outF S, Pr := outF U } by unfold zkb; rw [hS, hU]]
 clear hS hU
 obtain ⟨vp, vs⟩ := y
 obtain ⟨Ap, cp, rfl⟩ := id hx.hp.shape
 obtain ⟨As, cs, rfl⟩ := id hx.hs.shape
 refine calls_fxM (args := [.agg (zl x ⟨.slice Ap x.lp.length cp, .slice As x.ls.length cs⟩), numV n]) 39 Tryz.func42 rfl rfl rfl ?_
 intro fa F
 have M := Mx.start w
 replace M := M.argB 0 hx.hp (fun g e => by cases e)
 replace M := M.argB 1 hx.hs (fun g e => by cases e)
 refine zSk fun _ hK1 => ?_
 refine zR ?_
 refine zo (zc rfl) rfl F rfl M 2 (t := 37) (c := zl x ⟨.slice Ap x.lp.length cp, .slice As x.ls.length cs⟩) (by unfold execOp; simp only [(F.get (t := 0) rfl)]; kernel_rfl) ?_
 intro g2 a2 w2 F2 M2
 clear F M
 refine zo (zc rfl) rfl F2 rfl M2 3 (t := 27) (c := numA n) (by unfold execOp; simp only [(F2.get (t := 1) rfl)]; kernel_rfl) ?_
 intro g3 a3 w3 F3 M3
 clear F2 M2
 refine zo (zc rfl) rfl F3 rfl M3 4 (t := 37) (c := zl ⟨0, 0, 0, 0, "".toUTF8, [], 0, 0, 0, [], 0, (fun _ => 0), (fun _ => 0)⟩ ⟨zN, zN⟩) (by unfold execOp; kernel_rfl) ?_
 intro g4 a4 w4 F4 M4
 clear F3 M3
 refine hK1 _ _ ?_
 refine zSk fun _ hK5 => ?_
 refine zR ?_
 refine z6a (zc rfl) rfl F4 rfl (run_litO M4 5 [107, 101, 121] 3 rfl (by decide) (by decide) rfl (by simp only [List.map_toArray, List.map_cons, List.map_nil]; kernel_rfl)) ?_
 intro v6 a6 w6 F6 M6
 clear F4 M4
 obtain ⟨A6, c6, rfl⟩ := (M6.isO (k := 5) rfl).shape
 refine z6a (zc rfl) rfl F6 rfl (run_cvL M6 (k := 5) rfl (by decide) _ rfl (F6.get (t := 7) rfl)) ?_
 intro v7 a7 w7 F7 M7
 clear F6 M6
 obtain ⟨A7, c7, rfl⟩ := (M7.isb (k := 5) rfl).shape
 refine zh (w' := w7) (zc rfl) rfl F7 rfl (numV n) (zga _ _ rfl (F7.get (t := 3) rfl) (M7.blk (k := 3) rfl) (numA n) (zta rfl) Tryz.underlying27 rfl ze) fun _ F8 => ?_
 clear F7
 refine zea (zc rfl) rfl F8 rfl rfl (zE Tryz.func74 rfl) #[numV n] (z2a (F8.get (t := 9) rfl)) ((bytes_o n w7)) ?_
 rintro v9 w9 a9 h9 F9
 have M9 := M7.newO h9.2 6 h9.1
 clear M7 h9
 obtain ⟨A9, c9, rfl⟩ := (M9.isO (k := 6) rfl).shape
 refine z3b (zc rfl) rfl F9 rfl M9 7 (t := 22) (c := #[.slice A7 ([107, 101, 121]).length c7, .slice A9 ((zz n)).length c9]) (k := 2) (m := 2) (y_litG 54 22 (s := 1) (zv := zN) Tryz.underlying54 (by kernel_rfl) (by kernel_rfl) rfl (#[.slice A7 ([107, 101, 121]).length c7, .slice A9 ((zz n)).length c9]) (by decide) (by decide) (by simp only [List.map_toArray, List.map_cons, List.map_nil, (F9.get (t := 8) rfl), (F9.get (t := 10) rfl)]; kernel_rfl)) ?_
 intro g10 a10 w10 F10 M10
 clear F9 M9
 refine zea (zc rfl) rfl F10 rfl rfl (zE Tryz.func69 rfl) #[.slice (some ⟨g10, 0, none⟩) 2 2] (z2a (F10.get (t := 11) rfl)) (zha ((kO w10 _ (isP_blk (M10.blk (k := 7) rfl) rfl rfl (by decide) (fun j l hj => by
   match j, hj with
   | 0, hj => obtain rfl : [107, 101, 121] = l := Option.some.inj hj; exact ⟨_, rfl, (M10.isb (k := 5) rfl)⟩
   | 1, hj => obtain rfl : zz n = l := Option.some.inj hj; exact ⟨_, rfl, (M10.isO (k := 6) rfl)⟩
   | n + 2, hj => cases hj))))) ?_
 rintro _ w11 a11 ⟨rfl, b11⟩ F11
 have M11 := M10.step b11
 refine zh (w' := w11) (zc rfl) rfl F11 rfl (.pointer (some ⟨g2, 60, none⟩)) (y_fa (off := 60) rfl (F11.get (t := 2) rfl) (by kernel_rfl) rfl) fun _ F12 => ?_
 clear F11
 refine zka (zc rfl) rfl F12 M11 (k := 2) rfl _ _ _ rfl (F12.get (t := 13) rfl) (F12.get (t := 12) rfl) (zk (outF S)) (zl ⟨x.k, x.P, x.Q, x.g, x.s, x.lp, x.A, x.B, x.O, x.ls, x.V, (outF S), x.Pr⟩ ⟨.slice Ap x.lp.length cp, .slice As x.ls.length cs⟩) rfl (zL rfl) (zla _) (by kernel_rfl) (by kernel_rfl) ?_
 intro w13 M13
 clear M11
 refine hK5 _ _ ?_
 refine zSk fun _ hK14 => ?_
 refine zR ?_
 refine z6a (zc rfl) rfl F12 rfl (run_litO M13 8 [49] 1 rfl (by decide) (by decide) rfl (by simp only [List.map_toArray, List.map_cons, List.map_nil]; kernel_rfl)) ?_
 intro v15 a15 w15 F15 M15
 clear F12 M13
 obtain ⟨A15, c15, rfl⟩ := (M15.isO (k := 8) rfl).shape
 refine z6a (zc rfl) rfl F15 rfl (run_cvL M15 (k := 8) rfl (by decide) _ rfl (F15.get (t := 14) rfl)) ?_
 intro v16 a16 w16 F16 M16
 clear F15 M15
 obtain ⟨A16, c16, rfl⟩ := (M16.isb (k := 8) rfl).shape
 refine zAx 2 [(16, .pointer (some ⟨g2, 25, none⟩)), (17, .string x.s)] [0] (z7a (M16.blk (k := 2) rfl) dnil) [g2] F16 fun _ F17 => ?_
 clear F16
 refine z6a (zc rfl) rfl F17 rfl (run_cvS M16 9 _ rfl (F17.get (t := 17) rfl) (by omega)) ?_
 intro v18 a18 w18 F18 M18
 clear F17 M16
 have fr18 := M18.frN (k := 9) rfl
 replace M18 := M18.unN (k := 9) rfl
 obtain ⟨A18, c18, rfl⟩ := (M18.isb (k := 9) rfl).shape
 refine zAx 2 [(19, .pointer (some ⟨g2, 51, none⟩)), (20, .slice As x.ls.length cs)] [0] (z7a (M18.blk (k := 2) rfl) dnil) [g2] F18 fun _ F19 => ?_
 clear F18
 refine z3b (zc rfl) rfl F19 rfl M18 10 (t := 22) (c := #[.slice A16 ([49]).length c16, .slice A18 ((sBy x.s)).length c18, .slice As x.ls.length cs]) (k := 3) (m := 3) (y_litG 54 22 (s := 1) (zv := zN) Tryz.underlying54 (by kernel_rfl) (by kernel_rfl) rfl (#[.slice A16 ([49]).length c16, .slice A18 ((sBy x.s)).length c18, .slice As x.ls.length cs]) (by decide) (by decide) (by simp only [List.map_toArray, List.map_cons, List.map_nil, (F19.get (t := 15) rfl), (F19.get (t := 18) rfl), (F19.get (t := 20) rfl)]; kernel_rfl)) ?_
 intro g20 a20 w20 F20 M20
 clear F19 M18
 refine zo (zc rfl) rfl F20 rfl M20 11 (t := 54) (c := #[zN]) (by unfold execOp; kernel_rfl) ?_
 intro g21 a21 w21 F21 M21
 clear F20 M20
 refine zka (zc rfl) rfl F21 M21 (k := 11) rfl _ _ _ rfl (F21.get (t := 5) rfl) (F21.get (t := 21) rfl) (#[.slice (some ⟨g20, 0, none⟩) 3 3]) _ rfl (zL rfl) (one_slc rfl) (zx rfl) (by kernel_rfl) ?_
 intro w22 M22
 clear M21
 refine hK14 _ _ ?_
 refine zSk fun _ hK23 => ?_
 refine zSk fun _ hK24 => ?_
 refine zR ?_
 refine zB 4 [(2, .pointer (some ⟨g2, 0, none⟩)), (4, .pointer (some ⟨g4, 0, none⟩)), (5, .pointer (some ⟨g21, 0, none⟩)), (23, numV x.A), (25, numV x.B)] [0, 0] (z7a (M22.blk (k := 2) rfl) dnil) [g2, g2] F21 fun _ F25 => ?_
 clear F21
 refine z3b (zc rfl) rfl F25 rfl M22 12 (t := 27) (c := nn2 x.A x.B) (k := 2) (m := 2) (y_litG 137 27 (s := 8) (zv := .agg (numA 0)) Tryz.underlying137 (by kernel_rfl) (by kernel_rfl) rfl (nn2 x.A x.B) (by decide) (by decide) (by simp only [List.map_toArray, List.map_cons, List.map_nil, (F25.get (t := 23) rfl), (F25.get (t := 25) rfl)]; kernel_rfl)) ?_
 intro g26 a26 w26 F26 M26
 clear F25 M22
 refine zea (zc rfl) rfl F26 rfl rfl (zE Tryz.func75 rfl) #[.slice (some ⟨g26, 0, none⟩) 2 2] (z2a (F26.get (t := 26) rfl)) (written_ex g26 w26) ?_
 rintro _ w27 a27 ⟨g27, rfl, hg27, hc27, b27⟩ F27
 have M27 := M26.newb b27 13 hg27 hc27
 clear M26 hg27 hc27 b27
 refine hK24 _ _ ?_
 refine wp_block ?_
 have M28 := ((M27.blkRow (k := 10) (n := 3) rfl rfl (by decide) (by decide)).valsNil 14)
 replace M28 := M28.valsAdd (k := 14) (k2 := 8) rfl rfl
 replace M28 := M28.valsAdd (k := 14) (k2 := 9) rfl rfl
 replace M28 := M28.valsAdd (k := 14) (k2 := 1) rfl rfl
 refine range_fx3 F27 (gf := 108) (lb := #[.pointer (some ⟨g27, 0, none⟩)]) (F27.get (t := 27) rfl) (zE Tryz.func108 rfl) rfl (α := Nat × Value) (fun z => z.2)
  (fun z W => z.1 < 2 ∧ ∃ (ev : Value) (vs : List Value), Mx none w W [(15, bytR (zz (sel2 x.A x.B z.1)) z.2), (10, rowR 22 1 (3 + z.1) vs ev), (14, valsR (shL x z.1) vs), (0, bytR x.lp (.slice Ap x.lp.length cp)), (1, bytR x.ls (.slice As x.ls.length cs)), (2, blkR g2 37 (zl ⟨x.k, x.P, x.Q, x.g, x.s, x.lp, x.A, x.B, x.O, x.ls, x.V, (outF S), x.Pr⟩ ⟨.slice Ap x.lp.length cp, .slice As x.ls.length cs⟩)), (4, blkR g4 37 (zl ⟨0, 0, 0, 0, "".toUTF8, [], 0, 0, 0, [], 0, (fun _ => 0), (fun _ => 0)⟩ ⟨zN, zN⟩)), (12, blkR g26 27 (nn2 x.A x.B)), (13, blkR g27 137 (#[.slice (some ⟨g26, 0, none⟩) 2 2])), (11, blkR g21 54 (#[ev]))]) (fun z W => (∃ (ev : Value) (vs : List Value), Mx none w W [(10, rowR 22 1 (3 + (z.1 + 1)) vs ev), (14, valsR (shL x (z.1 + 1)) vs), (0, bytR x.lp (.slice Ap x.lp.length cp)), (1, bytR x.ls (.slice As x.ls.length cs)), (2, blkR g2 37 (zl ⟨x.k, x.P, x.Q, x.g, x.s, x.lp, x.A, x.B, x.O, x.ls, x.V, (outF S), x.Pr⟩ ⟨.slice Ap x.lp.length cp, .slice As x.ls.length cs⟩)), (4, blkR g4 37 (zl ⟨0, 0, 0, 0, "".toUTF8, [], 0, 0, 0, [], 0, (fun _ => 0), (fun _ => 0)⟩ ⟨zN, zN⟩)), (12, blkR g26 27 (nn2 x.A x.B)), (13, blkR g27 137 (#[.slice (some ⟨g26, 0, none⟩) 2 2])), (11, blkR g21 54 (#[ev]))])) (fun _ _ => False) (fun W => (∃ (ev : Value) (vs : List Value), Mx none w W [(10, rowR 22 1 (3 + 2) vs ev), (14, valsR (shL x 2) vs), (0, bytR x.lp (.slice Ap x.lp.length cp)), (1, bytR x.ls (.slice As x.ls.length cs)), (2, blkR g2 37 (zl ⟨x.k, x.P, x.Q, x.g, x.s, x.lp, x.A, x.B, x.O, x.ls, x.V, (outF S), x.Pr⟩ ⟨.slice Ap x.lp.length cp, .slice As x.ls.length cs⟩)), (4, blkR g4 37 (zl ⟨0, 0, 0, 0, "".toUTF8, [], 0, 0, 0, [], 0, (fun _ => 0), (fun _ => 0)⟩ ⟨zN, zN⟩)), (12, blkR g26 27 (nn2 x.A x.B)), (13, blkR g27 137 (#[.slice (some ⟨g26, 0, none⟩) 2 2])), (11, blkR g21 54 (#[ev]))])) ?_ ?_ ?_ ?_
 ·intro l D o1 o2 W1 hD hL bW hrec hY
  have M1 := M28.step bW
  refine written1_any g27 g26 x.A x.B (fun k W => (∃ (ev : Value) (vs : List Value), Mx none w W [(10, rowR 22 1 (3 + k) vs ev), (14, valsR (shL x k) vs), (0, bytR x.lp (.slice Ap x.lp.length cp)), (1, bytR x.ls (.slice As x.ls.length cs)), (2, blkR g2 37 (zl ⟨x.k, x.P, x.Q, x.g, x.s, x.lp, x.A, x.B, x.O, x.ls, x.V, (outF S), x.Pr⟩ ⟨.slice Ap x.lp.length cp, .slice As x.ls.length cs⟩)), (4, blkR g4 37 (zl ⟨0, 0, 0, 0, "".toUTF8, [], 0, 0, 0, [], 0, (fun _ => 0), (fun _ => 0)⟩ ⟨zN, zN⟩)), (12, blkR g26 27 (nn2 x.A x.B)), (13, blkR g27 137 (#[.slice (some ⟨g26, 0, none⟩) 2 2])), (11, blkR g21 54 (#[ev]))])) _ l D o1 o2 W1 ?_ ?_ ⟨.slice (some ⟨g20, 0, none⟩) 3 3, [.slice A16 ([49]).length c16, .slice A18 ((sBy x.s)).length c18, .slice As x.ls.length cs], M1.sub ⟨rfl, rfl, rfl, rfl, rfl, rfl, rfl, rfl, rfl, trivial⟩⟩ hrec
  ·rintro k W ⟨ev, vs, M⟩
   exact ⟨M.blk (k := 13) rfl, M.blk (k := 12) rfl⟩
  ·rintro k W W' v hk ⟨ev, vs, M⟩ hb hv hf hre
   exact hY (k, v) W' ⟨hk, ev, vs, M.fresh hb 15 _ hv bytR_dep (fun b hb2 => ⟨hf b hb2, hv.lt hb2⟩)⟩ hre
 ·have hwle := M28.le
  rintro l ⟨k, bv⟩ W ra F28 hlo hlt ⟨hk, ev, vs, M28⟩
  replace F28 : Fx 39 ra _ := F28
  dsimp only at hk M28 F28 ⊢
  obtain ⟨Ab, cb, rfl⟩ := (M28.isb (k := 15) rfl).shape
  have CM : CellsA _ _ := (show CellsA W [(15, bytR (zz (sel2 x.A x.B k)) (.slice Ab (zz (sel2 x.A x.B k)).length cb)), (10, rowR 22 1 (3 + k) vs ev), (14, valsR (shL x k) vs), (0, bytR x.lp (.slice Ap x.lp.length cp)), (1, bytR x.ls (.slice As x.ls.length cs)), (2, blkR g2 37 (zl ⟨x.k, x.P, x.Q, x.g, x.s, x.lp, x.A, x.B, x.O, x.ls, x.V, (outF S), x.Pr⟩ ⟨.slice Ap x.lp.length cp, .slice As x.ls.length cs⟩)), (4, blkR g4 37 (zl ⟨0, 0, 0, 0, "".toUTF8, [], 0, 0, 0, [], 0, (fun _ => 0), (fun _ => 0)⟩ ⟨zN, zN⟩)), (12, blkR g26 27 (nn2 x.A x.B)), (13, blkR g27 137 (#[.slice (some ⟨g26, 0, none⟩) 2 2])), (11, blkR g21 54 (#[ev]))] from ⟨z9a (M28.at_ 15 _ rfl), cells_row (M28.at_ 10 _ rfl), cells_vals (M28.at_ 14 _ rfl), z9a (M28.at_ 0 _ rfl), z9a (M28.at_ 1 _ rfl), zna (M28.at_ 2 _ rfl), zna (M28.at_ 4 _ rfl), zna (M28.at_ 12 _ rfl), zna (M28.at_ 13 _ rfl), zna (M28.at_ 11 _ rfl), trivial⟩)
  replace M28 : Mx none w W [(15, bytR (zz (sel2 x.A x.B k)) (.slice Ab (zz (sel2 x.A x.B k)).length cb)), (10, rowR 22 1 (3 + k) vs ev), (14, valsR (shL x k) vs), (0, bytR x.lp (.slice Ap x.lp.length cp)), (1, bytR x.ls (.slice As x.ls.length cs)), (2, blkR g2 37 (zl ⟨x.k, x.P, x.Q, x.g, x.s, x.lp, x.A, x.B, x.O, x.ls, x.V, (outF S), x.Pr⟩ ⟨.slice Ap x.lp.length cp, .slice As x.ls.length cs⟩)), (4, blkR g4 37 (zl ⟨0, 0, 0, 0, "".toUTF8, [], 0, 0, 0, [], 0, (fun _ => 0), (fun _ => 0)⟩ ⟨zN, zN⟩)), (12, blkR g26 27 (nn2 x.A x.B)), (13, blkR g27 137 (#[.slice (some ⟨g26, 0, none⟩) 2 2])), (11, blkR g21 54 (#[ev]))] := M28
  have N28 := M28.oth CM 18
  clear CM M28
  refine wpIn_lit' (fun ⟨_, _, h⟩ => h) rfl ?_
  refine rm rfl F28 fun _ F29 => ?_
  refine ⟨N28.keeps (i := 18) rfl, fun o hnc hoc => ?_⟩
  have hlz : l < W.heap.size := Nat.lt_of_lt_of_le hlt (N28.keeps (i := 18) rfl).size
  have M30 : Mx none w W [(15, bytR (zz (sel2 x.A x.B k)) (.slice Ab (zz (sel2 x.A x.B k)).length cb)), (10, rowR 22 1 (3 + k) vs ev), (14, valsR (shL x k) vs), (0, bytR x.lp (.slice Ap x.lp.length cp)), (1, bytR x.ls (.slice As x.ls.length cs)), (2, blkR g2 37 (zl ⟨x.k, x.P, x.Q, x.g, x.s, x.lp, x.A, x.B, x.O, x.ls, x.V, (outF S), x.Pr⟩ ⟨.slice Ap x.lp.length cp, .slice As x.ls.length cs⟩)), (4, blkR g4 37 (zl ⟨0, 0, 0, 0, "".toUTF8, [], 0, 0, 0, [], 0, (fun _ => 0), (fun _ => 0)⟩ ⟨zN, zN⟩)), (12, blkR g26 27 (nn2 x.A x.B)), (13, blkR g27 137 (#[.slice (some ⟨g26, 0, none⟩) 2 2])), (11, blkR g21 54 (#[ev]))] := N28.sub ⟨rfl, rfl, rfl, rfl, rfl, rfl, rfl, rfl, rfl, rfl, trivial⟩
  clear N28
  have CM : CellsA _ _ := (show CellsA W [(15, bytR (zz (sel2 x.A x.B k)) (.slice Ab (zz (sel2 x.A x.B k)).length cb)), (10, rowR 22 1 (3 + k) vs ev), (14, valsR (shL x k) vs), (0, bytR x.lp (.slice Ap x.lp.length cp)), (1, bytR x.ls (.slice As x.ls.length cs)), (2, blkR g2 37 (zl ⟨x.k, x.P, x.Q, x.g, x.s, x.lp, x.A, x.B, x.O, x.ls, x.V, (outF S), x.Pr⟩ ⟨.slice Ap x.lp.length cp, .slice As x.ls.length cs⟩)), (4, blkR g4 37 (zl ⟨0, 0, 0, 0, "".toUTF8, [], 0, 0, 0, [], 0, (fun _ => 0), (fun _ => 0)⟩ ⟨zN, zN⟩)), (12, blkR g26 27 (nn2 x.A x.B)), (13, blkR g27 137 (#[.slice (some ⟨g26, 0, none⟩) 2 2])), (11, blkR g21 54 (#[ev]))] from ⟨z9a (M30.at_ 15 _ rfl), cells_row (M30.at_ 10 _ rfl), cells_vals (M30.at_ 14 _ rfl), z9a (M30.at_ 0 _ rfl), z9a (M30.at_ 1 _ rfl), zna (M30.at_ 2 _ rfl), zna (M30.at_ 4 _ rfl), zna (M30.at_ 12 _ rfl), zna (M30.at_ 13 _ rfl), zna (M30.at_ 11 _ rfl), trivial⟩)
  have N30 := M30.putObj CM (by omega) hnc o
  have hLo : (W.putObj l o).heap[l]? = some o := World.putObj_heap_same hlz
  clear CM M30
  obtain ⟨Wp, hWp⟩ : ∃ x, x = W.putObj l o := ⟨_, rfl⟩
  rw [← hWp] at N30 hLo ⊢
  have CM : CellsA _ _ := (show CellsA Wp [(15, bytR (zz (sel2 x.A x.B k)) (.slice Ab (zz (sel2 x.A x.B k)).length cb)), (10, rowR 22 1 (3 + k) vs ev), (14, valsR (shL x k) vs), (0, bytR x.lp (.slice Ap x.lp.length cp)), (1, bytR x.ls (.slice As x.ls.length cs)), (2, blkR g2 37 (zl ⟨x.k, x.P, x.Q, x.g, x.s, x.lp, x.A, x.B, x.O, x.ls, x.V, (outF S), x.Pr⟩ ⟨.slice Ap x.lp.length cp, .slice As x.ls.length cs⟩)), (4, blkR g4 37 (zl ⟨0, 0, 0, 0, "".toUTF8, [], 0, 0, 0, [], 0, (fun _ => 0), (fun _ => 0)⟩ ⟨zN, zN⟩)), (12, blkR g26 27 (nn2 x.A x.B)), (13, blkR g27 137 (#[.slice (some ⟨g26, 0, none⟩) 2 2])), (11, blkR g21 54 (#[ev]))] from ⟨z9a (N30.at_ 15 _ rfl), cells_row (N30.at_ 10 _ rfl), cells_vals (N30.at_ 14 _ rfl), z9a (N30.at_ 0 _ rfl), z9a (N30.at_ 1 _ rfl), zna (N30.at_ 2 _ rfl), zna (N30.at_ 4 _ rfl), zna (N30.at_ 12 _ rfl), zna (N30.at_ 13 _ rfl), zna (N30.at_ 11 _ rfl), trivial⟩)
  have P30 := N30.oth CM 16
  clear CM N30
  refine wpIn_block ?_
  refine wpIn_lit' (fun ⟨_, _, h⟩ => h) rfl ?_
  refine zh (w' := Wp) (zc rfl) rfl F29 rfl (ev) (y_ld1 _ _ rfl (F29.get (t := 5) rfl) (P30.blk (k := 11) rfl) rfl Tryz.underlying54 rfl) fun _ F31 => ?_
  clear F29
  refine rm rfl F31 fun _ F32 => ?_
  refine z3b (zc rfl) rfl F32 rfl P30 19 (t := 22) (c := #[.slice Ab (zz (sel2 x.A x.B k)).length cb]) (k := 1) (m := 1) (y_litG 54 22 (s := 1) (zv := zN) Tryz.underlying54 (by kernel_rfl) (by kernel_rfl) rfl (#[.slice Ab (zz (sel2 x.A x.B k)).length cb]) (by decide) (by decide) (by simp only [List.map_toArray, List.map_cons, List.map_nil, (F32.get (t := 30) rfl)]; kernel_rfl)) ?_
  intro g33 a33 w33 F33 M33
  clear F32 P30
  refine z6a (zc rfl) rfl F33 rfl (run_appR M33 (k := 10) (kb := 19) (by_ := 24) rfl rfl rfl (one_slc rfl) (by decide) Tryz.underlying54 (by kernel_rfl) (by omega) (by unfold maxLen; omega) _ _ rfl (F33.get (t := 29) rfl) (F33.get (t := 31) rfl)) ?_
  intro v34 a34 w34 F34 M34
  clear F33 M33
  replace M34 := M34.valsAdd (k := 14) (k2 := 15) rfl rfl
  obtain ⟨Ar34, cr34, rfl, -⟩ := row_slice (M34.rowF (k := 10) rfl)
  refine zka (zc rfl) rfl F34 M34 (k := 11) rfl _ _ _ rfl (F34.get (t := 5) rfl) (F34.get (t := 32) rfl) (#[.slice Ar34 (3 + k + 1) cr34]) _ rfl (zL rfl) (one_slc rfl) (zx rfl) (by kernel_rfl) ?_
  intro w35 M35
  clear M34
  have KO := M35.keeps (i := 16) rfl
  have Me : Mx none w w35 [(10, rowR 22 1 (3 + (k + 1)) (vs ++ [.slice Ab (zz (sel2 x.A x.B k)).length cb]) (.slice Ar34 (3 + k + 1) cr34)), (14, valsR (shL x (k + 1)) (vs ++ [.slice Ab (zz (sel2 x.A x.B k)).length cb])), (0, bytR x.lp (.slice Ap x.lp.length cp)), (1, bytR x.ls (.slice As x.ls.length cs)), (2, blkR g2 37 (zl ⟨x.k, x.P, x.Q, x.g, x.s, x.lp, x.A, x.B, x.O, x.ls, x.V, (outF S), x.Pr⟩ ⟨.slice Ap x.lp.length cp, .slice As x.ls.length cs⟩)), (4, blkR g4 37 (zl ⟨0, 0, 0, 0, "".toUTF8, [], 0, 0, 0, [], 0, (fun _ => 0), (fun _ => 0)⟩ ⟨zN, zN⟩)), (12, blkR g26 27 (nn2 x.A x.B)), (13, blkR g27 137 (#[.slice (some ⟨g26, 0, none⟩) 2 2])), (11, blkR g21 54 (#[(.slice Ar34 (3 + k + 1) cr34)]))] := M35.sub ⟨rfl, (by rw [shL_succ x hk]; rfl), rfl, rfl, rfl, rfl, rfl, rfl, rfl, trivial⟩
  have CM : CellsA _ _ := (show CellsA w35 [(10, rowR 22 1 (3 + (k + 1)) (vs ++ [.slice Ab (zz (sel2 x.A x.B k)).length cb]) (.slice Ar34 (3 + k + 1) cr34)), (14, valsR (shL x (k + 1)) (vs ++ [.slice Ab (zz (sel2 x.A x.B k)).length cb])), (0, bytR x.lp (.slice Ap x.lp.length cp)), (1, bytR x.ls (.slice As x.ls.length cs)), (2, blkR g2 37 (zl ⟨x.k, x.P, x.Q, x.g, x.s, x.lp, x.A, x.B, x.O, x.ls, x.V, (outF S), x.Pr⟩ ⟨.slice Ap x.lp.length cp, .slice As x.ls.length cs⟩)), (4, blkR g4 37 (zl ⟨0, 0, 0, 0, "".toUTF8, [], 0, 0, 0, [], 0, (fun _ => 0), (fun _ => 0)⟩ ⟨zN, zN⟩)), (12, blkR g26 27 (nn2 x.A x.B)), (13, blkR g27 137 (#[.slice (some ⟨g26, 0, none⟩) 2 2])), (11, blkR g21 54 (#[(.slice Ar34 (3 + k + 1) cr34)]))] from ⟨cells_row (Me.at_ 10 _ rfl), cells_vals (Me.at_ 14 _ rfl), z9a (Me.at_ 0 _ rfl), z9a (Me.at_ 1 _ rfl), zna (Me.at_ 2 _ rfl), zna (Me.at_ 4 _ rfl), zna (Me.at_ 12 _ rfl), zna (Me.at_ 13 _ rfl), zna (Me.at_ 11 _ rfl), trivial⟩)
  exact ⟨KO, fun o2 => ⟨_, _, Me.putObj CM (by omega) (fun o3 h3 => by rw [KO.same l o hLo hoc] at h3; cases h3; exact hoc) o2⟩⟩
 ·rintro l D o W a37 hD hL ⟨ev, vs, M37⟩ hnc hdd F37
  have hwle := M28.le
  have CM : CellsA W [(10, rowR 22 1 (3 + 2) vs ev), (14, valsR (shL x 2) vs), (0, bytR x.lp (.slice Ap x.lp.length cp)), (1, bytR x.ls (.slice As x.ls.length cs)), (2, blkR g2 37 (zl ⟨x.k, x.P, x.Q, x.g, x.s, x.lp, x.A, x.B, x.O, x.ls, x.V, (outF S), x.Pr⟩ ⟨.slice Ap x.lp.length cp, .slice As x.ls.length cs⟩)), (4, blkR g4 37 (zl ⟨0, 0, 0, 0, "".toUTF8, [], 0, 0, 0, [], 0, (fun _ => 0), (fun _ => 0)⟩ ⟨zN, zN⟩)), (12, blkR g26 27 (nn2 x.A x.B)), (13, blkR g27 137 (#[.slice (some ⟨g26, 0, none⟩) 2 2])), (11, blkR g21 54 (#[ev]))] := ⟨cells_row (M37.at_ 10 _ rfl), cells_vals (M37.at_ 14 _ rfl), z9a (M37.at_ 0 _ rfl), z9a (M37.at_ 1 _ rfl), zna (M37.at_ 2 _ rfl), zna (M37.at_ 4 _ rfl), zna (M37.at_ 12 _ rfl), zna (M37.at_ 13 _ rfl), zna (M37.at_ 11 _ rfl), trivial⟩
  replace M37 := M37.putObj CM (by omega) hnc o
  clear CM
  have CM : CellsA (W.putObj l o) [(10, rowR 22 1 (3 + 2) vs ev), (14, valsR (shL x 2) vs), (0, bytR x.lp (.slice Ap x.lp.length cp)), (1, bytR x.ls (.slice As x.ls.length cs)), (2, blkR g2 37 (zl ⟨x.k, x.P, x.Q, x.g, x.s, x.lp, x.A, x.B, x.O, x.ls, x.V, (outF S), x.Pr⟩ ⟨.slice Ap x.lp.length cp, .slice As x.ls.length cs⟩)), (4, blkR g4 37 (zl ⟨0, 0, 0, 0, "".toUTF8, [], 0, 0, 0, [], 0, (fun _ => 0), (fun _ => 0)⟩ ⟨zN, zN⟩)), (12, blkR g26 27 (nn2 x.A x.B)), (13, blkR g27 137 (#[.slice (some ⟨g26, 0, none⟩) 2 2])), (11, blkR g21 54 (#[ev]))] := ⟨cells_row (M37.at_ 10 _ rfl), cells_vals (M37.at_ 14 _ rfl), z9a (M37.at_ 0 _ rfl), z9a (M37.at_ 1 _ rfl), zna (M37.at_ 2 _ rfl), zna (M37.at_ 4 _ rfl), zna (M37.at_ 12 _ rfl), zna (M37.at_ 13 _ rfl), zna (M37.at_ 11 _ rfl), trivial⟩
  replace M37 := M37.obj CM 17 D _ hdd rfl
  clear CM
  have hDge : w.heap.size ≤ D := by omega
  clear hdd hnc hL hD
  obtain ⟨w37, hw37⟩ : ∃ x, x = W.putObj l o := ⟨_, rfl⟩
  rw [← hw37] at M37 ⊢
  clear hw37 F27 M28
  refine hK23 _ _ ?_
  refine zSk fun _ hK38 => ?_
  refine zqb F37 [fun vE => vE = .pointer (some ⟨g2, 60, none⟩), fun vE => vE = .slice (some ⟨g2, 60, none⟩) 16 16, fun vE => vE = ev] (JM none w fun SV pV => [(17, objR D (.deferred (some []))), (10, rowR 22 1 (3 + 2) vs ev), (14, valsR (shL x 2) vs), (0, bytR x.lp (.slice Ap x.lp.length cp)), (1, bytR x.ls (.slice As x.ls.length cs)), (2, blkR g2 37 (zl ⟨x.k, x.P, x.Q, x.g, x.s, x.lp, x.A, x.B, x.O, x.ls, x.V, (outF S), x.Pr⟩ ⟨.slice Ap x.lp.length cp, .slice As x.ls.length cs⟩)), (4, blkR g4 37 (zl ⟨0, 0, 0, 0, "".toUTF8, [], 0, 0, 0, [], 0, (fun _ => 0), (fun _ => 0)⟩ ⟨zN, zN⟩)), (12, blkR g26 27 (nn2 x.A x.B)), (13, blkR g27 137 (#[.slice (some ⟨g26, 0, none⟩) 2 2])), (11, blkR g21 54 (#[ev]))]) 3 rfl (by kernel_rfl) rfl ⟨trivial, trivial, trivial, trivial⟩ (fun p => (M37.step (zya _)).sub ⟨rfl, rfl, rfl, rfl, rfl, rfl, rfl, rfl, rfl, rfl, trivial⟩) ⟨?_, ?_, ?_, trivial⟩ ?_
  ·intro ua uw SV pV M0 hk hn hd
   have M : Mx none w uw _ := M0
   clear M0
   have e2 : ua.eval (.tmp 2) = .pointer (some ⟨g2, 0, none⟩) := (show ua.eval (.tmp 2) = _ from hd 2 (by decide)).trans (F37.get (t := 2) rfl)
   exact zp (zc rfl) (.pointer (some ⟨g2, 60, none⟩)) (y_fa (off := 60) rfl e2 (by kernel_rfl) rfl) rfl (M.sub ⟨rfl, rfl, rfl, rfl, rfl, rfl, rfl, rfl, rfl, rfl, trivial⟩)
  ·intro ua uw SV pV M0 hk hn hd
   have M : Mx none w uw _ := M0
   clear M0
   obtain ⟨s0, f33, q33⟩ := (show SV 0 = true ∧ ua.eval (.tmp 33) = pV 0 ∧ stE _ 0 (pV 0) from hd 33 (by decide))
   have e33 : ua.eval (.tmp 33) = .pointer (some ⟨g2, 60, none⟩) := f33.trans q33
   exact zp (zc rfl) (.slice (some ⟨g2, 60, none⟩) 16 16) (y_sliceSumO _ rfl e33) rfl (M.sub ⟨rfl, rfl, rfl, rfl, rfl, rfl, rfl, rfl, rfl, rfl, trivial⟩)
  ·intro ua uw SV pV M0 hk hn hd
   have M : Mx none w uw _ := M0
   clear M0
   have e5 : ua.eval (.tmp 5) = .pointer (some ⟨g21, 0, none⟩) := (show ua.eval (.tmp 5) = _ from hd 5 (by decide)).trans (F37.get (t := 5) rfl)
   exact zp (zc rfl) (ev) (y_ld1 _ _ rfl e5 (M.blk (k := 11) rfl) rfl Tryz.underlying54 rfl) rfl (M.sub ⟨rfl, rfl, rfl, rfl, rfl, rfl, rfl, rfl, rfl, rfl, trivial⟩)
  intro p39 a39 w39 M39 G39 y39
  obtain ⟨-, q1, q2, -⟩ := y39
  have r1 : p39 1 = .slice (some ⟨g2, 60, none⟩) 16 16 := q1
  have r2 : p39 2 = ev := q2
  replace M39 : Mx _ _ w39 [(17, objR D (.deferred (some []))), (10, rowR 22 1 (3 + 2) vs ev), (14, valsR (shL x 2) vs), (0, bytR x.lp (.slice Ap x.lp.length cp)), (1, bytR x.ls (.slice As x.ls.length cs)), (2, blkR g2 37 (zl ⟨x.k, x.P, x.Q, x.g, x.s, x.lp, x.A, x.B, x.O, x.ls, x.V, (outF S), x.Pr⟩ ⟨.slice Ap x.lp.length cp, .slice As x.ls.length cs⟩)), (4, blkR g4 37 (zl ⟨0, 0, 0, 0, "".toUTF8, [], 0, 0, 0, [], 0, (fun _ => 0), (fun _ => 0)⟩ ⟨zN, zN⟩)), (12, blkR g26 27 (nn2 x.A x.B)), (13, blkR g27 137 (#[.slice (some ⟨g26, 0, none⟩) 2 2])), (11, blkR g21 54 (#[ev]))] := M39
  simp only [List.take, layV, Nat.zero_add, Nat.reduceAdd, r1, r2] at G39
  refine zea (zc rfl) rfl G39 rfl rfl (zE Tryz.func76 rfl) #[.slice (some ⟨g2, 60, none⟩) 16 16, ev] (z7b (G39.get (t := 34) rfl) (G39.get (t := 35) rfl)) (zha ((kM _ _ _ (isb_sumO hbd (M39.blk (k := 2) rfl) (side_Ky (SideN.mk x.k x.P x.Q x.g x.s x.lp x.A x.B x.O x.ls x.V (outF S) x.Pr) _)) (M39.rowP (k := 10) (k2 := 14) rfl rfl rfl)))) ?_
  rintro _ w40 a40 ⟨rfl, b40⟩ F40
  have M40 := M39.step b40
  refine zh (w' := w40) (zc rfl) rfl F40 rfl (.pointer (some ⟨g2, 76, none⟩)) (y_fa (off := 76) rfl (F40.get (t := 2) rfl) (by kernel_rfl) rfl) fun _ F41 => ?_
  clear F40
  refine zka (zc rfl) rfl F41 M40 (k := 2) rfl _ _ _ rfl (F41.get (t := 37) rfl) (F41.get (t := 36) rfl) (zk (outF U)) (zl ⟨x.k, x.P, x.Q, x.g, x.s, x.lp, x.A, x.B, x.O, x.ls, x.V, (outF S), (outF U)⟩ ⟨.slice Ap x.lp.length cp, .slice As x.ls.length cs⟩) rfl (zL rfl) (zla _) (by kernel_rfl) (by kernel_rfl) ?_
  intro w42 M42
  clear M40
  refine hK38 _ _ ?_
  refine zSk fun _ hK43 => ?_
  refine zR ?_
  refine zh (w' := w42) (zc rfl) rfl F41 rfl _ (zga _ _ rfl (F41.get (t := 2) rfl) (M42.blk (k := 2) rfl) (zl ⟨x.k, x.P, x.Q, x.g, x.s, x.lp, x.A, x.B, x.O, x.ls, x.V, (outF S), (outF U)⟩ ⟨.slice Ap x.lp.length cp, .slice As x.ls.length cs⟩) (zta rfl) Tryz.underlying37 rfl (by kernel_rfl)) fun _ F44 => ?_
  clear F41
  refine zka (zc rfl) rfl F44 M42 (k := 4) rfl _ _ _ rfl (F44.get (t := 4) rfl) (F44.get (t := 38) rfl) (zl ⟨x.k, x.P, x.Q, x.g, x.s, x.lp, x.A, x.B, x.O, x.ls, x.V, (outF S), (outF U)⟩ ⟨.slice Ap x.lp.length cp, .slice As x.ls.length cs⟩) _ rfl (zL rfl) (zpb (w := w42) ⟨(M42.isb (k := 0) rfl), (M42.isb (k := 1) rfl)⟩) (zx rfl) (by kernel_rfl) ?_
  intro w45 M45
  clear M42
  refine hK43 _ _ ?_
  refine wp_ret ?_
  try simp only [Exit.then, Exit.inBlock, Exit.jump]
  have hDD := M45.anObj (i := 17) rfl
  have M9 : Mx none w w45 [(4, blkR g4 37 (zl ⟨x.k, x.P, x.Q, x.g, x.s, x.lp, x.A, x.B, x.O, x.ls, x.V, (outF S), (outF U)⟩ ⟨.slice Ap x.lp.length cp, .slice As x.ls.length cs⟩))] := M45.sub ⟨rfl, trivial⟩
  have Mz := M9.putObj (show CellsA w45 [(4, blkR g4 37 (zl ⟨x.k, x.P, x.Q, x.g, x.s, x.lp, x.A, x.B, x.O, x.ls, x.V, (outF S), (outF U)⟩ ⟨.slice Ap x.lp.length cp, .slice As x.ls.length cs⟩))] from ⟨zna (M9.at_ 4 _ rfl), trivial⟩) hDge (fun o3 h3 => by rw [hDD] at h3; cases h3; rfl) (.deferred none)
  exact bodyM_ret1 F44.defers hDD (results_cell_row rfl _ _ _ _ _ (0, 0) _ (F44.get (t := 4) rfl) (Mz.blk (k := 4) rfl) Tryz.underlying37 rfl (by kernel_rfl)) ⟨rfl, Mz.below⟩
 ·rintro l D o c W aq hD hL hff
  exact hff.elim
theorem hello_any (k : Int) (P Q g : Nat) (ho : P % 2 = 1) (h1 : 1 < P) (hP : P < 4294967296 ^ 8) (h2 : 2 < Q) (hQ : Q < 4294967296 ^ 8) (hg : g < 4294967296 ^ 8) (t : ByteArray) (lp ld : List UInt8) (vp vd : Value) (hpl : lp.length ≤ 100000) (w : World) (hp : IsB w lp vp) (hd : IsB w ld vd) :
  Calls Tryz.prog 13 #[.agg (zg k P Q g), .string t, vp, vd] w fun e w' => ∃ vc, e = .returned (.tuple #[.agg (zl ⟨k, P, Q, g, t, lp, g ^ texN Q [97] [ld] % P, 0, texN Q [97] [ld], [], 0, fun _ => 0, fun _ => 0⟩ ⟨vc, zN⟩), numV (g ^ texN Q [97] [ld] % P)]) ∧ SideIs w' ⟨k, P, Q, g, t, lp, g ^ texN Q [97] [ld] % P, 0, texN Q [97] [ld], [], 0, fun _ => 0, fun _ => 0⟩ ⟨vc, zN⟩ ∧ (∀ b, bfp vc b → w.heap.size ≤ b) ∧ Below w.heap.size w w' := by
 obtain ⟨O, hO⟩ : ∃ O, texN Q [97] [ld] = O := ⟨_, rfl⟩
 have hOl : O < 4294967296 ^ 8 := by rw [← hO]; exact Nat.lt_trans (expN_bd h2 _).2 hQ
 have kE := fun (w : World) (u : Value) (h : IsP w [ld] u) => texp_any k P Q g h2 hQ ({ data := #[97] } : ByteArray) (by decide) [ld] u (show 1 ≤ 90 by decide) w h
 rw [show texN Q (sBy ({ data := #[97] } : ByteArray)) [ld] = O from hO] at kE
 have kR := fun w => zkc k P Q g ho h1 hP g O hg hOl w
 rw [hO]
 obtain ⟨N, hN⟩ : ∃ N, g ^ O % P = N := ⟨_, rfl⟩
 rw [hN] at kR ⊢
 clear hN hO
 obtain ⟨Ap, cp, rfl⟩ := id hp.shape
 obtain ⟨As, cs, rfl⟩ := id hd.shape
 refine zra (args := [.agg (zg k P Q g), .string t, .slice Ap lp.length cp, .slice As ld.length cs]) 29 Tryz.func13 rfl rfl rfl ?_
 intro fa F
 have M := Mx.start w
 replace M := M.argB 0 hp (fun g e => by cases e)
 replace M := M.argB 1 hd (fun g e => by cases e)
 refine zSk fun _ hK1 => ?_
 refine zR ?_
 refine zo (zc rfl) rfl F rfl M 2 (t := 29) (c := zg k P Q g) (by unfold execOp; simp only [(F.get (t := 0) rfl)]; kernel_rfl) ?_
 intro g2 a2 w2 F2 M2
 clear F M
 refine zo (zc rfl) rfl F2 rfl M2 3 (t := 37) (c := zl ⟨0, 0, 0, 0, "".toUTF8, [], 0, 0, 0, [], 0, (fun _ => 0), (fun _ => 0)⟩ ⟨zN, zN⟩) (by unfold execOp; kernel_rfl) ?_
 intro g3 a3 w3 F3 M3
 clear F2 M2
 refine zo (zc rfl) rfl F3 rfl M3 4 (t := 27) (c := numA 0) (zba rfl) ?_
 intro g4 a4 w4 F4 M4
 clear F3 M3
 refine hK1 _ _ ?_
 refine zSk fun _ hK5 => ?_
 refine zR ?_
 refine zh (w' := w4) (zc rfl) rfl F4 rfl _ (zga _ _ rfl (F4.get (t := 4) rfl) (M4.blk (k := 2) rfl) (zg k P Q g) (zta rfl) Tryz.underlying29 rfl (by kernel_rfl)) fun _ F6 => ?_
 clear F4
 refine rm rfl F6 fun _ F7 => ?_
 refine z3b (zc rfl) rfl F7 rfl M4 5 (t := 22) (c := #[.slice As ld.length cs]) (k := 1) (m := 1) (y_litG 54 22 (s := 1) (zv := zN) Tryz.underlying54 (by kernel_rfl) (by kernel_rfl) rfl (#[.slice As ld.length cs]) (by decide) (by decide) (by simp only [List.map_toArray, List.map_cons, List.map_nil, (F7.get (t := 13) rfl)]; kernel_rfl)) ?_
 intro g8 a8 w8 F8 M8
 clear F7 M4
 refine zea (zc rfl) rfl F8 rfl rfl (zE Tryz.func35 rfl) #[.agg (zg k P Q g), .string ({ data := #[97] }), .slice (some ⟨g8, 0, none⟩) 1 1] (args3 (F8.get (t := 12) rfl) rfl (F8.get (t := 14) rfl)) (zha ((kE w8 _ (isP_blk (M8.blk (k := 5) rfl) rfl rfl (by decide) (fun j l hj => by
   match j, hj with
   | 0, hj => obtain rfl : ld = l := Option.some.inj hj; exact ⟨_, rfl, (M8.isb (k := 1) rfl)⟩
   | n + 1, hj => cases hj))))) ?_
 rintro _ w9 a9 ⟨rfl, b9⟩ F9
 have M9 := M8.step b9
 refine zo (zc rfl) rfl F9 rfl M9 6 (t := 27) (c := numA 0) (zba rfl) ?_
 intro g10 a10 w10 F10 M10
 clear F9 M9
 refine zka (zc rfl) rfl F10 M10 (k := 6) rfl _ _ _ rfl (F10.get (t := 10) rfl) (F10.get (t := 15) rfl) (numA O) _ rfl (zL rfl) (zoa _) (zx rfl) ze ?_
 intro w11 M11
 clear M10
 refine hK5 _ _ ?_
 refine zSk fun _ hK12 => ?_
 refine zR ?_
 refine zAx 4 [(16, .agg (zg k P Q g)), (17, .pointer (some ⟨g2, 17, none⟩)), (18, numV g), (19, numV O)] [0, 0, 1] (z7a (M11.blk (k := 2) rfl) (z7a (M11.blk (k := 6) rfl) dnil)) [g2, g2, g10] F10 fun _ F13 => ?_
 clear F10
 refine zea (zc rfl) rfl F13 rfl rfl (zE Tryz.func33 rfl) #[.agg (zg k P Q g), numV g, numV O] (args3 (F13.get (t := 16) rfl) (F13.get (t := 18) rfl) (F13.get (t := 19) rfl)) (zha (kR w11)) ?_
 rintro _ w14 a14 ⟨rfl, b14⟩ F14
 have M14 := M11.step b14
 refine zo (zc rfl) rfl F14 rfl M14 7 (t := 27) (c := numA 0) (zba rfl) ?_
 intro g15 a15 w15 F15 M15
 clear F14 M14
 refine zka (zc rfl) rfl F15 M15 (k := 7) rfl _ _ _ rfl (F15.get (t := 11) rfl) (F15.get (t := 20) rfl) (numA N) _ rfl (zL rfl) (zoa _) (zx rfl) ze ?_
 intro w16 M16
 clear M15
 refine hK12 _ _ ?_
 refine zSk fun _ hK17 => ?_
 refine zqb F15 [fun vE => vE = .agg (zg k P Q g), fun vE => vE = .string t, fun vE => vE = .slice Ap lp.length cp, fun _ => True, fun vE => vE = numV N, fun vE => vE = numV O, fun _ => True, fun vE => vE = numV N, fun vE => vE = undef] (JQ none w (fun SV => SV 6 = true → SV 3 = true) (fun (xJ : Unit) SV pV => [(0, bytR lp (.slice Ap lp.length cp)), (1, bytR ld (.slice As ld.length cs)), (2, blkR g2 29 (zg k P Q g)), (3, blkR g3 37 (zl (cond (SV 8) (⟨k, P, Q, g, t, lp, N, 0, O, [], 0, (fun _ => 0), (fun _ => 0)⟩ : SideN) ⟨0, 0, 0, 0, "".toUTF8, [], 0, 0, 0, [], 0, (fun _ => 0), (fun _ => 0)⟩) (cond (SV 8) (⟨(pV 3), zN⟩ : SideV) ⟨zN, zN⟩))), (4, blkR g4 27 (numA 0)), (5, blkR g8 22 (#[.slice As ld.length cs])), (6, blkR g10 27 (numA O)), (7, blkR g15 27 (numA N)), (8, condR (SV 3) (ownR lp (pV 3))), (9, condR (SV 6) (prR (pV 6 = .agg (zl ⟨k, P, Q, g, t, lp, N, 0, O, [], 0, (fun _ => 0), (fun _ => 0)⟩ ⟨(pV 3), zN⟩))))])) 9 rfl (by kernel_rfl) rfl ⟨trivial, trivial, trivial, trivial, trivial, trivial, trivial, trivial, fun _ => Iff.rfl, trivial⟩ (fun p => JQ.mk (fun h => absurd h (by decide)) () ((((M16.step (zya _)).triv 8).triv 9).sub ⟨rfl, rfl, rfl, rfl, rfl, rfl, rfl, rfl, rfl, rfl, trivial⟩)) ⟨?_, ?_, ?_, ?_, ?_, ?_, ?_, ?_, ?_, trivial⟩ ?_
 ·intro ua uw SV pV M0 hk hn hd
  obtain ⟨HP, xJ, M⟩ := M0
  replace M : Mx none w uw _ := M
  have e4 : ua.eval (.tmp 4) = .pointer (some ⟨g2, 0, none⟩) := (show ua.eval (.tmp 4) = _ from hd 4 (by decide)).trans (F15.get (t := 4) rfl)
  exact zp (zc rfl) _ (zga _ _ rfl e4 (M.blk (k := 2) rfl) (zg k P Q g) (zta rfl) Tryz.underlying29 rfl (by kernel_rfl)) rfl ((JQ.mk HP () (M.sub ⟨rfl, rfl, rfl, rfl, rfl, rfl, rfl, rfl, rfl, rfl, trivial⟩)))
 ·intro ua uw SV pV M0 hk hn hd
  obtain ⟨HP, xJ, M⟩ := M0
  replace M : Mx none w uw _ := M
  have e1 : ua.eval (.tmp 1) = .string t := (show ua.eval (.tmp 1) = _ from hd 1 (by decide)).trans (F15.get (t := 1) rfl)
  exact zp (zc rfl) (.string t) (zia _ (.inl rfl) e1) rfl ((JQ.mk HP () (M.sub ⟨rfl, rfl, rfl, rfl, rfl, rfl, rfl, rfl, rfl, rfl, trivial⟩)))
 ·intro ua uw SV pV M0 hk hn hd
  obtain ⟨HP, xJ, M⟩ := M0
  replace M : Mx none w uw _ := M
  have e2 : ua.eval (.tmp 2) = .slice Ap lp.length cp := (show ua.eval (.tmp 2) = _ from hd 2 (by decide)).trans (F15.get (t := 2) rfl)
  exact zp (zc rfl) (.slice Ap lp.length cp) (zia _ (.inl rfl) e2) rfl ((JQ.mk HP () (M.sub ⟨rfl, rfl, rfl, rfl, rfl, rfl, rfl, rfl, rfl, rfl, trivial⟩)))
 ·intro ua uw SV pV M0 hk hn hd
  obtain ⟨HP, xJ, M⟩ := M0
  replace M : Mx none w uw _ := M
  obtain ⟨s2, f23, q23⟩ := (show SV 2 = true ∧ ua.eval (.tmp 23) = pV 2 ∧ stE _ 2 (pV 2) from hd 23 (by decide))
  have e23 : ua.eval (.tmp 23) = .slice Ap lp.length cp := f23.trans q23
  exact z4a (zc rfl) rfl #[.slice Ap lp.length cp] (z2a e23) (zE Tryz.func36 rfl) (((clone_r lp (.slice Ap lp.length cp) (by omega) uw (M.isb (k := 0) rfl))).mono fun e w2 h => (by obtain ⟨u, h1, h2, h3⟩ := h; exact ⟨u, h1, trivial, (JQ.mk (fun _ => rfl) () ((M.newO h3 8 h2).sub ⟨rfl, rfl, rfl, (side_off (hn 8 (by kernel_rfl)) rfl), rfl, rfl, rfl, rfl, rfl, (condR_off (hn 6 (by kernel_rfl)) rfl), trivial⟩))⟩))
 ·intro ua uw SV pV M0 hk hn hd
  obtain ⟨HP, xJ, M⟩ := M0
  replace M : Mx none w uw _ := M
  have e11 : ua.eval (.tmp 11) = .pointer (some ⟨g15, 0, none⟩) := (show ua.eval (.tmp 11) = _ from hd 11 (by decide)).trans (F15.get (t := 11) rfl)
  exact zp (zc rfl) (numV N) (zga _ _ rfl e11 (M.blk (k := 7) rfl) (numA N) (zta rfl) Tryz.underlying27 rfl ze) rfl ((JQ.mk HP () (M.sub ⟨rfl, rfl, rfl, rfl, rfl, rfl, rfl, rfl, rfl, rfl, trivial⟩)))
 ·intro ua uw SV pV M0 hk hn hd
  obtain ⟨HP, xJ, M⟩ := M0
  replace M : Mx none w uw _ := M
  have e10 : ua.eval (.tmp 10) = .pointer (some ⟨g10, 0, none⟩) := (show ua.eval (.tmp 10) = _ from hd 10 (by decide)).trans (F15.get (t := 10) rfl)
  exact zp (zc rfl) (numV O) (zga _ _ rfl e10 (M.blk (k := 6) rfl) (numA O) (zta rfl) Tryz.underlying27 rfl ze) rfl ((JQ.mk HP () (M.sub ⟨rfl, rfl, rfl, rfl, rfl, rfl, rfl, rfl, rfl, rfl, trivial⟩)))
 ·intro ua uw SV pV M0 hk hn hd
  obtain ⟨HP, xJ, M⟩ := M0
  replace M : Mx none w uw _ := M
  obtain ⟨s0, f21, q21⟩ := (show SV 0 = true ∧ ua.eval (.tmp 21) = pV 0 ∧ stE _ 0 (pV 0) from hd 21 (by decide))
  have e21 : ua.eval (.tmp 21) = .agg (zg k P Q g) := f21.trans q21
  obtain ⟨s1, f22, q22⟩ := (show SV 1 = true ∧ ua.eval (.tmp 22) = pV 1 ∧ stE _ 1 (pV 1) from hd 22 (by decide))
  have e22 : ua.eval (.tmp 22) = .string t := f22.trans q22
  obtain ⟨s3, f24, q24⟩ := (show SV 3 = true ∧ ua.eval (.tmp 24) = pV 3 ∧ stE _ 3 (pV 3) from hd 24 (by decide))
  have e24 : ua.eval (.tmp 24) = (pV 3) := f24
  obtain ⟨s4, f25, q25⟩ := (show SV 4 = true ∧ ua.eval (.tmp 25) = pV 4 ∧ stE _ 4 (pV 4) from hd 25 (by decide))
  have e25 : ua.eval (.tmp 25) = numV N := f25.trans q25
  obtain ⟨s5, f26, q26⟩ := (show SV 5 = true ∧ ua.eval (.tmp 26) = pV 5 ∧ stE _ 5 (pV 5) from hd 26 (by decide))
  have e26 : ua.eval (.tmp 26) = numV O := f26.trans q26
  obtain ⟨A0_, c0_, h0_⟩ := (M.isO (k := 8) (condR_look s3 rfl)).shape
  exact zp (zc rfl) (.agg (zl ⟨k, P, Q, g, t, lp, N, 0, O, [], 0, (fun _ => 0), (fun _ => 0)⟩ ⟨(pV 3), zN⟩)) (by unfold execOp; simp only [List.map_toArray, List.map_cons, List.map_nil, e21, e22, e24, e25, e26, h0_]; kernel_rfl) trivial ((JQ.mk (fun _ => s3) () ((M.prP 9 rfl).sub ⟨rfl, rfl, rfl, rfl, rfl, rfl, rfl, rfl, rfl, rfl, trivial⟩)))
 ·intro ua uw SV pV M0 hk hn hd
  obtain ⟨HP, xJ, M⟩ := M0
  replace M : Mx none w uw _ := M
  have e11 : ua.eval (.tmp 11) = .pointer (some ⟨g15, 0, none⟩) := (show ua.eval (.tmp 11) = _ from hd 11 (by decide)).trans (F15.get (t := 11) rfl)
  exact zp (zc rfl) (numV N) (zga _ _ rfl e11 (M.blk (k := 7) rfl) (numA N) (zta rfl) Tryz.underlying27 rfl ze) rfl ((JQ.mk HP () (M.sub ⟨rfl, rfl, rfl, rfl, rfl, rfl, rfl, rfl, rfl, rfl, trivial⟩)))
 ·intro ua uw SV pV M0 hk hn hd
  obtain ⟨HP, xJ, M⟩ := M0
  replace M : Mx none w uw _ := M
  have e8 : ua.eval (.tmp 8) = .pointer (some ⟨g3, 0, none⟩) := (show ua.eval (.tmp 8) = _ from hd 8 (by decide)).trans (F15.get (t := 8) rfl)
  obtain ⟨s6, f27, q27⟩ := (show SV 6 = true ∧ ua.eval (.tmp 27) = pV 6 ∧ stE _ 6 (pV 6) from hd 27 (by decide))
  have e27 : ua.eval (.tmp 27) = (pV 6) := f27
  have hpu_ : pV 6 = .agg (zl ⟨k, P, Q, g, t, lp, N, 0, O, [], 0, (fun _ => 0), (fun _ => 0)⟩ ⟨(pV 3), zN⟩) := (show (prR (pV 6 = .agg (zl ⟨k, P, Q, g, t, lp, N, 0, O, [], 0, (fun _ => 0), (fun _ => 0)⟩ ⟨(pV 3), zN⟩))).F uw from M.at_ 9 _ (condR_look s6 rfl))
  have s3 : SV 3 = true := HP s6
  exact hopM_doM (zc rfl) rfl (run_st M (k := 3) rfl _ _ _ rfl e8 (e27.trans hpu_) (zl ⟨k, P, Q, g, t, lp, N, 0, O, [], 0, (fun _ => 0), (fun _ => 0)⟩ ⟨(pV 3), zN⟩) _ rfl (zL rfl) (zpb (w := uw) ⟨M.isO (k := 8) (condR_look s3 rfl), zva _⟩) (zx rfl) (by kernel_rfl)) (fun w2 h2 => (JQ.mk HP () (h2.sub ⟨rfl, rfl, rfl, rfl, rfl, rfl, rfl, rfl, rfl, rfl, trivial⟩))) rfl
 intro p18 a18 w18 M18 G18 y18
 obtain ⟨-, -, -, -, -, -, -, q7, -, -⟩ := y18
 have r7 : p18 7 = numV N := q7
 obtain ⟨-, xJ18, M18⟩ := M18
 replace M18 : Mx _ _ w18 [(0, bytR lp (.slice Ap lp.length cp)), (1, bytR ld (.slice As ld.length cs)), (2, blkR g2 29 (zg k P Q g)), (3, blkR g3 37 (zl ⟨k, P, Q, g, t, lp, N, 0, O, [], 0, (fun _ => 0), (fun _ => 0)⟩ ⟨(p18 3), zN⟩)), (4, blkR g4 27 (numA 0)), (5, blkR g8 22 (#[.slice As ld.length cs])), (6, blkR g10 27 (numA O)), (7, blkR g15 27 (numA N)), (8, condR true (ownR lp (p18 3))), (9, condR true (prR (p18 6 = .agg (zl ⟨k, P, Q, g, t, lp, N, 0, O, [], 0, (fun _ => 0), (fun _ => 0)⟩ ⟨(p18 3), zN⟩))))] := M18
 simp only [List.take, layV, Nat.zero_add, Nat.reduceAdd, r7] at G18
 refine zka (zc rfl) rfl G18 M18 (k := 4) rfl _ _ _ rfl (G18.get (t := 9) rfl) (G18.get (t := 28) rfl) (numA N) _ rfl (zL rfl) (zoa _) (zx rfl) ze ?_
 intro w19 M19
 clear M18
 refine hK17 _ _ ?_
 refine wp_ret ?_
 try simp only [Exit.then, Exit.inBlock, Exit.jump]
 exact bodyPost_ret (res2c rfl (G18.get (t := 8) rfl) (M19.blk (k := 3) rfl) (G18.get (t := 9) rfl) (M19.blk (k := 4) rfl) Tryz.underlying37 rfl (by kernel_rfl) Tryz.underlying27 rfl ze) G18.defers ⟨_, rfl, ⟨(M19.isO (k := 8) rfl), zva _⟩, fun g hg => (M19.owns (k := 8) rfl g (bfp_ofp hg)), M19.below⟩
end Go.Proofs.YtcfepoopkfhojaaGreat
