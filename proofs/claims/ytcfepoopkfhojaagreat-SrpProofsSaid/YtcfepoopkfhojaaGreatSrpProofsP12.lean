/- What SrpProofs stands on, part 12. -/
import Derived.Test.YtcfepoopkfhojaaGreatSrpProofsP1
import Derived.Test.YtcfepoopkfhojaaGreatSrpProofsP2
import Derived.Test.YtcfepoopkfhojaaGreatSrpProofsP3
import Derived.Test.YtcfepoopkfhojaaGreatSrpProofsP4
import Derived.Test.YtcfepoopkfhojaaGreatSrpProofsP5
import Derived.Test.YtcfepoopkfhojaaGreatSrpProofsP6
import Derived.Test.YtcfepoopkfhojaaGreatSrpProofsP7
import Derived.Test.YtcfepoopkfhojaaGreatSrpProofsP8
import Derived.Test.YtcfepoopkfhojaaGreatSrpProofsP9
import Derived.Test.YtcfepoopkfhojaaGreatSrpProofsP10
import Derived.Test.YtcfepoopkfhojaaGreatSrpProofsP11
set_option maxRecDepth 100000
set_option maxHeartbeats 8000000
set_option linter.unusedVariables false
set_option linter.unusedSimpArgs false
namespace Go.Proofs.YtcfepoopkfhojaaGreat
open Go.ChangeShapes Go.WideShapes Go.ChangeAt Go.RowKit
theorem rx7_any (k : Int) (P Q g : Nat) (h2 : 2 < Q) (hQ5 : Q < 4294967296) (t : ByteArray) (ht : t.size ≤ 200) (lp ls : List UInt8) (hlp : lp.length ≤ 200) (hls : ls.length ≤ 200) (vp vs : Value) (w : World) (hp : IsB w lp vp) (hs : IsB w ls vs) :
  Calls Tryz.prog 54 #[.agg (zh k P Q g), .string t, vp, vs] w fun e w' => e = .returned (numV (secN Q (sBy t) lp ls)) ∧ Below w.heap.size w w' := by
 obtain ⟨S, hS⟩ : ∃ S, macW [] [[120], sBy t, lp] = S := ⟨_, rfl⟩
 have kM := fun (w : World) (u : Value) (h : IsP w [[120], sBy t, lp] u) => srof_b h (show 3 ≤ 6 by decide) (by simp only [List.mem_cons, List.not_mem_nil, or_false, forall_eq_or_imp, forall_eq]; exact ⟨(by decide), by rw [sBy_len]; exact ht, hlp⟩)
 rw [hS] at kM
 obtain ⟨Y, hY⟩ : ∃ Y, strA (sumY (outF S)) ls 2 = Y := ⟨_, rfl⟩
 have hyb : ∀ k, 0 ≤ Y k ∧ Y k < 256 := by rw [← hY]; exact strA_bd _ _ 2
 have kS := fun (w : World) (v u : Value) (h : IsB w (sumY (outF S)) v) (h2 : IsB w ls u) => srstretch_b h h2 (by rw [zpb]; decide) (Nat.le_trans hls (by decide))
 rw [hY] at kS
 obtain ⟨N, hN⟩ : ∃ N, expN Q (sumY Y) = N := ⟨_, rfl⟩
 rw [show secN Q (sBy t) lp ls = N by unfold secN; rw [hS, hY, hN]]
 have hbd := zyb S
 have kE := fun (w : World) (v : Value) (h : IsB w (sumY Y) v) => rexp4_any k P Q g h2 hQ5 (sumY Y) (by rw [zpb]; decide) v w h
 rw [hN] at kE
 clear hN hS hY
 obtain ⟨Ap, cp, rfl⟩ := id hp.shape
 obtain ⟨As, cs, rfl⟩ := id hs.shape
 refine zja (args := [.agg (zh k P Q g), .string t, .slice Ap lp.length cp, .slice As ls.length cs]) 24 Tryz.func54 rfl rfl rfl ?_
 intro fa F
 have M := Mx.start w
 replace M := M.argB 0 hp (fun g e => by cases e)
 replace M := M.argB 1 hs (fun g e => by cases e)
 refine zSk fun _ hK1 => ?_
 refine zR ?_
 refine zl (zc rfl) rfl F rfl M 2 (t := 29) (c := zh k P Q g) (by unfold execOp; simp only [(F.get (t := 0) rfl)]; kernel_rfl) ?_
 intro g2 a2 w2 F2 M2
 clear F M
 refine zl (zc rfl) rfl F2 rfl M2 3 (t := 27) (c := numA 0) (zx rfl) ?_
 intro g3 a3 w3 F3 M3
 clear F2 M2
 refine hK1 _ _ ?_
 refine zSk fun _ hK4 => ?_
 refine region_fxU F3 (SK [.inr (StK.lit w3.heap.size [120]), .inr (StK.lit w3.heap.size [120]), .inl (.string t), .inr (StK.bytes (sBy t)), .inl (.slice Ap lp.length cp), .inr (StK.parts [[120], (sBy t), lp]), .inl (.agg (zg (outF S)))]) 7 (by kernel_rfl) rfl ⟨?_, ?_, hop0 F3 (by kernel_rfl), ?_, hop0 F3 (by kernel_rfl), ?_, ?_, trivial⟩ ?_
 ·intro ua uw hb hd
  exact hop_lit (zc rfl) hb.size [120] (by decide) (by decide) _ rfl (by simp only [List.map_toArray, List.map_cons, List.map_nil]; kernel_rfl)
 ·intro ua uw hb hd
  have l10 : LitB w3.heap.size uw [120] (ua.eval (.tmp 10)) := hd 10 (by decide)
  have e10 := l10.isB
  exact hop_convK (zc rfl) _ rfl l10
 ·intro ua uw hb hd
  have e12 : ua.eval (.tmp 12) = .string t := hd 12 (by decide)
  exact hop_cvS (zc rfl) hb.size _ rfl e12 (by omega)
 ·intro ua uw hb hd
  have l11 : LitB w3.heap.size uw [120] (ua.eval (.tmp 11)) := hd 11 (by decide)
  have e11 := l11.isB
  have e13 : IsB uw (sBy t) (ua.eval (.tmp 13)) := hd 13 (by decide)
  have e14 : ua.eval (.tmp 14) = .slice Ap lp.length cp := hd 14 (by decide)
  exact hop_parts3 (zc rfl) hb.size (.tmp 11) (.tmp 13) (.tmp 14) rfl e11 e13 (by rw [e14]; exact ((M3.step hb).isb (k := 0) rfl))
 ·intro ua uw hb hd
  have e15 : IsP uw [[120], (sBy t), lp] (ua.eval (.tmp 15)) := hd 15 (by decide)
  exact zpa (F := (StK.eq (.agg (zg (outF S)))).F) (zc rfl) hb.size rfl #[(ua.eval (.tmp 15))] (zdb rfl) (zE Tryz.func29 rfl) (zmb ((kM _ _ e15)))
 intro p6 a6 w6 b6 G6 y6
 obtain ⟨-, -, -, -, -, -, q6, -⟩ := y6
 have r6 : p6 6 = .agg (zg (outF S)) := q6 (by decide)
 simp only [List.take, layV, Nat.zero_add, Nat.reduceAdd, r6] at G6
 have M6 := M3.kc b6
 clear F3 M3 r6 q6
 refine zl (zc rfl) rfl G6 rfl M6 4 (t := 35) (c := zg (fun _ => 0)) (by unfold execOp; kernel_rfl) ?_
 intro g7 a7 w7 F7 M7
 clear G6 M6
 refine zu (zc rfl) rfl F7 M7 (k := 4) rfl _ _ _ rfl (F7.get (t := 9) rfl) (F7.get (t := 16) rfl) (zg (outF S)) _ rfl (zL rfl) (zca _) (zr rfl) (by kernel_rfl) ?_
 intro w8 M8
 clear M7
 refine hK4 _ _ ?_
 refine zSk fun _ hK9 => ?_
 have hD10 := (zz (M8.blk (k := 2) rfl) (zz (M8.blk (k := 4) rfl) dnil))
 refine zoa F7 (SK [.inl (.agg (zh k P Q g)), .inl (.agg (zg (outF S))), .inr (StK.bytes (sumY (outF S))), .inl (.slice As ls.length cs), .inl (.agg (zg Y)), .inr (StK.bytes (sumY Y)), .inl (numV N)]) 7 rfl (by kernel_rfl) ⟨hopP F7 hD10 0 (some g2) (by kernel_rfl), hopP F7 hD10 1 (some g7) (by kernel_rfl), ?_, hop0 F7 (by kernel_rfl), ?_, ?_, ?_, trivial⟩ ?_
 ·intro ua uw hb hd
  have e18 : ua.eval (.tmp 18) = .agg (zg (outF S)) := hd 18 (by decide)
  exact zpa (F := (StK.bytes (sumY (outF S))).F) (zc rfl) hb.size rfl #[.agg (zg (outF S))] (zdb e18) (zE Tryz.func18 rfl) ((sb_r (outF S) hbd uw))
 ·intro ua uw hb hd
  have e19 : IsB uw (sumY (outF S)) (ua.eval (.tmp 19)) := hd 19 (by decide)
  have e20 : ua.eval (.tmp 20) = .slice As ls.length cs := hd 20 (by decide)
  exact zpa (F := (StK.eq (.agg (zg Y))).F) (zc rfl) hb.size rfl #[(ua.eval (.tmp 19)), .slice As ls.length cs, .int .i64 3] (args3 rfl e20 rfl) (zE Tryz.func91 rfl) (zmb ((kS _ _ _ e19 ((M8.step hb).isb (k := 1) rfl))))
 ·intro ua uw hb hd
  have e21 : ua.eval (.tmp 21) = .agg (zg Y) := hd 21 (by decide)
  exact zpa (F := (StK.bytes (sumY Y)).F) (zc rfl) hb.size rfl #[.agg (zg Y)] (zdb e21) (zE Tryz.func18 rfl) ((sb_r Y hyb uw))
 ·intro ua uw hb hd
  have e17 : ua.eval (.tmp 17) = .agg (zh k P Q g) := hd 17 (by decide)
  have e22 : IsB uw (sumY Y) (ua.eval (.tmp 22)) := hd 22 (by decide)
  exact zpa (F := (StK.eq (numV N)).F) (zc rfl) hb.size rfl #[.agg (zh k P Q g), (ua.eval (.tmp 22))] (zjb e17 rfl) (zE Tryz.func59 rfl) (zmb ((kE uw _ e22)))
 intro p11 a11 w11 b11 G11 y11
 obtain ⟨-, -, -, -, -, -, q6, -⟩ := y11
 have r6 : p11 6 = numV N := q6 (by decide)
 simp only [List.take, layV, Nat.zero_add, Nat.reduceAdd, r6] at G11
 have M11 := M8.kc b11
 clear F7 M8 r6 q6
 refine zu (zc rfl) rfl G11 M11 (k := 3) rfl _ _ _ rfl (G11.get (t := 8) rfl) (G11.get (t := 23) rfl) (numA N) _ rfl (zL rfl) (zga _) (zr rfl) ze ?_
 intro w12 M12
 clear M11
 refine hK9 _ _ ?_
 refine wp_ret ?_
 try simp only [Exit.then, Exit.inBlock, Exit.jump]
 exact bodyPost_ret (results_cell_row rfl _ _ _ _ _ (0, 0) _ (G11.get (t := 8) rfl) (M12.blk (k := 3) rfl) Tryz.underlying27 rfl ze) G11.defers ⟨rfl, M12.below⟩
theorem rver7_any (k : Int) (P Q g : Nat) (h1 : 1 < P) (hP : P < 2147483648) (h2 : 2 < Q) (hQ5 : Q < 4294967296) (hg : g < 4294967296 ^ 8) (t : ByteArray) (ht : t.size ≤ 200) (lp ls : List UInt8) (hlp : lp.length ≤ 200) (hls : ls.length ≤ 200) (vp vs : Value) (w : World) (hp : IsB w lp vp) (hs : IsB w ls vs) :
  Calls Tryz.prog 20 #[.agg (zh k P Q g), .string t, vp, vs] w fun e w' => e = .returned (numV (g ^ secN Q (sBy t) lp ls % P)) ∧ Below w.heap.size w w' := by
 obtain ⟨X, hX⟩ : ∃ X, secN Q (sBy t) lp ls = X := ⟨_, rfl⟩
 have hXl : X < 4294967296 ^ 8 := by rw [← hX]; exact Nat.lt_trans (expN_bd h2 _).2 (Nat.lt_trans hQ5 (by decide))
 have kX := fun (w : World) (vp vs : Value) (hp : IsB w lp vp) (hs : IsB w ls vs) => rx7_any k P Q g h2 hQ5 t ht lp ls hlp hls vp vs w hp hs
 rw [hX] at kX ⊢
 have kR := fun w => rraise_any k P Q g h1 hP g X hg hXl w
 obtain ⟨N, hN⟩ : ∃ N, g ^ X % P = N := ⟨_, rfl⟩
 rw [hN] at kR ⊢
 clear hN hX
 obtain ⟨Ap, cp, rfl⟩ := id hp.shape
 obtain ⟨As, cs, rfl⟩ := id hs.shape
 refine zja (args := [.agg (zh k P Q g), .string t, .slice Ap lp.length cp, .slice As ls.length cs]) 18 Tryz.func20 rfl rfl rfl ?_
 intro fa F
 have M := Mx.start w
 replace M := M.argB 0 hp (fun g e => by cases e)
 replace M := M.argB 1 hs (fun g e => by cases e)
 refine zSk fun _ hK1 => ?_
 refine zR ?_
 refine zl (zc rfl) rfl F rfl M 2 (t := 29) (c := zh k P Q g) (by unfold execOp; simp only [(F.get (t := 0) rfl)]; kernel_rfl) ?_
 intro g2 a2 w2 F2 M2
 clear F M
 refine zl (zc rfl) rfl F2 rfl M2 3 (t := 27) (c := numA 0) (zx rfl) ?_
 intro g3 a3 w3 F3 M3
 clear F2 M2
 refine hK1 _ _ ?_
 refine zSk fun _ hK4 => ?_
 have hD5 := (zz (M3.blk (k := 2) rfl) dnil)
 refine zoa F3 (SK [.inl (.agg (zh k P Q g)), .inl (.pointer (some ⟨g2, 17, none⟩)), .inl (numV g), .inl (.agg (zh k P Q g)), .inl (.string t), .inl (.slice Ap lp.length cp), .inl (.slice As ls.length cs), .inl (numV X), .inl (numV N)]) 9 rfl (by kernel_rfl) ⟨hopP F3 hD5 0 (some g2) (by kernel_rfl), hop0 F3 (by kernel_rfl), hopP F3 hD5 0 (some g2) (by kernel_rfl), hopP F3 hD5 0 (some g2) (by kernel_rfl), hop0 F3 (by kernel_rfl), hop0 F3 (by kernel_rfl), hop0 F3 (by kernel_rfl), hopC F3 [(12, .agg (zh k P Q g)), (13, .string t), (14, .slice Ap lp.length cp), (15, .slice As ls.length cs)] rfl (zE Tryz.func54 rfl) fun uw hb => (kX uw _ _ ((M3.step hb).isb (k := 0) rfl) ((M3.step hb).isb (k := 1) rfl)), hopC F3 [(9, .agg (zh k P Q g)), (11, numV g), (16, numV X)] rfl (zE Tryz.func27 rfl) fun uw hb => kR uw, trivial⟩ ?_
 intro p6 a6 w6 b6 G6 y6
 obtain ⟨-, -, -, -, -, -, -, -, q8, -⟩ := y6
 have r8 : p6 8 = numV N := q8 (by decide)
 simp only [List.take, layV, Nat.zero_add, Nat.reduceAdd, r8] at G6
 have M6 := M3.kc b6
 clear F3 M3 r8 q8
 refine zu (zc rfl) rfl G6 M6 (k := 3) rfl _ _ _ rfl (G6.get (t := 8) rfl) (G6.get (t := 17) rfl) (numA N) _ rfl (zL rfl) (zga _) (zr rfl) ze ?_
 intro w7 M7
 clear M6
 refine hK4 _ _ ?_
 refine wp_ret ?_
 try simp only [Exit.then, Exit.inBlock, Exit.jump]
 exact bodyPost_ret (results_cell_row rfl _ _ _ _ _ (0, 0) _ (G6.get (t := 8) rfl) (M7.blk (k := 3) rfl) Tryz.underlying27 rfl ze) G6.defers ⟨rfl, M7.below⟩
theorem group_t {n : Int} (h0 : -9223372036854775808 ≤ n) (h1 : n < 9223372036854775808) : ∃ t : Nat, t < 9 ∧ ∀ w, Calls Tryz.prog 32 #[.int .i64 n, .int .i64 9] w fun e w' => e = .returned (.int .i64 (t : Int)) ∧ w = w' := by
 refine ⟨(n % 9).toNat, by omega, fun w => ?_⟩
 have := gwithin_any n 9 (by omega) (by omega) h0 h1 w
 rw [show (((n % 9).toNat : Nat) : Int) = n % 9 by omega]
 exact this
def GOk (k : Int) (p : Nat) : Prop := 12 ≤ k ∧ k ≤ 24 ∧ p % 2 = 1 ∧ 4000 < p ∧ p < 16777216 ∧ zbc (p : Int) = true ∧ zbc ((p / 2 : Nat) : Int) = true
theorem group_at {t : Nat} (ht : t < 9) : ∃ (k : Int) (p : Nat), (#[.int .i64 12, .int .i64 13, .int .i64 14, .int .i64 15, .int .i64 16, .int .i64 17, .int .i64 18, .int .i64 20, .int .i64 24] : Array Value)[t]? = some (.int .i64 k) ∧
  RunsTo 31 #[.int .i64 k] (.tuple #[.agg (zh k p (p / 2) 4), .bool true]) ∧ GOk k p := by
 have key : ∀ K : Nat, 12 ≤ K → K ≤ 24 → ∃ p : Nat, RunsTo 31 #[.int .i64 (K : Int)] (.tuple #[.agg (zh (K : Int) p (p / 2) 4), .bool true]) ∧ GOk (K : Int) p := fun K g0 g1 => by
  obtain ⟨p, p4, po, pl, ps, pn⟩ := tabs (k := K) (by omega) (by omega)
  have hl : 2 ^ K ≤ 2 ^ 24 := Nat.pow_le_pow_right (by decide) (by omega)
  have hp : p < 16777216 := Nat.lt_of_lt_of_le pl hl
  have e : ((2 : Int) ^ K) = ((2 ^ K : Nat) : Int) := by simp
  have hpr : zbc ((p : Int) / 2) = true ∧ zbc (p : Int) = true := by
   unfold safeB at ps
   simpa using ps
  have hq : ((p / 2 : Nat) : Int) = (p : Int) / 2 := by omega
  refine ⟨p, fun w => ?_, by omega, by omega, po, ?_, hp, hpr.2, by rw [hq]; exact hpr.1⟩
  ·refine (rgmake_any (K : Int) (p : Int) (by omega) (by omega) (fun _ => ⟨by omega, by omega, by rw [Int.toNat_natCast, e]; exact_mod_cast pl, ps, by rw [Int.toNat_natCast]; exact pn⟩) w).mono ?_
   rintro e' w' ⟨V, rfl, hV, hb⟩
   rcases hV with ⟨-, hV⟩ | ⟨hn, -⟩
   ·exact ⟨by rw [hV, Int.toNat_natCast, ← hq, Int.toNat_natCast], hb⟩
   ·omega
  ·refine Nat.lt_of_not_le fun hle => ?_
   have h40 : ((4079 : Nat) : Int) < 2 ^ K := by
    rw [e]
    have : 2 ^ 12 ≤ 2 ^ K := Nat.pow_le_pow_right (by decide) g0
    omega
   have := pn ((4079 : Nat) : Int) (by omega) h40
   rw [(tab_of (k := 12) (p := 4079) (D := 63) (E := 45) (by decide) (by decide) (by decide) (by decide) (by decide) tab12).1] at this
   cases this
 have : t = 0 ∨ t = 1 ∨ t = 2 ∨ t = 3 ∨ t = 4 ∨ t = 5 ∨ t = 6 ∨ t = 7 ∨ t = 8 := by omega
 rcases this with rfl | rfl | rfl | rfl | rfl | rfl | rfl | rfl | rfl
 ·obtain ⟨p, h1, h2⟩ := key 12 (by decide) (by decide)
  exact ⟨12, p, rfl, h1, h2⟩
 ·obtain ⟨p, h1, h2⟩ := key 13 (by decide) (by decide)
  exact ⟨13, p, rfl, h1, h2⟩
 ·obtain ⟨p, h1, h2⟩ := key 14 (by decide) (by decide)
  exact ⟨14, p, rfl, h1, h2⟩
 ·obtain ⟨p, h1, h2⟩ := key 15 (by decide) (by decide)
  exact ⟨15, p, rfl, h1, h2⟩
 ·obtain ⟨p, h1, h2⟩ := key 16 (by decide) (by decide)
  exact ⟨16, p, rfl, h1, h2⟩
 ·obtain ⟨p, h1, h2⟩ := key 17 (by decide) (by decide)
  exact ⟨17, p, rfl, h1, h2⟩
 ·obtain ⟨p, h1, h2⟩ := key 18 (by decide) (by decide)
  exact ⟨18, p, rfl, h1, h2⟩
 ·obtain ⟨p, h1, h2⟩ := key 20 (by decide) (by decide)
  exact ⟨20, p, rfl, h1, h2⟩
 ·obtain ⟨p, h1, h2⟩ := key 24 (by decide) (by decide)
  exact ⟨24, p, rfl, h1, h2⟩
theorem group_any {n : Int} (h0 : -9223372036854775808 ≤ n) (h1 : n < 9223372036854775808) : ∃ (k : Int) (p : Nat), GOk k p ∧ RunsTo 11 #[.int .i64 n] (.agg (zh k p (p / 2) 4)) := by
 obtain ⟨t, ht, kw⟩ := group_t h0 h1
 obtain ⟨k, p, hk, hr, hg⟩ := group_at ht
 refine ⟨k, p, hg, fun w => ?_⟩
 refine zja (args := [.int .i64 n]) 15 Tryz.func11 rfl rfl rfl ?_
 intro fa F
 have M := Mx.start w
 refine zSk fun _ hK1 => ?_
 refine zR ?_
 refine zl (zc rfl) rfl F rfl M 0 (t := 29) (c := zh 0 0 0 0) (by unfold execOp; rw [z0b]; kernel_rfl) ?_
 intro g2 a2 w2 F2 M2
 clear F M
 refine hK1 _ _ ?_
 refine zSk fun _ hK3 => ?_
 refine zR ?_
 refine z3b (zc rfl) rfl F2 rfl M2 1 (t := 3) (c := #[.int .i64 12, .int .i64 13, .int .i64 14, .int .i64 15, .int .i64 16, .int .i64 17, .int .i64 18, .int .i64 20, .int .i64 24]) (k := 9) (m := 9) (y_litI rfl #[.int .i64 12, .int .i64 13, .int .i64 14, .int .i64 15, .int .i64 16, .int .i64 17, .int .i64 18, .int .i64 20, .int .i64 24] rfl (by decide) (by decide) (by simp only [List.map_toArray, List.map_cons, List.map_nil]; kernel_rfl)) ?_
 intro g4 a4 w4 F4 M4
 clear F2 M2
 refine zk (w' := w4) (zc rfl) rfl F4 rfl (.int .i64 n) (run_mv _ (.inl rfl) (F4.get (t := 0) rfl)) fun _ F5 => ?_
 clear F4
 refine zw (zc rfl) rfl F5 rfl rfl (zE Tryz.func32 rfl) #[.int .i64 n, .int .i64 9] (zjb (F5.get (t := 7) rfl) rfl) (zda (kw w4)) ?_
 rintro _ w6 a6 ⟨rfl, rfl⟩ F6
 refine zk (w' := w4) (zc rfl) rfl F6 rfl (.pointer (some ⟨g4, t, none⟩)) (y_ixI _ _ rfl (F6.get (t := 6) rfl) (F6.get (t := 8) rfl) rfl ht (Nat.zero_add t)) fun _ F7 => ?_
 clear F6
 refine zk (w' := w4) (zc rfl) rfl F7 rfl (.int .i64 k) (z3a _ _ rfl (F7.get (t := 9) rfl) (M4.blk (k := 1) rfl) hk Tryz.underlying3 rfl) fun _ F8 => ?_
 clear F7
 refine zw (zc rfl) rfl F8 rfl rfl (zE Tryz.func31 rfl) #[.int .i64 k] (zdb (F8.get (t := 10) rfl)) (zda (hr w4)) ?_
 rintro _ w9 a9 ⟨rfl, b9⟩ F9
 have M9 := M4.step b9
 refine zk (w' := w9) (zc rfl) rfl F9 rfl (.tuple #[.agg (zh k p (p / 2) 4), .bool true]) (run_mv _ (.inl rfl) (F9.get (t := 11) rfl)) fun _ F10 => ?_
 clear F9
 refine zk (w' := w9) (zc rfl) rfl F10 rfl (.agg (zh k p (p / 2) 4)) (y_ext _ _ rfl (F10.get (t := 5) rfl) rfl) fun _ F11 => ?_
 clear F10
 refine zk (w' := w9) (zc rfl) rfl F11 rfl (.bool true) (y_ext _ _ rfl (F11.get (t := 5) rfl) rfl) fun _ F12 => ?_
 clear F11
 refine zl (zc rfl) rfl F12 rfl M9 2 (t := 29) (c := zh 0 0 0 0) (by unfold execOp; rw [z0b]; kernel_rfl) ?_
 intro g13 a13 w13 F13 M13
 clear F12 M9
 refine zu (zc rfl) rfl F13 M13 (k := 2) rfl _ _ _ rfl (F13.get (t := 3) rfl) (F13.get (t := 12) rfl) (zh k p (p / 2) 4) _ rfl (zL rfl) (z9b _ _ _ _) (zr rfl) (by kernel_rfl) ?_
 intro w14 M14
 clear M13
 refine zk (w' := w14) (zc rfl) rfl F13 rfl (.bool true) (run_mv _ (.inr rfl) (F13.get (t := 13) rfl)) fun _ F15 => ?_
 clear F13
 refine hK3 _ _ ?_
 refine zSk fun _ hK16 => ?_
 refine zR ?_
 refine zk (w' := w14) (zc rfl) rfl F15 rfl _ (z8a _ _ rfl (F15.get (t := 3) rfl) (M14.blk (k := 2) rfl) (zh k p (p / 2) 4) (zgb rfl) Tryz.underlying29 rfl (by kernel_rfl)) fun _ F17 => ?_
 clear F15
 refine zu (zc rfl) rfl F17 M14 (k := 0) rfl _ _ _ rfl (F17.get (t := 2) rfl) (F17.get (t := 14) rfl) (zh k p (p / 2) 4) _ rfl (zL rfl) (z9b _ _ _ _) (zr rfl) (by kernel_rfl) ?_
 intro w18 M18
 clear M14
 refine hK16 _ _ ?_
 refine wp_ret ?_
 try simp only [Exit.then, Exit.inBlock]
 exact bodyPost_ret (results_cell_row rfl _ _ _ _ _ (0, 0) _ (F17.get rfl) (M18.blk (k := 0) rfl) Tryz.underlying29 rfl (by kernel_rfl)) F17.defers ⟨rfl, M18.below⟩
end Go.Proofs.YtcfepoopkfhojaaGreat
namespace Go.Proofs.YtcfepoopkfhojaaGreat
def ch : Nat → Nat → Nat
 | _, 0 => 1
 | 0, _ + 1 => 0
 | n + 1, k + 1 => ch n k + ch n (k + 1)
def chS (a n : Nat) : Nat → Nat
 | 0 => 0
 | m + 1 => chS a n m + ch n m * a ^ m
theorem ch_zero (n : Nat) : ch n 0 = 1 := by cases n <;> rfl
theorem ch_succ (n k : Nat) : ch (n + 1) (k + 1) = ch n k + ch n (k + 1) := rfl
theorem ch_far : ∀ (n k : Nat), n < k → ch n k = 0
 | 0, 0, h => by omega
 | 0, k + 1, h => rfl
 | n + 1, 0, h => by omega
 | n + 1, k + 1, h => by rw [ch_succ, ch_far n k (by omega), ch_far n (k + 1) (by omega)]
theorem chS_step (a n : Nat) : ∀ m, chS a (n + 1) (m + 1) = chS a n (m + 1) + a * chS a n m
 | 0 => by simp [chS, ch_zero]
 | m + 1 => by
  have ih := chS_step a n m
  have e1 : chS a (n + 1) (m + 1 + 1) = chS a (n + 1) (m + 1) + ch (n + 1) (m + 1) * a ^ (m + 1) := rfl
  have e2 : chS a n (m + 1 + 1) = chS a n (m + 1) + ch n (m + 1) * a ^ (m + 1) := rfl
  have e3 : chS a n (m + 1) = chS a n m + ch n m * a ^ m := rfl
  rw [e1, ih, e2, ch_succ, Nat.add_mul]
  have e4 : a * chS a n (m + 1) = a * chS a n m + ch n m * a ^ (m + 1) := by
   rw [e3, Nat.mul_add, Nat.pow_succ, Nat.mul_left_comm, Nat.mul_comm a (a ^ m)]
  rw [e4]
  omega
theorem chS_all (a : Nat) : ∀ n, chS a n (n + 1) = (a + 1) ^ n
 | 0 => by simp [chS, ch]
 | n + 1 => by
  rw [chS_step, show chS a n (n + 1 + 1) = chS a n (n + 1) + ch n (n + 1) * a ^ (n + 1) from rfl, ch_far n (n + 1) (by omega), chS_all a n, Nat.zero_mul, Nat.add_zero, Nat.pow_succ, Nat.mul_add, Nat.mul_one, Nat.mul_comm a]
  exact Nat.add_comm _ _
theorem ch_absorb : ∀ (n k : Nat), (k + 1) * ch (n + 1) (k + 1) = (n + 1) * ch n k
 | 0, 0 => rfl
 | 0, k + 1 => by simp [ch]
 | n + 1, 0 => by
  have ih := ch_absorb n 0
  simp only [Nat.zero_add, Nat.one_mul, ch_zero, Nat.mul_one] at ih ⊢
  rw [ch_succ, ch_zero, show (0 : Nat) + 1 = 1 from rfl, ih]; omega
 | n + 1, k + 1 => by
  have i1 := ch_absorb n k
  have i2 := ch_absorb n (k + 1)
  rw [ch_succ (n + 1) (k + 1), Nat.mul_add, i2, Nat.add_mul (k + 1) 1, i1, Nat.one_mul, ch_succ n k, Nat.add_mul (n + 1) 1, Nat.mul_add (n + 1)]
  omega
theorem coprime_of {p k : Nat} (hp : ∀ d, 2 ≤ d → d < p → p % d ≠ 0) (h0 : 0 < k) (hk : k < p) : Nat.Coprime p k := by
 have h1 := Nat.gcd_dvd_left p k
 have h2 := Nat.gcd_dvd_right p k
 have h3 := Nat.le_of_dvd h0 h2
 have h4 : 0 < Nat.gcd p k := Nat.gcd_pos_of_pos_right _ h0
 unfold Nat.Coprime
 refine Nat.le_antisymm (Nat.le_of_not_lt fun h => ?_) h4
 exact hp (Nat.gcd p k) h (by omega) (Nat.mod_eq_zero_of_dvd h1)
theorem chS_mod {p a : Nat} (hp : ∀ d, 2 ≤ d → d < p → p % d ≠ 0) (h2 : 2 ≤ p) : ∀ m, m < p → chS a p (m + 1) % p = 1
 | 0, _ => by simp [chS, ch_zero, Nat.mod_eq_of_lt h2]
 | m + 1, h => by
  have ih := chS_mod (a := a) hp h2 m (by omega)
  have e : chS a p (m + 1 + 1) = chS a p (m + 1) + ch p (m + 1) * a ^ (m + 1) := rfl
  have hd : p ∣ ch p (m + 1) := by
   obtain ⟨n, rfl⟩ : ∃ n, p = n + 1 := ⟨p - 1, by omega⟩
   have := ch_absorb n m
   refine Nat.Coprime.dvd_of_dvd_mul_left (coprime_of hp (Nat.succ_pos m) h) ⟨ch n m, this⟩
  rw [e, Nat.add_mod, ih, Nat.mod_eq_zero_of_dvd (Nat.dvd_mul_right_of_dvd hd _), Nat.add_zero, Nat.mod_eq_of_lt h2]
theorem fermat {p : Nat} (hp : ∀ d, 2 ≤ d → d < p → p % d ≠ 0) (h2 : 2 ≤ p) : ∀ a, a ^ p % p = a % p
 | 0 => by rw [Nat.zero_pow (by omega)]
 | a + 1 => by
  obtain ⟨n, rfl⟩ : ∃ n, p = n + 1 := ⟨p - 1, by omega⟩
  have h1 := chS_mod (a := a) hp h2 n (by omega)
  have e : chS a (n + 1) (n + 1 + 1) = chS a (n + 1) (n + 1) + ch (n + 1) (n + 1) * a ^ (n + 1) := rfl
  have h3 : ∀ m, ch m m = 1 := fun m => by
   induction m with
   | zero => rfl
   | succ m ih => rw [ch_succ, ih, ch_far m (m + 1) (by omega)]
  rw [← chS_all, e, h3, Nat.one_mul, Nat.add_mod, h1, fermat hp h2 a, Nat.add_comm, Nat.mod_add_mod]
theorem fermat1 {p : Nat} (hp : ∀ d, 2 ≤ d → d < p → p % d ≠ 0) (h2 : 2 ≤ p) {a : Nat} (ha : a % p ≠ 0) : a ^ (p - 1) % p = 1 := by
 obtain ⟨n, rfl⟩ : ∃ n, p = n + 1 := ⟨p - 1, by omega⟩
 have h := fermat hp h2 a
 have hc : Nat.Coprime (n + 1) a := by
  unfold Nat.Coprime
  rw [Nat.gcd_rec]
  exact (coprime_of hp (by omega) (Nat.mod_lt _ (by omega))).symm
 rw [Nat.add_sub_cancel]
 have h0 : 0 < a ^ n := Nat.pow_pos (Nat.pos_of_ne_zero fun e => ha (by rw [e, Nat.zero_mod]))
 have hd : (n + 1) ∣ a * (a ^ n - 1) := by
  rw [Nat.mul_sub, Nat.mul_one, Nat.mul_comm, ← Nat.pow_succ]
  exact Nat.dvd_of_mod_eq_zero (Nat.sub_mod_eq_zero_of_mod_eq h)
 have := Nat.Coprime.dvd_of_dvd_mul_left hc hd
 obtain ⟨q, hq⟩ := this
 rw [show a ^ n = 1 + (n + 1) * q by omega, Nat.add_mul_mod_self_left, Nat.mod_eq_of_lt h2]
open Classical in
theorem noDiv_of {p : Nat} (h : zbc (p : Int) = true) : 2 ≤ p ∧ ∀ d, 2 ≤ d → d < p → p % d ≠ 0 := by
 unfold zbc at h
 obtain ⟨h1, -, h2⟩ := of_decide_eq_true h
 refine ⟨by omega, fun d d1 d2 hd => ?_⟩
 have key : ∀ d : Nat, 2 ≤ d → d * d ≤ p → p % d ≠ 0 := fun d e1 e2 e3 => h2 (d : Int) (by omega) (by exact_mod_cast e2) (by exact_mod_cast e3)
 obtain ⟨e, rfl⟩ := Nat.dvd_of_mod_eq_zero hd
 have e2 : 2 ≤ e := by
  rcases e with _ | _ | e
  ·omega
  ·omega
  ·omega
 by_cases c : d ≤ e
 ·exact key d d1 (Nat.mul_le_mul_left d c) hd
 ·exact key e e2 (Nat.mul_le_mul_right e (by omega)) (Nat.mul_mod_left _ _)
theorem square_one {p : Nat} (hp : zbc (p : Int) = true) (ho : p % 2 = 1) {n : Nat} (hn : n * n % p ≠ 0) : (n * n % p) ^ (p / 2) % p = 1 := by
 obtain ⟨h2, hd⟩ := noDiv_of hp
 have h1 : n % p ≠ 0 := fun e => hn (by rw [Nat.mul_mod, e, Nat.zero_mul, Nat.zero_mod])
 rw [← Nat.pow_mod, ← Nat.pow_two, ← Nat.pow_mul, show 2 * (p / 2) = p - 1 by omega]
 exact fermat1 hd h2 h1
theorem pow_by {p q x : Nat} (h2 : 1 < p) (hx : x ^ q % p = 1) (m : Nat) : x ^ (m % q) % p = x ^ m % p := by
 have e : x ^ m = x ^ (m % q) * (x ^ q) ^ (m / q) := by rw [← Nat.pow_mul, ← Nat.pow_add, Nat.mod_add_div]
 have h1 : (x ^ q) ^ (m / q) % p = 1 := by rw [Nat.pow_mod, hx, Nat.one_pow, Nat.mod_eq_of_lt h2]
 rw [e, Nat.mul_mod, h1, Nat.mul_one, Nat.mod_mod]
end Go.Proofs.YtcfepoopkfhojaaGreat
namespace Go.Proofs.YtcfepoopkfhojaaGreat
open Go.ChangeShapes Go.WideShapes Go.ChangeAt Go.RowKit Go.Shelf
theorem pow_gcd {p x : Nat} (h2 : 1 < p) (a b : Nat) : x ^ a % p = 1 → x ^ b % p = 1 → x ^ Nat.gcd a b % p = 1 := by
 refine Nat.gcd.induction (P := fun a b => x ^ a % p = 1 → x ^ b % p = 1 → x ^ Nat.gcd a b % p = 1) a b (fun n h1 h3 => ?_) fun m n hm ih h1 h3 => ?_
 ·rw [Nat.gcd_zero_left]; exact h3
 ·rw [Nat.gcd_rec]
  exact ih (by rw [pow_by h2 h1]; exact h3) h1
theorem gcd_one {q e : Nat} (hq : zbc (q : Int) = true) (h0 : 0 < e) (h1 : e < q) : Nat.gcd e q = 1 := by
 obtain ⟨h2, hd⟩ := noDiv_of hq
 have hg0 : 0 < Nat.gcd e q := Nat.gcd_pos_of_pos_left _ h0
 have hle : Nat.gcd e q ≤ e := Nat.gcd_le_left _ h0
 have hdv := Nat.gcd_dvd_right e q
 exact Classical.byContradiction fun hne => hd (Nat.gcd e q) (by omega) (by omega) (Nat.mod_eq_zero_of_dvd hdv)
theorem has_pow {k : Int} {p e : Nat} (hg : GOk k p) (h0 : 0 < e) (h1 : e < p / 2) : hasB (4 ^ e % p) p (p / 2) = true := by
 obtain ⟨-, -, po, p1, p2, pp, pq⟩ := hg
 have hp1 : 1 < p := by omega
 have h4 : 4 ^ (p / 2) % p = 1 := by
  have := square_one pp po (n := 2) (by rw [show 2 * 2 = 4 from rfl, Nat.mod_eq_of_lt (show 4 < p by omega)]; decide)
  rw [show 2 * 2 = 4 from rfl, Nat.mod_eq_of_lt (show 4 < p by omega)] at this
  exact this
 have hq : (4 ^ e % p) ^ (p / 2) % p = 1 := by
  rw [← Nat.pow_mod, ← Nat.pow_mul, Nat.mul_comm, Nat.pow_mul, Nat.pow_mod, h4, Nat.one_pow, Nat.mod_eq_of_lt hp1]
 have hlt : 4 ^ e % p < p := Nat.mod_lt _ (by omega)
 have hn0 : 4 ^ e % p ≠ 0 := fun h => by
  rw [h, Nat.zero_pow (by omega), Nat.zero_mod] at hq; cases hq
 have hn1 : 4 ^ e % p ≠ 1 := fun h => by
  have := pow_gcd hp1 e (p / 2) h h4
  rw [gcd_one pq h0 h1, Nat.pow_one, Nat.mod_eq_of_lt (show 4 < p by omega)] at this
  cases this
 unfold hasB
 exact decide_eq_true ⟨by omega, hlt, hq⟩
theorem base_is {p C G : Nat} (hC : C < p) (hG : G < p) : ((C + G) % p + (p - C)) % p = G := by
 by_cases h : C + G < p
 ·rw [Nat.mod_eq_of_lt h, show C + G + (p - C) = G + p by omega, Nat.add_mod_right, Nat.mod_eq_of_lt hG]
 ·rw [Nat.mod_eq_sub_mod (a := C + G) (show C + G ≥ p by omega), Nat.mod_eq_of_lt (show C + G - p < p by omega), show C + G - p + (p - C) = G by omega, Nat.mod_eq_of_lt hG]
theorem key_is {p q a b x u : Nat} (hp : 1 < p) (h4 : 4 ^ q % p = 1) : (4 ^ b % p) ^ ((a + u * x % q) % q) % p = (4 ^ a % p * ((4 ^ x % p) ^ u % p) % p) ^ b % p := by
 have hb : (4 ^ b % p) ^ q % p = 1 := by
  rw [← Nat.pow_mod, ← Nat.pow_mul, Nat.mul_comm, Nat.pow_mul, Nat.pow_mod, h4, Nat.one_pow, Nat.mod_eq_of_lt hp]
 rw [pow_by hp hb, Nat.pow_add, Nat.mul_mod, pow_by hp hb, ← Nat.mul_mod, ← Nat.pow_add, ← Nat.pow_mod, ← Nat.pow_mul]
 rw [← Nat.pow_mod (4 ^ x), ← Nat.mul_mod, ← Nat.pow_mod, ← Nat.pow_mul, ← Nat.pow_add, ← Nat.pow_mul, Nat.mul_comm b, Nat.mul_comm u]
theorem srp_meet {k : Int} {p : Nat} (hg : GOk k p) (t : ByteArray) (lp ls : List UInt8) {oa ob : Nat} (hb0 : 0 < ob) (hb1 : ob < p / 2) (hk : offOk p (p / 2) 4 (4 ^ secN (p / 2) (sBy t) lp ls % p) (4 ^ oa % p) ob = true) :
  prvOk ⟨k, p, p / 2, 4, t, lp, 4 ^ oa % p, 0, oa, [], 0, fun _ => 0, fun _ => 0⟩ ls (offB p (p / 2) 4 (4 ^ secN (p / 2) (sBy t) lp ls % p) ob) = true ∧ prvN ⟨k, p, p / 2, 4, t, lp, 4 ^ oa % p, 0, oa, [], 0, fun _ => 0, fun _ => 0⟩ ls (offB p (p / 2) 4 (4 ^ secN (p / 2) (sBy t) lp ls % p) ob) = offN p (p / 2) 4 (4 ^ secN (p / 2) (sBy t) lp ls % p) (4 ^ oa % p) ob := by
 obtain ⟨X, hX⟩ : ∃ X, secN (p / 2) (sBy t) lp ls = X := ⟨_, rfl⟩
 have hP0 : 0 < p := by have := hg.2.2.2.1; omega
 have hp1 : 1 < p := by have := hg.2.2.2.1; omega
 have h4 : 4 ^ (p / 2) % p = 1 := by
  obtain ⟨-, -, po, p1, p2, pp, pq⟩ := hg
  have := square_one pp po (n := 2) (by rw [show 2 * 2 = 4 from rfl, Nat.mod_eq_of_lt (show 4 < p by omega)]; decide)
  rw [show 2 * 2 = 4 from rfl, Nat.mod_eq_of_lt (show 4 < p by omega)] at this
  exact this
 rw [hX] at hk ⊢
 obtain ⟨B, hB⟩ : ∃ B, offB p (p / 2) 4 (4 ^ X % p) ob = B := ⟨_, rfl⟩
 obtain ⟨C, hC⟩ : ∃ C, kN (p / 2) * (4 ^ X % p) % p = C := ⟨_, rfl⟩
 obtain ⟨G, hG⟩ : ∃ G, 4 ^ ob % p = G := ⟨_, rfl⟩
 have hCl : C < p := by rw [← hC]; exact Nat.mod_lt _ hP0
 have hGl : G < p := by rw [← hG]; exact Nat.mod_lt _ hP0
 have eB : (C + G) % p = B := by
  rw [← hB]; unfold offB; rw [hC, hG]
 have hBl : B < p := by rw [← eB]; exact Nat.mod_lt _ hP0
 have hBn : ¬ B = 0 := fun h => by
  unfold offOk at hk
  rw [hB, h] at hk
  simp at hk
 have eb : prvB p (p / 2) 4 X B = G := by
  unfold prvB
  rw [hC, ← eB]
  exact base_is hCl hGl
 rw [hB]
 have hs : prvX ⟨k, p, p / 2, 4, t, lp, 4 ^ oa % p, 0, oa, [], 0, fun _ => 0, fun _ => 0⟩ ls = X := hX
 refine ⟨?_, ?_⟩
 ·unfold prvOk
  dsimp only
  rw [hs, eb, ← hG, has_pow hg hb0 hb1, decide_eq_false hBn, decide_eq_true hBl]
  rfl
 ·unfold prvN offN
  dsimp only
  rw [hs, eb, hB, ← hG]
  exact key_is hp1 h4
end Go.Proofs.YtcfepoopkfhojaaGreat
namespace Go.Proofs.YtcfepoopkfhojaaGreat
open Go.ChangeShapes Go.WideShapes Go.ChangeAt Go.RowKit
theorem run_lenT7 {a : Act} {w : World} {o : Oper} (T : TypeId) (hu : Tryz.prog.underlying T = some (.slice (Tryz.prog.elem T))) (x : Operand) (ho : o.op = .call { callee := .builtin .len, args := #[x], argTypes := #[T] }) {A : Option Addr} {n c : Nat} (hx : a.eval x = .slice A n c) : (execOp a.eval o).run Tryz.prog w = .ok (.value (.int .i64 (n : Int))) w := y_lnG T hu x ho hx rfl
theorem y_ixP7 {a : Act} {w : World} {o : Oper} {A : Option Addr} {c : Nat} {L : List (List UInt8)} (y k : Operand) (ho : o.op = .indexAddr 54 y k) (hx : a.eval y = .slice A L.length c) (hB : IsP w L (.slice A L.length c)) {z : Int} {i : Nat} (hk : a.eval k = .int .i64 z) (hz : z = (i : Int)) (hi : i < L.length) : (execOp a.eval o).run Tryz.prog w = .ok (.value (ixV (.slice A L.length c) i)) w := by
 subst hz
 obtain ⟨A', c', e, h1, h2, h3⟩ := hB
 injection e with e1 e2 e3
 subst e1 e3
 obtain ⟨b, q, rfl, hb, hc⟩ := h3 (by omega)
 unfold execOp
 simp only [ho, hx, hk]
 have h0 : ¬ ((i : Int) < 0) := by omega
 have h5 : (i : Int) < (L.length : Int) := by omega
 simp [go_sem, h0, h5, hi, ixV, zka]
theorem part_ld7 {w : World} {A : Option Addr} {c : Nat} {L : List (List UInt8)} {l : List UInt8} (hB : IsP w L (.slice A L.length c)) {i : Nat} (hl : L[i]? = some l) :
  ∃ B d, IsB w l (.slice B l.length d) ∧ ∀ (a : Act) (o : Oper) (y : Operand), o.op = .load 22 y → a.eval y = ixV (.slice A L.length c) i → (execOp a.eval o).run Tryz.prog w = .ok (.value (.slice B l.length d)) w := by
 obtain ⟨A', c', e, h1, h2, h3⟩ := hB
 injection e with e1 e2 e3
 subst e1 e3
 have hi : i < L.length := (List.getElem?_eq_some_iff.1 hl).1
 obtain ⟨b, q, rfl, hb, hc⟩ := h3 (by omega)
 obtain ⟨B, d, hcell, q2, q3, q4, q5⟩ := hc i l hl
 refine ⟨B, d, ⟨B, d, rfl, q2, q3, q4, q5⟩, fun a o y ho hx => ?_⟩
 have hx' : a.eval y = .pointer (some ⟨b, q + i, none⟩) := by rw [hx]; simp [ixV, zka]
 have h6 : (isAgg 22).run Tryz.prog w = .ok false w := by
  unfold isAgg
  simp only [Sem.run_bind, run_underlying Tryz.underlying22, Result.andThen_ok]
  rfl
 unfold execOp
 simp only [ho, hx', Instr.loadAt, Instr.sureAddr, loadVar, Sem.run_bind, Sem.run_pure, Result.andThen_ok, h6, Bool.false_eq_true, if_false]
 simp [hcell, Result.andThen]
def shortB (L : List (List UInt8)) : Bool := L.all fun l => decide (l.length ≤ 64)
theorem short_any (L : List (List UInt8)) (u : Value) (w : World) (hu : IsP w L u) :
  Calls Tryz.prog 10 #[u] w fun e w' => e = .returned (.bool (shortB L)) ∧ Below w.heap.size w w' := by
 obtain ⟨A0, c0, rfl, hc1, hc2, hP⟩ := id hu
 have hLm : L.length ≤ 9223372036854775807 := by
  have := hc2
  unfold maxLen at this
  omega
 refine zja (args := [.slice A0 L.length c0]) 16 Tryz.func10 rfl rfl rfl ?_
 intro fa F
 have M := Mx.start w
 refine zSk fun _ hK1 => ?_
 refine zR ?_
 refine rm rfl F fun _ F2 => ?_
 refine hK1 _ _ ?_
 refine zSk fun _ hK3 => ?_
 refine zSk fun _ hK4 => ?_
 refine zR ?_
 refine rm rfl F2 fun _ F5 => ?_
 refine hK4 _ _ ?_
 refine wp_block ?_
 refine loop_fx (α := Nat) (n := 16) (G := none) (w0 := w) (fun x => [(0, .slice A0 L.length c0), (3, .int .i64 (x : Int))]) (fun x => []) (fun k x => k = (L.length - x) ∧ (x ≤ L.length ∧ ∀ (j : Nat) (l : List UInt8), j < x → L[j]? = some l → l.length ≤ 64)) _ 0 ⟨rfl, ⟨Nat.zero_le _, fun j l h => absurd h (Nat.not_lt_zero j)⟩⟩ (F5.sub ⟨rfl, rfl, trivial⟩) (M.sub trivial) ?_
 clear F5 M
 rintro k6 jn a6 w6 K6 ⟨ek6, I6⟩ F6 M6 hK6
 replace F6 : Fx 16 a6 [(0, .slice A0 L.length c0), (3, .int .i64 (jn : Int))] := F6
 replace M6 : Mx _ _ w6 [] := M6
 replace I6 : jn ≤ L.length ∧ ∀ (j : Nat) (l : List UInt8), j < jn → L[j]? = some l → l.length ≤ 64 := I6
 replace ek6 : k6 = (L.length - jn) := ek6
 obtain ⟨hj, hk2⟩ := I6
 refine zSk fun _ hK7 => ?_
 refine zSk fun _ hK8 => ?_
 refine zR ?_
 refine rm rfl F6 fun _ F9 => ?_
 refine rm rfl F9 fun _ F10 => ?_
 refine zk (w' := w6) (zc rfl) rfl F10 rfl (.int .i64 (L.length : Int)) (run_lenT7 54 Tryz.underlying54 _ rfl (F10.get (t := 5) rfl)) fun _ F11 => ?_
 clear F10
 by_cases h12 : (jn : Int) < (L.length : Int)
 ·have hlt : jn < L.length := by omega
  obtain ⟨l1, hl1⟩ : ∃ l, L[jn]? = some l := ⟨_, List.getElem?_eq_getElem hlt⟩
  obtain ⟨B1, d1, hB1, hld⟩ := part_ld7 (hu.step M6.below) hl1
  refine zk (w' := w6) (zc rfl) rfl F11 rfl (.bool true) (y_lss _ _ _ _ rfl (F11.get (t := 4) rfl) (F11.get (t := 6) rfl) (decide_eq_true h12)) fun _ F13 => ?_
  clear F11
  refine hK8 _ _ ?_
  refine wp_cond_true (F13.get (t := 7) rfl) ?_
  refine wp_skip ?_
  refine hK7 _ _ ?_
  refine zSk fun _ hK14 => ?_
  refine wp_block ?_
  refine zSk fun _ hK15 => ?_
  refine zR ?_
  refine rm rfl F13 fun _ F16 => ?_
  refine rm rfl F16 fun _ F17 => ?_
  refine zk (w' := w6) (zc rfl) rfl F17 rfl (ixV (.slice A0 L.length c0) jn) (y_ixP7 _ _ rfl (F17.get (t := 10) rfl) (hu.step M6.below) (F17.get (t := 11) rfl) rfl hlt) fun _ F18 => ?_
  clear F17
  refine zk (w' := w6) (zc rfl) rfl F18 rfl (.slice B1 l1.length d1) (hld _ _ _ rfl (F18.get (t := 12) rfl)) fun _ F19 => ?_
  clear F18
  refine zk (w' := w6) (zc rfl) rfl F19 rfl (.int .i64 (l1.length : Int)) (y_len _ rfl (F19.get (t := 13) rfl) hB1 rfl) fun _ F20 => ?_
  clear F19
  by_cases h21 : 64 < (l1.length : Int)
  ·have hno : shortB L = false := by
    cases e : shortB L with
    | false => rfl
    | true =>
     have := of_decide_eq_true (List.all_eq_true.1 e l1 (List.mem_of_getElem? hl1))
     omega
   refine zk (w' := w6) (zc rfl) rfl F20 rfl (.bool true) (y_gtr _ _ _ _ rfl (F20.get (t := 14) rfl) rfl (decide_eq_true h21)) fun _ F22 => ?_
   clear F20
   refine hK15 _ _ ?_
   refine wp_cond_true (F22.get (t := 15) rfl) ?_
   refine zSk fun _ hK23 => ?_
   refine zR ?_
   refine rm rfl F22 fun _ F24 => ?_
   refine hK23 _ _ ?_
   refine wp_ret ?_
   try simp only [Exit.then, Exit.inBlock, Exit.jump]
   exact bodyPost_ret (res1 rfl (F24.get rfl)) F24.defers ⟨by rw [hno], M6.below⟩
  ·have hl64 : l1.length ≤ 64 := by omega
   refine zk (w' := w6) (zc rfl) rfl F20 rfl (.bool false) (y_gtr _ _ _ _ rfl (F20.get (t := 14) rfl) rfl (decide_eq_false h21)) fun _ F25 => ?_
   clear F20
   refine hK15 _ _ ?_
   refine wp_cond_false (F25.get (t := 15) rfl) ?_
   refine wp_skip ?_
   refine hK14 _ _ ?_
   refine zR ?_
   refine rm rfl F25 fun _ F26 => ?_
   refine zk (w' := w6) (zc rfl) rfl F26 rfl (.int .i64 ((jn + 1 : Nat) : Int)) (y_addI _ _ _ _ rfl (F26.get (t := 8) rfl) rfl (by omega) (by omega)) fun _ F27 => ?_
   clear F26
   refine rm rfl F27 fun _ F28 => ?_
   subst ek6
   exact hK6 _ (jn + 1) _ _ (by omega) ⟨rfl, ⟨by omega, fun j l hj2 hl => by
     by_cases e : j = jn
     ·subst e; rw [hl1] at hl; rw [← Option.some.inj hl]; exact hl64
     ·exact hk2 j l (by omega) hl⟩⟩ (F28.sub ⟨rfl, rfl, trivial⟩) (M6.sub trivial)
 ·have hall : shortB L = true := List.all_eq_true.2 fun l hl => by
   obtain ⟨j, hj, e⟩ := List.getElem_of_mem hl
   exact decide_eq_true (hk2 j l (by omega) (by rw [List.getElem?_eq_getElem hj, e]))
  refine zk (w' := w6) (zc rfl) rfl F11 rfl (.bool false) (y_lss _ _ _ _ rfl (F11.get (t := 4) rfl) (F11.get (t := 6) rfl) (decide_eq_false h12)) fun _ F29 => ?_
  clear F11
  refine hK8 _ _ ?_
  refine wp_cond_false (F29.get (t := 7) rfl) ?_
  refine wp_exit ?_
  simp only [Exit.then, Exit.inBlock, ↓reduceIte, Nat.reduceEqDiff]
  refine hK3 _ _ ?_
  refine zSk fun _ hK30 => ?_
  refine zR ?_
  refine rm rfl F29 fun _ F31 => ?_
  refine hK30 _ _ ?_
  refine wp_ret ?_
  try simp only [Exit.then, Exit.inBlock, Exit.jump]
  exact bodyPost_ret (res1 rfl (F31.get rfl)) F31.defers ⟨by rw [hall], M6.below⟩
end Go.Proofs.YtcfepoopkfhojaaGreat
namespace Go.Proofs.YtcfepoopkfhojaaGreat
open Go.ChangeShapes Go.WideShapes Go.ChangeAt Go.RowKit Go.Shelf
theorem short_mem {L : List (List UInt8)} {l : List UInt8} (h : shortB L = true) (hl : l ∈ L) : l.length ≤ 64 := of_decide_eq_true (List.all_eq_true.1 h l hl)
theorem shareN_ok {x : SideN} {n : Nat} : SideOk (zta x n) := ⟨zyb _, zyb _⟩
theorem shareN_eq {x z : SideN} {n : Nat} (h1 : x.s = z.s) (h2 : x.ls = z.ls) (h3 : x.A = z.A) (h4 : x.B = z.B) : (zta x n).Ky = (zta z n).Ky ∧ (zta x n).Pr = (zta z n).Pr := by
 have e : shL x 2 = shL z 2 := by unfold shL; rw [h1, h2, h3, h4]
 unfold zta
 dsimp only
 rw [e]
 exact ⟨rfl, rfl⟩
theorem srp_sides {k : Int} {p : Nat} (hg : GOk k p) (t : ByteArray) (lp ls : List UInt8) {oa ob V A B : Nat} {C S : SideN} (hb0 : 1 ≤ ob) (hb1 : ob < p / 2) (hV : 4 ^ secN (p / 2) (sBy t) lp ls % p = V) (hA : 4 ^ oa % p = A) (hC : ⟨k, p, p / 2, 4, t, lp, 4 ^ oa % p, 0, oa, [], 0, fun _ => 0, fun _ => 0⟩ = C) (hk : offOk p (p / 2) 4 V A ob = true) (hB : offB p (p / 2) 4 V ob = B) (hS : zta (offS k p (p / 2) 4 t ls V A ob) (offN p (p / 2) 4 V A ob) = S) :
  prvOk C ls B = true ∧ (zta (prvS C ls B) (prvN C ls B)).Ky = S.Ky ∧ (zta (prvS C ls B) (prvN C ls B)).Pr = S.Pr := by
 subst hV hA hC hB hS
 obtain ⟨e1, e2⟩ := srp_meet hg t lp ls hb0 hb1 hk
 refine ⟨e1, ?_⟩
 rw [e2]
 exact shareN_eq rfl rfl rfl rfl
theorem scheck_y (x : SideN) (y : SideV) (ho : SideOk x) (l : List UInt8) (v : Value) (hq : sumY x.Pr = l) (w : World) (hx : SideIs w x y) (hb : IsB w l v) : Calls Tryz.prog 17 #[.agg (zj x y), v] w fun e w' => e = .returned (.tuple #[.agg (zg (ansY x.Ky x.Pr)), .bool true]) ∧ Below w.heap.size w w' := by
 have h := check_any x y ho l v true (decide_eq_true hq) w hx hb
 simpa only [cond_true] using h
end Go.Proofs.YtcfepoopkfhojaaGreat
namespace Go.Proofs.YtcfepoopkfhojaaGreat
open Go.ChangeShapes Go.WideShapes Go.ChangeAt Go.RowKit
theorem within7_any (a n : Int) (hn : 0 < n) (hn' : n < 9223372036854775808) (ha : -9223372036854775808 ≤ a) (ha' : a < 9223372036854775808) (w : World) :
  Calls Tryz.prog 22 #[.int .i64 a, .int .i64 n] w fun e w' => e = .returned (.int .i64 (a % n)) ∧ w = w' := by
 obtain ⟨h1, h2, h3, h4⟩ := tmod_case a n hn
 have hz : (n == 0) = false := by simp; omega
 by_cases h : a.tmod n < 0
 ·have H := hid (h2 h)
  clear h1 h2
  go_enter Tryz.func22, Tryz.ntmps22
  go_wp2
  go_ret
  exact ⟨congrArg (fun x => Ending.returned (.int .i64 x)) H.out, rfl⟩
 ·have H := hid (h1 (by omega))
  clear h1 h2
  go_enter Tryz.func22, Tryz.ntmps22
  go_wp2
  go_ret
  exact ⟨congrArg (fun x => Ending.returned (.int .i64 x)) H.out, rfl⟩
theorem eitherR_in {R : List (Nat × Res)} {i : Nat} {c : Bool} {r s : Res} (hc : c = true) (h : look R i = some r) : look R i = some (z6b c r s) := by subst hc; exact h
theorem y_addU87 {a : Act} {w : World} {o : Oper} (ty tz : TypeId) (x y : Operand) {p q : Int} (ho : o.op = .binOp .add ty x y tz) (hx : a.eval x = .int .u8 p) (hy : a.eval y = .int .u8 q) : (execOp a.eval o).run Tryz.prog w = .ok (.value (.int .u8 (((byteI (p + q)).toNat : Nat) : Int))) w := by
 unfold execOp; simp only [ho, hx, hy]; simp [go_sem, byteI_wrap]
theorem u8_ex7 {a : Int} (h : 0 ≤ a) (h2 : a < 256) : ∃ c : UInt8, a = ((c.toNat : Nat) : Int) := ⟨byteI a, by have := byteI_val a; omega⟩
theorem strB7 {l r : List UInt8} {q : Bool} (h : decide (r = l) = q) : decide ((⟨l.toArray⟩ : ByteArray).toList = (⟨r.toArray⟩ : ByteArray).toList) = q := by
 rw [← h]; exact decide_eq_decide.2 (by rw [mk_toList, mk_toList]; exact ⟨Eq.symm, Eq.symm⟩)
theorem turned_any (l : List UInt8) (a : Int) (c : UInt8) (j : Nat) (bz : UInt8) (hj : a % (l.length : Int) = (j : Int)) (hjl : j < l.length) (hbz : l[j]? = some bz) (hl : l.length ≤ 1000) (ha0 : -9223372036854775808 ≤ a) (ha1 : a < 9223372036854775808) (v : Value) (w : World) (hv : IsB w l v) :
  Calls Tryz.prog 21 #[v, .int .i64 a, .int .u8 ((c.toNat : Nat) : Int)] w fun e w' => ∃ v, e = .returned v ∧ Byt w' w.heap.size v (l.set j (byteI (((bz.toNat : Nat) : Int) + ((c.toNat : Nat) : Int)))) ∧ Below w.heap.size w w' := by
 have h1 := hj
 obtain ⟨Al, cl, rfl⟩ := id hv.shape
 have kW := fun (w : World) => within7_any a (l.length : Int) (by omega) (by omega) ha0 ha1 w
 rw [hj] at kW
 refine zja (args := [.slice Al l.length cl, .int .i64 a, .int .u8 ((c.toNat : Nat) : Int)]) 22 Tryz.func21 rfl rfl rfl ?_
 intro fa F
 have M := Mx.start w
 replace M := M.argB 0 hv (fun g e => by cases e)
 refine zSk fun _ hK1 => ?_
 refine zR ?_
 refine rm rfl F fun _ F2 => ?_
 refine hK1 _ _ ?_
 refine zSk fun _ hK3 => ?_
 refine zR ?_
 refine zya (zc rfl) rfl F2 rfl (run_lit0 M 1 rfl) ?_
 intro v4 a4 w4 F4 M4
 clear F2 M
 obtain ⟨A4, c4, rfl⟩ := (M4.isO (k := 1) rfl).shape
 refine rm rfl F4 fun _ F5 => ?_
 refine zya (zc rfl) rfl F5 rfl (run_app M4 (k := 1) rfl _ _ rfl (F5.get (t := 8) rfl) (F5.get (t := 9) rfl) (M4.isb (k := 0) rfl) (by simp; omega)) ?_
 intro v6 a6 w6 F6 M6
 clear F5 M4
 obtain ⟨A6, c6, rfl⟩ := (M6.isO (k := 1) rfl).shape
 obtain ⟨X1, hX1⟩ : ∃ z, ([] ++ l) = z := ⟨_, rfl⟩
 have M7 : Mx none w w6 [(0, bytR l (.slice Al l.length cl)), (1, ownR X1 (.slice A6 (X1).length c6))] := by rw [← hX1]; exact M6.sub ⟨rfl, rfl, trivial⟩
 have F7 : Fx 22 a6 [(0, .slice Al l.length cl), (1, .int .i64 a), (2, .int .u8 ((c.toNat : Nat) : Int)), (6, zN), (8, .slice A4 (([] : List UInt8)).length c4), (9, .slice Al l.length cl), (10, .slice A6 (X1).length c6)] [] := by rw [← hX1]; exact F6.sub ⟨rfl, rfl, rfl, rfl, rfl, rfl, rfl, trivial⟩
 clear M6 F6
 obtain rfl : l = X1 := hX1
 refine rm rfl F7 fun _ F8 => ?_
 refine hK3 _ _ ?_
 refine zSk fun _ hK9 => ?_
 refine zR ?_
 refine rm rfl F8 fun _ F10 => ?_
 refine rm rfl F10 fun _ F11 => ?_
 refine rm rfl F11 fun _ F12 => ?_
 refine zk (w' := w6) (zc rfl) rfl F12 rfl (.int .i64 (l.length : Int)) (y_len _ rfl (F12.get (t := 13) rfl) (M7.isO (k := 1) rfl) rfl) fun _ F13 => ?_
 clear F12
 refine zw (zc rfl) rfl F13 rfl rfl (zE Tryz.func22 rfl) #[.int .i64 a, .int .i64 (l.length : Int)] (zjb (F13.get (t := 12) rfl) (F13.get (t := 14) rfl)) (zda ((kW w6))) ?_
 rintro _ w14 a14 ⟨rfl, rfl⟩ F14
 refine zk (w' := w6) (zc rfl) rfl F14 rfl ((ixV (.slice A6 (l).length c6) j)) (y_ixB _ _ rfl (F14.get (t := 11) rfl) (M7.isO (k := 1) rfl) (F14.get (t := 15) rfl) rfl (by first | omega | (simp; omega))) fun _ F15 => ?_
 clear F14
 refine zk (w' := w6) (zc rfl) rfl F15 rfl (.int .u8 ((bz.toNat : Nat) : Int)) (y_ldB _ rfl (F15.get (t := 16) rfl) (M7.isO (k := 1) rfl) hbz rfl) fun _ F16 => ?_
 clear F15
 refine rm rfl F16 fun _ F17 => ?_
 refine zk (w' := w6) (zc rfl) rfl F17 rfl (.int .u8 (((byteI (((bz.toNat : Nat) : Int) + ((c.toNat : Nat) : Int))).toNat : Nat) : Int)) (y_addU87 _ _ _ _ rfl (F17.get (t := 17) rfl) (F17.get (t := 18) rfl)) fun _ F18 => ?_
 clear F17
 refine zk (w' := w6) (zc rfl) rfl F18 rfl ((ixV (.slice A6 (l).length c6) j)) (y_ixB _ _ rfl (F18.get (t := 11) rfl) (M7.isO (k := 1) rfl) (F18.get (t := 15) rfl) rfl (by first | omega | (simp; omega))) fun _ F19 => ?_
 clear F18
 refine wl_doM (zc rfl) rfl F19 (run_setO M7 (k := 1) rfl _ _ rfl (F19.get (t := 20) rfl) (byteI (((bz.toNat : Nat) : Int) + ((c.toNat : Nat) : Int))) (F19.get (t := 19) rfl) rfl (by omega)) ?_
 intro w20 M20
 clear M7
 refine hK9 _ _ ?_
 refine zSk fun _ hK21 => ?_
 refine zR ?_
 refine rm rfl F19 fun _ F22 => ?_
 refine rm rfl F22 fun _ F23 => ?_
 refine hK21 _ _ ?_
 refine wp_ret ?_
 try simp only [Exit.then, Exit.inBlock, Exit.jump]
 exact bodyPost_ret (res1 rfl (F23.get rfl)) F23.defers ⟨_, rfl, M20.byt (k := 1) rfl, M20.below⟩
end Go.Proofs.YtcfepoopkfhojaaGreat
namespace Go.Proofs.YtcfepoopkfhojaaGreat
def kX : Nat := secN 16301 [117] [112] [115]
def kV : Nat := 4 ^ kX % 32603
def kA : Nat := texN 16301 [97] [[49]]
def kB : Nat := texN 16301 [98] [[50]]
def kAA : Nat := 4 ^ kA % 32603
end Go.Proofs.YtcfepoopkfhojaaGreat
namespace Go.Proofs.YtcfepoopkfhojaaGreat
open Go.ChangeShapes Go.WideShapes Go.ChangeAt Go.RowKit
theorem kn_off : offOk 32603 16301 4 kV kAA kB = true := by decide +kernel
def kC : SideN := ⟨15, 32603, 16301, 4, { data := #[117] }, [112], kAA, 0, kA, [], 0, fun _ => 0, fun _ => 0⟩
theorem kn_prv : prvOk kC [115] (offB 32603 16301 4 kV kB) = true := by decide +kernel
theorem kn_num : offN 32603 16301 4 kV kAA kB = prvN kC [115] (offB 32603 16301 4 kV kB) := by decide +kernel
noncomputable def kS : SideN := zta (offS 15 32603 16301 4 { data := #[117] } [115] kV kAA kB) (offN 32603 16301 4 kV kAA kB)
noncomputable def kD : SideN := zta (prvS kC [115] (offB 32603 16301 4 kV kB)) (prvN kC [115] (offB 32603 16301 4 kV kB))
theorem kn_Ky : kD.Ky = kS.Ky := by
 unfold kD kS zta
 rw [kn_num]
theorem kn_Pr : kD.Pr = kS.Pr := by
 unfold kD kS zta
 rw [kn_num]; rfl
theorem kn_ok : SideOk kS ∧ SideOk kD := ⟨⟨zyb _, zyb _⟩, ⟨zyb _, zyb _⟩⟩
theorem make_kp {K p : Nat} (g0 : 12 ≤ K) (g1 : K ≤ 24) (p4 : 4 ≤ p) (po : p % 2 = 1) (pl : p < 2 ^ K) (ps : safeB (p : Int) = true) (pn : ∀ x : Int, (p : Int) < x → x < 2 ^ K → safeB x = false) : RunsTo 31 #[.int .i64 (K : Int)] (.tuple #[.agg (zh (K : Int) p (p / 2) 4), .bool true]) := fun w => by
 have hl : 2 ^ K ≤ 2 ^ 24 := Nat.pow_le_pow_right (by decide) (by omega)
 have hp : p < 16777216 := Nat.lt_of_lt_of_le pl hl
 have e : ((2 : Int) ^ K) = ((2 ^ K : Nat) : Int) := by simp
 have hq : ((p / 2 : Nat) : Int) = (p : Int) / 2 := by omega
 refine (rgmake_any (K : Int) (p : Int) (by omega) (by omega) (fun _ => ⟨by omega, by omega, by rw [Int.toNat_natCast, e]; exact_mod_cast pl, ps, by rw [Int.toNat_natCast]; exact pn⟩) w).mono ?_
 rintro e' w' ⟨V, rfl, hV, hb⟩
 rcases hV with ⟨-, hV⟩ | ⟨hn, -⟩
 ·exact ⟨by rw [hV, Int.toNat_natCast, ← hq, Int.toNat_natCast], hb⟩
 ·omega
theorem make15 : RunsTo 31 #[.int .i64 15] (.tuple #[.agg (zh 15 32603 16301 4), .bool true]) := by
 obtain ⟨ps, pn⟩ := tab_of (k := 15) (p := 32603) (D := 180) (E := 127) (by decide) (by decide) (by decide) (by decide) (by decide) tab15
 exact make_kp (K := 15) (p := 32603) (by decide) (by decide) (by decide) (by decide) (by decide) ps pn
theorem group_of {n : Int} {t : Nat} {k : Int} {p : Nat} (ht : t < 9) (kw : ∀ w, Calls Tryz.prog 32 #[.int .i64 n, .int .i64 9] w fun e w' => e = .returned (.int .i64 (t : Int)) ∧ w = w')
  (hk : (#[.int .i64 12, .int .i64 13, .int .i64 14, .int .i64 15, .int .i64 16, .int .i64 17, .int .i64 18, .int .i64 20, .int .i64 24] : Array Value)[t]? = some (.int .i64 k)) (hr : RunsTo 31 #[.int .i64 k] (.tuple #[.agg (zh k p (p / 2) 4), .bool true])) (w : World) :
  Calls Tryz.prog 11 #[.int .i64 n] w fun e w' => e = .returned (.agg (zh k p (p / 2) 4)) ∧ Below w.heap.size w w' := by
 refine zja (args := [.int .i64 n]) 15 Tryz.func11 rfl rfl rfl ?_
 intro fa F
 have M := Mx.start w
 refine zSk fun _ hK1 => ?_
 refine zR ?_
 refine zl (zc rfl) rfl F rfl M 0 (t := 29) (c := zh 0 0 0 0) (by unfold execOp; rw [z0b]; kernel_rfl) ?_
 intro g2 a2 w2 F2 M2
 clear F M
 refine hK1 _ _ ?_
 refine zSk fun _ hK3 => ?_
 refine zR ?_
 refine z3b (zc rfl) rfl F2 rfl M2 1 (t := 3) (c := #[.int .i64 12, .int .i64 13, .int .i64 14, .int .i64 15, .int .i64 16, .int .i64 17, .int .i64 18, .int .i64 20, .int .i64 24]) (k := 9) (m := 9) (y_litI rfl #[.int .i64 12, .int .i64 13, .int .i64 14, .int .i64 15, .int .i64 16, .int .i64 17, .int .i64 18, .int .i64 20, .int .i64 24] rfl (by decide) (by decide) (by simp only [List.map_toArray, List.map_cons, List.map_nil]; kernel_rfl)) ?_
 intro g4 a4 w4 F4 M4
 clear F2 M2
 refine zk (w' := w4) (zc rfl) rfl F4 rfl (.int .i64 n) (run_mv _ (.inl rfl) (F4.get (t := 0) rfl)) fun _ F5 => ?_
 clear F4
 refine zw (zc rfl) rfl F5 rfl rfl (zE Tryz.func32 rfl) #[.int .i64 n, .int .i64 9] (zjb (F5.get (t := 7) rfl) rfl) (zda (kw w4)) ?_
 rintro _ w6 a6 ⟨rfl, rfl⟩ F6
 refine zk (w' := w4) (zc rfl) rfl F6 rfl (.pointer (some ⟨g4, t, none⟩)) (y_ixI _ _ rfl (F6.get (t := 6) rfl) (F6.get (t := 8) rfl) rfl ht (Nat.zero_add t)) fun _ F7 => ?_
 clear F6
 refine zk (w' := w4) (zc rfl) rfl F7 rfl (.int .i64 k) (z3a _ _ rfl (F7.get (t := 9) rfl) (M4.blk (k := 1) rfl) hk Tryz.underlying3 rfl) fun _ F8 => ?_
 clear F7
 refine zw (zc rfl) rfl F8 rfl rfl (zE Tryz.func31 rfl) #[.int .i64 k] (zdb (F8.get (t := 10) rfl)) (zda (hr w4)) ?_
 rintro _ w9 a9 ⟨rfl, b9⟩ F9
 have M9 := M4.step b9
 refine zk (w' := w9) (zc rfl) rfl F9 rfl (.tuple #[.agg (zh k p (p / 2) 4), .bool true]) (run_mv _ (.inl rfl) (F9.get (t := 11) rfl)) fun _ F10 => ?_
 clear F9
 refine zk (w' := w9) (zc rfl) rfl F10 rfl (.agg (zh k p (p / 2) 4)) (y_ext _ _ rfl (F10.get (t := 5) rfl) rfl) fun _ F11 => ?_
 clear F10
 refine zk (w' := w9) (zc rfl) rfl F11 rfl (.bool true) (y_ext _ _ rfl (F11.get (t := 5) rfl) rfl) fun _ F12 => ?_
 clear F11
 refine zl (zc rfl) rfl F12 rfl M9 2 (t := 29) (c := zh 0 0 0 0) (by unfold execOp; rw [z0b]; kernel_rfl) ?_
 intro g13 a13 w13 F13 M13
 clear F12 M9
 refine zu (zc rfl) rfl F13 M13 (k := 2) rfl _ _ _ rfl (F13.get (t := 3) rfl) (F13.get (t := 12) rfl) (zh k p (p / 2) 4) _ rfl (zL rfl) (z9b _ _ _ _) (zr rfl) (by kernel_rfl) ?_
 intro w14 M14
 clear M13
 refine zk (w' := w14) (zc rfl) rfl F13 rfl (.bool true) (run_mv _ (.inr rfl) (F13.get (t := 13) rfl)) fun _ F15 => ?_
 clear F13
 refine hK3 _ _ ?_
 refine zSk fun _ hK16 => ?_
 refine zR ?_
 refine zk (w' := w14) (zc rfl) rfl F15 rfl _ (z8a _ _ rfl (F15.get (t := 3) rfl) (M14.blk (k := 2) rfl) (zh k p (p / 2) 4) (zgb rfl) Tryz.underlying29 rfl (by kernel_rfl)) fun _ F17 => ?_
 clear F15
 refine zu (zc rfl) rfl F17 M14 (k := 0) rfl _ _ _ rfl (F17.get (t := 2) rfl) (F17.get (t := 14) rfl) (zh k p (p / 2) 4) _ rfl (zL rfl) (z9b _ _ _ _) (zr rfl) (by kernel_rfl) ?_
 intro w18 M18
 clear M14
 refine hK16 _ _ ?_
 refine wp_ret ?_
 try simp only [Exit.then, Exit.inBlock]
 exact bodyPost_ret (results_cell_row rfl _ _ _ _ _ (0, 0) _ (F17.get rfl) (M18.blk (k := 0) rfl) Tryz.underlying29 rfl (by kernel_rfl)) F17.defers ⟨rfl, M18.below⟩
theorem group_3 (w : World) : Calls Tryz.prog 11 #[.int .i64 3] w fun e w' => e = .returned (.agg (zh 15 32603 16301 4)) ∧ Below w.heap.size w w' :=
 group_of (n := 3) (t := 3) (k := 15) (p := 32603) (by decide) (fun w => gwithin_any 3 9 (by decide) (by decide) (by decide) (by decide) w) rfl make15 w
theorem side_two {G : Option Nat} {w0 w w' : World} {R : List (Nat × Res)} (M : Mx G w0 w R) (hb : Below w.heap.size w w') (i j : Nat) {x : SideN} {y : SideV} (h : SideIs w' x y) (h1 : ∀ b, bfp y.vp b → w.heap.size ≤ b) (h2 : ∀ b, bfp y.vs b → w.heap.size ≤ b) (hij : i ≠ j) : Mx G w0 w' ((j, bytR x.ls y.vs) :: (i, bytR x.lp y.vp) :: R) ∧ True :=
 ⟨(M.fresh hb i _ h.hp bytR_dep (fun g hg => ⟨h1 g hg, h.hp.lt hg⟩)).cons j _ h.hs bytR_dep (fun g hg => h.hs.lt hg) (fun e => by cases e) fun k s e hk hw g hg hs => by
  rcases hw with hw | hw
  ·cases hw
  rw [zxa] at e
  split at e
  ·cases e; cases hw
  ·have := M.lt k s e g hs
   have := h2 g hg
   omega, trivial⟩
section
theorem kc_v (w : World) (vp vs : Value) (hp : IsB w [112] vp) (hs : IsB w [115] vs) : Calls Tryz.prog 12 #[.agg (zh 15 32603 16301 4), .string ({ data := #[117] }), vp, vs] w fun e w' => e = .returned (numV kV) ∧ Below w.heap.size w w' :=
 verifier_any 15 32603 16301 4 (by decide) (by decide) (by decide) (by decide) (by decide) (by decide) { data := #[117] } (by decide) [112] [115] vp vs w hp hs
theorem kc_h (w : World) (vp vd : Value) (hp : IsB w [112] vp) (hd : IsB w [49] vd) : Calls Tryz.prog 13 #[.agg (zh 15 32603 16301 4), .string ({ data := #[117] }), vp, vd] w fun e w' => ∃ v, e = .returned v ∧ ∃ y : SideV, v = .tuple #[.agg (zj kC y), numV kAA] ∧ SideIs w' kC y ∧ (∀ b, bfp y.vp b → w.heap.size ≤ b) ∧ (∀ b, bfp y.vs b → w.heap.size ≤ b) ∧ Below w.heap.size w w' :=
 (hello_any 15 32603 16301 4 (by decide) (by decide) (by decide) (by decide) (by decide) (by decide) { data := #[117] } [112] [49] vp vd (by decide) w hp hd).mono fun e w' ⟨vc, h1, h2, h3, h4⟩ => ⟨_, h1, ⟨vc, zN⟩, rfl, h2, h3, fun b hb => absurd hb (zfc b), h4⟩
theorem kc_o (w : World) (v vd : Value) (hv : IsB w [115] v) (hd : IsB w [50] vd) : Calls Tryz.prog 14 #[.agg (zh 15 32603 16301 4), .agg (recA ⟨1, { data := #[117] }, [115], kV, 0, [], 0, 0, 0⟩ ⟨v, zN⟩), numV kAA, vd] w fun e w' => ∃ v, e = .returned v ∧ ∃ y : SideV, v = .tuple #[.agg (zj kS y), numV (offB 32603 16301 4 kV kB), .bool true] ∧ SideIs w' kS y ∧ (∀ b, bfp y.vp b → w.heap.size ≤ b) ∧ (∀ b, bfp y.vs b → w.heap.size ≤ b) ∧ Below w.heap.size w w' := by
 have h := offer_any 15 32603 16301 4 (by decide) (by decide) (by decide) (by decide) (by decide) (by decide) (by decide) ⟨1, { data := #[117] }, [115], kV, 0, [], 0, 0, 0⟩ ⟨v, zN⟩ (Nat.lt_trans (Nat.mod_lt _ (by decide)) (by decide)) (by decide) (by decide) kAA (Nat.lt_trans (Nat.mod_lt _ (by decide)) (by decide)) [50] vd w ⟨hv, zna _⟩ hd
 rw [show texN 16301 [98] [[50]] = kB from rfl] at h
 simp only [kn_off, cond_true] at h
 exact h.mono fun e w' ⟨vc, h1, h2, h3, h4⟩ => ⟨_, h1, ⟨zN, vc⟩, rfl, h2, fun b hb => absurd hb (zfc b), h3, h4⟩
theorem kA_lt : kA < 4294967296 := Nat.lt_trans (expN_bd (by decide) _).2 (by decide)
theorem kc_p (w : World) (y : SideV) (vl : Value) (hx : SideIs w kC y) (hl : IsB w [115] vl) : Calls Tryz.prog 16 #[.agg (zj kC y), vl, numV (offB 32603 16301 4 kV kB)] w fun e w' => ∃ v, e = .returned v ∧ ∃ y : SideV, v = .tuple #[.agg (zj kD y), .agg (zg kD.Pr), .bool true] ∧ SideIs w' kD y ∧ (∀ b, bfp y.vp b → w.heap.size ≤ b) ∧ (∀ b, bfp y.vs b → w.heap.size ≤ b) ∧ Below w.heap.size w w' := by
 have h := prove_any kC y (show 32603 % 2 = 1 by decide) (show 1 < 32603 by decide) (show 32603 < 4294967296 by decide) (show 2 < 16301 by decide) (show 16301 ≤ 4294967296 by decide) kA_lt (show 4 < 4294967296 ^ 8 by decide) (show 1 ≤ 1000 by decide) (show 1 ≤ 100000 by decide) [115] (by decide) vl (offB 32603 16301 4 kV kB) (Nat.lt_trans (Nat.mod_lt _ (by decide)) (by decide)) w hx hl
 simp only [kn_prv, cond_true] at h
 exact h.mono fun e w' ⟨y', h1, h2⟩ => ⟨_, h1, y', rfl, h2⟩
theorem kc_c (w : World) (y : SideV) (v : Value) (hx : SideIs w kS y) (hv : IsB w (sumY kD.Pr) v) : Calls Tryz.prog 17 #[.agg (zj kS y), v] w fun e w' => e = .returned (.tuple #[.agg (zg (ansY kS.Ky kS.Pr)), .bool true]) ∧ Below w.heap.size w w' :=
 check_any kS y kn_ok.1 (sumY kD.Pr) v true (decide_eq_true (by rw [kn_Pr])) w hx hv
theorem kc_d (w : World) (y : SideV) (v : Value) (hx : SideIs w kD y) (hv : IsB w (sumY (ansY kS.Ky kS.Pr)) v) : Calls Tryz.prog 19 #[.agg (zj kD y), v] w fun e w' => e = .returned (.bool true) ∧ Below w.heap.size w w' :=
 done_any kD y kn_ok.2 _ v true (decide_eq_true (by rw [kn_Ky, kn_Pr])) w hx hv
theorem kc_b (y : Nat → Int) (hy : ∀ k, 0 ≤ y k ∧ y k < 256) (w : World) : Calls Tryz.prog 18 #[.agg (zg y)] w fun e w' => ∃ v, e = .returned v ∧ Below w.heap.size w w' ∧ IsB w' (sumY y) v :=
 (srbytes_any y hy w).mono fun e w' ⟨v, h1, h2, h3⟩ => ⟨v, h1, h3, h2.isb⟩
theorem kc_z (w : World) : Calls Tryz.prog 19 #[.agg (zj ⟨0, 0, 0, 0, "".toUTF8, [], 0, 0, 0, [], 0, fun _ => 0, fun _ => 0⟩ ⟨zN, zN⟩), zN] w fun e w' => e = .returned (.bool false) ∧ Below w.heap.size w w' :=
 done_any _ _ ⟨fun _ => ⟨Int.le_refl _, (show (0 : Int) < 256 by decide)⟩, fun _ => ⟨Int.le_refl _, (show (0 : Int) < 256 by decide)⟩⟩ [] _ false (decide_eq_false fun h => absurd (congrArg List.length h) (by rw [zpb]; decide)) w ⟨zna _, zna _⟩ (zna _)
end
theorem sknown_any  (w : World) :
  Calls Tryz.prog 9 #[] w fun e w' => e = .returned (.bool true) ∧ Below w.heap.size w w' := by
 have kG := group_3
 refine zja (args := []) 83 Tryz.func9 rfl rfl rfl ?_
 intro fa F
 have M := Mx.start w
 refine zSk fun _ hK1 => ?_
 refine zR ?_
 refine rm rfl F fun _ F2 => ?_
 refine hK1 _ _ ?_
 refine zSk fun _ hK3 => ?_
 refine zR ?_
 refine zw (zc rfl) rfl F2 rfl rfl (zE Tryz.func11 rfl) #[.int .i64 3] (zdb rfl) (zda (kG w)) ?_
 rintro _ w4 a4 ⟨rfl, b4⟩ F4
 have M4 := M.step b4
 refine zl (zc rfl) rfl F4 rfl M4 0 (t := 29) (c := zh 0 0 0 0) (by unfold execOp; rw [z0b]; kernel_rfl) ?_
 intro g5 a5 w5 F5 M5
 clear F4 M4
 refine zu (zc rfl) rfl F5 M5 (k := 0) rfl _ _ _ rfl (F5.get (t := 1) rfl) (F5.get (t := 13) rfl) (zh 15 32603 16301 4) _ rfl (zL rfl) (z9b _ _ _ _) (zr rfl) (by kernel_rfl) ?_
 intro w6 M6
 clear M5
 refine hK3 _ _ ?_
 refine zSk fun _ hK7 => ?_
 refine zR ?_
 refine zya (zc rfl) rfl F5 rfl (zoc M6 1 [115] 1 rfl (by decide) (by decide) rfl (by simp only [List.map_toArray, List.map_cons, List.map_nil]; kernel_rfl)) ?_
 intro v8 a8 w8 F8 M8
 clear F5 M6
 obtain ⟨A8, c8, rfl⟩ := (M8.isO (k := 1) rfl).shape
 refine zya (zc rfl) rfl F8 rfl (run_cvL M8 (k := 1) rfl (by decide) _ rfl (F8.get (t := 14) rfl)) ?_
 intro v9 a9 w9 F9 M9
 clear F8 M8
 obtain ⟨A9, c9, rfl⟩ := (M9.isb (k := 1) rfl).shape
 refine zk (w' := w9) (zc rfl) rfl F9 rfl _ (z8a _ _ rfl (F9.get (t := 1) rfl) (M9.blk (k := 0) rfl) (zh 15 32603 16301 4) (zgb rfl) Tryz.underlying29 rfl (by kernel_rfl)) fun _ F10 => ?_
 clear F9
 refine zya (zc rfl) rfl F10 rfl (zoc M9 2 [112] 1 rfl (by decide) (by decide) rfl (by simp only [List.map_toArray, List.map_cons, List.map_nil]; kernel_rfl)) ?_
 intro v11 a11 w11 F11 M11
 clear F10 M9
 obtain ⟨A11, c11, rfl⟩ := (M11.isO (k := 2) rfl).shape
 refine zya (zc rfl) rfl F11 rfl (run_cvL M11 (k := 2) rfl (by decide) _ rfl (F11.get (t := 17) rfl)) ?_
 intro v12 a12 w12 F12 M12
 clear F11 M11
 obtain ⟨A12, c12, rfl⟩ := (M12.isb (k := 2) rfl).shape
 refine zya (zc rfl) rfl F12 rfl (zoc M12 3 [115] 1 rfl (by decide) (by decide) rfl (by simp only [List.map_toArray, List.map_cons, List.map_nil]; kernel_rfl)) ?_
 intro v13 a13 w13 F13 M13
 clear F12 M12
 obtain ⟨A13, c13, rfl⟩ := (M13.isO (k := 3) rfl).shape
 refine zya (zc rfl) rfl F13 rfl (run_cvL M13 (k := 3) rfl (by decide) _ rfl (F13.get (t := 19) rfl)) ?_
 intro v14 a14 w14 F14 M14
 clear F13 M13
 obtain ⟨A14, c14, rfl⟩ := (M14.isb (k := 3) rfl).shape
 refine zw (zc rfl) rfl F14 rfl rfl (zE Tryz.func12 rfl) #[.agg (zh 15 32603 16301 4), .string ({ data := #[117] }), .slice A12 ([112]).length c12, .slice A14 ([115]).length c14] (args4 (F14.get (t := 16) rfl) rfl (F14.get (t := 18) rfl) (F14.get (t := 20) rfl)) (zda ((kc_v w14 _ _ (M14.isb (k := 2) rfl) (M14.isb (k := 3) rfl)))) ?_
 rintro _ w15 a15 ⟨rfl, b15⟩ F15
 have M15 := M14.step b15
 refine zk (w' := w15) (zc rfl) rfl F15 rfl (.agg (recA ⟨1, ({ data := #[117] }), [115], kV, 0, [], 0, 0, 0⟩ ⟨.slice A9 ([115]).length c9, zN⟩)) (by unfold execOp; simp only [List.map_toArray, List.map_cons, List.map_nil, (F15.get (t := 15) rfl), (F15.get (t := 21) rfl)]; kernel_rfl) fun _ F16 => ?_
 clear F15
 refine zl (zc rfl) rfl F16 rfl M15 4 (t := 33) (c := recA ⟨0, "".toUTF8, [], 0, 0, [], 0, 0, 0⟩ ⟨zN, zN⟩) (by unfold execOp; kernel_rfl) ?_
 intro g17 a17 w17 F17 M17
 clear F16 M15
 refine zu (zc rfl) rfl F17 M17 (k := 4) rfl _ _ _ rfl (F17.get (t := 2) rfl) (F17.get (t := 22) rfl) (recA ⟨1, ({ data := #[117] }), [115], kV, 0, [], 0, 0, 0⟩ ⟨.slice A9 ([115]).length c9, zN⟩) _ rfl (zL rfl) (recA_one (w := w17) ⟨(M17.isb (k := 1) rfl), zna _⟩) (zr rfl) (by kernel_rfl) ?_
 intro w18 M18
 clear M17
 refine hK7 _ _ ?_
 refine zSk fun _ hK19 => ?_
 refine zR ?_
 refine zk (w' := w18) (zc rfl) rfl F17 rfl _ (z8a _ _ rfl (F17.get (t := 1) rfl) (M18.blk (k := 0) rfl) (zh 15 32603 16301 4) (zgb rfl) Tryz.underlying29 rfl (by kernel_rfl)) fun _ F20 => ?_
 clear F17
 refine zya (zc rfl) rfl F20 rfl (zoc M18 5 [112] 1 rfl (by decide) (by decide) rfl (by simp only [List.map_toArray, List.map_cons, List.map_nil]; kernel_rfl)) ?_
 intro v21 a21 w21 F21 M21
 clear F20 M18
 obtain ⟨A21, c21, rfl⟩ := (M21.isO (k := 5) rfl).shape
 refine zya (zc rfl) rfl F21 rfl (run_cvL M21 (k := 5) rfl (by decide) _ rfl (F21.get (t := 25) rfl)) ?_
 intro v22 a22 w22 F22 M22
 clear F21 M21
 obtain ⟨A22, c22, rfl⟩ := (M22.isb (k := 5) rfl).shape
 refine zya (zc rfl) rfl F22 rfl (zoc M22 6 [49] 1 rfl (by decide) (by decide) rfl (by simp only [List.map_toArray, List.map_cons, List.map_nil]; kernel_rfl)) ?_
 intro v23 a23 w23 F23 M23
 clear F22 M22
 obtain ⟨A23, c23, rfl⟩ := (M23.isO (k := 6) rfl).shape
 refine zya (zc rfl) rfl F23 rfl (run_cvL M23 (k := 6) rfl (by decide) _ rfl (F23.get (t := 27) rfl)) ?_
 intro v24 a24 w24 F24 M24
 clear F23 M23
 obtain ⟨A24, c24, rfl⟩ := (M24.isb (k := 6) rfl).shape
 refine zw (zc rfl) rfl F24 rfl rfl (zE Tryz.func13 rfl) #[.agg (zh 15 32603 16301 4), .string ({ data := #[117] }), .slice A22 ([112]).length c22, .slice A24 ([49]).length c24] (args4 (F24.get (t := 24) rfl) rfl (F24.get (t := 26) rfl) (F24.get (t := 28) rfl)) (kc_h w24 _ _ (M24.isb (k := 5) rfl) (M24.isb (k := 6) rfl)) ?_
 rintro _ w25 a25 ⟨y25, rfl, his25, hlo25, hls25, b25⟩ F25
 obtain ⟨M25, -⟩ := side_two M24 b25 7 8 his25 hlo25 hls25 (by decide)
 clear M24 hlo25 hls25 his25 b25
 refine zB 3 [(0, .bool false), (1, .pointer (some ⟨g5, 0, none⟩)), (2, .pointer (some ⟨g17, 0, none⟩)), (30, .agg (zj kC y25)), (31, numV kAA)] [] dnil [] F25 fun _ F26 => ?_
 clear F25
 refine zl (zc rfl) rfl F26 rfl M25 9 (t := 37) (c := zSA) (by unfold execOp; kernel_rfl) ?_
 intro g27 a27 w27 F27 M27
 clear F26 M25
 refine zl (zc rfl) rfl F27 rfl M27 10 (t := 27) (c := numA 0) (zx rfl) ?_
 intro g28 a28 w28 F28 M28
 clear F27 M27
 refine zu (zc rfl) rfl F28 M28 (k := 9) rfl _ _ _ rfl (F28.get (t := 3) rfl) (F28.get (t := 30) rfl) (zj kC y25) _ rfl (zL rfl) (zcb (w := w28) ⟨(M28.isb (k := 7) rfl), (M28.isb (k := 8) rfl)⟩) (zr rfl) (by kernel_rfl) ?_
 intro w29 M29
 clear M28
 refine zu (zc rfl) rfl F28 M29 (k := 10) rfl _ _ _ rfl (F28.get (t := 4) rfl) (F28.get (t := 31) rfl) (numA kAA) _ rfl (zL rfl) (zga _) (zr rfl) ze ?_
 intro w30 M30
 clear M29
 refine hK19 _ _ ?_
 refine zSk fun _ hK31 => ?_
 refine zR ?_
 refine zk (w' := w30) (zc rfl) rfl F28 rfl _ (z8a _ _ rfl (F28.get (t := 1) rfl) (M30.blk (k := 0) rfl) (zh 15 32603 16301 4) (zgb rfl) Tryz.underlying29 rfl (by kernel_rfl)) fun _ F32 => ?_
 clear F28
 refine zk (w' := w30) (zc rfl) rfl F32 rfl _ (z8a _ _ rfl (F32.get (t := 2) rfl) (M30.blk (k := 4) rfl) (recA ⟨1, ({ data := #[117] }), [115], kV, 0, [], 0, 0, 0⟩ ⟨.slice A9 ([115]).length c9, zN⟩) (zgb rfl) Tryz.underlying33 rfl (by kernel_rfl)) fun _ F33 => ?_
 clear F32
 refine zk (w' := w30) (zc rfl) rfl F33 rfl (numV kAA) (z8a _ _ rfl (F33.get (t := 4) rfl) (M30.blk (k := 10) rfl) (numA kAA) (zgb rfl) Tryz.underlying27 rfl ze) fun _ F34 => ?_
 clear F33
 refine zya (zc rfl) rfl F34 rfl (zoc M30 11 [50] 1 rfl (by decide) (by decide) rfl (by simp only [List.map_toArray, List.map_cons, List.map_nil]; kernel_rfl)) ?_
 intro v35 a35 w35 F35 M35
 clear F34 M30
 obtain ⟨A35, c35, rfl⟩ := (M35.isO (k := 11) rfl).shape
 refine zya (zc rfl) rfl F35 rfl (run_cvL M35 (k := 11) rfl (by decide) _ rfl (F35.get (t := 36) rfl)) ?_
 intro v36 a36 w36 F36 M36
 clear F35 M35
 obtain ⟨A36, c36, rfl⟩ := (M36.isb (k := 11) rfl).shape
 refine zw (zc rfl) rfl F36 rfl rfl (zE Tryz.func14 rfl) #[.agg (zh 15 32603 16301 4), .agg (recA ⟨1, ({ data := #[117] }), [115], kV, 0, [], 0, 0, 0⟩ ⟨.slice A9 ([115]).length c9, zN⟩), numV kAA, .slice A36 ([50]).length c36] (args4 (F36.get (t := 33) rfl) (F36.get (t := 34) rfl) (F36.get (t := 35) rfl) (F36.get (t := 37) rfl)) (kc_o w36 _ _ (M36.isb (k := 1) rfl) (M36.isb (k := 11) rfl)) ?_
 rintro _ w37 a37 ⟨y37, rfl, his37, hlo37, hls37, b37⟩ F37
 obtain ⟨M37, -⟩ := side_two M36 b37 12 13 his37 hlo37 hls37 (by decide)
 clear M36 hlo37 hls37 his37 b37
 refine zB 4 [(0, .bool false), (2, .pointer (some ⟨g17, 0, none⟩)), (3, .pointer (some ⟨g27, 0, none⟩)), (39, .agg (zj kS y37)), (40, numV (offB 32603 16301 4 kV kB)), (41, .bool true)] [] dnil [] F37 fun _ F38 => ?_
 clear F37
 refine zl (zc rfl) rfl F38 rfl M37 14 (t := 37) (c := zSA) (by unfold execOp; kernel_rfl) ?_
 intro g39 a39 w39 F39 M39
 clear F38 M37
 refine zl (zc rfl) rfl F39 rfl M39 15 (t := 27) (c := numA 0) (zx rfl) ?_
 intro g40 a40 w40 F40 M40
 clear F39 M39
 refine zu (zc rfl) rfl F40 M40 (k := 14) rfl _ _ _ rfl (F40.get (t := 5) rfl) (F40.get (t := 39) rfl) (zj kS y37) _ rfl (zL rfl) (zcb (w := w40) ⟨(M40.isb (k := 12) rfl), (M40.isb (k := 13) rfl)⟩) (zr rfl) (by kernel_rfl) ?_
 intro w41 M41
 clear M40
 refine zu (zc rfl) rfl F40 M41 (k := 15) rfl _ _ _ rfl (F40.get (t := 6) rfl) (F40.get (t := 40) rfl) (numA (offB 32603 16301 4 kV kB)) _ rfl (zL rfl) (zga _) (zr rfl) ze ?_
 intro w42 M42
 clear M41
 refine rm rfl F40 fun _ F43 => ?_
 refine hK31 _ _ ?_
 refine zSk fun _ hK44 => ?_
 refine zR ?_
 refine zB 4 [(0, .bool false), (5, .pointer (some ⟨g39, 0, none⟩)), (7, .bool true), (43, .agg (zj kC y25)), (45, .slice A9 ([115]).length c9), (46, numV (offB 32603 16301 4 kV kB))] [0, 1, 2] (zz (M42.blk (k := 9) rfl) (zz (M42.blk (k := 4) rfl) (zz (M42.blk (k := 15) rfl) dnil))) [g27, g17, g40] F43 fun _ F45 => ?_
 clear F43
 refine zw (zc rfl) rfl F45 rfl rfl (zE Tryz.func16 rfl) #[.agg (zj kC y25), .slice A9 ([115]).length c9, numV (offB 32603 16301 4 kV kB)] (args3 (F45.get (t := 43) rfl) (F45.get (t := 45) rfl) (F45.get (t := 46) rfl)) (kc_p w42 _ _ ⟨(M42.isb (k := 7) rfl), (M42.isb (k := 8) rfl)⟩ (M42.isb (k := 1) rfl)) ?_
 rintro _ w46 a46 ⟨y46, rfl, his46, hlo46, hls46, b46⟩ F46
 obtain ⟨M46, -⟩ := side_two M42 b46 16 17 his46 hlo46 hls46 (by decide)
 clear M42 hlo46 hls46 his46 b46
 refine zB 4 [(0, .bool false), (5, .pointer (some ⟨g39, 0, none⟩)), (7, .bool true), (48, .agg (zj kD y46)), (49, .agg (zg kD.Pr)), (50, .bool true)] [] dnil [] F46 fun _ F47 => ?_
 clear F46
 refine zl (zc rfl) rfl F47 rfl M46 18 (t := 37) (c := zSA) (by unfold execOp; kernel_rfl) ?_
 intro g48 a48 w48 F48 M48
 clear F47 M46
 refine zl (zc rfl) rfl F48 rfl M48 19 (t := 35) (c := zg (fun _ => 0)) (by unfold execOp; kernel_rfl) ?_
 intro g49 a49 w49 F49 M49
 clear F48 M48
 refine zu (zc rfl) rfl F49 M49 (k := 18) rfl _ _ _ rfl (F49.get (t := 8) rfl) (F49.get (t := 48) rfl) (zj kD y46) _ rfl (zL rfl) (zcb (w := w49) ⟨(M49.isb (k := 16) rfl), (M49.isb (k := 17) rfl)⟩) (zr rfl) (by kernel_rfl) ?_
 intro w50 M50
 clear M49
 refine zu (zc rfl) rfl F49 M50 (k := 19) rfl _ _ _ rfl (F49.get (t := 9) rfl) (F49.get (t := 49) rfl) (zg kD.Pr) _ rfl (zL rfl) (zca _) (zr rfl) (by kernel_rfl) ?_
 intro w51 M51
 clear M50
 refine rm rfl F49 fun _ F52 => ?_
 refine hK44 _ _ ?_
 refine zSk fun _ hK53 => ?_
 have hD54 := (zz (M51.blk (k := 14) rfl) (zz (M51.blk (k := 19) rfl) dnil))
 refine region_fxL F52 (SK [.inl (.agg (zj kS y37)), .inl (.agg (zg kD.Pr)), .inr (StK.bytes (sumY kD.Pr)), .inl (.tuple #[.agg (zg (ansY kS.Ky kS.Pr)), .bool true]), .inl (.tuple #[.agg (zg (ansY kS.Ky kS.Pr)), .bool true]), .inl (.agg (zg (ansY kS.Ky kS.Pr))), .inl (.bool true), .inr (StK.new w51.heap.size (zg (fun _ => 0)) 35 (by decide))]) 8 6 51 1 4 #[.agg (zg (ansY kS.Ky kS.Pr)), .bool true] (.bool true) rfl (by kernel_rfl) rfl (by kernel_rfl) (fun _ _ h => h) rfl (fun _ _ => Iff.rfl) rfl ⟨hopP F52 hD54 0 (some g39) (by kernel_rfl), hopP F52 hD54 1 (some g49) (by kernel_rfl), ?_, ?_, hop0 F52 (by kernel_rfl), hop0 F52 (by kernel_rfl), hop0 F52 (by kernel_rfl), ?_, trivial⟩ ?_
 ·intro ua uw hb hd
  have e53 : ua.eval (.tmp 53) = .agg (zg kD.Pr) := hd 53 (by decide)
  exact zpa (F := (StK.bytes (sumY kD.Pr)).F) (zc rfl) hb.size rfl #[.agg (zg kD.Pr)] (zdb e53) (zE Tryz.func18 rfl) ((kc_b kD.Pr kn_ok.2.pr uw))
 ·intro ua uw hb hd
  have e52 : ua.eval (.tmp 52) = .agg (zj kS y37) := hd 52 (by decide)
  have e54 : IsB uw (sumY kD.Pr) (ua.eval (.tmp 54)) := hd 54 (by decide)
  exact zpa (F := (StK.eq (.tuple #[.agg (zg (ansY kS.Ky kS.Pr)), .bool true])).F) (zc rfl) hb.size rfl #[.agg (zj kS y37), (ua.eval (.tmp 54))] (zjb e52 rfl) (zE Tryz.func17 rfl) (zmb ((kc_c uw _ _ ⟨((M51.step hb).isb (k := 12) rfl), ((M51.step hb).isb (k := 13) rfl)⟩ e54)))
 ·intro ua uw hb hd
  exact hop_new (zc rfl) hb.size hb.size (by decide) (by unfold execOp; kernel_rfl)
 intro p55 a55 w55 b55 G55 y55
 obtain ⟨-, -, -, -, -, q5, q6, q7, -⟩ := y55
 obtain ⟨gn7x54, r7, hg7, hc7⟩ := q7 (by decide)
 replace r7 : p55 7 = .pointer (some ⟨gn7x54, 0, none⟩) := r7
 have r5 : p55 5 = .agg (zg (ansY kS.Ky kS.Pr)) := q5 (by decide)
 have r6 : p55 6 = .bool true := q6 (by decide)
 simp only [List.take, layV, Nat.zero_add, Nat.reduceAdd, r5, r6, r7] at G55
 have M55 := M51.newb b55.below 20 hg7 hc7
 clear hg7 hc7 r7
 clear F52 M51 r5 q5 r6 q6
 refine st_ex M55 (k := 20) rfl _ _ _ rfl (G55.get (t := 11) rfl) (G55.get (t := 56) rfl) (zg (ansY kS.Ky kS.Pr)) _ rfl (zL rfl) (zca _) (zr rfl) (by kernel_rfl) ?_
 intro w56 M56
 clear M55
 refine rm rfl G55 fun _ F57 => ?_
 refine hK53 _ _ ?_
 refine zSk fun _ hK58 => ?_
 have hD59 := (zz (M56.blk (k := 18) rfl) (zz (M56.blk (k := 20) rfl) (zz (M56.blk (k := 14) rfl) dnil)))
 refine zoa F57 (SK [.inl (.agg (zSA)), .inl (.bool false), .inl (.bool true), .inl (.bool true), .inl (.bool true), .inl (.bool true), .inl (.bool true), .inl (.bool true), .inl (.bool true), .inl (.bool true), .inl (.bool true), .inl (.bool true), .inl (.bool true), .inl (.agg (zj kD y46)), .inl (.agg (zg (ansY kS.Ky kS.Pr))), .inr (StK.bytes (sumY (ansY kS.Ky kS.Pr))), .inl (.bool true), .inl (.bool true), .inl (.bool true), .inl (.pointer (some ⟨g48, 60, none⟩)), .inl (.agg (zg kD.Ky)), .inl (.pointer (some ⟨g39, 60, none⟩)), .inl (.agg (zg kS.Ky)), .inl (.bool true), .inl (.bool true), .inl (.bool true)]) 26 rfl (by kernel_rfl) ⟨hopR F57 [] (v := .agg (zSA)) fun ua uw hb _ => (by unfold execOp; kernel_rfl), ?_, hop0 F57 (by kernel_rfl), hop0 F57 (by kernel_rfl), hop0 F57 (by kernel_rfl), hop0 F57 (by kernel_rfl), hop0 F57 (by kernel_rfl), hop0 F57 (by kernel_rfl), hop0 F57 (by kernel_rfl), hop0 F57 (by kernel_rfl), hop0 F57 (by kernel_rfl), hop0 F57 (by kernel_rfl), hop0 F57 (by kernel_rfl), hopP F57 hD59 0 (some g48) (by kernel_rfl), hopP F57 hD59 1 (some gn7x54) (by kernel_rfl), ?_, ?_, hop0 F57 (by kernel_rfl), hop0 F57 (by kernel_rfl), hop0 F57 (by kernel_rfl), hopP F57 hD59 0 (some g48) (by kernel_rfl), hop0 F57 (by kernel_rfl), hopP F57 hD59 2 (some g39) (by kernel_rfl), hopR F57 [(78, .agg (zg kD.Ky)), (80, .agg (zg kS.Ky))] (v := .bool true) fun ua uw hb ⟨e78, e80, _⟩ => (run_eq16 _ _ rfl kS.Ky (e78.trans (by rw [kn_Ky])) e80), hop0 F57 (by kernel_rfl), hop0 F57 (by kernel_rfl), trivial⟩ ?_
 ·intro ua uw hb hd
  have e58 : ua.eval (.tmp 58) = .agg (zSA) := hd 58 (by decide)
  exact zpa (F := (StK.eq (.bool false)).F) (zc rfl) hb.size rfl #[.agg (zSA), zN] (zjb e58 rfl) (zE Tryz.func19 rfl) (zmb ((kc_z uw)))
 ·intro ua uw hb hd
  have eg : ua.eval (.tmp 70) = .bool true := hd 70 (by decide)
  have e72 : ua.eval (.tmp 72) = .agg (zg (ansY kS.Ky kS.Pr)) := hd 72 (by decide)
  exact zpa (F := (StK.bytes (sumY (ansY kS.Ky kS.Pr))).F) (zjc rfl rfl rfl eg) hb.size rfl #[.agg (zg (ansY kS.Ky kS.Pr))] (zdb e72) (zE Tryz.func18 rfl) ((kc_b (ansY kS.Ky kS.Pr) (zyb _) uw))
 ·intro ua uw hb hd
  have eg : ua.eval (.tmp 70) = .bool true := hd 70 (by decide)
  have e71 : ua.eval (.tmp 71) = .agg (zj kD y46) := hd 71 (by decide)
  have e73 : IsB uw (sumY (ansY kS.Ky kS.Pr)) (ua.eval (.tmp 73)) := hd 73 (by decide)
  exact zpa (F := (StK.eq (.bool true)).F) (zjc rfl rfl rfl eg) hb.size rfl #[.agg (zj kD y46), (ua.eval (.tmp 73))] (zjb e71 rfl) (zE Tryz.func19 rfl) (zmb ((kc_d uw _ _ ⟨((M56.step hb).isb (k := 16) rfl), ((M56.step hb).isb (k := 17) rfl)⟩ e73)))
 intro p60 a60 w60 b60 G60 y60
 obtain ⟨-, -, -, -, -, -, -, -, -, -, -, -, -, -, -, -, -, -, -, -, -, -, -, -, -, q25, -⟩ := y60
 have r25 : p60 25 = .bool true := q25 (by decide)
 simp only [List.take, layV, Nat.zero_add, Nat.reduceAdd, r25] at G60
 have M60 := M56.kc b60
 clear F57 M56 r25 q25
 refine hK58 _ _ ?_
 refine wp_ret ?_
 try simp only [Exit.then, Exit.inBlock, Exit.jump]
 exact bodyPost_ret (res1 rfl (G60.get (t := 0) rfl)) G60.defers ⟨rfl, M60.below⟩
end Go.Proofs.YtcfepoopkfhojaaGreat
