/- What SrpNames stands on, part 12. -/
import Derived.Test.YtcfepoopkfhojaaGreatSrpNamesP1
import Derived.Test.YtcfepoopkfhojaaGreatSrpNamesP2
import Derived.Test.YtcfepoopkfhojaaGreatSrpNamesP3
import Derived.Test.YtcfepoopkfhojaaGreatSrpNamesP4
import Derived.Test.YtcfepoopkfhojaaGreatSrpNamesP5
import Derived.Test.YtcfepoopkfhojaaGreatSrpNamesP6
import Derived.Test.YtcfepoopkfhojaaGreatSrpNamesP7
import Derived.Test.YtcfepoopkfhojaaGreatSrpNamesP8
import Derived.Test.YtcfepoopkfhojaaGreatSrpNamesP9
import Derived.Test.YtcfepoopkfhojaaGreatSrpNamesP10
import Derived.Test.YtcfepoopkfhojaaGreatSrpNamesP11
set_option maxRecDepth 100000
set_option maxHeartbeats 8000000
set_option linter.unusedVariables false
set_option linter.unusedSimpArgs false
/- sentinelref3: Bytes, Stretch, Stream; sponge.Stretch. -/
namespace Go.Proofs.YtcfepoopkfhojaaGreat
open Go.ChangeShapes Go.WideShapes Go.ChangeAt Go.RowKit Go.Shelf
theorem rstretch_any (A : Option Addr) (pass : List UInt8) (n0 c0 : Nat) (hn0 : pass.length = n0) (hc0 : n0 ≤ c0) (hm0 : c0 ≤ maxLen) (hz0 : A = none → c0 = 0) (B : Option Addr) (salt : List UInt8) (n1 c1 : Nat) (hn1 : salt.length = n1) (hc1 : n1 ≤ c1) (hm1 : c1 ≤ maxLen) (hz1 : B = none → c1 = 0) (hl0 : n0 ≤ 2000) (hl1 : n1 ≤ 2000) (t : Int) (ht0 : -9223372036854775808 ≤ t) (ht1 : t < 9223372036854775808) (T : Nat) (hT : (T : Int) = max 1 (min t 1000) - 1) (w : World) (hR0 : Rd w A pass) (hR1 : Rd w B salt) :
  Calls Tryz.prog 91 #[.slice A n0 c0, .slice B n1 c1, .int .i64 t] w fun e w' => e = .returned (.agg (zk (strA pass salt T))) ∧ Below w.heap.size w w' := by
 have b0 := zca w (.cells #[Value.int .u8 0, .int .u8 0, .int .u8 0, .int .u8 0, .int .u8 0, .int .u8 0, .int .u8 0, .int .u8 0, .int .u8 0, .int .u8 0, .int .u8 0, .int .u8 0, .int .u8 0, .int .u8 0, .int .u8 0, .int .u8 0] 35)
 have y0 := Blk.new w 35 #[Value.int .u8 0, .int .u8 0, .int .u8 0, .int .u8 0, .int .u8 0, .int .u8 0, .int .u8 0, .int .u8 0, .int .u8 0, .int .u8 0, .int .u8 0, .int .u8 0, .int .u8 0, .int .u8 0, .int .u8 0, .int .u8 0]
 have R0 := hR0.step b0
 have R1 := hR1.step b0
 have s0 : (w.alloc (.cells #[Value.int .u8 0, .int .u8 0, .int .u8 0, .int .u8 0, .int .u8 0, .int .u8 0, .int .u8 0, .int .u8 0, .int .u8 0, .int .u8 0, .int .u8 0, .int .u8 0, .int .u8 0, .int .u8 0, .int .u8 0, .int .u8 0] 35)).heap.size = w.heap.size + 1 := by simp
 have hT9 : T ≤ 999 := by omega
 have hls : ∀ l ∈ [salt], l.length ≤ 2000 := fun l hl => by rw [List.mem_singleton.1 hl]; omega
 have hcs : (cat [salt]).length ≤ 5000 := by simp [cat, zrb]; omega
 go_enter Tryz.func91, Tryz.ntmps91
 go_wp2_with fail
 generalize World.alloc _ _ = W at *
 have P1 := prd_one hn1 hc1 hm1 hz1 R1
 rw [s0] at P1
 have a1 := zca W (.cells #[.slice B n1 c1] 22)
 have R0a := R0.step a1
 have B1 := zr b0 a1
 have y1 := y0.step a1
 refine ((rmac_any A pass n0 c0 hn0 hz0 (by omega) _ [salt] 1 1 rfl (Nat.le_refl _) (by omega) hls hcs _ R0a P1)).mono ?_
 rintro e w1 ⟨rfl, b1⟩
 have y2 := y1.step b1
 have R02 := R0a.step b1
 have B2 := zr B1 b1
 obtain ⟨F, hF⟩ : ∃ F, F = strU pass salt 0 := ⟨_, rfl⟩
 rw [show macW pass [salt] = F from hF.symm]
 have z1 := Blk.new w1 35 #[Value.int .u8 0, .int .u8 0, .int .u8 0, .int .u8 0, .int .u8 0, .int .u8 0, .int .u8 0, .int .u8 0, .int .u8 0, .int .u8 0, .int .u8 0, .int .u8 0, .int .u8 0, .int .u8 0, .int .u8 0, .int .u8 0]
 have a2 := zca w1 (.cells #[Value.int .u8 0, .int .u8 0, .int .u8 0, .int .u8 0, .int .u8 0, .int .u8 0, .int .u8 0, .int .u8 0, .int .u8 0, .int .u8 0, .int .u8 0, .int .u8 0, .int .u8 0, .int .u8 0, .int .u8 0, .int .u8 0] 35)
 clear R1 R0 P1 a1 y0 y1 b1 b0 B1 R0a hR1
 have HF := hid hF
 clear hF
 go_wp2_with (first | (refine zq rfl _ (.tmp 7) _ rfl _ rfl _ rfl (zla _) _ z1 rfl zlb ?_; intro w2 g2 c2; have b2 := zmb g2; have y3 := y2.step b2; have R03 := R02.step b2; have B3 := zr B2 b2; have z2 := Blk.new w2 35 #[Value.int .u8 0, .int .u8 0, .int .u8 0, .int .u8 0, .int .u8 0, .int .u8 0, .int .u8 0, .int .u8 0, .int .u8 0, .int .u8 0, .int .u8 0, .int .u8 0, .int .u8 0, .int .u8 0, .int .u8 0, .int .u8 0]; have hu : w1.heap.size < w2.heap.size := c2.lt) | (refine zy rfl _ (.tmp 7) rfl _ rfl _ _ _ c2 Tryz.underlying35 rfl zlb ?_) | (refine zq rfl _ (.tmp 8) _ rfl _ rfl _ rfl (zla _) _ z2 rfl zlb ?_; intro w3 g3 c3; have b3 := zmb g3; have y4 := y3.step b3; have R04 := R03.step b3; have B4 := zr B3 b3; have c24 := c2.step b3))
 have hu3 : w1.heap.size < w3.heap.size := c24.lt
 have hv3 : w2.heap.size < w3.heap.size := c3.lt
 have hy4 := y4.lt
 obtain ⟨U, hU⟩ : ∃ U, U = w1.heap.size := ⟨_, rfl⟩
 obtain ⟨V, hV⟩ : ∃ V, V = w2.heap.size := ⟨_, rfl⟩
 rw [← hU] at c24 ⊢
 rw [← hV] at c3 ⊢
 rw [HF.out] at c24 c3
 have hUw : w.heap.size < U := by have := y2.lt; omega
 have hUV : U ≠ V := by omega
 have hwV : w.heap.size < V := by omega
 have hU3 : U < w3.heap.size := by omega
 have hV3 : V < w3.heap.size := by omega
 clear HF y2 R02 B2 z1 a2 g2 c2 b2 y3 R03 B3 z2 g3 b3 hu hu3 hv3 hU hV
 go_loopw [9] (fun i wr => ∃ k : Nat, k ≤ T ∧ i = .int .i64 ((k : Int) + 1) ∧ Blk wr U 35 (zk (outF (strU pass salt k))) ∧ Blk wr V 35 (zk (strA pass salt k)) ∧ Below (w.heap.size + 1) w3 wr) (fun i _ => 1001 - (intOf i).toNat)
 case atStart => exact ⟨0, by omega, rfl, c24, c3, Below.refl _ _⟩
 case round =>
  obtain ⟨k, hk, rfl, hu, hv, hB⟩ := hrel
  have hz := hB.size
  have hul := hu.lt
  have hvl := hv.lt
  have HU := hid (show strU pass salt (k + 1) = macW pass [sumL (strU pass salt k)] from rfl)
  have HA := hid (show zk (strA pass salt (k + 1)) = zk (fun j => xorB (strA pass salt k j) (outF (strU pass salt (k + 1)) j)) from rfl)
  have hab := hid (strA_bd pass salt k)
  have hob := hid (zdc (strU pass salt k))
  obtain ⟨a, ha⟩ : ∃ a, a = strA pass salt k := ⟨_, rfl⟩
  obtain ⟨u, hu'⟩ : ∃ u, u = strU pass salt k := ⟨_, rfl⟩
  obtain ⟨u2, hu2⟩ : ∃ u2, u2 = strU pass salt (k + 1) := ⟨_, rfl⟩
  rw [← ha, ← hu2] at HA
  rw [← ha] at hab hv
  rw [← hu'] at hob hu
  rw [← hu2, ← hu'] at HU
  have Ha := hid ha
  have Hu2 := hid hu2
  clear ha hu2 hu'
  by_cases hlt : k < T
  ·have Rr : Rd wr A pass := hR0.below (B4.trans (hB.mono (by omega))) (Nat.le_refl _)
   have d1 : (k : Int) + 1 < t := by omega
   have d2 : (k : Int) + 1 < 1000 := by omega
   ·go_wp2_with (refine zy rfl _ (.tmp 7) rfl _ rfl _ _ _ hu Tryz.underlying35 rfl zlb ?_)
    refine (srbytes_any (outF u) hob.out _).mono ?_
    rintro e w6 ⟨v6, rfl, h6, b6⟩
    obtain ⟨A6, c6, rfl, q61, q62, R6, _⟩ := h6.slice
    have nn6 := h6.none0
    rw [zyb] at q61 ⊢
    have P1 := prd_one (sumL_len u) q61 q62 nn6 R6
    have a1 := zr b6 (zca w6 (.cells #[.slice A6 16 c6] 22))
    have Ra := Rr.step a1
    have hlu : ∀ l ∈ [sumL u], l.length ≤ 2000 := fun l hl => by rw [List.mem_singleton.1 hl, sumL_len]; omega
    have hcu : (cat [sumL u]).length ≤ 5000 := by simp [cat, zrb, sumL_len]
    clear h6 R6
    go_wp2_with fail
    refine ((rmac_any A pass n0 c0 hn0 hz0 (by omega) _ [sumL u] 1 1 rfl (Nat.le_refl _) (by omega) hlu hcu _ Ra P1)).mono ?_
    rintro e w4 ⟨rfl, b4⟩
    rw [← HU.out]
    have B4 := zr a1 b4
    have hu4 := hu.step B4
    have hv4 := hv.step B4
    have hz4 := B4.size
    clear a1 P1 Ra b4 b6
    go_wp2_with (refine zq rfl _ (.tmp 7) _ rfl _ rfl _ rfl (zla _) _ hu4 rfl zlb ?_; intro w5 g5 c5)
    have v5 := hv4.grown g5 (fun e => by cases e; omega)
    have B5 : Below (w.heap.size + 1) w3 w5 := zf (hB.trans (B4.mono (by omega))) g5 (by omega) (by omega)
    rw [midA_zero a (outF u2)] at v5
    have hz5 := B5.size
    clear hu4 hv4 B4 g5 hu hv hB
    go_loopw [10] (fun i wr => ∃ j : Nat, j ≤ 16 ∧ i = .int .i64 (j : Int) ∧ Blk wr U 35 (zk (outF u2)) ∧ Blk wr V 35 (zk (midA a (outF u2) j)) ∧ Below (w.heap.size + 1) w3 wr) (fun i _ => 16 - (intOf i).toNat)
    case atStart => exact ⟨0, by omega, rfl, c5, v5, B5⟩
    case round =>
     rename_i wr2 _ _
     obtain ⟨j, hj, rfl, cu, cv, hB2⟩ := hrel
     have hzz := hB2.size
     by_cases hj6 : j < 16
     ·have h1 := cu.cell (arr16_at' (outF u2) hj6)
      have h2 := cv.cell (arr16_at' (midA a (outF u2) j) hj6)
      rw [show midA a (outF u2) j j = a j by unfold midA; rw [if_neg (by omega)]] at h2
      have h3 := Blk.frozen cv j
      have hset := hid (midA_set a (outF u2) hj6)
      have hxb := xorB_bd (a j) (outF u2 j)
      unfold xorB at hset hxb
      generalize a j = X at *
      generalize outF u2 j = Y at *
      go_wp2
      go_still_tail 9, (by kernel_rfl)
      change wpList _ _ _ _ _ (World.drew _)
      go_wp2
      go_roundw
      case rel => exact ⟨j + 1, by omega, by go_num, (cu.drew.far (a := ⟨V, j, none⟩) _ (by simpa using hUV)), cv.drew.set j _ hset.out, hB2.drew.setCell (p := ⟨V, j, none⟩) (by simp; omega) _⟩
      case measure => simp [intOf]; omega
     ·obtain rfl : j = 16 := by omega
      rw [midA_full, ← HA.out] at cv
      rw [Hu2.out] at cu
      clear HA HU
      go_wp2
      go_roundw
      case rel => exact ⟨k + 1, by omega, by go_num, cu, cv, hB2⟩
      case measure => simp [intOf]; omega
  ·obtain rfl : k = T := by omega
   rw [Ha.out] at hv
   clear HU HA hab hob Ha Hu2
   have y5 := Blk.below y4 hB (by omega)
   have hd : ((k : Int) + 1 < t ∧ ¬ (k : Int) + 1 < 1000) ∨ ¬ (k : Int) + 1 < t := by omega
   rcases hd with ⟨d1, d2⟩ | d1
   all_goals
    go_wp2_with (first | (refine zy rfl _ (.tmp 8) rfl _ rfl _ _ _ hv Tryz.underlying35 rfl zlb ?_) | (refine zq rfl _ (.tmp 6) _ rfl _ rfl _ rfl (zla _) _ y5 rfl zlb ?_; intro w6 g6 c6))
    exact bodyPost_ret (zdb rfl rfl c6 Tryz.underlying35 rfl zlb) rfl ⟨rfl, zf (B4.trans (hB.mono (by omega))) g6 (by have := B4.size; omega) (Nat.le_refl _)⟩
end Go.Proofs.YtcfepoopkfhojaaGreat
namespace Go.Proofs.YtcfepoopkfhojaaGreat
open Go.ChangeShapes Go.WideShapes Go.ChangeAt Go.RowKit
section
variable (k : Int) (p q g : Nat) (w : World)
end
theorem rsmall_any (a : Nat) (ha : a < 4294967296) (w : World) :
  Calls Tryz.prog 60 #[numV a] w fun e w' => e = .returned (.int .i64 (a : Int)) ∧ Below w.heap.size w w' := by
 have g0 := Num.new w 27 a
 have c0 := g0.cell (k := 0) (by omega)
 have c1 := g0.cell (k := 1) (by omega)
 rw [digI_zero a ha] at c0
 rw [digI_small a 1 (by omega) ha] at c1
 have hor : bits BinOp.or IntKind.i64 (a : Int) 0 = (a : Int) := by
  have := (bits_nat .i64 63 (by decide) (fun n h0 h1 => by rw [IntKind.wrap_i64]; omega) a 0 (by omega) (by decide)).2
  simpa using this
 obtain ⟨A, hA⟩ : ∃ A : Int, Hid ((a : Int) = A) := ⟨_, hid rfl⟩
 have a0 : 0 ≤ A := by rw [← hA.out]; omega
 have a1 : A < 4294967296 := by rw [← hA.out]; omega
 rw [hA.out] at c0 hor
 rw [hA.out]
 go_enter Tryz.func60, Tryz.ntmps60
 go_wp2
 go_ret
 exact ⟨rfl, (Below.refl _ _).alloc (Nat.le_refl _) _⟩
theorem rleft_any (a m : Nat) (ha : a < 4294967296 ^ 8) (h0 : 0 < m) (h1 : m < 4294967296) (w : World) :
  Calls Tryz.prog 61 #[numV a, .int .i64 (m : Int)] w fun e w' => e = .returned (.int .i64 ((a % m : Nat) : Int)) ∧ Below w.heap.size w w' := by
 obtain ⟨r, hr⟩ : ∃ r, a % m = r := ⟨_, rfl⟩
 have r1 : r < 4294967296 := by rw [← hr]; exact Nat.lt_trans (Nat.mod_lt _ h0) h1
 have kF := fun w => from_ref (m : Int) (by omega) (by omega) w
 rw [Int.toNat_natCast] at kF
 have kR := fun w => rrest_pos a 0 m ha (by decide) (Nat.lt_trans h1 (by decide)) h0 w
 rw [Nat.zero_mul, Nat.add_zero, hr] at kR
 rw [hr]
 obtain ⟨z, hz⟩ : ∃ z : Int, (m : Int) = z := ⟨_, rfl⟩
 rw [hz] at kF ⊢
 refine zra (args := [numV a, .int .i64 z]) 17 Tryz.func61 rfl rfl rfl ?_
 intro fa F
 have M := Mx.start w
 refine zSk fun _ hK1 => ?_
 refine zR ?_
 refine zo (zc rfl) rfl F rfl M 0 (t := 27) (c := numA a) (by unfold execOp; simp only [(F.get (t := 0) rfl)]; kernel_rfl) ?_
 intro g2 a2 w2 F2 M2
 clear F M
 refine zh (w' := w2) (zc rfl) rfl F2 rfl (.int .i64 0) (zia _ (.inr rfl) rfl) fun _ F3 => ?_
 clear F2
 refine hK1 _ _ ?_
 refine zSk fun _ hK4 => ?_
 refine region_fxL F3 [StK.eq (numV a), StK.eq (numV 0), StK.eq (.int .i64 z), StK.eq (numV m), StK.eq (.tuple #[numV r, .bool true]), StK.eq (.tuple #[numV r, .bool true]), StK.eq (numV r), StK.eq (.bool true), StK.new w2.heap.size (numA 0) 27 (by decide)] 9 7 7 1 5 #[numV r, .bool true] (.bool true) rfl (by kernel_rfl) rfl (by kernel_rfl) (fun _ _ h => h) rfl (fun _ _ => Iff.rfl) rfl ⟨?_, ?_, ?_, ?_, ?_, ?_, ?_, ?_, ?_, trivial⟩ ?_
 ·intro ua uw hb hd
  have e2 : ua.eval (.tmp 2) = .pointer (some ⟨g2, 0, none⟩) := (show ua.eval (.tmp 2) = _ from hd 2 (by decide)).trans (F3.get (t := 2) rfl)
  exact zaa (F := (StK.eq (numV a)).F) (zc rfl) (numV a) (zga _ _ rfl e2 ((M2.step hb).blk (k := 0) rfl) (numA a) (zta rfl) Tryz.underlying27 rfl ze) rfl
 ·intro ua uw hb hd
  exact zaa (F := (StK.eq (numV 0)).F) (zc rfl) (numV 0) (y_zbuild rfl) rfl
 ·intro ua uw hb hd
  have e1 : ua.eval (.tmp 1) = .int .i64 z := (show ua.eval (.tmp 1) = _ from hd 1 (by decide)).trans (F3.get (t := 1) rfl)
  exact zaa (F := (StK.eq (.int .i64 z)).F) (zc rfl) (.int .i64 z) (zia _ (.inl rfl) e1) rfl
 ·intro ua uw hb hd
  have e10 : ua.eval (.tmp 10) = .int .i64 z := hd 10 (by decide)
  exact zda (F := (StK.eq (numV m)).F) (zc rfl) hb.size rfl #[.int .i64 z] (z2a e10) (zE Tryz.func63 rfl) (zsa (kF uw))
 ·intro ua uw hb hd
  have e8 : ua.eval (.tmp 8) = numV a := hd 8 (by decide)
  have e9 : ua.eval (.tmp 9) = numV 0 := hd 9 (by decide)
  have e11 : ua.eval (.tmp 11) = numV m := hd 11 (by decide)
  exact zda (F := (StK.eq (.tuple #[numV r, .bool true])).F) (zc rfl) hb.size rfl #[numV a, numV 0, numV m] (args3 e8 e9 e11) (zE Tryz.func58 rfl) (zsa (kR uw))
 ·intro ua uw hb hd
  have e12 : ua.eval (.tmp 12) = .tuple #[numV r, .bool true] := hd 12 (by decide)
  exact zaa (F := (StK.eq (.tuple #[numV r, .bool true])).F) (zc rfl) (.tuple #[numV r, .bool true]) (zia _ (.inl rfl) e12) rfl
 ·intro ua uw hb hd
  have e7 : ua.eval (.tmp 7) = .tuple #[numV r, .bool true] := hd 7 (by decide)
  exact zaa (F := (StK.eq (numV r)).F) (zc rfl) (numV r) (y_ext _ _ rfl e7 rfl) rfl
 ·intro ua uw hb hd
  have e7 : ua.eval (.tmp 7) = .tuple #[numV r, .bool true] := hd 7 (by decide)
  exact zaa (F := (StK.eq (.bool true)).F) (zc rfl) (.bool true) (y_ext _ _ rfl e7 rfl) rfl
 ·intro ua uw hb hd
  exact hop_new (zc rfl) hb.size hb.size (by decide) (zba rfl)
 intro p5 a5 w5 b5 G5 y5
 obtain ⟨-, -, -, -, -, -, q6, q7, q8, -⟩ := y5
 obtain ⟨gn8x4, r8, hg8, hc8⟩ := q8 (by decide)
 replace r8 : p5 8 = .pointer (some ⟨gn8x4, 0, none⟩) := r8
 have r6 : p5 6 = numV r := q6 (by decide)
 have r7 : p5 7 = .bool true := q7 (by decide)
 simp only [List.take, layV, Nat.zero_add, Nat.reduceAdd, r6, r7, r8] at G5
 have M5 := M2.newb b5.below 1 hg8 hc8
 clear hg8 hc8 r8
 clear F3 M2 r6 q6 r7 q7
 refine st_ex M5 (k := 1) rfl _ _ _ rfl (G5.get (t := 5) rfl) (G5.get (t := 13) rfl) (numA r) _ rfl (zL rfl) (zfc _) (zx rfl) ze ?_
 intro w6 M6
 clear M5
 refine zh (w' := w6) (zc rfl) rfl G5 rfl (.bool true) (zia _ (.inr rfl) (G5.get (t := 14) rfl)) fun _ F7 => ?_
 clear G5
 refine hK4 _ _ ?_
 refine zSk fun _ hK8 => ?_
 refine zR ?_
 refine zh (w' := w6) (zc rfl) rfl F7 rfl (numV r) (zga _ _ rfl (F7.get (t := 5) rfl) (M6.blk (k := 1) rfl) (numA r) (zta rfl) Tryz.underlying27 rfl ze) fun _ F9 => ?_
 clear F7
 refine zea (zc rfl) rfl F9 rfl rfl (zE Tryz.func60 rfl) #[numV r] (z2a (F9.get (t := 15) rfl)) (zha (rsmall_any r r1 w6)) ?_
 rintro _ w10 a10 ⟨rfl, b10⟩ F10
 have M10 := M6.step b10
 refine zh (w' := w10) (zc rfl) rfl F10 rfl (.int .i64 (r : Int)) (zia _ (.inr rfl) (F10.get (t := 16) rfl)) fun _ F11 => ?_
 clear F10
 refine hK8 _ _ ?_
 refine wp_ret ?_
 try simp only [Exit.then, Exit.inBlock]
 exact bodyPost_ret (res1 rfl (F11.get rfl)) F11.defers ⟨rfl, M10.below⟩
theorem rraise_any (k : Int) (P Q g : Nat) (h1 : 1 < P) (hP : P < 2147483648) (a e : Nat) (ha : a < 4294967296 ^ 8) (he : e < 4294967296 ^ 8) (w : World) :
  Calls Tryz.prog 27 #[.agg (zg k P Q g), numV a, numV e] w fun e' w' => e' = .returned (numV (a ^ e % P)) ∧ Below w.heap.size w w' := by
 obtain ⟨K, hT0, hT1, hT2⟩ := top_ends he
 obtain ⟨pz, hpz⟩ : ∃ z : Int, (P : Int) = z := ⟨_, rfl⟩
 have kS := fun w => rsmall_any P (by omega) w
 have kL := fun w => rleft_any a P ha (by omega) (by omega) w
 have kB := fun w => rbits_any e he w
 rw [hT0] at kB
 rw [hpz] at kS kL
 obtain ⟨y, hy⟩ : ∃ y, a % P = y := ⟨_, rfl⟩
 rw [hy] at kL
 have hyl : y < P := by rw [← hy]; exact Nat.mod_lt _ (by omega)
 have hp0 := pr_first (m := P) (a := a) h1 hT2
 have hlast := pr_last P a e
 have kF := fun (x : Nat) (hx : x < P) w => from_ref (x : Int) (by omega) (by omega) w
 have hXX : ∀ X Y : Nat, X < P → Y < P → -9223372036854775808 ≤ (X : Int) * Y ∧ (X : Int) * Y < 9223372036854775808 := fun X Y hX hY => by
  have h1 : X * Y ≤ 2147483648 * 2147483648 := Nat.mul_le_mul (by omega) (by omega)
  have h2 : (X : Int) * Y = ((X * Y : Nat) : Int) := by simp
  rw [h2]; omega
 refine zra (args := [.agg (zg k P Q g), numV a, numV e]) 46 Tryz.func27 rfl rfl rfl ?_
 intro fa F
 have M := Mx.start w
 refine zSk fun _ hK1 => ?_
 refine zR ?_
 refine zo (zc rfl) rfl F rfl M 0 (t := 29) (c := zg k P Q g) (by unfold execOp; simp only [(F.get (t := 0) rfl)]; kernel_rfl) ?_
 intro g2 a2 w2 F2 M2
 clear F M
 refine zo (zc rfl) rfl F2 rfl M2 1 (t := 27) (c := numA a) (by unfold execOp; simp only [(F2.get (t := 1) rfl)]; kernel_rfl) ?_
 intro g3 a3 w3 F3 M3
 clear F2 M2
 refine zo (zc rfl) rfl F3 rfl M3 2 (t := 27) (c := numA e) (by unfold execOp; simp only [(F3.get (t := 2) rfl)]; kernel_rfl) ?_
 intro g4 a4 w4 F4 M4
 clear F3 M3
 refine zo (zc rfl) rfl F4 rfl M4 3 (t := 27) (c := numA 0) (zba rfl) ?_
 intro g5 a5 w5 F5 M5
 clear F4 M4
 refine hK1 _ _ ?_
 refine zSk fun _ hK6 => ?_
 refine zR ?_
 refine zh (w' := w5) (zc rfl) rfl F5 rfl (.pointer (some ⟨g2, 1, none⟩)) (by unfold execOp; simp only [(F5.get (t := 3) rfl)]; kernel_rfl) fun _ F7 => ?_
 clear F5
 refine zh (w' := w5) (zc rfl) rfl F7 rfl (numV P) (zga _ _ rfl (F7.get (t := 11) rfl) (M5.blk (k := 0) rfl) (numA P) groupA_p Tryz.underlying27 rfl ze) fun _ F8 => ?_
 clear F7
 refine zea (zc rfl) rfl F8 rfl rfl (zE Tryz.func60 rfl) #[numV P] (z2a (F8.get (t := 12) rfl)) (zha (kS w5)) ?_
 rintro _ w9 a9 ⟨rfl, b9⟩ F9
 have M9 := M5.step b9
 refine zh (w' := w9) (zc rfl) rfl F9 rfl (.int .i64 pz) (zia _ (.inr rfl) (F9.get (t := 13) rfl)) fun _ F10 => ?_
 clear F9
 refine hK6 _ _ ?_
 refine zSk fun _ hK11 => ?_
 refine zR ?_
 refine zh (w' := w9) (zc rfl) rfl F10 rfl (numV a) (zga _ _ rfl (F10.get (t := 4) rfl) (M9.blk (k := 1) rfl) (numA a) (zta rfl) Tryz.underlying27 rfl ze) fun _ F12 => ?_
 clear F10
 refine zh (w' := w9) (zc rfl) rfl F12 rfl (.int .i64 pz) (zia _ (.inl rfl) (F12.get (t := 7) rfl)) fun _ F13 => ?_
 clear F12
 refine zea (zc rfl) rfl F13 rfl rfl (zE Tryz.func61 rfl) #[numV a, .int .i64 pz] (z7b (F13.get (t := 14) rfl) (F13.get (t := 15) rfl)) (zha (kL w9)) ?_
 rintro _ w14 a14 ⟨rfl, b14⟩ F14
 have M14 := M9.step b14
 refine zh (w' := w14) (zc rfl) rfl F14 rfl (.int .i64 1) (zia _ (.inr rfl) rfl) fun _ F15 => ?_
 clear F14
 refine zh (w' := w14) (zc rfl) rfl F15 rfl (.int .i64 (y : Int)) (zia _ (.inr rfl) (F15.get (t := 16) rfl)) fun _ F16 => ?_
 clear F15
 refine hK11 _ _ ?_
 refine zSk fun _ hK17 => ?_
 refine zSk fun _ hK18 => ?_
 refine zR ?_
 refine zh (w' := w14) (zc rfl) rfl F16 rfl (numV e) (zga _ _ rfl (F16.get (t := 5) rfl) (M14.blk (k := 2) rfl) (numA e) (zta rfl) Tryz.underlying27 rfl ze) fun _ F19 => ?_
 clear F16
 refine zea (zc rfl) rfl F19 rfl rfl (zE Tryz.func62 rfl) #[numV e] (z2a (F19.get (t := 17) rfl)) (zha (kB w14)) ?_
 rintro _ w20 a20 ⟨rfl, b20⟩ F20
 have M20 := M14.step b20
 refine zh (w' := w20) (zc rfl) rfl F20 rfl (.int .i64 ((K : Int) - 1)) (y_subI _ _ _ _ rfl (F20.get (t := 18) rfl) rfl rfl (by omega)) fun _ F21 => ?_
 clear F20
 refine zh (w' := w20) (zc rfl) rfl F21 rfl (.int .i64 ((K : Int) - 1)) (zia _ (.inr rfl) (F21.get (t := 19) rfl)) fun _ F22 => ?_
 clear F21
 refine hK18 _ _ ?_
 refine wp_block ?_
 refine loop_fx (α := Nat) (fun x => [(0, .agg (zg k P Q g)), (1, numV a), (2, numV e), (3, .pointer (some ⟨g2, 0, none⟩)), (4, .pointer (some ⟨g3, 0, none⟩)), (5, .pointer (some ⟨g4, 0, none⟩)), (6, .pointer (some ⟨g5, 0, none⟩)), (11, .pointer (some ⟨g2, 1, none⟩)), (12, numV P), (13, .int .i64 pz), (7, .int .i64 pz), (14, numV a), (15, .int .i64 pz), (16, .int .i64 (y : Int)), (9, .int .i64 (y : Int)), (17, numV e), (18, .int .i64 (K : Int)), (19, .int .i64 ((K : Int) - 1)), (8, .int .i64 ((prN P a e x : Nat) : Int)), (10, .int .i64 ((x : Int) - 1))]) (fun x => [(0, blkR g2 29 (zg k P Q g)), (1, blkR g3 27 (numA a)), (2, blkR g4 27 (numA e)), (3, blkR g5 27 (numA 0))]) (fun k x => k = x ∧ (x ≤ 256)) _ K ⟨rfl, hT1⟩ (F22.sub ⟨rfl, rfl, rfl, rfl, rfl, rfl, rfl, rfl, rfl, rfl, rfl, rfl, rfl, rfl, rfl, rfl, rfl, rfl, (by rw [hp0]; rfl), rfl, trivial⟩) (M20.sub ⟨rfl, rfl, rfl, rfl, trivial⟩) ?_
 clear F22 M20
 rintro k23 jn a23 w23 K23 ⟨ek23, I23⟩ F23 M23 hK23
 replace F23 : Fx 46 a23 [(0, .agg (zg k P Q g)), (1, numV a), (2, numV e), (3, .pointer (some ⟨g2, 0, none⟩)), (4, .pointer (some ⟨g3, 0, none⟩)), (5, .pointer (some ⟨g4, 0, none⟩)), (6, .pointer (some ⟨g5, 0, none⟩)), (11, .pointer (some ⟨g2, 1, none⟩)), (12, numV P), (13, .int .i64 pz), (7, .int .i64 pz), (14, numV a), (15, .int .i64 pz), (16, .int .i64 (y : Int)), (9, .int .i64 (y : Int)), (17, numV e), (18, .int .i64 (K : Int)), (19, .int .i64 ((K : Int) - 1)), (8, .int .i64 ((prN P a e jn : Nat) : Int)), (10, .int .i64 ((jn : Int) - 1))] := F23
 replace M23 : Mx _ _ w23 [(0, blkR g2 29 (zg k P Q g)), (1, blkR g3 27 (numA a)), (2, blkR g4 27 (numA e)), (3, blkR g5 27 (numA 0))] := M23
 replace I23 : jn ≤ 256 := I23
 replace ek23 : k23 = jn := ek23
 rcases jn with _ | j
 ·obtain ⟨X0, hX⟩ : ∃ X, prN P a e 0 = X := ⟨_, rfl⟩
  rw [hX] at F23
  have hX0 : X0 < P := by rw [← hX]; exact pr_lt (by omega) _ _ _
  have hres : X0 = a ^ e % P := by rw [← hX]; exact hlast
  rw [show (((0 : Nat) : Int) - 1) = -1 from rfl] at F23
  refine zSk fun _ hK24 => ?_
  refine zSk fun _ hK25 => ?_
  refine zR ?_
  refine zh (w' := w23) (zc rfl) rfl F23 rfl (.int .i64 (-1)) (zia _ (.inl rfl) (F23.get (t := 10) rfl)) fun _ F26 => ?_
  clear F23
  refine zh (w' := w23) (zc rfl) rfl F26 rfl (.bool false) (y_geq _ _ _ _ rfl (F26.get (t := 20) rfl) rfl (decide_eq_false (by decide))) fun _ F27 => ?_
  clear F26
  refine hK25 _ _ ?_
  refine wp_cond_false (F27.get (t := 21) rfl) ?_
  refine wp_exit ?_
  simp only [Exit.then, Exit.inBlock, ↓reduceIte, Nat.reduceEqDiff]
  refine hK17 _ _ ?_
  refine zSk fun _ hK28 => ?_
  refine zR ?_
  refine zh (w' := w23) (zc rfl) rfl F27 rfl (.int .i64 (X0 : Int)) (zia _ (.inl rfl) (F27.get (t := 8) rfl)) fun _ F29 => ?_
  clear F27
  refine zea (zc rfl) rfl F29 rfl rfl (zE Tryz.func63 rfl) #[.int .i64 (X0 : Int)] (z2a (F29.get (t := 44) rfl)) (zha (kF X0 hX0 w23)) ?_
  rintro _ w30 a30 ⟨rfl, b30⟩ F30
  have M30 := M23.step b30
  refine zka (zc rfl) rfl F30 M30 (k := 3) rfl _ _ _ rfl (F30.get (t := 6) rfl) (F30.get (t := 45) rfl) (numA X0) _ rfl (zL rfl) (zfc _) (zx rfl) ze ?_
  intro w31 M31
  clear M30
  refine hK28 _ _ ?_
  refine wp_ret ?_
  try simp only [Exit.then, Exit.inBlock]
  exact bodyPost_ret (results_cell_row rfl _ _ _ _ _ (0, 0) _ (F30.get rfl) (M31.blk (k := 3) rfl) Tryz.underlying27 rfl ze) F30.defers ⟨by rw [hres], M31.below⟩
 ·obtain ⟨Y, e1, hway⟩ := pr_step P a e j
  have hXm := pr_lt (show 0 < P by omega) a e (j + 1)
  obtain ⟨X, hX⟩ : ∃ X, prN P a e (j + 1) = X := ⟨_, rfl⟩
  rw [hX] at F23 e1 hXm
  have hYm : Y < P := by rw [← e1]; exact Nat.mod_lt _ (by omega)
  rw [show ((j + 1 : Nat) : Int) - 1 = (j : Int) by omega] at F23
  have eY : ((X : Int) * X) % pz = (Y : Int) := by rw [← hpz, ← e1]; simp
  have hbit := bit_dig e j
  have hjl : j < 256 := by omega
  rcases hway with ⟨hb, hY2⟩ | ⟨hb, hY2⟩
  ·rw [hb] at hbit
   refine zSk fun _ hK32 => ?_
   refine zSk fun _ hK33 => ?_
   refine zR ?_
   refine zh (w' := w23) (zc rfl) rfl F23 rfl (.int .i64 (j : Int)) (zia _ (.inl rfl) (F23.get (t := 10) rfl)) fun _ F34 => ?_
   clear F23
   refine zh (w' := w23) (zc rfl) rfl F34 rfl (.bool true) (y_geq _ _ _ _ rfl (F34.get (t := 20) rfl) rfl (decide_eq_true (Int.natCast_nonneg j))) fun _ F35 => ?_
   clear F34
   refine hK33 _ _ ?_
   refine wp_cond_true (F35.get (t := 21) rfl) ?_
   refine wp_skip ?_
   refine hK32 _ _ ?_
   refine zSk fun _ hK36 => ?_
   refine wp_block ?_
   refine zSk fun _ hK37 => ?_
   refine zR ?_
   refine zh (w' := w23) (zc rfl) rfl F35 rfl (.int .i64 (X : Int)) (zia _ (.inl rfl) (F35.get (t := 8) rfl)) fun _ F38 => ?_
   clear F35
   refine zh (w' := w23) (zc rfl) rfl F38 rfl (.int .i64 (X : Int)) (zia _ (.inl rfl) (F38.get (t := 8) rfl)) fun _ F39 => ?_
   clear F38
   refine zh (w' := w23) (zc rfl) rfl F39 rfl (.int .i64 ((X : Int) * X)) (y_mulI _ _ _ _ rfl (F39.get (t := 24) rfl) (F39.get (t := 25) rfl) rfl (hXX X X hXm hXm)) fun _ F40 => ?_
   clear F39
   refine zh (w' := w23) (zc rfl) rfl F40 rfl (.int .i64 pz) (zia _ (.inl rfl) (F40.get (t := 7) rfl)) fun _ F41 => ?_
   clear F40
   refine zh (w' := w23) (zc rfl) rfl F41 rfl (.int .i64 (Y : Int)) (y_remI _ _ _ _ rfl (F41.get (t := 26) rfl) (F41.get (t := 27) rfl) (Int.mul_nonneg (Int.natCast_nonneg X) (Int.natCast_nonneg X)) (by omega) eY) fun _ F42 => ?_
   clear F41
   refine zh (w' := w23) (zc rfl) rfl F42 rfl (.int .i64 (Y : Int)) (zia _ (.inr rfl) (F42.get (t := 28) rfl)) fun _ F43 => ?_
   clear F42
   refine hK37 _ _ ?_
   refine zSk fun _ hK44 => ?_
   refine zR ?_
   refine zh (w' := w23) (zc rfl) rfl F43 rfl (.int .i64 (j : Int)) (zia _ (.inl rfl) (F43.get (t := 10) rfl)) fun _ F45 => ?_
   clear F43
   refine zh (w' := w23) (zc rfl) rfl F45 rfl (.int .i64 ((j / 32 : Nat) : Int)) (y_quoI _ _ _ _ rfl (F45.get (t := 29) rfl) rfl (by omega) (by omega) (by omega)) fun _ F46 => ?_
   clear F45
   refine zh (w' := w23) (zc rfl) rfl F46 rfl (.pointer (some ⟨g4, (j / 32), none⟩)) (y_ixA (N := 8) _ _ 27 (by kernel_rfl) (by kernel_rfl) (by kernel_rfl) rfl (F46.get (t := 5) rfl) (F46.get (t := 30) rfl) rfl (by omega) (Nat.zero_add _)) fun _ F47 => ?_
   clear F46
   refine zh (w' := w23) (zc rfl) rfl F47 rfl (.int .u32 (digI e (j / 32))) (y_ld1 _ _ rfl (F47.get (t := 31) rfl) (M23.blk (k := 2) rfl) (numA_get e (k := j / 32) (by omega)) Tryz.underlying25 rfl) fun _ F48 => ?_
   clear F47
   refine zh (w' := w23) (zc rfl) rfl F48 rfl (.int .i64 (j : Int)) (zia _ (.inl rfl) (F48.get (t := 10) rfl)) fun _ F49 => ?_
   clear F48
   refine zh (w' := w23) (zc rfl) rfl F49 rfl (.int .i64 ((j % 32 : Nat) : Int)) (y_remI _ _ _ _ rfl (F49.get (t := 33) rfl) rfl (by omega) (by omega) (by omega)) fun _ F50 => ?_
   clear F49
   refine zh (w' := w23) (zc rfl) rfl F50 rfl (.int .u64 ((j % 32 : Nat) : Int)) (y_cvI _ _ _ rfl (F50.get (t := 34) rfl) Tryz.underlying3 Tryz.underlying91 (by rw [IntKind.wrap_u64]; omega)) fun _ F51 => ?_
   clear F50
   refine zh (w' := w23) (zc rfl) rfl F51 rfl (.int .u32 (digI e (j / 32) / 2 ^ (j % 32))) (y_shrI _ _ _ _ rfl (F51.get (t := 32) rfl) (F51.get (t := 35) rfl) (by show (0 : Int) ≤ ((j % 32 : Nat) : Int) ∧ ((j % 32 : Nat) : Int) ≤ 32; omega) rfl) fun _ F52 => ?_
   clear F51
   refine zh (w' := w23) (zc rfl) rfl F52 rfl (.int .u32 0) (y_andU _ _ _ _ rfl (F52.get (t := 36) rfl) rfl hbit) fun _ F53 => ?_
   clear F52
   refine zh (w' := w23) (zc rfl) rfl F53 rfl (.bool false) (y_gtr _ _ _ _ rfl (F53.get (t := 37) rfl) rfl (decide_eq_false (by decide))) fun _ F54 => ?_
   clear F53
   refine hK44 _ _ ?_
   refine wp_cond_false (F54.get (t := 38) rfl) ?_
   refine wp_skip ?_
   refine hK36 _ _ ?_
   refine zR ?_
   refine zh (w' := w23) (zc rfl) rfl F54 rfl (.int .i64 (j : Int)) (zia _ (.inl rfl) (F54.get (t := 10) rfl)) fun _ F55 => ?_
   clear F54
   refine zh (w' := w23) (zc rfl) rfl F55 rfl (.int .i64 ((j : Int) - 1)) (y_subI _ _ _ _ rfl (F55.get (t := 22) rfl) rfl rfl (by omega)) fun _ F56 => ?_
   clear F55
   refine zh (w' := w23) (zc rfl) rfl F56 rfl (.int .i64 ((j : Int) - 1)) (zia _ (.inr rfl) (F56.get (t := 23) rfl)) fun _ F57 => ?_
   clear F56
   rw [hY2] at F57
   subst ek23
   exact hK23 _ j _ _ (Nat.lt_succ_self j) ⟨rfl, by omega⟩ (F57.sub ⟨rfl, rfl, rfl, rfl, rfl, rfl, rfl, rfl, rfl, rfl, rfl, rfl, rfl, rfl, rfl, rfl, rfl, rfl, rfl, rfl, trivial⟩) (M23.sub ⟨rfl, rfl, rfl, rfl, trivial⟩)
  ·rw [hb] at hbit
   rw [hy] at hY2
   have eZ : ((Y : Int) * y) % pz = ((prN P a e j : Nat) : Int) := by rw [← hpz, ← hY2]; simp
   refine zSk fun _ hK58 => ?_
   refine zSk fun _ hK59 => ?_
   refine zR ?_
   refine zh (w' := w23) (zc rfl) rfl F23 rfl (.int .i64 (j : Int)) (zia _ (.inl rfl) (F23.get (t := 10) rfl)) fun _ F60 => ?_
   clear F23
   refine zh (w' := w23) (zc rfl) rfl F60 rfl (.bool true) (y_geq _ _ _ _ rfl (F60.get (t := 20) rfl) rfl (decide_eq_true (Int.natCast_nonneg j))) fun _ F61 => ?_
   clear F60
   refine hK59 _ _ ?_
   refine wp_cond_true (F61.get (t := 21) rfl) ?_
   refine wp_skip ?_
   refine hK58 _ _ ?_
   refine zSk fun _ hK62 => ?_
   refine wp_block ?_
   refine zSk fun _ hK63 => ?_
   refine zR ?_
   refine zh (w' := w23) (zc rfl) rfl F61 rfl (.int .i64 (X : Int)) (zia _ (.inl rfl) (F61.get (t := 8) rfl)) fun _ F64 => ?_
   clear F61
   refine zh (w' := w23) (zc rfl) rfl F64 rfl (.int .i64 (X : Int)) (zia _ (.inl rfl) (F64.get (t := 8) rfl)) fun _ F65 => ?_
   clear F64
   refine zh (w' := w23) (zc rfl) rfl F65 rfl (.int .i64 ((X : Int) * X)) (y_mulI _ _ _ _ rfl (F65.get (t := 24) rfl) (F65.get (t := 25) rfl) rfl (hXX X X hXm hXm)) fun _ F66 => ?_
   clear F65
   refine zh (w' := w23) (zc rfl) rfl F66 rfl (.int .i64 pz) (zia _ (.inl rfl) (F66.get (t := 7) rfl)) fun _ F67 => ?_
   clear F66
   refine zh (w' := w23) (zc rfl) rfl F67 rfl (.int .i64 (Y : Int)) (y_remI _ _ _ _ rfl (F67.get (t := 26) rfl) (F67.get (t := 27) rfl) (Int.mul_nonneg (Int.natCast_nonneg X) (Int.natCast_nonneg X)) (by omega) eY) fun _ F68 => ?_
   clear F67
   refine zh (w' := w23) (zc rfl) rfl F68 rfl (.int .i64 (Y : Int)) (zia _ (.inr rfl) (F68.get (t := 28) rfl)) fun _ F69 => ?_
   clear F68
   refine hK63 _ _ ?_
   refine zSk fun _ hK70 => ?_
   refine zR ?_
   refine zh (w' := w23) (zc rfl) rfl F69 rfl (.int .i64 (j : Int)) (zia _ (.inl rfl) (F69.get (t := 10) rfl)) fun _ F71 => ?_
   clear F69
   refine zh (w' := w23) (zc rfl) rfl F71 rfl (.int .i64 ((j / 32 : Nat) : Int)) (y_quoI _ _ _ _ rfl (F71.get (t := 29) rfl) rfl (by omega) (by omega) (by omega)) fun _ F72 => ?_
   clear F71
   refine zh (w' := w23) (zc rfl) rfl F72 rfl (.pointer (some ⟨g4, (j / 32), none⟩)) (y_ixA (N := 8) _ _ 27 (by kernel_rfl) (by kernel_rfl) (by kernel_rfl) rfl (F72.get (t := 5) rfl) (F72.get (t := 30) rfl) rfl (by omega) (Nat.zero_add _)) fun _ F73 => ?_
   clear F72
   refine zh (w' := w23) (zc rfl) rfl F73 rfl (.int .u32 (digI e (j / 32))) (y_ld1 _ _ rfl (F73.get (t := 31) rfl) (M23.blk (k := 2) rfl) (numA_get e (k := j / 32) (by omega)) Tryz.underlying25 rfl) fun _ F74 => ?_
   clear F73
   refine zh (w' := w23) (zc rfl) rfl F74 rfl (.int .i64 (j : Int)) (zia _ (.inl rfl) (F74.get (t := 10) rfl)) fun _ F75 => ?_
   clear F74
   refine zh (w' := w23) (zc rfl) rfl F75 rfl (.int .i64 ((j % 32 : Nat) : Int)) (y_remI _ _ _ _ rfl (F75.get (t := 33) rfl) rfl (by omega) (by omega) (by omega)) fun _ F76 => ?_
   clear F75
   refine zh (w' := w23) (zc rfl) rfl F76 rfl (.int .u64 ((j % 32 : Nat) : Int)) (y_cvI _ _ _ rfl (F76.get (t := 34) rfl) Tryz.underlying3 Tryz.underlying91 (by rw [IntKind.wrap_u64]; omega)) fun _ F77 => ?_
   clear F76
   refine zh (w' := w23) (zc rfl) rfl F77 rfl (.int .u32 (digI e (j / 32) / 2 ^ (j % 32))) (y_shrI _ _ _ _ rfl (F77.get (t := 32) rfl) (F77.get (t := 35) rfl) (by show (0 : Int) ≤ ((j % 32 : Nat) : Int) ∧ ((j % 32 : Nat) : Int) ≤ 32; omega) rfl) fun _ F78 => ?_
   clear F77
   refine zh (w' := w23) (zc rfl) rfl F78 rfl (.int .u32 1) (y_andU _ _ _ _ rfl (F78.get (t := 36) rfl) rfl hbit) fun _ F79 => ?_
   clear F78
   refine zh (w' := w23) (zc rfl) rfl F79 rfl (.bool true) (y_gtr _ _ _ _ rfl (F79.get (t := 37) rfl) rfl (decide_eq_true (by decide))) fun _ F80 => ?_
   clear F79
   refine hK70 _ _ ?_
   refine wp_cond_true (F80.get (t := 38) rfl) ?_
   refine zR ?_
   refine zh (w' := w23) (zc rfl) rfl F80 rfl (.int .i64 (Y : Int)) (zia _ (.inl rfl) (F80.get (t := 8) rfl)) fun _ F81 => ?_
   clear F80
   refine zh (w' := w23) (zc rfl) rfl F81 rfl (.int .i64 (y : Int)) (zia _ (.inl rfl) (F81.get (t := 9) rfl)) fun _ F82 => ?_
   clear F81
   refine zh (w' := w23) (zc rfl) rfl F82 rfl (.int .i64 ((Y : Int) * y)) (y_mulI _ _ _ _ rfl (F82.get (t := 39) rfl) (F82.get (t := 40) rfl) rfl (hXX Y y hYm hyl)) fun _ F83 => ?_
   clear F82
   refine zh (w' := w23) (zc rfl) rfl F83 rfl (.int .i64 pz) (zia _ (.inl rfl) (F83.get (t := 7) rfl)) fun _ F84 => ?_
   clear F83
   refine zh (w' := w23) (zc rfl) rfl F84 rfl (.int .i64 ((prN P a e j : Nat) : Int)) (y_remI _ _ _ _ rfl (F84.get (t := 41) rfl) (F84.get (t := 42) rfl) (Int.mul_nonneg (Int.natCast_nonneg Y) (Int.natCast_nonneg y)) (by omega) eZ) fun _ F85 => ?_
   clear F84
   refine zh (w' := w23) (zc rfl) rfl F85 rfl (.int .i64 ((prN P a e j : Nat) : Int)) (zia _ (.inr rfl) (F85.get (t := 43) rfl)) fun _ F86 => ?_
   clear F85
   refine hK62 _ _ ?_
   refine zR ?_
   refine zh (w' := w23) (zc rfl) rfl F86 rfl (.int .i64 (j : Int)) (zia _ (.inl rfl) (F86.get (t := 10) rfl)) fun _ F87 => ?_
   clear F86
   refine zh (w' := w23) (zc rfl) rfl F87 rfl (.int .i64 ((j : Int) - 1)) (y_subI _ _ _ _ rfl (F87.get (t := 22) rfl) rfl rfl (by omega)) fun _ F88 => ?_
   clear F87
   refine zh (w' := w23) (zc rfl) rfl F88 rfl (.int .i64 ((j : Int) - 1)) (zia _ (.inr rfl) (F88.get (t := 23) rfl)) fun _ F89 => ?_
   clear F88
   subst ek23
   exact hK23 _ j _ _ (Nat.lt_succ_self j) ⟨rfl, by omega⟩ (F89.sub ⟨rfl, rfl, rfl, rfl, rfl, rfl, rfl, rfl, rfl, rfl, rfl, rfl, rfl, rfl, rfl, rfl, rfl, rfl, rfl, rfl, trivial⟩) (M23.sub ⟨rfl, rfl, rfl, rfl, trivial⟩)
def chkT (k p D E : Nat) : Bool := primeF p D && (primeF (p / 2) D && (List.range (2 ^ k - 1 - p)).all fun j => compF (2 ^ k - 1 - j) E || compF ((2 ^ k - 1 - j) / 2) E)
theorem tab_of {k p D E : Nat} (hk : k ≤ 31) (h4 : 4 ≤ p) (hp : p < 2 ^ k) (hD : p < (D + 1) * (D + 1)) (hE : E * E ≤ p / 2) (h : chkT k p D E = true) : safeB (p : Int) = true ∧ ∀ x : Int, (p : Int) < x → x < 2 ^ k → safeB x = false := by
 unfold chkT at h
 simp only [Bool.and_eq_true, List.all_eq_true, Bool.or_eq_true] at h
 obtain ⟨h1, h2, h3⟩ := h
 have hl : 2 ^ k ≤ 2 ^ 31 := Nat.pow_le_pow_right (by decide) hk
 generalize hM : 2 ^ k = M at *
 have hM2 : M ≤ 2147483648 := hl
 have hE2 : E * E ≤ p := Nat.le_trans hE (Nat.div_le_self _ _)
 constructor
 ·unfold safeB
  rw [primeF_yes (by omega) (by omega) hD h1, show ((p : Nat) : Int) / 2 = ((p / 2 : Nat) : Int) by omega, primeF_yes (by omega) (by omega) (by omega) h2]
  rfl
 ·intro x x0 x1
  obtain ⟨y, rfl⟩ := Int.eq_ofNat_of_zero_le (show 0 ≤ x by omega)
  have e : ((2 : Int) ^ k) = ((M : Nat) : Int) := by rw [← hM]; simp
  rw [e] at x1
  have h4 := h3 (M - 1 - y) (List.mem_range.2 (by omega))
  rw [show M - 1 - (M - 1 - y) = y by omega] at h4
  unfold safeB
  rcases h4 with h4 | h4
  ·rw [compF_no (by omega) h4]; simp
  ·rw [show ((y : Nat) : Int) / 2 = ((y / 2 : Nat) : Int) by omega, compF_no (Nat.le_trans hE (Nat.div_le_div_right (by omega))) h4]; rfl
theorem tab12 : chkT 12 4079 63 45 = true := by decide +kernel
end Go.Proofs.YtcfepoopkfhojaaGreat
namespace Go.Proofs.YtcfepoopkfhojaaGreat
open Go.ChangeShapes Go.WideShapes Go.ChangeAt Go.RowKit
theorem tab13 : chkT 13 8147 90 63 = true := by decide +kernel
theorem tab14 : chkT 14 16223 127 90 = true := by decide +kernel
theorem tab15 : chkT 15 32603 180 127 = true := by decide +kernel
theorem tab16 : chkT 16 65267 255 180 = true := by decide +kernel
theorem tab17 : chkT 17 130787 361 255 = true := by decide +kernel
theorem tab18 : chkT 18 262127 511 362 = true := by decide +kernel
theorem tab19 : chkT 19 524243 724 511 = true := by decide +kernel
theorem tab20 : chkT 20 1048343 1023 723 = true := by decide +kernel
theorem tab21 : chkT 21 2097143 1448 1023 = true := by decide +kernel
theorem tab22 : chkT 22 4194287 2047 1448 = true := by decide +kernel
theorem tab23 : chkT 23 8388287 2896 2047 = true := by decide +kernel
theorem tab24 : chkT 24 16776899 4095 2896 = true := by decide +kernel
theorem tab25 : chkT 25 33553799 5792 4095 = true := by decide +kernel
theorem tab26 : chkT 26 67108187 8191 5792 = true := by decide +kernel
theorem tab27 : chkT 27 134217323 11585 8191 = true := by decide +kernel
theorem tabs {k : Nat} (h0 : 12 ≤ k) (h1 : k ≤ 27) : ∃ p : Nat, 4 ≤ p ∧ p % 2 = 1 ∧ p < 2 ^ k ∧ safeB (p : Int) = true ∧ ∀ x : Int, (p : Int) < x → x < 2 ^ k → safeB x = false := by
 have : k = 12 ∨ k = 13 ∨ k = 14 ∨ k = 15 ∨ k = 16 ∨ k = 17 ∨ k = 18 ∨ k = 19 ∨ k = 20 ∨ k = 21 ∨ k = 22 ∨ k = 23 ∨ k = 24 ∨ k = 25 ∨ k = 26 ∨ k = 27 := by omega
 rcases this with rfl | rfl | rfl | rfl | rfl | rfl | rfl | rfl | rfl | rfl | rfl | rfl | rfl | rfl | rfl | rfl
 ·exact ⟨4079, by decide, by decide, by decide, tab_of (D := 63) (E := 45) (by decide) (by decide) (by decide) (by decide) (by decide) tab12⟩
 ·exact ⟨8147, by decide, by decide, by decide, tab_of (D := 90) (E := 63) (by decide) (by decide) (by decide) (by decide) (by decide) tab13⟩
 ·exact ⟨16223, by decide, by decide, by decide, tab_of (D := 127) (E := 90) (by decide) (by decide) (by decide) (by decide) (by decide) tab14⟩
 ·exact ⟨32603, by decide, by decide, by decide, tab_of (D := 180) (E := 127) (by decide) (by decide) (by decide) (by decide) (by decide) tab15⟩
 ·exact ⟨65267, by decide, by decide, by decide, tab_of (D := 255) (E := 180) (by decide) (by decide) (by decide) (by decide) (by decide) tab16⟩
 ·exact ⟨130787, by decide, by decide, by decide, tab_of (D := 361) (E := 255) (by decide) (by decide) (by decide) (by decide) (by decide) tab17⟩
 ·exact ⟨262127, by decide, by decide, by decide, tab_of (D := 511) (E := 362) (by decide) (by decide) (by decide) (by decide) (by decide) tab18⟩
 ·exact ⟨524243, by decide, by decide, by decide, tab_of (D := 724) (E := 511) (by decide) (by decide) (by decide) (by decide) (by decide) tab19⟩
 ·exact ⟨1048343, by decide, by decide, by decide, tab_of (D := 1023) (E := 723) (by decide) (by decide) (by decide) (by decide) (by decide) tab20⟩
 ·exact ⟨2097143, by decide, by decide, by decide, tab_of (D := 1448) (E := 1023) (by decide) (by decide) (by decide) (by decide) (by decide) tab21⟩
 ·exact ⟨4194287, by decide, by decide, by decide, tab_of (D := 2047) (E := 1448) (by decide) (by decide) (by decide) (by decide) (by decide) tab22⟩
 ·exact ⟨8388287, by decide, by decide, by decide, tab_of (D := 2896) (E := 2047) (by decide) (by decide) (by decide) (by decide) (by decide) tab23⟩
 ·exact ⟨16776899, by decide, by decide, by decide, tab_of (D := 4095) (E := 2896) (by decide) (by decide) (by decide) (by decide) (by decide) tab24⟩
 ·exact ⟨33553799, by decide, by decide, by decide, tab_of (D := 5792) (E := 4095) (by decide) (by decide) (by decide) (by decide) (by decide) tab25⟩
 ·exact ⟨67108187, by decide, by decide, by decide, tab_of (D := 8191) (E := 5792) (by decide) (by decide) (by decide) (by decide) (by decide) tab26⟩
 ·exact ⟨134217323, by decide, by decide, by decide, tab_of (D := 11585) (E := 8191) (by decide) (by decide) (by decide) (by decide) (by decide) tab27⟩
end Go.Proofs.YtcfepoopkfhojaaGreat
namespace Go.Proofs.YtcfepoopkfhojaaGreat
open Go.ChangeShapes Go.WideShapes Go.ChangeAt Go.RowKit
def RmR (k p : Int) (V : Value) : Prop := ((12 ≤ k ∧ k ≤ 31) ∧ V = .tuple #[.agg (zg k p.toNat (p / 2).toNat 4), .bool true]) ∨ (¬ (12 ≤ k ∧ k ≤ 31) ∧ V = .tuple #[.agg (zg 0 0 0 0), .bool false])
theorem pow_even {k : Int} (h : 12 ≤ k ∧ k ≤ 31) : (2 : Int) ^ k.toNat % 2 = 0 := by
 obtain ⟨K, hK⟩ : ∃ K, k.toNat = K + 1 := ⟨k.toNat - 1, by omega⟩
 rw [hK, Int.pow_succ]
 omega
theorem rgmake_any (k p : Int) (h0 : -9223372036854775808 ≤ k) (h1 : k < 9223372036854775808) (hp : 12 ≤ k ∧ k ≤ 31 → p % 2 = 1 ∧ 3 ≤ p ∧ p < 2 ^ k.toNat ∧ safeB p = true ∧ ∀ x, p < x → x < 2 ^ k.toNat → safeB x = false) (w : World) :
  Calls Tryz.prog 31 #[.int .i64 k] w fun e w' => ∃ V, e = .returned V ∧ RmR k p V ∧ Below w.heap.size w w' := by
 skip
 go_enter Tryz.func31, Tryz.ntmps31
 go_upto_region 1 with fail
 obtain ⟨W, hW⟩ : ∃ W, W = w.alloc (.cells #[Value.int .i64 0, .int .u32 0, .int .u32 0, .int .u32 0, .int .u32 0, .int .u32 0, .int .u32 0, .int .u32 0, .int .u32 0, .int .u32 0, .int .u32 0, .int .u32 0, .int .u32 0, .int .u32 0, .int .u32 0, .int .u32 0, .int .u32 0, .int .u32 0, .int .u32 0, .int .u32 0, .int .u32 0, .int .u32 0, .int .u32 0, .int .u32 0, .int .u32 0] 29) := ⟨_, rfl⟩
 have q_g : Blk W (w.heap.size) 29 #[Value.int .i64 0, .int .u32 0, .int .u32 0, .int .u32 0, .int .u32 0, .int .u32 0, .int .u32 0, .int .u32 0, .int .u32 0, .int .u32 0, .int .u32 0, .int .u32 0, .int .u32 0, .int .u32 0, .int .u32 0, .int .u32 0, .int .u32 0, .int .u32 0, .int .u32 0, .int .u32 0, .int .u32 0, .int .u32 0, .int .u32 0, .int .u32 0, .int .u32 0] := by
  have := (Blk.new w 29 (zg 0 0 0 0))
  rw [z1b] at this
  rw [hW]; exact this
 have gb : Below w.heap.size w W := by rw [hW]; exact ((Below.refl _ _).alloc (by simp <;> omega) _)
 rw [← hW]
 clear hW
 have log := hid (show w.heap.size ≤ w.heap.size by omega)
 by_cases hr : 12 ≤ k ∧ k ≤ 31
 ·have hr0 := hid hr
  obtain ⟨hpo, hp3, hpB, hps, hpn⟩ := hp hr
  obtain ⟨B, hB⟩ : ∃ B : Int, 2 ^ k.toNat = B := ⟨_, rfl⟩
  obtain ⟨b0, b1⟩ : 0 ≤ B ∧ B ≤ 2147483648 := by rw [← hB]; exact pow_k hr
  have hBe : B % 2 = 0 := by rw [← hB]; exact pow_even hr
  rw [hB] at hpB hpn
  have HN := hid hpn
  have HS := hid hps
  clear hps hpn hp
  obtain ⟨hk0, hk1⟩ := hr
  go_wp2_with fail
  go_loopw [4] (fun x wr => ∃ X : Int, p ≤ X ∧ X < B ∧ X % 2 = 1 ∧ x = .int .i64 X ∧ W = wr) (fun x _ => (intOf x).toNat)
  case atStart => exact ⟨B - 1, by omega, by omega, by omega, rfl, rfl⟩
  case round =>
   obtain ⟨X, x0, x1, x2, rfl, rfl⟩ := hrel
   clear hB
   obtain ⟨H, hH⟩ : ∃ H, X / 2 = H := ⟨_, rfl⟩
   have ht : (X - 1).tdiv 2 = H := by rw [Int.tdiv_eq_ediv_of_nonneg (by omega)]; omega
   obtain ⟨u0, u1⟩ : 0 ≤ H ∧ H < 2147483648 := by omega
   have k1 := fun w => rprime_any X (by omega) (by omega) w
   have k2 := fun w => rprime_any H (by omega) (by omega) w
   obtain ⟨c, hc⟩ : ∃ b, primeB X = b := ⟨_, rfl⟩
   obtain ⟨e, he⟩ : ∃ b, primeB H = b := ⟨_, rfl⟩
   have hse : safeB X = (e && c) := by unfold safeB; rw [hH, hc, he]
   rw [hc] at k1
   rw [he] at k2
   have HX := hid hH
   clear hc he hH
   by_cases hXp : X = p
   ·subst hXp
    have hce : c = true ∧ e = true := by
     have := HS.out
     rw [hse] at this
     simpa [and_comm] using this
    obtain ⟨rfl, rfl⟩ := hce
    clear hse HN HS
    go_wp2_with fail
    refine (k1 _).mono ?_
    rintro e w1 ⟨rfl, rfl⟩
    go_wp2_with fail
    refine (k2 _).mono ?_
    rintro e w1 ⟨rfl, rfl⟩
    go_wp2_with fail
    refine (from_ref X (by omega) (by omega) _).mono ?_
    rintro e w4 ⟨rfl, bw4⟩
    have g4 := q_g.step bw4
    have c4 := zr gb bw4
    go_wp2_with fail
    refine (from_ref H (by omega) (by omega) _).mono ?_
    rintro e w5 ⟨rfl, bw5⟩
    have g5 := g4.step bw5
    have c5 := zr c4 bw5
    go_wp2_with fail
    refine (from_ref 4 (by omega) (by omega) _).mono ?_
    rintro e w6 ⟨rfl, bw6⟩
    have g6 := g5.step bw6
    have c6 := zr c5 bw6
    clear q_g gb bw4 g4 c4 bw5 g5 c5 bw6
    go_wp2_with (first | (refine wpList_op rfl _ (run_buildG (k := k) (p := X.toNat) (q := H.toNat) (g := 4) _ _ _ _ rfl rfl rfl rfl rfl) ?_) | (refine zq rfl _ (.tmp 2) _ rfl _ rfl (zg k X.toNat H.toNat 4) rfl (z8b _ _ _ _) _ g6 rfl zcc ?_; intro wz gz mz))
    exact bodyPost_ret (z5b rfl rfl mz Tryz.underlying29 rfl zcc) rfl ⟨.tuple #[.agg (zg k X.toNat H.toNat 4), .bool true], rfl, .inl ⟨hr0.out, by rw [HX.out]⟩, zf c6 gz c6.size (by omega)⟩
   ·have hce : c = false ∨ (c = true ∧ e = false) := by
     have := HN.out X (by omega) x1
     rw [hse] at this
     cases c <;> cases e <;> simp_all
    clear hse
    rcases hce with rfl | ⟨rfl, rfl⟩
    ·go_wp2_with fail
     refine (k1 _).mono ?_
     rintro e w1 ⟨rfl, rfl⟩
     go_wp2_with fail
     go_roundw
     case rel => exact ⟨X - 2, by omega, by omega, by omega, by go_num, (by first | rfl | trivial)⟩
     case measure => simp [intOf] <;> omega
    ·go_wp2_with fail
     refine (k1 _).mono ?_
     rintro e w1 ⟨rfl, rfl⟩
     go_wp2_with fail
     refine (k2 _).mono ?_
     rintro e w1 ⟨rfl, rfl⟩
     go_wp2_with fail
     go_roundw
     case rel => exact ⟨X - 2, by omega, by omega, by omega, by go_num, (by first | rfl | trivial)⟩
     case measure => simp [intOf] <;> omega
 ·have hr0 := hid hr
  have hway : k < 12 ∨ (¬ k < 12 ∧ 31 < k) := by omega
  rcases hway with hk | ⟨hk, hk2⟩
  ·go_wp2_with (refine zq rfl _ (.tmp 2) _ rfl _ rfl (#[Value.int .i64 0, .int .u32 0, .int .u32 0, .int .u32 0, .int .u32 0, .int .u32 0, .int .u32 0, .int .u32 0, .int .u32 0, .int .u32 0, .int .u32 0, .int .u32 0, .int .u32 0, .int .u32 0, .int .u32 0, .int .u32 0, .int .u32 0, .int .u32 0, .int .u32 0, .int .u32 0, .int .u32 0, .int .u32 0, .int .u32 0, .int .u32 0, .int .u32 0]) rfl zG_cells _ q_g rfl zcc ?_; intro wz gz mz)
   rw [← z1b] at mz
   exact bodyPost_ret (z5b rfl rfl mz Tryz.underlying29 rfl zcc) rfl ⟨.tuple #[.agg (zg 0 0 0 0), .bool false], rfl, .inr ⟨hr0.out, rfl⟩, zf gb gz gb.size (by omega)⟩
  ·have hkd : decide (k < 12) = false := decide_eq_false hk
   go_wp2_with (refine zq rfl _ (.tmp 2) _ rfl _ rfl (#[Value.int .i64 0, .int .u32 0, .int .u32 0, .int .u32 0, .int .u32 0, .int .u32 0, .int .u32 0, .int .u32 0, .int .u32 0, .int .u32 0, .int .u32 0, .int .u32 0, .int .u32 0, .int .u32 0, .int .u32 0, .int .u32 0, .int .u32 0, .int .u32 0, .int .u32 0, .int .u32 0, .int .u32 0, .int .u32 0, .int .u32 0, .int .u32 0, .int .u32 0]) rfl zG_cells _ q_g rfl zcc ?_; intro wz gz mz)
   rw [← z1b] at mz
   exact bodyPost_ret (z5b rfl rfl mz Tryz.underlying29 rfl zcc) rfl ⟨.tuple #[.agg (zg 0 0 0 0), .bool false], rfl, .inr ⟨hr0.out, rfl⟩, zf gb gz gb.size (by omega)⟩
end Go.Proofs.YtcfepoopkfhojaaGreat
namespace Go.Proofs.YtcfepoopkfhojaaGreat
open Go.ChangeShapes Go.WideShapes Go.ChangeAt Go.RowKit
theorem gwithin_any (a n : Int) (hn : 0 < n) (hn' : n < 9223372036854775808) (ha : -9223372036854775808 ≤ a) (ha' : a < 9223372036854775808) (w : World) :
  Calls Tryz.prog 32 #[.int .i64 a, .int .i64 n] w fun e w' => e = .returned (.int .i64 (a % n)) ∧ w = w' := by
 obtain ⟨h1, h2, h3, h4⟩ := tmod_case a n hn
 have hz : (n == 0) = false := by simp; omega
 by_cases h : a.tmod n < 0
 ·have H := hid (h2 h)
  clear h1 h2
  go_enter Tryz.func32, Tryz.ntmps32
  go_wp2
  go_ret
  exact ⟨congrArg (fun x => Ending.returned (.int .i64 x)) H.out, rfl⟩
 ·have H := hid (h1 (by omega))
  clear h1 h2
  go_enter Tryz.func32, Tryz.ntmps32
  go_wp2
  go_ret
  exact ⟨congrArg (fun x => Ending.returned (.int .i64 x)) H.out, rfl⟩
end Go.Proofs.YtcfepoopkfhojaaGreat
namespace Go.Proofs.YtcfepoopkfhojaaGreat
open Go.ChangeShapes Go.WideShapes Go.ChangeAt Go.RowKit
/-! Read. -/
theorem dig_place {R k b : Nat} (hR : 256 ^ (k + 1) ∣ R) (hb : b < 256) : (∀ j, j ≠ k / 4 → dig (R + b * 256 ^ k) j = dig R j) ∧ dig (R + b * 256 ^ k) (k / 4) = dig R (k / 4) + b * 256 ^ (k % 4) ∧ dig R (k / 4) % 256 ^ (k % 4 + 1) = 0 := by
 obtain ⟨Q, rfl⟩ := hR
 have e : ∀ j, (4294967296 : Nat) ^ j = 256 ^ (4 * j) := fun j => by rw [Nat.pow_mul]
 have hp : ∀ j, (0 : Nat) < 256 ^ j := fun j => Nat.pow_pos (by decide)
 refine ⟨fun j hj => ?_, ?_⟩
 ·unfold dig
  rw [e]
  rcases Nat.lt_or_gt_of_ne hj with h | h
  ·obtain ⟨x, rfl⟩ : ∃ x, k = 4 * j + 4 + x := ⟨k - (4 * j + 4), by omega⟩
   have e1 : b * 256 ^ (4 * j + 4 + x) = 256 ^ (4 * j) * (4294967296 * (b * 256 ^ x)) := by
    rw [Nat.pow_add, Nat.pow_add, show (4294967296 : Nat) = 256 ^ 4 from rfl]; simp only [Nat.mul_assoc, Nat.mul_comm, Nat.mul_left_comm]
   rw [e1, Nat.add_mul_div_left _ _ (hp _), Nat.add_mul_mod_self_left]
  ·obtain ⟨x, hx⟩ : ∃ x, 4 * j = k + 1 + x := ⟨4 * j - (k + 1), by omega⟩
   have e3 : (256 : Nat) ^ (k + 1 + x) = 256 ^ k * (256 * 256 ^ x) := by rw [Nat.pow_add, Nat.pow_succ, Nat.mul_assoc]
   have e4 : 256 ^ (k + 1) * Q = 256 ^ k * (256 * Q) := by rw [Nat.pow_succ, Nat.mul_assoc]
   rw [hx, e3, e4, Nat.mul_comm b, ← Nat.mul_add, Nat.mul_div_mul_left _ _ (hp k), Nat.mul_div_mul_left _ _ (hp k), ← Nat.div_div_eq_div_mul, ← Nat.div_div_eq_div_mul]
   congr 2
   omega
 ·unfold dig
  rw [e]
  obtain ⟨d, r, hk, hr⟩ : ∃ d r, k = 4 * d + r ∧ r < 4 := ⟨k / 4, k % 4, by omega, by omega⟩
  have h1 : k / 4 = d := by omega
  have h2 : k % 4 = r := by omega
  rw [h1, h2, hk]
  have e1 : 256 ^ (4 * d + r + 1) * Q = 256 ^ (4 * d) * (256 ^ (r + 1) * Q) := by
   rw [Nat.add_assoc, Nat.pow_add, Nat.mul_assoc]
  have e2 : b * 256 ^ (4 * d + r) = 256 ^ (4 * d) * (b * 256 ^ r) := by
   rw [Nat.pow_add]; simp only [Nat.mul_assoc, Nat.mul_comm, Nat.mul_left_comm]
  rw [e1, e2, ← Nat.mul_add, Nat.mul_div_cancel_left _ (hp _), Nat.mul_div_cancel_left _ (hp _)]
  have : r = 0 ∨ r = 1 ∨ r = 2 ∨ r = 3 := by omega
  rcases this with rfl | rfl | rfl | rfl <;> simp <;> omega
theorem or_place {x b r : Nat} (hx : x < 4294967296) (hm : x % 256 ^ (r + 1) = 0) (hb : b < 256) (hr : r < 4) : bits .or .u32 (x : Int) ((b * 256 ^ r : Nat) : Int) = ((x + b * 256 ^ r : Nat) : Int) := by
 have h : b * 256 ^ r < 256 ^ (r + 1) := by rw [Nat.pow_succ, Nat.mul_comm]; exact Nat.mul_lt_mul_of_pos_left hb (Nat.pow_pos (by decide))
 have h2 : (256 : Nat) ^ (r + 1) ≤ 256 ^ 4 := Nat.pow_le_pow_right (by decide) (by omega)
 rw [u32_or_nat _ _ hx (by omega), nat_join (8 * (r + 1)) x _ (by rw [Nat.pow_mul]; exact hm) (by rw [Nat.pow_mul]; exact h)]
theorem Num.setDig {w : World} {b R R' d : Nat} {t : TypeId} (h : Num w b t R) (hd : d < 8) (hj : ∀ j, j ≠ d → dig R' j = dig R j) : Num (w.setCell ⟨b, d, none⟩ (.int .u32 (digI R' d))) b t R' := by
 refine zwb (h.row.set d _) fun j hj8 => ?_
 by_cases e : j = d
 ·rw [if_pos e, e]; rfl
 ·rw [if_neg e]; unfold numF digI; rw [hj j e]
def sofar (l : List UInt8) (n i : Nat) : Nat := zwa (l.take i) * 256 ^ (n - i)
theorem sofar_next {l : List UInt8} {n i : Nat} (hl : l.length = n) (hi : i < n) : ∃ b : UInt8, l[i]? = some b ∧ sofar l n (i + 1) = sofar l n i + b.toNat * 256 ^ (n - 1 - i) ∧ 256 ^ (n - 1 - i + 1) ∣ sofar l n i := by
 have h : i < l.length := by omega
 refine ⟨l[i], List.getElem?_eq_getElem h, ?_, ?_⟩
 ·unfold sofar
  rw [List.take_succ_eq_append_getElem h, readN_snoc, show n - i = n - 1 - i + 1 by omega, show n - (i + 1) = n - 1 - i by omega, Nat.pow_succ]
  grind
 ·unfold sofar
  rw [show n - 1 - i + 1 = n - i by omega]
  exact Nat.dvd_mul_left _ _
theorem sofar_zero (l : List UInt8) (n : Nat) : sofar l n 0 = 0 := by unfold sofar; simp [zwa]
theorem sofar_all {l : List UInt8} {n : Nat} (hl : l.length = n) : sofar l n n = zwa l := by unfold sofar; rw [List.take_of_length_le (by omega)]; simp
attribute [irreducible] sofar
theorem place_step {l : List UInt8} {n i : Nat} (hl : l.length = n) (hn : n ≤ 32) (hi : i < n) : ∃ (b : UInt8) (d r : Nat), l[i]? = some b ∧ n - 1 - i = 4 * d + r ∧ d < 8 ∧ r < 4 ∧
  (∀ j, j ≠ d → dig (sofar l n (i + 1)) j = dig (sofar l n i) j) ∧ bits .or .u32 (digI (sofar l n i) d) ((b.toNat * 256 ^ r : Nat) : Int) = digI (sofar l n (i + 1)) d := by
 obtain ⟨b, h1, h2, h3⟩ := sofar_next hl hi
 obtain ⟨q1, q2, q3⟩ := dig_place h3 b.toNat_lt
 refine ⟨b, (n - 1 - i) / 4, (n - 1 - i) % 4, h1, by omega, by omega, by omega, fun j hj => by rw [h2]; exact q1 j hj, ?_⟩
 unfold digI
 rw [or_place (dig_lt _ _) q3 b.toNat_lt (by omega), h2, q2]
theorem rread_any (A : Option Addr) (l : List UInt8) (n cap : Nat) (hl : l.length = n) (hn : n ≤ 32) (w : World) (hR : Rd w A l) :
  Calls Tryz.prog 120 #[.slice A n cap] w fun e w' => e = .returned (.tuple #[numV (zwa l), .bool true]) ∧ Below w.heap.size w w' := by
 have PS := hid (fun i hi => @place_step l n i hl hn hi)
 have SA := hid (sofar_all hl)
 have g0 := (Num.new w 27 0).alloc (.cells (numA 0) 27)
 have g1 := Num.new (w.alloc (.cells (numA 0) 27)) 27 0
 rw [World.size_alloc, ← sofar_zero l n] at g1
 have gb : Below w.heap.size w ((w.alloc (.cells (numA 0) 27)).alloc (.cells (numA 0) 27)) := ((Below.refl _ _).alloc (Nat.le_refl _) _).alloc (by simp) _
 have hs : ((w.alloc (.cells (numA 0) 27)).alloc (.cells (numA 0) 27)).heap.size = w.heap.size + 2 := by simp
 rw [sofar_zero] at g1
 rw [← zeroA] at g0 g1 gb hs
 have SZ := hid (sofar_zero l n)
 have HL := hid hl
 clear hl
 go_enter Tryz.func120, Tryz.ntmps120
 go_wp2
 generalize World.alloc (World.alloc _ _) _ = W at *
 go_loopw [5] (fun i wr => ∃ k : Nat, k ≤ n ∧ i = .int .i64 k ∧ Num wr (w.heap.size + 1) 27 (sofar l n k) ∧ W.grownBy wr (some (w.heap.size + 1))) (fun i _ => n - (intOf i).toNat)
 case atStart => exact ⟨0, by omega, rfl, by rw [SZ.out]; exact g1, World.grownBy.refl _ _⟩
 case round =>
  obtain ⟨i, hi, rfl, hnm, hg⟩ := hrel
  clear g1
  by_cases hlt : i < n
  ·obtain ⟨b, d, r, hb, hk, hd, hr, hj, hor⟩ := PS.out i hlt
   have hbb := b.toNat_lt
   have hcd := hnm.cell hd
   have hfd := hnm.frozen d
   have hB := zf gb hg (by omega) (by omega)
   obtain ⟨bb, oo, rfl, hbb2, hcl⟩ := (hR.below hB (Nat.le_refl _)).at (by have := HL.out; omega)
   have hcb := hcl i b hb
   clear hcl
   have HK := hid hk
   have HN := hid (hnm.setDig hd hj)
   clear hk hj hb
   obtain ⟨c, hc⟩ : ∃ c : Int, c = (b.toNat : Int) := ⟨_, rfl⟩
   rw [← hc] at hcb
   have hr3 : r = 0 ∨ r = 1 ∨ r = 2 ∨ r = 3 := by omega
   have hoR := zqa (sofar l n i) d
   have hoS := zpa (sofar l n i) d
   rcases hr3 with rfl | rfl | rfl | rfl
   ·have hd8 : (d : Int) < 8 := by omega
    have hd0 : (0 : Int) ≤ (d : Int) := by omega
    have hor' : bits BinOp.or IntKind.u32 (digI (sofar l n i) d) (c % 4294967296) = digI (sofar l n (i + 1)) d := by rw [← hor, hc, Int.emod_eq_of_lt (by omega) (by omega)]; simp
    have hkI : (n : Int) - 1 - (i : Int) = 4 * (d : Int) := by have := HK.out; omega
    have hdd : IntKind.i64.wrap (d : Int) = (d : Int) := Go.IntWalk.i64_in _ (by omega)
    have hk4 : IntKind.i64.wrap ((4 * (d : Int)).tdiv 4) = (d : Int) := by rw [Int.tdiv_eq_ediv_of_nonneg (by omega), show (4 * (d : Int)) / 4 = (d : Int) by omega]; exact Go.IntWalk.i64_in _ (by omega)
    have hr4 : IntKind.i64.wrap ((4 * (d : Int)).tmod 4) = 0 := by rw [Int.tmod_eq_emod_of_nonneg (by omega), show (4 * (d : Int)) % 4 = 0 by omega]; rfl
    clear hor
    have hc0 : 0 ≤ c := by omega
    have hc1 : c < 256 := by omega
    clear hc
    go_wp2_with fail
    go_still_tail 18, (by kernel_rfl)
    change wpList _ _ _ _ _ (World.drew _)
    go_wp2
    go_roundw
    case rel => exact ⟨i + 1, by omega, by go_num, HN.out, only_drewN (zi hg rfl _) 1⟩
    case measure => simp [intOf] <;> omega
   ·have hd8 : (d : Int) < 8 := by omega
    have hd0 : (0 : Int) ≤ (d : Int) := by omega
    have hor' : bits BinOp.or IntKind.u32 (digI (sofar l n i) d) (c * 256 % 4294967296) = digI (sofar l n (i + 1)) d := by rw [← hor, hc, Int.emod_eq_of_lt (by omega) (by omega)]; simp
    have hkI : (n : Int) - 1 - (i : Int) = 4 * (d : Int) + 1 := by have := HK.out; omega
    have hk4 : IntKind.i64.wrap ((4 * (d : Int) + 1).tdiv 4) = (d : Int) := by rw [Int.tdiv_eq_ediv_of_nonneg (by omega), show (4 * (d : Int) + 1) / 4 = (d : Int) by omega]; exact Go.IntWalk.i64_in _ (by omega)
    have hr4 : IntKind.i64.wrap ((4 * (d : Int) + 1).tmod 4) = 1 := by rw [Int.tmod_eq_emod_of_nonneg (by omega), show (4 * (d : Int) + 1) % 4 = 1 by omega]; rfl
    clear hor
    have hc0 : 0 ≤ c := by omega
    have hc1 : c < 256 := by omega
    clear hc
    go_wp2_with fail
    go_still_tail 18, (by kernel_rfl)
    change wpList _ _ _ _ _ (World.drew _)
    go_wp2
    go_roundw
    case rel => exact ⟨i + 1, by omega, by go_num, HN.out, only_drewN (zi hg rfl _) 1⟩
    case measure => simp [intOf] <;> omega
   ·have hd8 : (d : Int) < 8 := by omega
    have hd0 : (0 : Int) ≤ (d : Int) := by omega
    have hor' : bits BinOp.or IntKind.u32 (digI (sofar l n i) d) (c * 65536 % 4294967296) = digI (sofar l n (i + 1)) d := by rw [← hor, hc, Int.emod_eq_of_lt (by omega) (by omega)]; simp
    have hkI : (n : Int) - 1 - (i : Int) = 4 * (d : Int) + 2 := by have := HK.out; omega
    have hk4 : IntKind.i64.wrap ((4 * (d : Int) + 2).tdiv 4) = (d : Int) := by rw [Int.tdiv_eq_ediv_of_nonneg (by omega), show (4 * (d : Int) + 2) / 4 = (d : Int) by omega]; exact Go.IntWalk.i64_in _ (by omega)
    have hr4 : IntKind.i64.wrap ((4 * (d : Int) + 2).tmod 4) = 2 := by rw [Int.tmod_eq_emod_of_nonneg (by omega), show (4 * (d : Int) + 2) % 4 = 2 by omega]; rfl
    clear hor
    have hc0 : 0 ≤ c := by omega
    have hc1 : c < 256 := by omega
    clear hc
    go_wp2_with fail
    go_still_tail 18, (by kernel_rfl)
    change wpList _ _ _ _ _ (World.drew _)
    go_wp2
    go_roundw
    case rel => exact ⟨i + 1, by omega, by go_num, HN.out, only_drewN (zi hg rfl _) 1⟩
    case measure => simp [intOf] <;> omega
   ·have hd8 : (d : Int) < 8 := by omega
    have hd0 : (0 : Int) ≤ (d : Int) := by omega
    have hor' : bits BinOp.or IntKind.u32 (digI (sofar l n i) d) (c * 16777216 % 4294967296) = digI (sofar l n (i + 1)) d := by rw [← hor, hc, Int.emod_eq_of_lt (by omega) (by omega)]; simp
    have hkI : (n : Int) - 1 - (i : Int) = 4 * (d : Int) + 3 := by have := HK.out; omega
    have hk4 : IntKind.i64.wrap ((4 * (d : Int) + 3).tdiv 4) = (d : Int) := by rw [Int.tdiv_eq_ediv_of_nonneg (by omega), show (4 * (d : Int) + 3) / 4 = (d : Int) by omega]; exact Go.IntWalk.i64_in _ (by omega)
    have hr4 : IntKind.i64.wrap ((4 * (d : Int) + 3).tmod 4) = 3 := by rw [Int.tmod_eq_emod_of_nonneg (by omega), show (4 * (d : Int) + 3) % 4 = 3 by omega]; rfl
    clear hor
    have hc0 : 0 ≤ c := by omega
    have hc1 : c < 256 := by omega
    clear hc
    go_wp2_with fail
    go_still_tail 18, (by kernel_rfl)
    change wpList _ _ _ _ _ (World.drew _)
    go_wp2
    go_roundw
    case rel => exact ⟨i + 1, by omega, by go_num, HN.out, only_drewN (zi hg rfl _) 1⟩
    case measure => simp [intOf] <;> omega
  ·obtain rfl : i = n := by omega
   have hB := zf gb hg (by omega) (by omega)
   have m0 : Num wr w.heap.size 27 0 := g0.grown hg (by simp)
   rw [SA.out] at hnm
   go_wp2_with (first | (refine zd rfl _ _ rfl _ rfl _ _ _ hnm Tryz.underlying27 rfl ze ?_) | (refine zj rfl _ _ _ rfl _ rfl _ rfl _ rfl m0 ze ?_; intro w5 hg5 m5))
   exact bodyPost_ret (zxa rfl rfl m5 Tryz.underlying27 rfl ze) rfl ⟨rfl, zf hB hg5 hB.size (by omega)⟩
end Go.Proofs.YtcfepoopkfhojaaGreat
namespace Go.Proofs.YtcfepoopkfhojaaGreat
open Go.ChangeShapes Go.WideShapes Go.ChangeAt Go.RowKit Go.Shelf
theorem cat_le {B : Nat} : ∀ {L : List (List UInt8)}, (∀ l ∈ L, l.length ≤ B) → (cat L).length ≤ L.length * (B + 8)
 | [], _ => Nat.zero_le _
 | l :: L, h => by
  have h1 := h l (List.mem_cons_self ..)
  have h2 := cat_le fun q hq => h q (List.mem_cons_of_mem _ hq)
  rw [List.length_cons, Nat.succ_mul]
  simp only [cat, List.length_append, zrb]
  omega
theorem cat_5 {L : List (List UInt8)} (hL : L.length ≤ 6) (h : ∀ l ∈ L, l.length ≤ 200) : (cat L).length ≤ 5000 := by
 have h1 := cat_le h
 have h2 : L.length * (200 + 8) ≤ 6 * (200 + 8) := Nat.mul_le_mul_right _ hL
 omega
theorem le_2 {L : List (List UInt8)} (h : ∀ l ∈ L, l.length ≤ 200) : ∀ l ∈ L, l.length ≤ 2000 := fun l hl => Nat.le_trans (h l hl) (by decide)
theorem srof_b {w : World} {u : Value} {L : List (List UInt8)} (hu : IsP w L u) (hL : L.length ≤ 6) (h : ∀ l ∈ L, l.length ≤ 200) :
  Calls Tryz.prog 29 #[u] w fun e w' => e = .returned (.agg (zk (outF (macW [] L)))) ∧ Below w.heap.size w w' := by
 obtain ⟨B, d, rfl, k1, k2, k3⟩ := hu
 exact rof_any B L _ d rfl k1 (Nat.le_trans hL (by decide)) (le_2 h) (cat_5 hL h) w k3
theorem srstretch_b {w : World} {v u : Value} {pass salt : List UInt8} (hv : IsB w pass v) (hu : IsB w salt u) (l0 : pass.length ≤ 2000) (l1 : salt.length ≤ 2000) :
  Calls Tryz.prog 91 #[v, u, .int .i64 3] w fun e w' => e = .returned (.agg (zk (strA pass salt 2))) ∧ Below w.heap.size w w' := by
 obtain ⟨A, c, rfl, a1, a2, a3, a4⟩ := hv
 obtain ⟨B, d, rfl, b1, b2, b3, b4⟩ := hu
 exact rstretch_any A pass _ c rfl a1 a2 a3 B salt _ d rfl b1 b2 b3 l0 l1 3 (by decide) (by decide) 2 (by decide) w a4 b4
theorem sb_r (y : Nat → Int) (hy : ∀ k, 0 ≤ y k ∧ y k < 256) (w : World) : Calls Tryz.prog 18 #[.agg (zk y)] w fun e w' => ∃ v, e = .returned v ∧ Below w.heap.size w w' ∧ IsB w' (sumY y) v :=
 (srbytes_any y hy w).mono fun e w' ⟨v, h1, h2, h3⟩ => ⟨v, h1, h3, h2.isb⟩
theorem srread_b {l : List UInt8} {v : Value} {N : Nat} (w : World) (h : IsB w l v) (hl : l.length ≤ 32) (hN : zwa l = N) :
  Calls Tryz.prog 120 #[v] w fun e w' => e = .returned (.tuple #[numV N, .bool true]) ∧ Below w.heap.size w w' := by
 subst hN
 obtain ⟨A, c, rfl, h1, h2, h3, h4⟩ := h
 exact rread_any A l _ c rfl hl w h4
section
variable {Q : Exit → Act → World → Prop} {a : Act} {w : World} {o : Oper} {B : Nat} {ops : Array Oper}
theorem hop_cvS (hw : Region.wanted o (yielded ops a.tmps) = true) (hB : B ≤ w.heap.size) (x : Operand) (ho : o.op = .convert 9 22 x) {s : ByteArray} (hx : a.eval x = .string s) (hs : s.size ≤ 1000000) :
  if Region.wanted o (yielded ops a.tmps) = true then o.wp Tryz.prog a w (fun a' w' => ∃ v, a' = a.put o.dst v ∧ Kc B w w' ∧ (StK.bytes (sBy s)).F w' v) Q else (StK.bytes (sBy s)).F w undef := by
 obtain ⟨v, w', h1, h2⟩ := run_cvS (Mx.start w) 0 x ho hx hs
 exact hop_growK (F := (StK.bytes (sBy s)).F) hw v h1 (Kc.of_below hB h2.below) (h2.at_ 0 _ rfl).1
end
end Go.Proofs.YtcfepoopkfhojaaGreat
namespace Go.Proofs.YtcfepoopkfhojaaGreat
open Go.ChangeShapes Go.WideShapes Go.ChangeAt Go.RowKit
theorem rnumber7_any (y : Nat → Int) (hy : ∀ k, 0 ≤ y k ∧ y k < 256) (w : World) :
  Calls Tryz.prog 94 #[.agg (zk y)] w fun e w' => e = .returned (numV (zwa (sumY y))) ∧ Below w.heap.size w w' := by
 obtain ⟨N, hN⟩ : ∃ N, zwa (sumY y) = N := ⟨_, rfl⟩
 have hsl := zyb y
 rw [hN]
 refine zra (args := [.agg (zk y)]) 12 Tryz.func94 rfl rfl rfl ?_
 intro fa F
 have M := Mx.start w
 refine zSk fun _ hK1 => ?_
 refine zR ?_
 refine zo (zc rfl) rfl F rfl M 0 (t := 35) (c := zk y) (by unfold execOp; simp only [(F.get (t := 0) rfl)]; kernel_rfl) ?_
 intro g2 a2 w2 F2 M2
 clear F M
 refine zo (zc rfl) rfl F2 rfl M2 1 (t := 27) (c := numA 0) (zba rfl) ?_
 intro g3 a3 w3 F3 M3
 clear F2 M2
 refine hK1 _ _ ?_
 refine zSk fun _ hK4 => ?_
 refine zR ?_
 refine zh (w' := w3) (zc rfl) rfl F3 rfl _ (zga _ _ rfl (F3.get (t := 1) rfl) (M3.blk (k := 0) rfl) (zk y) (zta rfl) Tryz.underlying35 rfl (by kernel_rfl)) fun _ F5 => ?_
 clear F3
 refine zea (zc rfl) rfl F5 rfl rfl (zE Tryz.func18 rfl) #[.agg (zk y)] (z2a (F5.get (t := 6) rfl)) ((srbytes_any y hy w3)) ?_
 rintro v6 w6 a6 h6 F6
 have M6 := M3.newO h6.2 2 h6.1
 clear M3 h6
 obtain ⟨A6, c6, rfl⟩ := (M6.isO (k := 2) rfl).shape
 refine zea (zc rfl) rfl F6 rfl rfl (zE Tryz.func120 rfl) #[.slice A6 ((sumY y)).length c6] (z2a (F6.get (t := 7) rfl)) (zha ((srread_b w6 (M6.isO (k := 2) rfl) (by rw [hsl]; decide) hN))) ?_
 rintro _ w7 a7 ⟨rfl, b7⟩ F7
 have M7 := M6.step b7
 refine zB 3 [(2, .pointer (some ⟨g3, 0, none⟩)), (9, numV N), (10, .bool true)] [] dnil [] F7 fun _ F8 => ?_
 clear F7
 refine zo (zc rfl) rfl F8 rfl M7 3 (t := 27) (c := numA 0) (zba rfl) ?_
 intro g9 a9 w9 F9 M9
 clear F8 M7
 refine zka (zc rfl) rfl F9 M9 (k := 3) rfl _ _ _ rfl (F9.get (t := 3) rfl) (F9.get (t := 9) rfl) (numA N) _ rfl (zL rfl) (zoa _) (zx rfl) ze ?_
 intro w10 M10
 clear M9
 refine rm rfl F9 fun _ F11 => ?_
 refine hK4 _ _ ?_
 refine zSk fun _ hK12 => ?_
 refine zR ?_
 refine zh (w' := w10) (zc rfl) rfl F11 rfl (numV N) (zga _ _ rfl (F11.get (t := 3) rfl) (M10.blk (k := 3) rfl) (numA N) (zta rfl) Tryz.underlying27 rfl ze) fun _ F13 => ?_
 clear F11
 refine zka (zc rfl) rfl F13 M10 (k := 1) rfl _ _ _ rfl (F13.get (t := 2) rfl) (F13.get (t := 11) rfl) (numA N) _ rfl (zL rfl) (zoa _) (zx rfl) ze ?_
 intro w14 M14
 clear M10
 refine hK12 _ _ ?_
 refine wp_ret ?_
 try simp only [Exit.then, Exit.inBlock, Exit.jump]
 exact bodyPost_ret (results_cell_row rfl _ _ _ _ _ (0, 0) _ (F13.get rfl) (M14.blk (k := 1) rfl) Tryz.underlying27 rfl ze) F13.defers ⟨rfl, M14.below⟩
theorem rexp4_any (k : Int) (P Q g : Nat) (h2 : 2 < Q) (hQ5 : Q < 4294967296) (l : List UInt8) (hl : l.length ≤ 200) (v : Value) (w : World) (hB : IsB w l v) :
  Calls Tryz.prog 59 #[.agg (zg k P Q g), v] w fun e w' => e = .returned (numV (expN Q l)) ∧ Below w.heap.size w w' := by
 have hQ : Q < 4294967296 ^ 8 := Nat.lt_trans hQ5 (by decide)
 obtain ⟨Al, cl, rfl⟩ := id hB.shape
 obtain ⟨S, hS⟩ : ∃ S, macW [] [[101, 120, 112, 111, 110, 101, 110, 116], l] = S := ⟨_, rfl⟩
 have kM := fun (w : World) (u : Value) (h : IsP w [[101, 120, 112, 111, 110, 101, 110, 116], l] u) => srof_b h (by simp) (fun q hq => by
  rcases List.mem_cons.1 hq with rfl | hq
  ·decide
  ·rcases List.mem_cons.1 hq with rfl | hq
   ·exact hl
   ·cases hq)
 rw [hS] at kM
 obtain ⟨N, hN⟩ : ∃ N, zwa (sumY (outF S)) = N := ⟨_, rfl⟩
 have kN := fun w => rnumber7_any (outF S) (zdc S) w
 rw [hN] at kN
 have hNl : N < 4294967296 ^ 8 := by rw [← hN]; exact readN_lt_num (by rw [zyb]; decide)
 obtain ⟨M1, hM1⟩ : ∃ M1, Q - 1 = M1 := ⟨_, rfl⟩
 obtain ⟨r, hr⟩ : ∃ r, N % M1 = r := ⟨_, rfl⟩
 have hrl : r < M1 := by rw [← hr]; exact Nat.mod_lt _ (by omega)
 have kL := fun w => rleft_any N M1 hNl (by omega) (by omega) w
 rw [hr] at kL
 have kF := fun w => from_ref ((r + 1 : Nat) : Int) (by omega) (by omega) w
 rw [Int.toNat_natCast] at kF
 rw [show expN Q l = r + 1 by unfold expN; rw [hS, hN, hM1, hr]]
 clear hr hN hS
 have kS := fun w => rsmall_any Q hQ5 w
 refine zra (args := [.agg (zg k P Q g), .slice Al l.length cl]) 20 Tryz.func59 rfl rfl rfl ?_
 intro fa F
 have M := Mx.start w
 replace M := M.argB 0 hB (fun g e => by cases e)
 refine zSk fun _ hK1 => ?_
 refine zR ?_
 refine zo (zc rfl) rfl F rfl M 1 (t := 29) (c := zg k P Q g) (by unfold execOp; simp only [(F.get (t := 0) rfl)]; kernel_rfl) ?_
 intro g2 a2 w2 F2 M2
 clear F M
 refine zo (zc rfl) rfl F2 rfl M2 2 (t := 27) (c := numA 0) (zba rfl) ?_
 intro g3 a3 w3 F3 M3
 clear F2 M2
 refine hK1 _ _ ?_
 refine zSk fun _ hK4 => ?_
 have hD5 := (z7a (M3.blk (k := 1) rfl) dnil)
 refine zec F3 (SK [.inr (StK.lit w3.heap.size [101, 120, 112, 111, 110, 101, 110, 116]), .inr (StK.lit w3.heap.size [101, 120, 112, 111, 110, 101, 110, 116]), .inl (.slice Al l.length cl), .inr (StK.parts [[101, 120, 112, 111, 110, 101, 110, 116], l]), .inl (.agg (zk (outF S))), .inl (numV N), .inl (.pointer (some ⟨g2, 9, none⟩)), .inl (numV Q), .inl (.int .i64 (Q : Int)), .inl (.int .i64 (M1 : Int)), .inl (.int .i64 (r : Int)), .inl (.int .i64 (r : Int))]) 12 rfl (by kernel_rfl) ⟨?_, ?_, hop0 F3 (by kernel_rfl), ?_, ?_, ?_, hop0 F3 (by kernel_rfl), hopP F3 hD5 0 (some g2) (by kernel_rfl), ?_, ?_, ?_, hop0 F3 (by kernel_rfl), trivial⟩ ?_
 ·intro ua uw hb hd
  exact hop_lit (zc rfl) hb.size [101, 120, 112, 111, 110, 101, 110, 116] (by decide) (by decide) _ rfl (by simp only [List.map_toArray, List.map_cons, List.map_nil]; kernel_rfl)
 ·intro ua uw hb hd
  have l6 : LitB w3.heap.size uw [101, 120, 112, 111, 110, 101, 110, 116] (ua.eval (.tmp 6)) := hd 6 (by decide)
  have e6 := l6.isB
  exact hop_convK (zc rfl) _ rfl l6
 ·intro ua uw hb hd
  have l7 : LitB w3.heap.size uw [101, 120, 112, 111, 110, 101, 110, 116] (ua.eval (.tmp 7)) := hd 7 (by decide)
  have e7 := l7.isB
  have e8 : ua.eval (.tmp 8) = .slice Al l.length cl := hd 8 (by decide)
  exact hop_parts2 (zc rfl) hb.size (.tmp 7) (.tmp 8) rfl e7 (by rw [e8]; exact ((M3.step hb).isb (k := 0) rfl))
 ·intro ua uw hb hd
  have e9 : IsP uw [[101, 120, 112, 111, 110, 101, 110, 116], l] (ua.eval (.tmp 9)) := hd 9 (by decide)
  exact zda (F := (StK.eq (.agg (zk (outF S)))).F) (zc rfl) hb.size rfl #[(ua.eval (.tmp 9))] (z2a rfl) (zE Tryz.func29 rfl) (zsa ((kM _ _ e9)))
 ·intro ua uw hb hd
  have e10 : ua.eval (.tmp 10) = .agg (zk (outF S)) := hd 10 (by decide)
  exact zda (F := (StK.eq (numV N)).F) (zc rfl) hb.size rfl #[.agg (zk (outF S))] (z2a e10) (zE Tryz.func94 rfl) (zsa (kN uw))
 ·intro ua uw hb hd
  have e13 : ua.eval (.tmp 13) = numV Q := hd 13 (by decide)
  exact zda (F := (StK.eq (.int .i64 (Q : Int))).F) (zc rfl) hb.size rfl #[numV Q] (z2a e13) (zE Tryz.func60 rfl) (zsa (kS uw))
 ·intro ua uw hb hd
  have e14 : ua.eval (.tmp 14) = .int .i64 (Q : Int) := hd 14 (by decide)
  exact zaa (F := (StK.eq (.int .i64 (M1 : Int))).F) (zc rfl) (.int .i64 (M1 : Int)) (y_subI _ _ _ _ rfl e14 rfl (by omega) (by omega)) rfl
 ·intro ua uw hb hd
  have e11 : ua.eval (.tmp 11) = numV N := hd 11 (by decide)
  have e15 : ua.eval (.tmp 15) = .int .i64 (M1 : Int) := hd 15 (by decide)
  exact zda (F := (StK.eq (.int .i64 (r : Int))).F) (zc rfl) hb.size rfl #[numV N, .int .i64 (M1 : Int)] (z7b e11 e15) (zE Tryz.func61 rfl) (zsa (kL uw))
 intro p6 a6 w6 b6 G6 y6
 obtain ⟨-, -, -, -, -, -, -, -, -, -, -, q11, -⟩ := y6
 have r11 : p6 11 = .int .i64 (r : Int) := q11 (by decide)
 simp only [List.take, layV, Nat.zero_add, Nat.reduceAdd, r11] at G6
 have M6 := M3.kc b6
 clear F3 M3 r11 q11
 refine hK4 _ _ ?_
 refine zSk fun _ hK7 => ?_
 refine zR ?_
 refine rm rfl G6 fun _ F8 => ?_
 refine zh (w' := w6) (zc rfl) rfl F8 rfl (.int .i64 ((r + 1 : Nat) : Int)) (y_addI _ _ _ _ rfl (F8.get (t := 17) rfl) rfl (by omega) (by omega)) fun _ F9 => ?_
 clear F8
 refine zea (zc rfl) rfl F9 rfl rfl (zE Tryz.func63 rfl) #[.int .i64 ((r + 1 : Nat) : Int)] (z2a (F9.get (t := 18) rfl)) (zha (kF w6)) ?_
 rintro _ w10 a10 ⟨rfl, b10⟩ F10
 have M10 := M6.step b10
 refine zka (zc rfl) rfl F10 M10 (k := 2) rfl _ _ _ rfl (F10.get (t := 4) rfl) (F10.get (t := 19) rfl) (numA (r + 1)) _ rfl (zL rfl) (zoa _) (zx rfl) ze ?_
 intro w11 M11
 clear M10
 refine hK7 _ _ ?_
 refine wp_ret ?_
 try simp only [Exit.then, Exit.inBlock, Exit.jump]
 exact bodyPost_ret (results_cell_row rfl _ _ _ _ _ (0, 0) _ (F10.get rfl) (M11.blk (k := 2) rfl) Tryz.underlying27 rfl ze) F10.defers ⟨rfl, M11.below⟩
theorem rx7_any (k : Int) (P Q g : Nat) (h2 : 2 < Q) (hQ5 : Q < 4294967296) (t : ByteArray) (ht : t.size ≤ 200) (lp ls : List UInt8) (hlp : lp.length ≤ 200) (hls : ls.length ≤ 200) (vp vs : Value) (w : World) (hp : IsB w lp vp) (hs : IsB w ls vs) :
  Calls Tryz.prog 54 #[.agg (zg k P Q g), .string t, vp, vs] w fun e w' => e = .returned (numV (secN Q (sBy t) lp ls)) ∧ Below w.heap.size w w' := by
 obtain ⟨S, hS⟩ : ∃ S, macW [] [[120], sBy t, lp] = S := ⟨_, rfl⟩
 have kM := fun (w : World) (u : Value) (h : IsP w [[120], sBy t, lp] u) => srof_b h (show 3 ≤ 6 by decide) (by simp only [List.mem_cons, List.not_mem_nil, or_false, forall_eq_or_imp, forall_eq]; exact ⟨(by decide), by rw [sBy_len]; exact ht, hlp⟩)
 rw [hS] at kM
 obtain ⟨Y, hY⟩ : ∃ Y, strA (sumY (outF S)) ls 2 = Y := ⟨_, rfl⟩
 have hyb : ∀ k, 0 ≤ Y k ∧ Y k < 256 := by rw [← hY]; exact strA_bd _ _ 2
 have kS := fun (w : World) (v u : Value) (h : IsB w (sumY (outF S)) v) (h2 : IsB w ls u) => srstretch_b h h2 (by rw [zyb]; decide) (Nat.le_trans hls (by decide))
 rw [hY] at kS
 obtain ⟨N, hN⟩ : ∃ N, expN Q (sumY Y) = N := ⟨_, rfl⟩
 rw [show secN Q (sBy t) lp ls = N by unfold secN; rw [hS, hY, hN]]
 have hbd := zdc S
 have kE := fun (w : World) (v : Value) (h : IsB w (sumY Y) v) => rexp4_any k P Q g h2 hQ5 (sumY Y) (by rw [zyb]; decide) v w h
 rw [hN] at kE
 clear hN hS hY
 obtain ⟨Ap, cp, rfl⟩ := id hp.shape
 obtain ⟨As, cs, rfl⟩ := id hs.shape
 refine zra (args := [.agg (zg k P Q g), .string t, .slice Ap lp.length cp, .slice As ls.length cs]) 24 Tryz.func54 rfl rfl rfl ?_
 intro fa F
 have M := Mx.start w
 replace M := M.argB 0 hp (fun g e => by cases e)
 replace M := M.argB 1 hs (fun g e => by cases e)
 refine zSk fun _ hK1 => ?_
 refine zR ?_
 refine zo (zc rfl) rfl F rfl M 2 (t := 29) (c := zg k P Q g) (by unfold execOp; simp only [(F.get (t := 0) rfl)]; kernel_rfl) ?_
 intro g2 a2 w2 F2 M2
 clear F M
 refine zo (zc rfl) rfl F2 rfl M2 3 (t := 27) (c := numA 0) (zba rfl) ?_
 intro g3 a3 w3 F3 M3
 clear F2 M2
 refine hK1 _ _ ?_
 refine zSk fun _ hK4 => ?_
 refine region_fxU F3 (SK [.inr (StK.lit w3.heap.size [120]), .inr (StK.lit w3.heap.size [120]), .inl (.string t), .inr (StK.bytes (sBy t)), .inl (.slice Ap lp.length cp), .inr (StK.parts [[120], (sBy t), lp]), .inl (.agg (zk (outF S)))]) 7 (by kernel_rfl) rfl ⟨?_, ?_, hop0 F3 (by kernel_rfl), ?_, hop0 F3 (by kernel_rfl), ?_, ?_, trivial⟩ ?_
 ·intro ua uw hb hd
  exact hop_lit (zc rfl) hb.size [120] (by decide) (by decide) _ rfl (by simp only [List.map_toArray, List.map_cons, List.map_nil]; kernel_rfl)
 ·intro ua uw hb hd
  have l10 : LitB w3.heap.size uw [120] (ua.eval (.tmp 10)) := hd 10 (by decide)
  have e10 := l10.isB
  exact hop_convK (zc rfl) _ rfl l10
 ·intro ua uw hb hd
  have e12 : ua.eval (.tmp 12) = .string t := hd 12 (by decide)
  exact hop_cvS (zc rfl) hb.size _ rfl e12 (by omega)
 ·intro ua uw hb hd
  have l11 : LitB w3.heap.size uw [120] (ua.eval (.tmp 11)) := hd 11 (by decide)
  have e11 := l11.isB
  have e13 : IsB uw (sBy t) (ua.eval (.tmp 13)) := hd 13 (by decide)
  have e14 : ua.eval (.tmp 14) = .slice Ap lp.length cp := hd 14 (by decide)
  exact hop_parts3 (zc rfl) hb.size (.tmp 11) (.tmp 13) (.tmp 14) rfl e11 e13 (by rw [e14]; exact ((M3.step hb).isb (k := 0) rfl))
 ·intro ua uw hb hd
  have e15 : IsP uw [[120], (sBy t), lp] (ua.eval (.tmp 15)) := hd 15 (by decide)
  exact zda (F := (StK.eq (.agg (zk (outF S)))).F) (zc rfl) hb.size rfl #[(ua.eval (.tmp 15))] (z2a rfl) (zE Tryz.func29 rfl) (zsa ((kM _ _ e15)))
 intro p6 a6 w6 b6 G6 y6
 obtain ⟨-, -, -, -, -, -, q6, -⟩ := y6
 have r6 : p6 6 = .agg (zk (outF S)) := q6 (by decide)
 simp only [List.take, layV, Nat.zero_add, Nat.reduceAdd, r6] at G6
 have M6 := M3.kc b6
 clear F3 M3 r6 q6
 refine zo (zc rfl) rfl G6 rfl M6 4 (t := 35) (c := zk (fun _ => 0)) (by unfold execOp; kernel_rfl) ?_
 intro g7 a7 w7 F7 M7
 clear G6 M6
 refine zka (zc rfl) rfl F7 M7 (k := 4) rfl _ _ _ rfl (F7.get (t := 9) rfl) (F7.get (t := 16) rfl) (zk (outF S)) _ rfl (zL rfl) (zla _) (zx rfl) (by kernel_rfl) ?_
 intro w8 M8
 clear M7
 refine hK4 _ _ ?_
 refine zSk fun _ hK9 => ?_
 have hD10 := (z7a (M8.blk (k := 2) rfl) (z7a (M8.blk (k := 4) rfl) dnil))
 refine zec F7 (SK [.inl (.agg (zg k P Q g)), .inl (.agg (zk (outF S))), .inr (StK.bytes (sumY (outF S))), .inl (.slice As ls.length cs), .inl (.agg (zk Y)), .inr (StK.bytes (sumY Y)), .inl (numV N)]) 7 rfl (by kernel_rfl) ⟨hopP F7 hD10 0 (some g2) (by kernel_rfl), hopP F7 hD10 1 (some g7) (by kernel_rfl), ?_, hop0 F7 (by kernel_rfl), ?_, ?_, ?_, trivial⟩ ?_
 ·intro ua uw hb hd
  have e18 : ua.eval (.tmp 18) = .agg (zk (outF S)) := hd 18 (by decide)
  exact zda (F := (StK.bytes (sumY (outF S))).F) (zc rfl) hb.size rfl #[.agg (zk (outF S))] (z2a e18) (zE Tryz.func18 rfl) ((sb_r (outF S) hbd uw))
 ·intro ua uw hb hd
  have e19 : IsB uw (sumY (outF S)) (ua.eval (.tmp 19)) := hd 19 (by decide)
  have e20 : ua.eval (.tmp 20) = .slice As ls.length cs := hd 20 (by decide)
  exact zda (F := (StK.eq (.agg (zk Y))).F) (zc rfl) hb.size rfl #[(ua.eval (.tmp 19)), .slice As ls.length cs, .int .i64 3] (args3 rfl e20 rfl) (zE Tryz.func91 rfl) (zsa ((kS _ _ _ e19 ((M8.step hb).isb (k := 1) rfl))))
 ·intro ua uw hb hd
  have e21 : ua.eval (.tmp 21) = .agg (zk Y) := hd 21 (by decide)
  exact zda (F := (StK.bytes (sumY Y)).F) (zc rfl) hb.size rfl #[.agg (zk Y)] (z2a e21) (zE Tryz.func18 rfl) ((sb_r Y hyb uw))
 ·intro ua uw hb hd
  have e17 : ua.eval (.tmp 17) = .agg (zg k P Q g) := hd 17 (by decide)
  have e22 : IsB uw (sumY Y) (ua.eval (.tmp 22)) := hd 22 (by decide)
  exact zda (F := (StK.eq (numV N)).F) (zc rfl) hb.size rfl #[.agg (zg k P Q g), (ua.eval (.tmp 22))] (z7b e17 rfl) (zE Tryz.func59 rfl) (zsa ((kE uw _ e22)))
 intro p11 a11 w11 b11 G11 y11
 obtain ⟨-, -, -, -, -, -, q6, -⟩ := y11
 have r6 : p11 6 = numV N := q6 (by decide)
 simp only [List.take, layV, Nat.zero_add, Nat.reduceAdd, r6] at G11
 have M11 := M8.kc b11
 clear F7 M8 r6 q6
 refine zka (zc rfl) rfl G11 M11 (k := 3) rfl _ _ _ rfl (G11.get (t := 8) rfl) (G11.get (t := 23) rfl) (numA N) _ rfl (zL rfl) (zoa _) (zx rfl) ze ?_
 intro w12 M12
 clear M11
 refine hK9 _ _ ?_
 refine wp_ret ?_
 try simp only [Exit.then, Exit.inBlock, Exit.jump]
 exact bodyPost_ret (results_cell_row rfl _ _ _ _ _ (0, 0) _ (G11.get (t := 8) rfl) (M12.blk (k := 3) rfl) Tryz.underlying27 rfl ze) G11.defers ⟨rfl, M12.below⟩
theorem rver7_any (k : Int) (P Q g : Nat) (h1 : 1 < P) (hP : P < 2147483648) (h2 : 2 < Q) (hQ5 : Q < 4294967296) (hg : g < 4294967296 ^ 8) (t : ByteArray) (ht : t.size ≤ 200) (lp ls : List UInt8) (hlp : lp.length ≤ 200) (hls : ls.length ≤ 200) (vp vs : Value) (w : World) (hp : IsB w lp vp) (hs : IsB w ls vs) :
  Calls Tryz.prog 20 #[.agg (zg k P Q g), .string t, vp, vs] w fun e w' => e = .returned (numV (g ^ secN Q (sBy t) lp ls % P)) ∧ Below w.heap.size w w' := by
 obtain ⟨X, hX⟩ : ∃ X, secN Q (sBy t) lp ls = X := ⟨_, rfl⟩
 have hXl : X < 4294967296 ^ 8 := by rw [← hX]; exact Nat.lt_trans (expN_bd h2 _).2 (Nat.lt_trans hQ5 (by decide))
 have kX := fun (w : World) (vp vs : Value) (hp : IsB w lp vp) (hs : IsB w ls vs) => rx7_any k P Q g h2 hQ5 t ht lp ls hlp hls vp vs w hp hs
 rw [hX] at kX ⊢
 have kR := fun w => rraise_any k P Q g h1 hP g X hg hXl w
 obtain ⟨N, hN⟩ : ∃ N, g ^ X % P = N := ⟨_, rfl⟩
 rw [hN] at kR ⊢
 clear hN hX
 obtain ⟨Ap, cp, rfl⟩ := id hp.shape
 obtain ⟨As, cs, rfl⟩ := id hs.shape
 refine zra (args := [.agg (zg k P Q g), .string t, .slice Ap lp.length cp, .slice As ls.length cs]) 18 Tryz.func20 rfl rfl rfl ?_
 intro fa F
 have M := Mx.start w
 replace M := M.argB 0 hp (fun g e => by cases e)
 replace M := M.argB 1 hs (fun g e => by cases e)
 refine zSk fun _ hK1 => ?_
 refine zR ?_
 refine zo (zc rfl) rfl F rfl M 2 (t := 29) (c := zg k P Q g) (by unfold execOp; simp only [(F.get (t := 0) rfl)]; kernel_rfl) ?_
 intro g2 a2 w2 F2 M2
 clear F M
 refine zo (zc rfl) rfl F2 rfl M2 3 (t := 27) (c := numA 0) (zba rfl) ?_
 intro g3 a3 w3 F3 M3
 clear F2 M2
 refine hK1 _ _ ?_
 refine zSk fun _ hK4 => ?_
 have hD5 := (z7a (M3.blk (k := 2) rfl) dnil)
 refine zec F3 (SK [.inl (.agg (zg k P Q g)), .inl (.pointer (some ⟨g2, 17, none⟩)), .inl (numV g), .inl (.agg (zg k P Q g)), .inl (.string t), .inl (.slice Ap lp.length cp), .inl (.slice As ls.length cs), .inl (numV X), .inl (numV N)]) 9 rfl (by kernel_rfl) ⟨hopP F3 hD5 0 (some g2) (by kernel_rfl), hop0 F3 (by kernel_rfl), hopP F3 hD5 0 (some g2) (by kernel_rfl), hopP F3 hD5 0 (some g2) (by kernel_rfl), hop0 F3 (by kernel_rfl), hop0 F3 (by kernel_rfl), hop0 F3 (by kernel_rfl), ?_, ?_, trivial⟩ ?_
 ·intro ua uw hb hd
  have e12 : ua.eval (.tmp 12) = .agg (zg k P Q g) := hd 12 (by decide)
  have e13 : ua.eval (.tmp 13) = .string t := hd 13 (by decide)
  have e14 : ua.eval (.tmp 14) = .slice Ap lp.length cp := hd 14 (by decide)
  have e15 : ua.eval (.tmp 15) = .slice As ls.length cs := hd 15 (by decide)
  exact zda (F := (StK.eq (numV X)).F) (zc rfl) hb.size rfl #[.agg (zg k P Q g), .string t, .slice Ap lp.length cp, .slice As ls.length cs] (args4 e12 e13 e14 e15) (zE Tryz.func54 rfl) (zsa ((kX uw _ _ ((M3.step hb).isb (k := 0) rfl) ((M3.step hb).isb (k := 1) rfl))))
 ·intro ua uw hb hd
  have e9 : ua.eval (.tmp 9) = .agg (zg k P Q g) := hd 9 (by decide)
  have e11 : ua.eval (.tmp 11) = numV g := hd 11 (by decide)
  have e16 : ua.eval (.tmp 16) = numV X := hd 16 (by decide)
  exact zda (F := (StK.eq (numV N)).F) (zc rfl) hb.size rfl #[.agg (zg k P Q g), numV g, numV X] (args3 e9 e11 e16) (zE Tryz.func27 rfl) (zsa (kR uw))
 intro p6 a6 w6 b6 G6 y6
 obtain ⟨-, -, -, -, -, -, -, -, q8, -⟩ := y6
 have r8 : p6 8 = numV N := q8 (by decide)
 simp only [List.take, layV, Nat.zero_add, Nat.reduceAdd, r8] at G6
 have M6 := M3.kc b6
 clear F3 M3 r8 q8
 refine zka (zc rfl) rfl G6 M6 (k := 3) rfl _ _ _ rfl (G6.get (t := 8) rfl) (G6.get (t := 17) rfl) (numA N) _ rfl (zL rfl) (zoa _) (zx rfl) ze ?_
 intro w7 M7
 clear M6
 refine hK4 _ _ ?_
 refine wp_ret ?_
 try simp only [Exit.then, Exit.inBlock, Exit.jump]
 exact bodyPost_ret (results_cell_row rfl _ _ _ _ _ (0, 0) _ (G6.get (t := 8) rfl) (M7.blk (k := 3) rfl) Tryz.underlying27 rfl ze) G6.defers ⟨rfl, M7.below⟩
theorem group_t {n : Int} (h0 : -9223372036854775808 ≤ n) (h1 : n < 9223372036854775808) : ∃ t : Nat, t < 9 ∧ ∀ w, Calls Tryz.prog 32 #[.int .i64 n, .int .i64 9] w fun e w' => e = .returned (.int .i64 (t : Int)) ∧ w = w' := by
 refine ⟨(n % 9).toNat, by omega, fun w => ?_⟩
 have := gwithin_any n 9 (by omega) (by omega) h0 h1 w
 rw [show (((n % 9).toNat : Nat) : Int) = n % 9 by omega]
 exact this
def GOk (k : Int) (p : Nat) : Prop := 12 ≤ k ∧ k ≤ 24 ∧ p % 2 = 1 ∧ 4000 < p ∧ p < 16777216 ∧ primeB (p : Int) = true ∧ primeB ((p / 2 : Nat) : Int) = true
theorem group_at {t : Nat} (ht : t < 9) : ∃ (k : Int) (p : Nat), (#[.int .i64 12, .int .i64 13, .int .i64 14, .int .i64 15, .int .i64 16, .int .i64 17, .int .i64 18, .int .i64 20, .int .i64 24] : Array Value)[t]? = some (.int .i64 k) ∧
  RunsTo 31 #[.int .i64 k] (.tuple #[.agg (zg k p (p / 2) 4), .bool true]) ∧ GOk k p := by
 have key : ∀ K : Nat, 12 ≤ K → K ≤ 24 → ∃ p : Nat, RunsTo 31 #[.int .i64 (K : Int)] (.tuple #[.agg (zg (K : Int) p (p / 2) 4), .bool true]) ∧ GOk (K : Int) p := fun K g0 g1 => by
  obtain ⟨p, p4, po, pl, ps, pn⟩ := tabs (k := K) (by omega) (by omega)
  have hl : 2 ^ K ≤ 2 ^ 24 := Nat.pow_le_pow_right (by decide) (by omega)
  have hp : p < 16777216 := Nat.lt_of_lt_of_le pl hl
  have e : ((2 : Int) ^ K) = ((2 ^ K : Nat) : Int) := by simp
  have hpr : primeB ((p : Int) / 2) = true ∧ primeB (p : Int) = true := by
   unfold safeB at ps
   simpa using ps
  have hq : ((p / 2 : Nat) : Int) = (p : Int) / 2 := by omega
  refine ⟨p, fun w => ?_, by omega, by omega, po, ?_, hp, hpr.2, by rw [hq]; exact hpr.1⟩
  ·refine (rgmake_any (K : Int) (p : Int) (by omega) (by omega) (fun _ => ⟨by omega, by omega, by rw [Int.toNat_natCast, e]; exact_mod_cast pl, ps, by rw [Int.toNat_natCast]; exact pn⟩) w).mono ?_
   rintro e' w' ⟨V, rfl, hV, hb⟩
   rcases hV with ⟨-, hV⟩ | ⟨hn, -⟩
   ·exact ⟨by rw [hV, Int.toNat_natCast, ← hq, Int.toNat_natCast], hb⟩
   ·omega
  ·refine Nat.lt_of_not_le fun hle => ?_
   have h40 : ((4079 : Nat) : Int) < 2 ^ K := by
    rw [e]
    have : 2 ^ 12 ≤ 2 ^ K := Nat.pow_le_pow_right (by decide) g0
    omega
   have := pn ((4079 : Nat) : Int) (by omega) h40
   rw [(tab_of (k := 12) (p := 4079) (D := 63) (E := 45) (by decide) (by decide) (by decide) (by decide) (by decide) tab12).1] at this
   cases this
 have : t = 0 ∨ t = 1 ∨ t = 2 ∨ t = 3 ∨ t = 4 ∨ t = 5 ∨ t = 6 ∨ t = 7 ∨ t = 8 := by omega
 rcases this with rfl | rfl | rfl | rfl | rfl | rfl | rfl | rfl | rfl
 ·obtain ⟨p, h1, h2⟩ := key 12 (by decide) (by decide)
  exact ⟨12, p, rfl, h1, h2⟩
 ·obtain ⟨p, h1, h2⟩ := key 13 (by decide) (by decide)
  exact ⟨13, p, rfl, h1, h2⟩
 ·obtain ⟨p, h1, h2⟩ := key 14 (by decide) (by decide)
  exact ⟨14, p, rfl, h1, h2⟩
 ·obtain ⟨p, h1, h2⟩ := key 15 (by decide) (by decide)
  exact ⟨15, p, rfl, h1, h2⟩
 ·obtain ⟨p, h1, h2⟩ := key 16 (by decide) (by decide)
  exact ⟨16, p, rfl, h1, h2⟩
 ·obtain ⟨p, h1, h2⟩ := key 17 (by decide) (by decide)
  exact ⟨17, p, rfl, h1, h2⟩
 ·obtain ⟨p, h1, h2⟩ := key 18 (by decide) (by decide)
  exact ⟨18, p, rfl, h1, h2⟩
 ·obtain ⟨p, h1, h2⟩ := key 20 (by decide) (by decide)
  exact ⟨20, p, rfl, h1, h2⟩
 ·obtain ⟨p, h1, h2⟩ := key 24 (by decide) (by decide)
  exact ⟨24, p, rfl, h1, h2⟩
theorem group_any {n : Int} (h0 : -9223372036854775808 ≤ n) (h1 : n < 9223372036854775808) : ∃ (k : Int) (p : Nat), GOk k p ∧ RunsTo 11 #[.int .i64 n] (.agg (zg k p (p / 2) 4)) := by
 obtain ⟨t, ht, kw⟩ := group_t h0 h1
 obtain ⟨k, p, hk, hr, hg⟩ := group_at ht
 refine ⟨k, p, hg, fun w => ?_⟩
 refine zra (args := [.int .i64 n]) 15 Tryz.func11 rfl rfl rfl ?_
 intro fa F
 have M := Mx.start w
 refine zSk fun _ hK1 => ?_
 refine zR ?_
 refine zo (zc rfl) rfl F rfl M 0 (t := 29) (c := zg 0 0 0 0) (by unfold execOp; rw [z1b]; kernel_rfl) ?_
 intro g2 a2 w2 F2 M2
 clear F M
 refine hK1 _ _ ?_
 refine zSk fun _ hK3 => ?_
 refine zR ?_
 refine z3b (zc rfl) rfl F2 rfl M2 1 (t := 3) (c := #[.int .i64 12, .int .i64 13, .int .i64 14, .int .i64 15, .int .i64 16, .int .i64 17, .int .i64 18, .int .i64 20, .int .i64 24]) (k := 9) (m := 9) (y_litI rfl #[.int .i64 12, .int .i64 13, .int .i64 14, .int .i64 15, .int .i64 16, .int .i64 17, .int .i64 18, .int .i64 20, .int .i64 24] rfl (by decide) (by decide) (by simp only [List.map_toArray, List.map_cons, List.map_nil]; kernel_rfl)) ?_
 intro g4 a4 w4 F4 M4
 clear F2 M2
 refine zh (w' := w4) (zc rfl) rfl F4 rfl (.int .i64 n) (zia _ (.inl rfl) (F4.get (t := 0) rfl)) fun _ F5 => ?_
 clear F4
 refine zea (zc rfl) rfl F5 rfl rfl (zE Tryz.func32 rfl) #[.int .i64 n, .int .i64 9] (z7b (F5.get (t := 7) rfl) rfl) (zha (kw w4)) ?_
 rintro _ w6 a6 ⟨rfl, rfl⟩ F6
 refine zh (w' := w4) (zc rfl) rfl F6 rfl (.pointer (some ⟨g4, t, none⟩)) (y_ixI _ _ rfl (F6.get (t := 6) rfl) (F6.get (t := 8) rfl) rfl ht (Nat.zero_add t)) fun _ F7 => ?_
 clear F6
 refine zh (w' := w4) (zc rfl) rfl F7 rfl (.int .i64 k) (y_ld1 _ _ rfl (F7.get (t := 9) rfl) (M4.blk (k := 1) rfl) hk Tryz.underlying3 rfl) fun _ F8 => ?_
 clear F7
 refine zea (zc rfl) rfl F8 rfl rfl (zE Tryz.func31 rfl) #[.int .i64 k] (z2a (F8.get (t := 10) rfl)) (zha (hr w4)) ?_
 rintro _ w9 a9 ⟨rfl, b9⟩ F9
 have M9 := M4.step b9
 refine zh (w' := w9) (zc rfl) rfl F9 rfl (.tuple #[.agg (zg k p (p / 2) 4), .bool true]) (zia _ (.inl rfl) (F9.get (t := 11) rfl)) fun _ F10 => ?_
 clear F9
 refine zh (w' := w9) (zc rfl) rfl F10 rfl (.agg (zg k p (p / 2) 4)) (y_ext _ _ rfl (F10.get (t := 5) rfl) rfl) fun _ F11 => ?_
 clear F10
 refine zh (w' := w9) (zc rfl) rfl F11 rfl (.bool true) (y_ext _ _ rfl (F11.get (t := 5) rfl) rfl) fun _ F12 => ?_
 clear F11
 refine zo (zc rfl) rfl F12 rfl M9 2 (t := 29) (c := zg 0 0 0 0) (by unfold execOp; rw [z1b]; kernel_rfl) ?_
 intro g13 a13 w13 F13 M13
 clear F12 M9
 refine zka (zc rfl) rfl F13 M13 (k := 2) rfl _ _ _ rfl (F13.get (t := 3) rfl) (F13.get (t := 12) rfl) (zg k p (p / 2) 4) _ rfl (zL rfl) (z8b _ _ _ _) (zx rfl) (by kernel_rfl) ?_
 intro w14 M14
 clear M13
 refine zh (w' := w14) (zc rfl) rfl F13 rfl (.bool true) (zia _ (.inr rfl) (F13.get (t := 13) rfl)) fun _ F15 => ?_
 clear F13
 refine hK3 _ _ ?_
 refine zSk fun _ hK16 => ?_
 refine zR ?_
 refine zh (w' := w14) (zc rfl) rfl F15 rfl _ (zga _ _ rfl (F15.get (t := 3) rfl) (M14.blk (k := 2) rfl) (zg k p (p / 2) 4) (zta rfl) Tryz.underlying29 rfl (by kernel_rfl)) fun _ F17 => ?_
 clear F15
 refine zka (zc rfl) rfl F17 M14 (k := 0) rfl _ _ _ rfl (F17.get (t := 2) rfl) (F17.get (t := 14) rfl) (zg k p (p / 2) 4) _ rfl (zL rfl) (z8b _ _ _ _) (zx rfl) (by kernel_rfl) ?_
 intro w18 M18
 clear M14
 refine hK16 _ _ ?_
 refine wp_ret ?_
 try simp only [Exit.then, Exit.inBlock]
 exact bodyPost_ret (results_cell_row rfl _ _ _ _ _ (0, 0) _ (F17.get rfl) (M18.blk (k := 0) rfl) Tryz.underlying29 rfl (by kernel_rfl)) F17.defers ⟨rfl, M18.below⟩
end Go.Proofs.YtcfepoopkfhojaaGreat
namespace Go.Proofs.YtcfepoopkfhojaaGreat
def ch : Nat → Nat → Nat
 | _, 0 => 1
 | 0, _ + 1 => 0
 | n + 1, k + 1 => ch n k + ch n (k + 1)
end Go.Proofs.YtcfepoopkfhojaaGreat
namespace Go.Proofs.YtcfepoopkfhojaaGreat
open Go.ChangeShapes Go.WideShapes Go.ChangeAt Go.RowKit
theorem run_lenT7 {a : Act} {w : World} {o : Oper} (T : TypeId) (hu : Tryz.prog.underlying T = some (.slice (Tryz.prog.elem T))) (x : Operand) (ho : o.op = .call { callee := .builtin .len, args := #[x], argTypes := #[T] }) {A : Option Addr} {n c : Nat} (hx : a.eval x = .slice A n c) : (execOp a.eval o).run Tryz.prog w = .ok (.value (.int .i64 (n : Int))) w := y_lnG T hu x ho hx rfl
theorem y_ixP7 {a : Act} {w : World} {o : Oper} {A : Option Addr} {c : Nat} {L : List (List UInt8)} (y k : Operand) (ho : o.op = .indexAddr 54 y k) (hx : a.eval y = .slice A L.length c) (hB : IsP w L (.slice A L.length c)) {z : Int} {i : Nat} (hk : a.eval k = .int .i64 z) (hz : z = (i : Int)) (hi : i < L.length) : (execOp a.eval o).run Tryz.prog w = .ok (.value (ixV (.slice A L.length c) i)) w := by
 subst hz
 obtain ⟨A', c', e, h1, h2, h3⟩ := hB
 injection e with e1 e2 e3
 subst e1 e3
 obtain ⟨b, q, rfl, hb, hc⟩ := h3 (by omega)
 unfold execOp
 simp only [ho, hx, hk]
 have h0 : ¬ ((i : Int) < 0) := by omega
 have h5 : (i : Int) < (L.length : Int) := by omega
 simp [go_sem, h0, h5, hi, ixV, zua]
theorem part_ld7 {w : World} {A : Option Addr} {c : Nat} {L : List (List UInt8)} {l : List UInt8} (hB : IsP w L (.slice A L.length c)) {i : Nat} (hl : L[i]? = some l) :
  ∃ B d, IsB w l (.slice B l.length d) ∧ ∀ (a : Act) (o : Oper) (y : Operand), o.op = .load 22 y → a.eval y = ixV (.slice A L.length c) i → (execOp a.eval o).run Tryz.prog w = .ok (.value (.slice B l.length d)) w := by
 obtain ⟨A', c', e, h1, h2, h3⟩ := hB
 injection e with e1 e2 e3
 subst e1 e3
 have hi : i < L.length := (List.getElem?_eq_some_iff.1 hl).1
 obtain ⟨b, q, rfl, hb, hc⟩ := h3 (by omega)
 obtain ⟨B, d, hcell, q2, q3, q4, q5⟩ := hc i l hl
 refine ⟨B, d, ⟨B, d, rfl, q2, q3, q4, q5⟩, fun a o y ho hx => ?_⟩
 have hx' : a.eval y = .pointer (some ⟨b, q + i, none⟩) := by rw [hx]; simp [ixV, zua]
 have h6 : (isAgg 22).run Tryz.prog w = .ok false w := by
  unfold isAgg
  simp only [Sem.run_bind, run_underlying Tryz.underlying22, Result.andThen_ok]
  rfl
 unfold execOp
 simp only [ho, hx', Instr.loadAt, Instr.sureAddr, loadVar, Sem.run_bind, Sem.run_pure, Result.andThen_ok, h6, Bool.false_eq_true, if_false]
 simp [hcell, Result.andThen]
def shortB (L : List (List UInt8)) : Bool := L.all fun l => decide (l.length ≤ 64)
theorem short_any (L : List (List UInt8)) (u : Value) (w : World) (hu : IsP w L u) :
  Calls Tryz.prog 10 #[u] w fun e w' => e = .returned (.bool (shortB L)) ∧ Below w.heap.size w w' := by
 obtain ⟨A0, c0, rfl, hc1, hc2, hP⟩ := id hu
 have hLm : L.length ≤ 9223372036854775807 := by
  have := hc2
  unfold maxLen at this
  omega
 refine zra (args := [.slice A0 L.length c0]) 16 Tryz.func10 rfl rfl rfl ?_
 intro fa F
 have M := Mx.start w
 refine zSk fun _ hK1 => ?_
 refine zR ?_
 refine rm rfl F fun _ F2 => ?_
 refine hK1 _ _ ?_
 refine zSk fun _ hK3 => ?_
 refine zSk fun _ hK4 => ?_
 refine zR ?_
 refine rm rfl F2 fun _ F5 => ?_
 refine hK4 _ _ ?_
 refine wp_block ?_
 refine loop_fx (α := Nat) (n := 16) (G := none) (w0 := w) (fun x => [(0, .slice A0 L.length c0), (3, .int .i64 (x : Int))]) (fun x => []) (fun k x => k = (L.length - x) ∧ (x ≤ L.length ∧ ∀ (j : Nat) (l : List UInt8), j < x → L[j]? = some l → l.length ≤ 64)) _ 0 ⟨rfl, ⟨Nat.zero_le _, fun j l h => absurd h (Nat.not_lt_zero j)⟩⟩ (F5.sub ⟨rfl, rfl, trivial⟩) (M.sub trivial) ?_
 clear F5 M
 rintro k6 jn a6 w6 K6 ⟨ek6, I6⟩ F6 M6 hK6
 replace F6 : Fx 16 a6 [(0, .slice A0 L.length c0), (3, .int .i64 (jn : Int))] := F6
 replace M6 : Mx _ _ w6 [] := M6
 replace I6 : jn ≤ L.length ∧ ∀ (j : Nat) (l : List UInt8), j < jn → L[j]? = some l → l.length ≤ 64 := I6
 replace ek6 : k6 = (L.length - jn) := ek6
 obtain ⟨hj, hk2⟩ := I6
 refine zSk fun _ hK7 => ?_
 refine zSk fun _ hK8 => ?_
 refine zR ?_
 refine rm rfl F6 fun _ F9 => ?_
 refine rm rfl F9 fun _ F10 => ?_
 refine zh (w' := w6) (zc rfl) rfl F10 rfl (.int .i64 (L.length : Int)) (run_lenT7 54 Tryz.underlying54 _ rfl (F10.get (t := 5) rfl)) fun _ F11 => ?_
 clear F10
 by_cases h12 : (jn : Int) < (L.length : Int)
 ·have hlt : jn < L.length := by omega
  obtain ⟨l1, hl1⟩ : ∃ l, L[jn]? = some l := ⟨_, List.getElem?_eq_getElem hlt⟩
  obtain ⟨B1, d1, hB1, hld⟩ := part_ld7 (hu.step M6.below) hl1
  refine zh (w' := w6) (zc rfl) rfl F11 rfl (.bool true) (y_lss _ _ _ _ rfl (F11.get (t := 4) rfl) (F11.get (t := 6) rfl) (decide_eq_true h12)) fun _ F13 => ?_
  clear F11
  refine hK8 _ _ ?_
  refine wp_cond_true (F13.get (t := 7) rfl) ?_
  refine wp_skip ?_
  refine hK7 _ _ ?_
  refine zSk fun _ hK14 => ?_
  refine wp_block ?_
  refine zSk fun _ hK15 => ?_
  refine zR ?_
  refine rm rfl F13 fun _ F16 => ?_
  refine rm rfl F16 fun _ F17 => ?_
  refine zh (w' := w6) (zc rfl) rfl F17 rfl (ixV (.slice A0 L.length c0) jn) (y_ixP7 _ _ rfl (F17.get (t := 10) rfl) (hu.step M6.below) (F17.get (t := 11) rfl) rfl hlt) fun _ F18 => ?_
  clear F17
  refine zh (w' := w6) (zc rfl) rfl F18 rfl (.slice B1 l1.length d1) (hld _ _ _ rfl (F18.get (t := 12) rfl)) fun _ F19 => ?_
  clear F18
  refine zh (w' := w6) (zc rfl) rfl F19 rfl (.int .i64 (l1.length : Int)) (y_len _ rfl (F19.get (t := 13) rfl) hB1 rfl) fun _ F20 => ?_
  clear F19
  by_cases h21 : 64 < (l1.length : Int)
  ·have hno : shortB L = false := by
    cases e : shortB L with
    | false => rfl
    | true =>
     have := of_decide_eq_true (List.all_eq_true.1 e l1 (List.mem_of_getElem? hl1))
     omega
   refine zh (w' := w6) (zc rfl) rfl F20 rfl (.bool true) (y_gtr _ _ _ _ rfl (F20.get (t := 14) rfl) rfl (decide_eq_true h21)) fun _ F22 => ?_
   clear F20
   refine hK15 _ _ ?_
   refine wp_cond_true (F22.get (t := 15) rfl) ?_
   refine zSk fun _ hK23 => ?_
   refine zR ?_
   refine rm rfl F22 fun _ F24 => ?_
   refine hK23 _ _ ?_
   refine wp_ret ?_
   try simp only [Exit.then, Exit.inBlock, Exit.jump]
   exact bodyPost_ret (res1 rfl (F24.get rfl)) F24.defers ⟨by rw [hno], M6.below⟩
  ·have hl64 : l1.length ≤ 64 := by omega
   refine zh (w' := w6) (zc rfl) rfl F20 rfl (.bool false) (y_gtr _ _ _ _ rfl (F20.get (t := 14) rfl) rfl (decide_eq_false h21)) fun _ F25 => ?_
   clear F20
   refine hK15 _ _ ?_
   refine wp_cond_false (F25.get (t := 15) rfl) ?_
   refine wp_skip ?_
   refine hK14 _ _ ?_
   refine zR ?_
   refine rm rfl F25 fun _ F26 => ?_
   refine zh (w' := w6) (zc rfl) rfl F26 rfl (.int .i64 ((jn + 1 : Nat) : Int)) (y_addI _ _ _ _ rfl (F26.get (t := 8) rfl) rfl (by omega) (by omega)) fun _ F27 => ?_
   clear F26
   refine rm rfl F27 fun _ F28 => ?_
   subst ek6
   exact hK6 _ (jn + 1) _ _ (by omega) ⟨rfl, ⟨by omega, fun j l hj2 hl => by
     by_cases e : j = jn
     ·subst e; rw [hl1] at hl; rw [← Option.some.inj hl]; exact hl64
     ·exact hk2 j l (by omega) hl⟩⟩ (F28.sub ⟨rfl, rfl, trivial⟩) (M6.sub trivial)
 ·have hall : shortB L = true := List.all_eq_true.2 fun l hl => by
   obtain ⟨j, hj, e⟩ := List.getElem_of_mem hl
   exact decide_eq_true (hk2 j l (by omega) (by rw [List.getElem?_eq_getElem hj, e]))
  refine zh (w' := w6) (zc rfl) rfl F11 rfl (.bool false) (y_lss _ _ _ _ rfl (F11.get (t := 4) rfl) (F11.get (t := 6) rfl) (decide_eq_false h12)) fun _ F29 => ?_
  clear F11
  refine hK8 _ _ ?_
  refine wp_cond_false (F29.get (t := 7) rfl) ?_
  refine wp_exit ?_
  simp only [Exit.then, Exit.inBlock, ↓reduceIte, Nat.reduceEqDiff]
  refine hK3 _ _ ?_
  refine zSk fun _ hK30 => ?_
  refine zR ?_
  refine rm rfl F29 fun _ F31 => ?_
  refine hK30 _ _ ?_
  refine wp_ret ?_
  try simp only [Exit.then, Exit.inBlock, Exit.jump]
  exact bodyPost_ret (res1 rfl (F31.get rfl)) F31.defers ⟨by rw [hall], M6.below⟩
end Go.Proofs.YtcfepoopkfhojaaGreat
namespace Go.Proofs.YtcfepoopkfhojaaGreat
open Go.ChangeShapes Go.WideShapes Go.ChangeAt Go.RowKit Go.Shelf
theorem short_mem {L : List (List UInt8)} {l : List UInt8} (h : shortB L = true) (hl : l ∈ L) : l.length ≤ 64 := of_decide_eq_true (List.all_eq_true.1 h l hl)
end Go.Proofs.YtcfepoopkfhojaaGreat
namespace Go.Proofs.YtcfepoopkfhojaaGreat
def kX : Nat := secN 16301 [117] [112] [115]
def kV : Nat := 4 ^ kX % 32603
def kA : Nat := texN 16301 [97] [[49]]
def kB : Nat := texN 16301 [98] [[50]]
def kAA : Nat := 4 ^ kA % 32603
end Go.Proofs.YtcfepoopkfhojaaGreat
namespace Go.Proofs.YtcfepoopkfhojaaGreat
open Go.ChangeShapes Go.WideShapes Go.ChangeAt Go.RowKit
theorem kn_off : offOk 32603 16301 4 kV kAA kB = true := by decide +kernel
def kC : SideN := ⟨15, 32603, 16301, 4, { data := #[117] }, [112], kAA, 0, kA, [], 0, fun _ => 0, fun _ => 0⟩
theorem kn_prv : prvOk kC [115] (offB 32603 16301 4 kV kB) = true := by decide +kernel
theorem kn_num : offN 32603 16301 4 kV kAA kB = prvN kC [115] (offB 32603 16301 4 kV kB) := by decide +kernel
noncomputable def kS : SideN := zkb (offS 15 32603 16301 4 { data := #[117] } [115] kV kAA kB) (offN 32603 16301 4 kV kAA kB)
noncomputable def kD : SideN := zkb (prvS kC [115] (offB 32603 16301 4 kV kB)) (prvN kC [115] (offB 32603 16301 4 kV kB))
theorem kn_Ky : kD.Ky = kS.Ky := by
 unfold kD kS zkb
 rw [kn_num]
theorem kn_Pr : kD.Pr = kS.Pr := by
 unfold kD kS zkb
 rw [kn_num]; rfl
theorem kn_ok : SideOk kS ∧ SideOk kD := ⟨⟨zdc _, zdc _⟩, ⟨zdc _, zdc _⟩⟩
theorem make_kp {K p : Nat} (g0 : 12 ≤ K) (g1 : K ≤ 24) (p4 : 4 ≤ p) (po : p % 2 = 1) (pl : p < 2 ^ K) (ps : safeB (p : Int) = true) (pn : ∀ x : Int, (p : Int) < x → x < 2 ^ K → safeB x = false) : RunsTo 31 #[.int .i64 (K : Int)] (.tuple #[.agg (zg (K : Int) p (p / 2) 4), .bool true]) := fun w => by
 have hl : 2 ^ K ≤ 2 ^ 24 := Nat.pow_le_pow_right (by decide) (by omega)
 have hp : p < 16777216 := Nat.lt_of_lt_of_le pl hl
 have e : ((2 : Int) ^ K) = ((2 ^ K : Nat) : Int) := by simp
 have hq : ((p / 2 : Nat) : Int) = (p : Int) / 2 := by omega
 refine (rgmake_any (K : Int) (p : Int) (by omega) (by omega) (fun _ => ⟨by omega, by omega, by rw [Int.toNat_natCast, e]; exact_mod_cast pl, ps, by rw [Int.toNat_natCast]; exact pn⟩) w).mono ?_
 rintro e' w' ⟨V, rfl, hV, hb⟩
 rcases hV with ⟨-, hV⟩ | ⟨hn, -⟩
 ·exact ⟨by rw [hV, Int.toNat_natCast, ← hq, Int.toNat_natCast], hb⟩
 ·omega
theorem make15 : RunsTo 31 #[.int .i64 15] (.tuple #[.agg (zg 15 32603 16301 4), .bool true]) := by
 obtain ⟨ps, pn⟩ := tab_of (k := 15) (p := 32603) (D := 180) (E := 127) (by decide) (by decide) (by decide) (by decide) (by decide) tab15
 exact make_kp (K := 15) (p := 32603) (by decide) (by decide) (by decide) (by decide) (by decide) ps pn
theorem group_of {n : Int} {t : Nat} {k : Int} {p : Nat} (ht : t < 9) (kw : ∀ w, Calls Tryz.prog 32 #[.int .i64 n, .int .i64 9] w fun e w' => e = .returned (.int .i64 (t : Int)) ∧ w = w')
  (hk : (#[.int .i64 12, .int .i64 13, .int .i64 14, .int .i64 15, .int .i64 16, .int .i64 17, .int .i64 18, .int .i64 20, .int .i64 24] : Array Value)[t]? = some (.int .i64 k)) (hr : RunsTo 31 #[.int .i64 k] (.tuple #[.agg (zg k p (p / 2) 4), .bool true])) (w : World) :
  Calls Tryz.prog 11 #[.int .i64 n] w fun e w' => e = .returned (.agg (zg k p (p / 2) 4)) ∧ Below w.heap.size w w' := by
 refine zra (args := [.int .i64 n]) 15 Tryz.func11 rfl rfl rfl ?_
 intro fa F
 have M := Mx.start w
 refine zSk fun _ hK1 => ?_
 refine zR ?_
 refine zo (zc rfl) rfl F rfl M 0 (t := 29) (c := zg 0 0 0 0) (by unfold execOp; rw [z1b]; kernel_rfl) ?_
 intro g2 a2 w2 F2 M2
 clear F M
 refine hK1 _ _ ?_
 refine zSk fun _ hK3 => ?_
 refine zR ?_
 refine z3b (zc rfl) rfl F2 rfl M2 1 (t := 3) (c := #[.int .i64 12, .int .i64 13, .int .i64 14, .int .i64 15, .int .i64 16, .int .i64 17, .int .i64 18, .int .i64 20, .int .i64 24]) (k := 9) (m := 9) (y_litI rfl #[.int .i64 12, .int .i64 13, .int .i64 14, .int .i64 15, .int .i64 16, .int .i64 17, .int .i64 18, .int .i64 20, .int .i64 24] rfl (by decide) (by decide) (by simp only [List.map_toArray, List.map_cons, List.map_nil]; kernel_rfl)) ?_
 intro g4 a4 w4 F4 M4
 clear F2 M2
 refine zh (w' := w4) (zc rfl) rfl F4 rfl (.int .i64 n) (zia _ (.inl rfl) (F4.get (t := 0) rfl)) fun _ F5 => ?_
 clear F4
 refine zea (zc rfl) rfl F5 rfl rfl (zE Tryz.func32 rfl) #[.int .i64 n, .int .i64 9] (z7b (F5.get (t := 7) rfl) rfl) (zha (kw w4)) ?_
 rintro _ w6 a6 ⟨rfl, rfl⟩ F6
 refine zh (w' := w4) (zc rfl) rfl F6 rfl (.pointer (some ⟨g4, t, none⟩)) (y_ixI _ _ rfl (F6.get (t := 6) rfl) (F6.get (t := 8) rfl) rfl ht (Nat.zero_add t)) fun _ F7 => ?_
 clear F6
 refine zh (w' := w4) (zc rfl) rfl F7 rfl (.int .i64 k) (y_ld1 _ _ rfl (F7.get (t := 9) rfl) (M4.blk (k := 1) rfl) hk Tryz.underlying3 rfl) fun _ F8 => ?_
 clear F7
 refine zea (zc rfl) rfl F8 rfl rfl (zE Tryz.func31 rfl) #[.int .i64 k] (z2a (F8.get (t := 10) rfl)) (zha (hr w4)) ?_
 rintro _ w9 a9 ⟨rfl, b9⟩ F9
 have M9 := M4.step b9
 refine zh (w' := w9) (zc rfl) rfl F9 rfl (.tuple #[.agg (zg k p (p / 2) 4), .bool true]) (zia _ (.inl rfl) (F9.get (t := 11) rfl)) fun _ F10 => ?_
 clear F9
 refine zh (w' := w9) (zc rfl) rfl F10 rfl (.agg (zg k p (p / 2) 4)) (y_ext _ _ rfl (F10.get (t := 5) rfl) rfl) fun _ F11 => ?_
 clear F10
 refine zh (w' := w9) (zc rfl) rfl F11 rfl (.bool true) (y_ext _ _ rfl (F11.get (t := 5) rfl) rfl) fun _ F12 => ?_
 clear F11
 refine zo (zc rfl) rfl F12 rfl M9 2 (t := 29) (c := zg 0 0 0 0) (by unfold execOp; rw [z1b]; kernel_rfl) ?_
 intro g13 a13 w13 F13 M13
 clear F12 M9
 refine zka (zc rfl) rfl F13 M13 (k := 2) rfl _ _ _ rfl (F13.get (t := 3) rfl) (F13.get (t := 12) rfl) (zg k p (p / 2) 4) _ rfl (zL rfl) (z8b _ _ _ _) (zx rfl) (by kernel_rfl) ?_
 intro w14 M14
 clear M13
 refine zh (w' := w14) (zc rfl) rfl F13 rfl (.bool true) (zia _ (.inr rfl) (F13.get (t := 13) rfl)) fun _ F15 => ?_
 clear F13
 refine hK3 _ _ ?_
 refine zSk fun _ hK16 => ?_
 refine zR ?_
 refine zh (w' := w14) (zc rfl) rfl F15 rfl _ (zga _ _ rfl (F15.get (t := 3) rfl) (M14.blk (k := 2) rfl) (zg k p (p / 2) 4) (zta rfl) Tryz.underlying29 rfl (by kernel_rfl)) fun _ F17 => ?_
 clear F15
 refine zka (zc rfl) rfl F17 M14 (k := 0) rfl _ _ _ rfl (F17.get (t := 2) rfl) (F17.get (t := 14) rfl) (zg k p (p / 2) 4) _ rfl (zL rfl) (z8b _ _ _ _) (zx rfl) (by kernel_rfl) ?_
 intro w18 M18
 clear M14
 refine hK16 _ _ ?_
 refine wp_ret ?_
 try simp only [Exit.then, Exit.inBlock]
 exact bodyPost_ret (results_cell_row rfl _ _ _ _ _ (0, 0) _ (F17.get rfl) (M18.blk (k := 0) rfl) Tryz.underlying29 rfl (by kernel_rfl)) F17.defers ⟨rfl, M18.below⟩
theorem group_3 (w : World) : Calls Tryz.prog 11 #[.int .i64 3] w fun e w' => e = .returned (.agg (zg 15 32603 16301 4)) ∧ Below w.heap.size w w' :=
 group_of (n := 3) (t := 3) (k := 15) (p := 32603) (by decide) (fun w => gwithin_any 3 9 (by decide) (by decide) (by decide) (by decide) w) rfl make15 w
end Go.Proofs.YtcfepoopkfhojaaGreat
