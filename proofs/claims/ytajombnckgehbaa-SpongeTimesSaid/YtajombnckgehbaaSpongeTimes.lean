/- sentinellaw3.SpongeTimes: the walk. -/
import Derived.Test.YtajombnckgehbaaSStretch
import Derived.Test.YtajombnckgehbaaSRStretch
namespace Go.Proofs.Ytajombnckgehbaa
set_option linter.unusedVariables false
set_option linter.unusedSimpArgs false
open Go.ChangeShapes Go.WideShapes Go.ChangeAt Go.RowKit Go.Shelf
attribute [local go_sem] eq16_same
set_option maxRecDepth 100000 in
set_option maxHeartbeats 16000000 in
theorem SpongeTimes_walk (A0 : Option Addr) (n0 cap0 : Nat) (l0 : List UInt8) (hn0 : l0.length = n0) (hc0 : n0 ≤ cap0) (hm0 : cap0 ≤ maxLen) (hz0 : A0 = none → cap0 = 0)
    (A1 : Option Addr) (n1 cap1 : Nat) (l1 : List UInt8) (hn1 : l1.length = n1) (hc1 : n1 ≤ cap1) (hm1 : cap1 ≤ maxLen) (hz1 : A1 = none → cap1 = 0)
    (a2 : Int) (hk2 : -9223372036854775808 ≤ a2) (hl2 : a2 < 9223372036854775808) (w : World) (hr0 : Rd w A0 l0) (hr1 : Rd w A1 l1) :
    Calls Try.prog 13 #[.slice A0 n0 cap0, .slice A1 n1 cap1, .int .i64 a2] w fun e w' => e = .returned (.bool true) ∧ Below w.heap.size w w' := by
  go_enter Try.func13, Try.ntmps13
  go_wp2_with fail
  refine (known_any _).mono ?_
  rintro e w1 ⟨rfl, b1⟩
  have r0 := hr0.step b1
  have r1 := hr1.step b1
  by_cases g0 : 60 < n0
  · go_wp2
    go_ret
    exact ⟨rfl, b1⟩
  by_cases g1 : 60 < n1
  · go_wp2
    go_ret
    exact ⟨rfl, b1⟩
  obtain ⟨K, hK⟩ : ∃ K : Nat, a2 % 10 = (K : Int) := ⟨(a2 % 10).toNat, by omega⟩
  have hKn : K < 10 := by omega
  have hls : ∀ l ∈ [l1], l.length ≤ 2000 := fun l hl => by rw [List.mem_singleton.1 hl]; omega
  have hcs : (cat [l1]).length ≤ 5000 := by simp [cat, eightL_len]; omega
  go_wp2_with fail
  refine (within_any a2 10 (by omega) (by omega) hk2 hl2 _).mono ?_
  rintro e w2 ⟨rfl, rfl⟩
  rw [hK]
  clear hK
  obtain ⟨y0, hy0⟩ : ∃ y, Hid (y = strA l0 l1 K) := ⟨_, hid rfl⟩
  obtain ⟨y1, hy1⟩ : ∃ y, Hid (y = strA l0 l1 (K + 1)) := ⟨_, hid rfl⟩
  go_wp2_with fail
  refine (stretch_any A0 l0 n0 cap0 hn0 hc0 hm0 hz0 A1 l1 n1 cap1 hn1 hc1 hm1 hz1 _ (by omega) (by omega) K (by omega) _ r0 r1).mono ?_
  rintro e w3 ⟨rfl, b3⟩
  rw [← hy0.out]
  have r03 := r0.step b3
  have r13 := r1.step b3
  have B3 := step_trans b1 b3
  clear r0 r1 b3 b1
  go_wp2_with fail
  refine (stretch_any A0 l0 n0 cap0 hn0 hc0 hm0 hz0 A1 l1 n1 cap1 hn1 hc1 hm1 hz1 _ (by omega) (by omega) (K + 1) (by omega) _ r03 r13).mono ?_
  rintro e w4 ⟨rfl, b4⟩
  rw [← hy1.out]
  have r04 := r03.step b4
  have r14 := r13.step b4
  have B4 := step_trans B3 b4
  clear r03 r13 b4 B3
  have z8 := Blk.new w4 35 #[Value.int .u8 0, .int .u8 0, .int .u8 0, .int .u8 0, .int .u8 0, .int .u8 0, .int .u8 0, .int .u8 0, .int .u8 0, .int .u8 0, .int .u8 0, .int .u8 0, .int .u8 0, .int .u8 0, .int .u8 0, .int .u8 0]
  have z9 := Blk.new (w4.alloc (.cells #[Value.int .u8 0, .int .u8 0, .int .u8 0, .int .u8 0, .int .u8 0, .int .u8 0, .int .u8 0, .int .u8 0, .int .u8 0, .int .u8 0, .int .u8 0, .int .u8 0, .int .u8 0, .int .u8 0, .int .u8 0, .int .u8 0] 35)) 35 #[Value.int .u8 0, .int .u8 0, .int .u8 0, .int .u8 0, .int .u8 0, .int .u8 0, .int .u8 0, .int .u8 0, .int .u8 0, .int .u8 0, .int .u8 0, .int .u8 0, .int .u8 0, .int .u8 0, .int .u8 0, .int .u8 0]
  rw [World.size_alloc] at z9
  have z8' := z8.alloc (.cells #[Value.int .u8 0, .int .u8 0, .int .u8 0, .int .u8 0, .int .u8 0, .int .u8 0, .int .u8 0, .int .u8 0, .int .u8 0, .int .u8 0, .int .u8 0, .int .u8 0, .int .u8 0, .int .u8 0, .int .u8 0, .int .u8 0] 35)
  have a4 := step_trans (step_alloc w4 (.cells #[Value.int .u8 0, .int .u8 0, .int .u8 0, .int .u8 0, .int .u8 0, .int .u8 0, .int .u8 0, .int .u8 0, .int .u8 0, .int .u8 0, .int .u8 0, .int .u8 0, .int .u8 0, .int .u8 0, .int .u8 0, .int .u8 0] 35)) (step_alloc _ (.cells #[Value.int .u8 0, .int .u8 0, .int .u8 0, .int .u8 0, .int .u8 0, .int .u8 0, .int .u8 0, .int .u8 0, .int .u8 0, .int .u8 0, .int .u8 0, .int .u8 0, .int .u8 0, .int .u8 0, .int .u8 0, .int .u8 0] 35))
  have ez : (((w4.alloc (.cells #[Value.int .u8 0, .int .u8 0, .int .u8 0, .int .u8 0, .int .u8 0, .int .u8 0, .int .u8 0, .int .u8 0, .int .u8 0, .int .u8 0, .int .u8 0, .int .u8 0, .int .u8 0, .int .u8 0, .int .u8 0, .int .u8 0] 35)).alloc (.cells #[Value.int .u8 0, .int .u8 0, .int .u8 0, .int .u8 0, .int .u8 0, .int .u8 0, .int .u8 0, .int .u8 0, .int .u8 0, .int .u8 0, .int .u8 0, .int .u8 0, .int .u8 0, .int .u8 0, .int .u8 0, .int .u8 0] 35))).heap.size = w4.heap.size + 2 := by simp
  clear z8
  go_wp2_with (first | (refine wpList_store_blk rfl _ (.tmp 8) _ rfl _ rfl _ rfl (arr16_one _) _ z8' rfl size35 ?_; intro w5 g5 c5; have z95 := z9.grown g5 (ne_some (by omega)); have q5 := g5.size) | (refine wpList_store_blk rfl _ (.tmp 9) _ rfl _ rfl _ rfl (arr16_one _) _ z95 rfl size35 ?_; intro w6 g6 c6; have c56 := c5.grown g6 (ne_some (by omega))))
  have B6 : Below w4.heap.size w4 w6 := below_of_grown (below_of_grown a4 g5 (by omega) (Nat.le_refl _)) g6 (by omega) (by omega)
  have D6 := step_trans B4 B6
  have r06 := r04.step B6
  have r16 := r14.step B6
  obtain ⟨V, hV⟩ : ∃ V, V = w4.heap.size := ⟨_, rfl⟩
  obtain ⟨X, hX⟩ : ∃ X, X = w4.heap.size + 1 := ⟨_, rfl⟩
  have hVX : V ≠ X := by omega
  rw [← hX] at c6 ⊢
  rw [← hV] at c56 ⊢
  have hVw : w.heap.size ≤ V := by rw [hV]; exact B4.size
  have hXw : w.heap.size ≤ X := by omega
  clear g5 g6 z9 z8' a4 ez z95 q5 c5 r04 r14 B6 B4 hV hX
  have P6 := prd_one hn1 hc1 hm1 hz1 r16
  have a6 := step_alloc w6 (.cells #[.slice A1 n1 cap1] 29)
  have r06a := r06.step a6
  refine (rmac_any A0 l0 n0 cap0 hn0 hz0 (by omega) _ [l1] 1 1 rfl (Nat.le_refl _) (by omega) hls hcs _ r06a P6).mono ?_
  rintro e w7 ⟨rfl, b7⟩
  have B7 := step_trans a6 b7
  have r07 := r06.step B7
  have r17 := r16.step B7
  have c57 := c56.step B7
  have c67 := c6.step B7
  have D7 := step_trans D6 B7
  have z7 := Blk.new w7 35 #[Value.int .u8 0, .int .u8 0, .int .u8 0, .int .u8 0, .int .u8 0, .int .u8 0, .int .u8 0, .int .u8 0, .int .u8 0, .int .u8 0, .int .u8 0, .int .u8 0, .int .u8 0, .int .u8 0, .int .u8 0, .int .u8 0]
  have HU0 := hid (show macW l0 [l1] = strU l0 l1 0 from rfl)
  rw [HU0.out]
  clear P6 a6 r06a b7 B7 r06 r16 c56 c6 D6 HU0
  go_wp2_with (refine wpList_store_blk rfl _ (.tmp 10) _ rfl _ rfl _ rfl (arr16_one _) _ z7 rfl size35 ?_; intro w8 g8 c8; have b8 := step_new g8)
  have c58 := c57.step b8
  have c68 := c67.step b8
  have D8 := step_trans D7 b8
  have r08 := r07.step b8
  have r18 := r17.step b8
  have hV8 := c58.lt
  have hX8 := c68.lt
  obtain ⟨U, hU⟩ : ∃ U, U = w7.heap.size := ⟨_, rfl⟩
  have hUV : V ≠ U := by have := c57.lt; omega
  have hUX : X ≠ U := by have := c67.lt; omega
  rw [← hU] at c8 ⊢
  have hUw : w.heap.size ≤ U := by rw [hU]; exact D7.size
  clear z7 g8 b8 c57 c67 D7 r07 r17 hU
  go_loopw [11] (fun i wr => ∃ k : Nat, k ≤ K + 1 ∧ i = .int .i64 (k : Int) ∧ Blk wr U 35 (arr16 (outF (strU l0 l1 k))) ∧ Blk wr V 35 (arr16 y0) ∧ Blk wr X 35 (arr16 y1) ∧ Below w.heap.size w wr) (fun i _ => 20 - (intOf i).toNat)
  case atStart => exact ⟨0, by omega, rfl, c8, c58, c68, D8⟩
  case round =>
    obtain ⟨k, hk, rfl, cu, cv, cx, hB⟩ := hrel
    clear c8 c58 c68 r08 r18
    have hz := hB.size
    by_cases hlt : k < K + 1
    · have hlt' : (k : Int) < 1 + (K : Int) := by omega
      have hob := hid (outF_bd (strU l0 l1 k))
      have HU := hid (show strU l0 l1 (k + 1) = macW l0 [sumL (strU l0 l1 k)] from rfl)
      obtain ⟨u, hu⟩ : ∃ u, Hid (u = strU l0 l1 k) := ⟨_, hid rfl⟩
      obtain ⟨u2, hu2⟩ : ∃ u2, Hid (u2 = strU l0 l1 (k + 1)) := ⟨_, hid rfl⟩
      rw [← hu.out] at cu hob HU
      rw [← hu2.out] at HU
      have Rr : Rd wr A0 l0 := hr0.below hB (Nat.le_refl _)
      go_wp2_with (refine wpList_load_blk rfl _ (.tmp 10) rfl _ rfl _ _ _ cu Try.underlying35 rfl size35 ?_)
      refine (rbytes_any (outF u) hob.out _).mono ?_
      rintro e wa ⟨va, rfl, ha, ba⟩
      obtain ⟨Aa, ca, rfl, qa1, qa2, Ra, _⟩ := ha.slice
      have nna := ha.none0
      rw [sumY_len] at qa1 ⊢
      have P1 := prd_one (sumL_len u) qa1 qa2 nna Ra
      have a1 := step_trans ba (step_alloc wa (.cells #[.slice Aa 16 ca] 29))
      have Rb := Rr.step a1
      have hlu : ∀ l ∈ [sumL u], l.length ≤ 2000 := fun l hl => by rw [List.mem_singleton.1 hl, sumL_len]; omega
      have hcu : (cat [sumL u]).length ≤ 5000 := by simp [cat, eightL_len, sumL_len]
      clear ha Ra
      go_wp2_with fail
      refine (rmac_any A0 l0 n0 cap0 hn0 hz0 (by omega) _ [sumL u] 1 1 rfl (Nat.le_refl _) (by omega) hlu hcu _ Rb P1).mono ?_
      rintro e wb ⟨rfl, bb⟩
      rw [← HU.out]
      have Bb := step_trans a1 bb
      have cub := cu.step Bb
      have cvb := cv.step Bb
      have cxb := cx.step Bb
      have zb := Bb.size
      clear a1 P1 Rb bb ba
      go_wp2_with (refine wpList_store_blk rfl _ (.tmp 10) _ rfl _ rfl _ rfl (arr16_one _) _ cub rfl size35 ?_; intro wc gc cuc)
      have cvc := cvb.grown gc (fun e => hUV (Option.some.inj e))
      have cxc := cxb.grown gc (fun e => hUX (Option.some.inj e))
      have Bc : Below w.heap.size w wc := below_of_grown (hB.trans (Bb.mono hz)) gc (by omega) hUw
      rw [hu2.out] at cuc
      clear cub cvb cxb gc cu cv cx
      go_roundw
      case rel => exact ⟨k + 1, by omega, by go_num, cuc, cvc, cxc, Bc⟩
      case measure => simp [intOf]; omega
    · obtain rfl : k = K + 1 := by omega
      have HA := hid (show arr16 (strA l0 l1 (K + 1)) = arr16 (fun j => xorB (strA l0 l1 K j) (outF (strU l0 l1 (K + 1)) j)) from rfl)
      rw [← hy0.out, ← hy1.out] at HA
      obtain ⟨u, hu⟩ : ∃ u, Hid (u = strU l0 l1 (K + 1)) := ⟨_, hid rfl⟩
      rw [← hu.out] at cu HA
      rw [midA_zero y0 (outF u)] at cv
      have hno : ¬ (((K + 1 : Nat)) : Int) < 1 + (K : Int) := by omega
      go_wp2
      clear D8 hno
      go_loopw [12] (fun i wr => ∃ j : Nat, j ≤ 16 ∧ i = .int .i64 (j : Int) ∧ Blk wr U 35 (arr16 (outF u)) ∧ Blk wr V 35 (arr16 (midA y0 (outF u) j)) ∧ Blk wr X 35 (arr16 y1) ∧ Below w.heap.size w wr) (fun i _ => 16 - (intOf i).toNat)
      case atStart => exact ⟨0, by omega, rfl, cu, cv, cx, hB⟩
      case round =>
        clear cu cv cx hB
        obtain ⟨j, hj, rfl, cu, cv, cx, hB⟩ := hrel
        have hz2 := hB.size
        by_cases hj6 : j < 16
        · have h1 := cu.cell (arr16_at' (outF u) hj6)
          have h2 := cv.cell (arr16_at' (midA y0 (outF u) j) hj6)
          rw [show midA y0 (outF u) j j = y0 j by unfold midA; rw [if_neg (by omega)]] at h2
          have h3 := Blk.frozen cv j
          have hset := hid (midA_set y0 (outF u) hj6)
          have hxb := xorB_bd (y0 j) (outF u j)
          unfold xorB at hset hxb
          generalize y0 j = X0 at *
          generalize outF u j = Y0 at *
          go_wp2
          go_still_tail 9, (by kernel_rfl)
          change wpList _ _ _ _ _ (World.drew _)
          go_wp2
          go_roundw
          case rel => exact ⟨j + 1, by omega, by go_num, (cu.drew.far (a := ⟨V, j, none⟩) _ (by simpa using hUV.symm)), cv.drew.set j _ hset.out, (cx.drew.far (a := ⟨V, j, none⟩) _ (by simpa using hVX.symm)), hB.drew.setCell (p := ⟨V, j, none⟩) hVw _⟩
          case measure => simp [intOf]; omega
        · obtain rfl : j = 16 := by omega
          rw [midA_full, ← HA.out] at cv
          obtain ⟨F0, hF0⟩ : ∃ F, Hid (F = macW l0 [l1]) := ⟨_, hid rfl⟩
          have HS := hid (show strA l0 l1 0 = outF F0 by rw [hF0.out]; rfl)
          have Rr : Rd wr A0 l0 := hr0.below hB (Nat.le_refl _)
          have Rs : Rd wr A1 l1 := hr1.below hB (Nat.le_refl _)
          clear HA hu hy0 hy1 cu
          go_wp2_with (first | (refine wpList_load_blk rfl _ (.tmp 8) rfl _ rfl _ _ _ cv Try.underlying35 rfl size35 ?_) | (refine wpList_load_blk rfl _ (.tmp 9) rfl _ rfl _ _ _ cx Try.underlying35 rfl size35 ?_))
          refine (stretch_any A0 l0 n0 cap0 hn0 hc0 hm0 hz0 A1 l1 n1 cap1 hn1 hc1 hm1 hz1 1 (by omega) (by omega) 0 (by omega) _ Rr Rs).mono ?_
          rintro e wa ⟨rfl, ba⟩
          rw [HS.out]
          have Ra := Rr.step ba
          have Rt := Rs.step ba
          have Ba := hB.trans (ba.mono hz2)
          have P1 := prd_one hn1 hc1 hm1 hz1 Rt
          have aa := step_alloc wa (.cells #[.slice A1 n1 cap1] 29)
          have Rb := Ra.step aa
          clear cv cx Rr Rs ba
          go_wp2_with fail
          refine (mac_any A0 l0 n0 cap0 hn0 hc0 hm0 hz0 _ [l1] 1 1 rfl (Nat.le_refl _) (by unfold maxLen; omega) _ Rb P1).mono ?_
          rintro e wb ⟨rfl, bb⟩
          rw [← hF0.out]
          have Bb := step_trans aa bb
          have Rc := Ra.step Bb
          have Ru := Rt.step Bb
          have Bw := Ba.trans (Bb.mono Ba.size)
          clear Ra Rt Ba P1 aa Rb bb Bb
          go_wp2_with fail
          refine (stretch_any A0 l0 n0 cap0 hn0 hc0 hm0 hz0 A1 l1 n1 cap1 hn1 hc1 hm1 hz1 0 (by omega) (by omega) 0 (by omega) _ Rc Ru).mono ?_
          rintro e wc ⟨rfl, bc⟩
          rw [HS.out]
          have Rd' := Rc.step bc
          have Re := Ru.step bc
          have Bc := Bw.trans (bc.mono Bw.size)
          have P2 := prd_one hn1 hc1 hm1 hz1 Re
          have ad := step_alloc wc (.cells #[.slice A1 n1 cap1] 29)
          have Rf := Rd'.step ad
          clear Rc Ru Bw bc
          go_wp2_with fail
          refine (mac_any A0 l0 n0 cap0 hn0 hc0 hm0 hz0 _ [l1] 1 1 rfl (Nat.le_refl _) (by unfold maxLen; omega) _ Rf P2).mono ?_
          rintro e wd ⟨rfl, bd⟩
          rw [← hF0.out]
          have Bd := Bc.trans ((step_trans ad bd).mono Bc.size)
          clear Rd' Re Bc P2 ad Rf bd
          go_wp2
          go_ret
          exact ⟨rfl, Bd⟩
end Go.Proofs.Ytajombnckgehbaa
