/- sentinelref3: Bytes, Stretch, Stream; sponge.Stretch. -/
import Derived.Test.YtajombnckgehbaaSRBytes
namespace Go.Proofs.Ytajombnckgehbaa
set_option linter.unusedVariables false
set_option linter.unusedSimpArgs false
open Go.ChangeShapes Go.WideShapes Go.ChangeAt Go.RowKit Go.Shelf

set_option maxHeartbeats 8000000 in
set_option maxRecDepth 100000 in
theorem stretch_any (A : Option Addr) (pass : List UInt8) (n0 c0 : Nat) (hn0 : pass.length = n0) (hc0 : n0 ≤ c0) (hm0 : c0 ≤ maxLen) (hz0 : A = none → c0 = 0) (B : Option Addr) (salt : List UInt8) (n1 c1 : Nat) (hn1 : salt.length = n1) (hc1 : n1 ≤ c1) (hm1 : c1 ≤ maxLen) (hz1 : B = none → c1 = 0) (t : Int) (ht0 : -9223372036854775808 ≤ t) (ht1 : t < 9223372036854775808) (T : Nat) (hT : (T : Int) = max 1 (min t 1000) - 1) (w : World) (hR0 : Rd w A pass) (hR1 : Rd w B salt) :
    Calls Try.prog 29 #[.slice A n0 c0, .slice B n1 c1, .int .i64 t] w fun e w' => e = .returned (.agg (arr16 (strA pass salt T))) ∧ Below w.heap.size w w' := by
  have b0 := step_alloc w (.cells #[Value.int .u8 0, .int .u8 0, .int .u8 0, .int .u8 0, .int .u8 0, .int .u8 0, .int .u8 0, .int .u8 0, .int .u8 0, .int .u8 0, .int .u8 0, .int .u8 0, .int .u8 0, .int .u8 0, .int .u8 0, .int .u8 0] 35)
  have y0 := Blk.new w 35 #[Value.int .u8 0, .int .u8 0, .int .u8 0, .int .u8 0, .int .u8 0, .int .u8 0, .int .u8 0, .int .u8 0, .int .u8 0, .int .u8 0, .int .u8 0, .int .u8 0, .int .u8 0, .int .u8 0, .int .u8 0, .int .u8 0]
  have R0 := hR0.step b0
  have R1 := hR1.step b0
  have s0 : (w.alloc (.cells #[Value.int .u8 0, .int .u8 0, .int .u8 0, .int .u8 0, .int .u8 0, .int .u8 0, .int .u8 0, .int .u8 0, .int .u8 0, .int .u8 0, .int .u8 0, .int .u8 0, .int .u8 0, .int .u8 0, .int .u8 0, .int .u8 0] 35)).heap.size = w.heap.size + 1 := by simp
  have hT9 : T ≤ 999 := by omega
  go_enter Try.func29, Try.ntmps29
  go_wp2_with fail
  generalize World.alloc _ _ = W at *
  have P1 := prd_one hn1 hc1 hm1 hz1 R1
  rw [s0] at P1
  have a1 := step_alloc W (.cells #[.slice B n1 c1] 29)
  have R0a := R0.step a1
  have B1 := step_trans b0 a1
  have y1 := y0.step a1
  refine ((mac_any A pass n0 c0 hn0 hc0 hm0 hz0 _ [salt] 1 1 rfl (Nat.le_refl _) (by unfold maxLen; omega) _ R0a P1)).mono ?_
  rintro e w1 ⟨rfl, b1⟩
  have y2 := y1.step b1
  have R02 := R0a.step b1
  have B2 := step_trans B1 b1
  obtain ⟨F, hF⟩ : ∃ F, F = strU pass salt 0 := ⟨_, rfl⟩
  rw [show macW pass [salt] = F from hF.symm]
  have z1 := Blk.new w1 35 #[Value.int .u8 0, .int .u8 0, .int .u8 0, .int .u8 0, .int .u8 0, .int .u8 0, .int .u8 0, .int .u8 0, .int .u8 0, .int .u8 0, .int .u8 0, .int .u8 0, .int .u8 0, .int .u8 0, .int .u8 0, .int .u8 0]
  have a2 := step_alloc w1 (.cells #[Value.int .u8 0, .int .u8 0, .int .u8 0, .int .u8 0, .int .u8 0, .int .u8 0, .int .u8 0, .int .u8 0, .int .u8 0, .int .u8 0, .int .u8 0, .int .u8 0, .int .u8 0, .int .u8 0, .int .u8 0, .int .u8 0] 35)
  clear R1 R0 P1 a1 y0 y1 b1 b0 B1 R0a hR1
  have HF := hid hF
  clear hF
  go_wp2_with (first | (refine wpList_store_blk rfl _ (.tmp 7) _ rfl _ rfl _ rfl (arr16_one _) _ z1 rfl size35 ?_; intro w2 g2 c2; have b2 := step_new g2; have y3 := y2.step b2; have R03 := R02.step b2; have B3 := step_trans B2 b2; have z2 := Blk.new w2 35 #[Value.int .u8 0, .int .u8 0, .int .u8 0, .int .u8 0, .int .u8 0, .int .u8 0, .int .u8 0, .int .u8 0, .int .u8 0, .int .u8 0, .int .u8 0, .int .u8 0, .int .u8 0, .int .u8 0, .int .u8 0, .int .u8 0]; have hu : w1.heap.size < w2.heap.size := c2.lt) | (refine wpList_load_blk rfl _ (.tmp 7) rfl _ rfl _ _ _ c2 Try.underlying35 rfl size35 ?_) | (refine wpList_store_blk rfl _ (.tmp 8) _ rfl _ rfl _ rfl (arr16_one _) _ z2 rfl size35 ?_; intro w3 g3 c3; have b3 := step_new g3; have y4 := y3.step b3; have R04 := R03.step b3; have B4 := step_trans B3 b3; have c24 := c2.step b3))
  have hu3 : w1.heap.size < w3.heap.size := c24.lt
  have hv3 : w2.heap.size < w3.heap.size := c3.lt
  have hy4 := y4.lt
  obtain ⟨U, hU⟩ : ∃ U, U = w1.heap.size := ⟨_, rfl⟩
  obtain ⟨V, hV⟩ : ∃ V, V = w2.heap.size := ⟨_, rfl⟩
  rw [← hU] at c24 ⊢
  rw [← hV] at c3 ⊢
  rw [HF.out] at c24 c3
  have hUw : w.heap.size < U := by have := y2.lt; omega
  have hUV : U ≠ V := by omega
  have hwV : w.heap.size < V := by omega
  have hU3 : U < w3.heap.size := by omega
  have hV3 : V < w3.heap.size := by omega
  clear HF y2 R02 B2 z1 a2 g2 c2 b2 y3 R03 B3 z2 g3 b3 hu hu3 hv3 hU hV
  go_loopw [9] (fun i wr => ∃ k : Nat, k ≤ T ∧ i = .int .i64 ((k : Int) + 1) ∧ Blk wr U 35 (arr16 (outF (strU pass salt k))) ∧ Blk wr V 35 (arr16 (strA pass salt k)) ∧ Below (w.heap.size + 1) w3 wr) (fun i _ => 1001 - (intOf i).toNat)
  case atStart => exact ⟨0, by omega, rfl, c24, c3, Below.refl _ _⟩
  case round =>
    obtain ⟨k, hk, rfl, hu, hv, hB⟩ := hrel
    have hz := hB.size
    have hul := hu.lt
    have hvl := hv.lt
    have HU := hid (show strU pass salt (k + 1) = macW pass [sumL (strU pass salt k)] from rfl)
    have HA := hid (show arr16 (strA pass salt (k + 1)) = arr16 (fun j => xorB (strA pass salt k j) (outF (strU pass salt (k + 1)) j)) from rfl)
    have hab := hid (strA_bd pass salt k)
    have hob := hid (outF_bd (strU pass salt k))
    obtain ⟨a, ha⟩ : ∃ a, a = strA pass salt k := ⟨_, rfl⟩
    obtain ⟨u, hu'⟩ : ∃ u, u = strU pass salt k := ⟨_, rfl⟩
    obtain ⟨u2, hu2⟩ : ∃ u2, u2 = strU pass salt (k + 1) := ⟨_, rfl⟩
    rw [← ha, ← hu2] at HA
    rw [← ha] at hab hv
    rw [← hu'] at hob hu
    rw [← hu2, ← hu'] at HU
    have Ha := hid ha
    have Hu2 := hid hu2
    clear ha hu2 hu'
    by_cases hlt : k < T
    · have Rr : Rd wr A pass := hR0.below (B4.trans (hB.mono (by omega))) (Nat.le_refl _)
      have hd : (t ≤ 1000 ∧ (k : Int) + 1 < t) ∨ (1000 < t ∧ (k : Int) + 1 < 1000) := by omega
      rcases hd with ⟨d1, d2⟩ | ⟨d1, d2⟩
      all_goals
        have Ru := sum_rd hu
        have hsl := fun w' => slice_sum w' U
        have P1 := prd_one (sumL_len u) (Nat.le_refl 16) (by unfold maxLen; omega) (fun h => by cases h) Ru
        have a1 := step_alloc wr (.cells #[.slice (some ⟨U, 0, none⟩) 16 16] 29)
        have Ra := Rr.step a1
        go_wp2_with fail
        refine ((mac_any A pass n0 c0 hn0 hc0 hm0 hz0 _ [sumL u] 1 1 rfl (Nat.le_refl _) (by unfold maxLen; omega) _ Ra P1)).mono ?_
        rintro e w4 ⟨rfl, b4⟩
        rw [← HU.out]
        have B4 := step_trans a1 b4
        have hu4 := hu.step B4
        have hv4 := hv.step B4
        have hz4 := B4.size
        clear a1 P1 Ru hsl Ra b4
        go_wp2_with (refine wpList_store_blk rfl _ (.tmp 7) _ rfl _ rfl _ rfl (arr16_one _) _ hu4 rfl size35 ?_; intro w5 g5 c5)
        have v5 := hv4.grown g5 (fun e => by cases e; omega)
        have B5 : Below (w.heap.size + 1) w3 w5 := below_of_grown (hB.trans (B4.mono (by omega))) g5 (by omega) (by omega)
        rw [midA_zero a (outF u2)] at v5
        have hz5 := B5.size
        clear hu4 hv4 B4 g5 hu hv hB
        go_loopw [26] (fun i wr => ∃ j : Nat, j ≤ 16 ∧ i = .int .i64 (j : Int) ∧ Blk wr U 35 (arr16 (outF u2)) ∧ Blk wr V 35 (arr16 (midA a (outF u2) j)) ∧ Below (w.heap.size + 1) w3 wr) (fun i _ => 16 - (intOf i).toNat)
        case atStart => exact ⟨0, by omega, rfl, c5, v5, B5⟩
        case round =>
          rename_i wr2 _ _
          obtain ⟨j, hj, rfl, cu, cv, hB2⟩ := hrel
          have hzz := hB2.size
          by_cases hj6 : j < 16
          · have h1 := cu.cell (arr16_at' (outF u2) hj6)
            have h2 := cv.cell (arr16_at' (midA a (outF u2) j) hj6)
            rw [show midA a (outF u2) j j = a j by unfold midA; rw [if_neg (by omega)]] at h2
            have h3 := Blk.frozen cv j
            have hset := hid (midA_set a (outF u2) hj6)
            have hxb := xorB_bd (a j) (outF u2 j)
            unfold xorB at hset hxb
            generalize a j = X at *
            generalize outF u2 j = Y at *
            go_wp2
            go_still_tail 8, (by kernel_rfl)
            change wpList _ _ _ _ _ (World.drew _)
            go_wp2
            go_roundw
            case rel => exact ⟨j + 1, by omega, by go_num, (cu.drew.far (a := ⟨V, j, none⟩) _ (by simpa using hUV)), cv.drew.set j _ hset.out, hB2.drew.setCell (p := ⟨V, j, none⟩) (by simp; omega) _⟩
            case measure => simp [intOf]; omega
          · obtain rfl : j = 16 := by omega
            rw [midA_full, ← HA.out] at cv
            rw [Hu2.out] at cu
            clear HA HU
            go_wp2
            go_roundw
            case rel => exact ⟨k + 1, by omega, by go_num, cu, cv, hB2⟩
            case measure => simp [intOf]; omega
    · obtain rfl : k = T := by omega
      rw [Ha.out] at hv
      clear HU HA hab hob Ha Hu2
      have y5 := Blk.below y4 hB (by omega)
      have hd : (t ≤ 1000 ∧ ¬ (k : Int) + 1 < t) ∨ (1000 < t ∧ ¬ (k : Int) + 1 < 1000) := by omega
      rcases hd with ⟨d1, d2⟩ | ⟨d1, d2⟩
      all_goals
        go_wp2_with (first | (refine wpList_load_blk rfl _ (.tmp 8) rfl _ rfl _ _ _ hv Try.underlying35 rfl size35 ?_) | (refine wpList_store_blk rfl _ (.tmp 6) _ rfl _ rfl _ rfl (arr16_one _) _ y5 rfl size35 ?_; intro w6 g6 c6))
        exact bodyPost_ret (results_blk rfl rfl c6 Try.underlying35 rfl size35) rfl ⟨rfl, below_of_grown (B4.trans (hB.mono (by omega))) g6 (by have := B4.size; omega) (Nat.le_refl _)⟩
end Go.Proofs.Ytajombnckgehbaa
