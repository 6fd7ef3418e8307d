/- sentinellaw3.SpongeStreams: the walk. -/
import Derived.Test.YtajombnckgehbaaSWithin
namespace Go.Proofs.Ytajombnckgehbaa
set_option linter.unusedVariables false
set_option linter.unusedSimpArgs false
open Go.ChangeShapes Go.WideShapes Go.ChangeAt Go.RowKit Go.Shelf
theorem stB_at (key : List UInt8) (i j : Nat) (hj : j < 16) : ∀ K, i < K → (stB key K)[16 * i + j]? = (sumL (macW key [eightL i]))[j]?
  | 0, h => absurd h (by omega)
  | K + 1, h => by
    rw [stB]
    by_cases e : i = K
    · subst e
      rw [List.getElem?_append_right (by rw [stB_len]; omega), stB_len]
      congr 1
      omega
    · rw [List.getElem?_append_left (by rw [stB_len]; omega)]
      exact stB_at key i j hj K (by omega)
theorem stream_at (key : List UInt8) {k i j : Nat} (hj : j < 16) (hk : 16 * i + j < k) : (streamL key k)[16 * i + j]? = some (UInt8.ofNat (outF (macW key [eightL i]) j).toNat) := by
  unfold streamL
  rw [List.getElem?_take, if_pos hk, stB_at key i j hj _ (by omega)]
  simp [sumL, hj]
theorem arr16_at (y : Nat → Int) {j : Nat} (hj : j < 16) : (arr16 y)[j]? = some (.int .u8 (y j)) := by
  have : j = 0 ∨ j = 1 ∨ j = 2 ∨ j = 3 ∨ j = 4 ∨ j = 5 ∨ j = 6 ∨ j = 7 ∨ j = 8 ∨ j = 9 ∨ j = 10 ∨ j = 11 ∨ j = 12 ∨ j = 13 ∨ j = 14 ∨ j = 15 := by omega
  rcases this with rfl | rfl | rfl | rfl | rfl | rfl | rfl | rfl | rfl | rfl | rfl | rfl | rfl | rfl | rfl | rfl <;> rfl
set_option maxRecDepth 100000 in
set_option maxHeartbeats 16000000 in
theorem SpongeStreams_walk (A0 : Option Addr) (n0 cap0 : Nat) (l0 : List UInt8) (hn0 : l0.length = n0) (hc0 : n0 ≤ cap0) (hm0 : cap0 ≤ maxLen) (hz0 : A0 = none → cap0 = 0)
    (a1 : Int) (hk1 : -9223372036854775808 ≤ a1) (hl1 : a1 < 9223372036854775808)
    (a2 : Int) (hk2 : -9223372036854775808 ≤ a2) (hl2 : a2 < 9223372036854775808) (w : World) (hr0 : Rd w A0 l0) :
    Calls Try.prog 12 #[.slice A0 n0 cap0, .int .i64 a1, .int .i64 a2] w fun e w' => e = .returned (.bool true) ∧ Below w.heap.size w w' := by
  have hm0' := hm0
  unfold maxLen at hm0'
  go_enter Try.func12, Try.ntmps12
  go_wp2_with fail
  refine (known_any _).mono ?_
  rintro e w1 ⟨rfl, b1⟩
  have r1 := hr0.step b1
  by_cases h60 : 60 < n0
  · go_wp2
    go_ret
    exact ⟨rfl, b1⟩
  obtain ⟨K, hK⟩ : ∃ K : Nat, a1 % 100 = (K : Int) := ⟨(a1 % 100).toNat, by omega⟩
  have hKn : K < 100 := by omega
  go_wp2_with fail
  refine (within_any a1 100 (by omega) (by omega) hk1 hl1 _).mono ?_
  rintro e w2 ⟨rfl, rfl⟩
  rw [hK]
  clear hK
  go_wp2_with fail
  refine (stream_any A0 l0 n0 cap0 hn0 hc0 hm0 hz0 K (by omega) _ r1).mono ?_
  rintro e w3 ⟨v, rfl, ⟨A3, c3, rfl, h31, h32, h33, R3⟩, b3⟩
  rw [streamL_len] at h31 ⊢
  have r3 := r1.step b3
  have B3 := step_trans b1 b3
  have SL := hid (streamL_len l0 K)
  obtain ⟨J, hJ⟩ : ∃ J : Nat, a2 % ((K : Int) / 16 + 1) = (J : Int) := ⟨(a2 % ((K : Int) / 16 + 1)).toNat, by have := Int.emod_nonneg a2 (show (K : Int) / 16 + 1 ≠ 0 by omega); omega⟩
  have hJn : J ≤ K / 16 := by have := Int.emod_lt_of_pos a2 (show (0 : Int) < (K : Int) / 16 + 1 by omega); omega
  clear r1 b1 b3
  go_wp2_with fail
  refine (within_any a2 ((K : Int) / 16 + 1) (by omega) (by omega) hk2 hl2 _).mono ?_
  rintro e w4 ⟨rfl, rfl⟩
  rw [hJ]
  clear hJ
  go_wp2_with fail
  refine (reight_any J (by omega) _).mono ?_
  rintro e w4 ⟨v4, rfl, h4, b4⟩
  obtain ⟨A4, c4, rfl, h41, h42, R4, _⟩ := h4.slice
  have nn4 := h4.none0
  rw [eightL_len] at h41 ⊢
  have P4 := prd_one (eightL_len J) h41 h42 nn4 R4
  have b4' := step_trans b4 (step_alloc w4 (.cells #[.slice A4 8 c4] 29))
  have r4 := r3.step b4'
  have R3' := R3.step b4'
  have B4 := step_trans B3 b4'
  clear h4 b4 R4 R3 r3 B3
  go_wp2_with fail
  refine (mac_any A0 l0 n0 cap0 hn0 hc0 hm0 hz0 _ [eightL J] 1 1 rfl (Nat.le_refl _) (by unfold maxLen; omega) _ r4 P4).mono ?_
  rintro e w5 ⟨rfl, b5⟩
  have R5 := R3'.step b5
  have B5 := step_trans B4 b5
  obtain ⟨F, hF⟩ : ∃ F, F = macW l0 [eightL J] := ⟨_, rfl⟩
  have SA := hid (fun j (hj : j < 16) (hk : 16 * J + j < K) => stream_at l0 (k := K) (i := J) hj hk)
  rw [← hF] at SA ⊢
  have z5 := Blk.new w5 35 #[Value.int .u8 0, .int .u8 0, .int .u8 0, .int .u8 0, .int .u8 0, .int .u8 0, .int .u8 0, .int .u8 0, .int .u8 0, .int .u8 0, .int .u8 0, .int .u8 0, .int .u8 0, .int .u8 0, .int .u8 0, .int .u8 0]
  have a5 := step_alloc w5 (.cells #[Value.int .u8 0, .int .u8 0, .int .u8 0, .int .u8 0, .int .u8 0, .int .u8 0, .int .u8 0, .int .u8 0, .int .u8 0, .int .u8 0, .int .u8 0, .int .u8 0, .int .u8 0, .int .u8 0, .int .u8 0, .int .u8 0] 35)
  clear hF r4 P4 b4' R3' B4 b5 hr0
  go_wp2_with (refine wpList_store_blk rfl _ (.tmp 10) _ rfl _ rfl _ rfl (arr16_one _) _ z5 rfl size35 ?_; intro w6 g6 c6; have R6 := R5.step (step_new g6); have B6 := step_trans B5 (step_new g6))
  clear z5 a5 R5 B5 g6
  go_loopw [11] (fun i wr => ∃ j : Nat, j ≤ 16 ∧ i = .int .i64 (j : Int) ∧ ∃ d, wr = w6.drewN d) (fun i _ => 16 - (intOf i).toNat)
  case atStart => exact ⟨0, by omega, rfl, 0, rfl⟩
  case round =>
    obtain ⟨j, hj, rfl, d, rfl⟩ := hrel
    have hJ7 : J ≤ 6 := by omega
    by_cases hlt : j < 16
    · by_cases hlt2 : 16 * J + j < K
      · obtain ⟨b, o, rfl, hbl, hc⟩ := R6.at (by rw [SL.out]; omega)
        have c1 := hc _ _ (SA.out j hlt hlt2)
        rw [sumL_val] at c1
        have c2 := c6.cell (arr16_at (outF F) hlt)
        have c6f : w6.frozen? ⟨w5.heap.size, j, none⟩ = false := by unfold Blk at c6; simp [World.frozen?, c6]
        generalize outF F j = V at c1 c2
        have d2 : decide (16 * (J : Int) + (j : Int) < (K : Int)) = true := by rw [decide_eq_true_iff]; omega
        obtain ⟨I, hI⟩ : ∃ I : Nat, (I : Int) = 16 * (J : Int) + (j : Int) := ⟨16 * J + j, by omega⟩
        have c1' : w6.cell? ⟨b, o + I, none⟩ = some (.int .u8 V) := by rw [show I = 16 * J + j by omega]; exact c1
        have hIK : I < K := by omega
        have q1 : IntKind.i64.wrap (16 * (J : Int)) = 16 * (J : Int) := Go.IntWalk.i64_in _ (by omega)
        have q2 : IntKind.i64.wrap (16 * (J : Int) + (j : Int)) = (I : Int) := by rw [hI]; exact Go.IntWalk.i64_in _ (by omega)
        have q3 : 16 * (J : Int) + (j : Int) = (I : Int) := hI.symm
        have q4 : (0 : Int) ≤ (I : Int) := Int.natCast_nonneg _
        have q5 : (I : Int) < (K : Int) := by omega
        clear hc c1 SA SL R6 hI
        go_wp2
        go_quiet (fail)
        go_wp2
        go_roundw
        case rel => exact ⟨j + 1, by omega, by go_num, _, rfl⟩
        case measure => simp [intOf]; omega
      · have d2 : decide (16 * (J : Int) + (j : Int) < (K : Int)) = false := by rw [decide_eq_false_iff_not]; omega
        go_wp2
        go_ret
        exact ⟨rfl, below_drewN B6 _⟩
    · obtain rfl : j = 16 := by omega
      go_wp2
      go_ret
      exact ⟨rfl, below_drewN B6 _⟩
end Go.Proofs.Ytajombnckgehbaa
