/- The reference's Stream; Streams of no length. -/
import Derived.Test.YtajombnckgehbaaSRStretch
import Derived.Test.YtajombnckgehbaaSReg
namespace Go.Proofs.Ytajombnckgehbaa
set_option linter.unusedVariables false
set_option linter.unusedSimpArgs false
open Go.ChangeShapes Go.WideShapes Go.ChangeAt Go.RowKit Go.Shelf
set_option maxHeartbeats 4000000 in
set_option maxRecDepth 100000 in
theorem stream_out (A : Option Addr) (n c : Nat) (t : Int) (ht : t < 0 ∨ 1000 < t) (w : World) :
    Calls Try.prog 28 #[.slice A n c, .int .i64 t] w fun e w' => e = .returned (.slice none 0 0) ∧ Below w.heap.size w w' := by
  rcases ht with h | h
  · go_enter Try.func28, Try.ntmps28
    go_wp2
    go_ret
    exact ⟨rfl, Below.refl _ _⟩
  · have h1 : ¬ t < 0 := by omega
    go_enter Try.func28, Try.ntmps28
    go_wp2
    go_ret
    exact ⟨rfl, Below.refl _ _⟩
set_option maxHeartbeats 4000000 in
set_option maxRecDepth 100000 in
theorem rstream_any (A : Option Addr) (key : List UInt8) (n c : Nat) (hn : key.length = n) (hA : A = none → c = 0) (hnl : n ≤ 2000) (m : Nat) (hmm : m ≤ 1000) (w : World) (hR : Rd w A key) :
    Calls Try.prog 31 #[.slice A n c, .int .i64 (m : Int)] w fun e w' => ∃ v, e = .returned v ∧ IsB w' (streamL key m) v ∧ Below w.heap.size w w' := by
  have SL := hid (stB_len key)
  have ST := hid (fun k hk => stB_take key m k hk)
  have HM := hid hmm
  have HA := hid hA
  go_enter Try.func31, Try.ntmps31
  have d2 : ¬ (1000 : Int) < (m : Int) := by omega
  go_wp2_with fail
  go_loopw [5, 6] (fun v i wr => ∃ k : Nat, k ≤ 64 ∧ 16 * k < m + 16 ∧ i = .int .i64 (k : Int) ∧ Byt wr w.heap.size v (stB key k) ∧ Below w.heap.size w wr) (fun _ i _ => 100 - (intOf i).toNat)
  case atStart => exact ⟨0, by omega, by omega, rfl, Byt.nil _ _, Below.refl _ _⟩
  case round =>
    obtain ⟨k, hk, hkm, rfl, hv, hB⟩ := hrel
    have hlen := SL.out k
    have hz := hB.size
    obtain ⟨A1, c1, rfl, hc1, hm1, R1, hl1⟩ := hv.slice
    have nn1 := hv.none0
    rw [hlen] at hc1 hv ⊢
    by_cases hlt : 16 * k < m
    · have d3 : (((16 * k : Nat) : Int)) < (m : Int) := by omega
      have hRr := hR.below hB (Nat.le_refl _)
      go_wp2_with fail
      refine (reight_any k (by omega) _).mono ?_
      rintro e w1 ⟨v1, rfl, h1, b1⟩
      obtain ⟨A3, c3, rfl, s1, s2, s3, s4⟩ := h1.slice
      have nn3 := h1.none0
      have P1 := prd_one (eightL_len k) (by rw [eightL_len] at s1; exact s1) s2 nn3 s3
      rw [eightL_len] at s1 ⊢
      have b1' := step_trans b1 (step_alloc w1 (.cells #[.slice A3 8 c3] 29))
      have R2 := hRr.step b1'
      go_wp2_with fail
      refine (rmac_any A key n c hn HA.out hnl _ [eightL k] 1 1 rfl (Nat.le_refl _) (by omega) (fun l hl => by rw [List.mem_singleton.1 hl, eightL_len]; omega) (by simp [cat, eightL_len]) _ R2 P1).mono ?_
      rintro e w2 ⟨rfl, b2⟩
      have B2 : Below wr.heap.size wr w2 := step_trans b1' b2
      have v2 := hv.step B2
      obtain ⟨F, hF⟩ : ∃ F, F = macW key [eightL k] := ⟨_, rfl⟩
      have HF : Hid (stB key (k + 1) = stB key k ++ sumL F) := hid (by rw [hF]; rfl)
      rw [← hF]
      clear hF P1 b1 b1' b2 R2 hRr d3 h1
      go_wp2_with fail
      refine (rbytes_any (outF F) (outF_bd F) _).mono ?_
      rintro e w3 ⟨v3, rfl, h3, b3⟩
      rw [← sumL_eq] at h3
      obtain ⟨A4, c4, rfl, q1, q2, q3, q4⟩ := h3.slice
      have nn4 := h3.none0
      rw [sumL_len] at q1 ⊢
      have B3 := step_trans B2 b3
      have v3 := v2.step b3
      have z3 := Nat.le_trans hz B3.size
      have l2 : Hid ((stB key k).length + (sumL F).length ≤ 1000000) := hid (by rw [hlen, sumL_len]; omega)
      clear B2 v2 b3 h3 hv
      go_wp2_with (refine wpList_append_bytes rfl (.tmp 15) (.tmp 21) rfl w.heap.size _ (stB key k) (sumL F) (by rw [← hlen]; rfl) v3 A4 16 c4 rfl (sumL_len F) nn4 q3 l2.out z3 ?_; intro v5 w5 h5 k5 g5)
      have B5 : Below w.heap.size w w5 := (hB.trans (B3.mono hz)).trans k5
      rw [← HF.out] at h5
      clear v3 B3 g5 k5
      go_roundw
      case rel => exact ⟨k + 1, by omega, by omega, by go_num, h5, B5⟩
      case measure => simp [intOf]; omega
    · have d3 : ¬ (((16 * k : Nat) : Int)) < (m : Int) := by omega
      have hsl := slice_h wr A1 (16 * k) c1 m (by omega)
      have hmx : ¬ (m : Int) < 0 := by omega
      have hres : IsB wr (streamL key m) (.slice A1 m c1) := ⟨A1, c1, by rw [streamL_len], by rw [streamL_len]; omega, hm1, nn1, by
        have e1 : streamL key m = (stB key k).take m := (ST.out k (by omega)).symm
        rw [e1]
        exact R1.take m⟩
      by_cases h0 : 0 < (m : Int)
      · go_wp2
        go_ret
        exact ⟨_, rfl, hres, hB⟩
      · obtain rfl : m = 0 := by omega
        go_wp2
        go_ret
        exact ⟨_, rfl, hres, hB⟩
end Go.Proofs.Ytajombnckgehbaa
