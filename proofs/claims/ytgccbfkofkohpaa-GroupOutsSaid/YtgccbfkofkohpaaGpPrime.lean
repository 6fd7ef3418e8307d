/- Prime, of both sides. -/
import Derived.Test.YtgccbfkofkohpaaGpNum
import Derived.Test.YtgccbfkofkohpaaGaByte
namespace Go.Proofs.Ytgccbfkofkohpaa
set_option linter.unusedVariables false
set_option maxRecDepth 20000
set_option linter.unusedSimpArgs false
open Go.ChangeShapes Go.WideShapes Go.ChangeAt Go.RowKit
theorem sq_le {D : Int} (h : 2 ≤ D) : D ≤ D * D := by
  have := Int.mul_le_mul_of_nonneg_left (show (1 : Int) ≤ D by omega) (show (0 : Int) ≤ D by omega)
  omega
theorem sq_bd {D n : Int} (h : 2 ≤ D) (hs : (D - 1) * (D - 1) ≤ n) (hn : n < 2147483648) : 0 ≤ D * D ∧ D * D < 1099511627776 ∧ D ≤ 46342 := by
  have h3 : D ≤ 46342 := by
    refine Int.le_of_not_gt fun hgt => ?_
    have := Int.mul_le_mul (show (46342 : Int) ≤ D - 1 by omega) (show (46342 : Int) ≤ D - 1 by omega) (by omega) (show (0 : Int) ≤ D - 1 by omega)
    omega
  have h4 := Int.mul_le_mul h3 h3 (show (0 : Int) ≤ D by omega) (by omega)
  have h5 := Int.mul_nonneg (show (0 : Int) ≤ D by omega) (show (0 : Int) ≤ D by omega)
  exact ⟨h5, by omega, h3⟩
set_option maxRecDepth 100000 in
set_option maxHeartbeats 2000000 in
theorem prime_any (n : Int) (h0 : -9223372036854775808 ≤ n) (h1 : n < 9223372036854775808) (w : World) :
    Calls Try.prog 18 #[.int .i64 n] w fun e w' => e = .returned (.bool (primeB n)) ∧ w = w' := by
  obtain ⟨V, hV⟩ : ∃ V, Hid (primeB n = V) := ⟨_, hid rfl⟩
  rw [hV.out]
  by_cases ha : n < 2
  · obtain rfl : V = false := by rw [← hV.out]; exact primeB_no (by omega)
    go_enter Try.func18, Try.ntmps18
    go_wp2
    go_ret
    exact ⟨rfl, rfl⟩
  by_cases hb : n < 2147483648
  · have h2 : 2 ≤ n := by omega
    clear h0 h1 ha
    go_enter Try.func18, Try.ntmps18
    go_wp2_with fail
    go_loopw [3] (fun d wr => ∃ D : Int, 2 ≤ D ∧ Hid ((D - 1) * (D - 1) ≤ n) ∧ d = .int .i64 D ∧ Hid (∀ e : Int, 2 ≤ e → e < D → n % e ≠ 0) ∧ w = wr) (fun d _ => (n + 2 - intOf d).toNat)
    case atStart => exact ⟨2, by omega, hid (by omega), rfl, hid (fun e g1 g2 => absurd g2 (by omega)), rfl⟩
    case round =>
      obtain ⟨D, hD, hs, rfl, hn, rfl⟩ := hrel
      obtain ⟨q0, q1, q2⟩ := sq_bd hD hs.out hb
      obtain ⟨s, hsq⟩ : ∃ s, Hid (D * D = s) := ⟨_, hid rfl⟩
      rw [hsq.out] at q0 q1
      have hds : D * D = s := hsq.out
      have hz : (D == 0) = false := by rw [beq_eq_false_iff_ne]; omega
      by_cases hle : s ≤ n
      · have hlt : D < n + 2 := by have := sq_le hD; have := hsq.out; omega
        obtain ⟨R, hR⟩ : ∃ R, Hid (n % D = R) := ⟨_, hid rfl⟩
        have ht : n.tmod D = R := by rw [Int.tmod_eq_emod_of_nonneg (by omega)]; exact hR.out
        by_cases hr : R = 0
        · subst hr
          obtain rfl : V = false := by rw [← hV.out]; exact primeB_no (fun h => h.2.2 D hD (by rw [hsq.out]; exact hle) hR.out)
          go_wp2_with fail
          go_ret
          exact ⟨rfl, rfl⟩
        · have hr' : (R == 0) = false := beq_eq_false_iff_ne.2 hr
          go_wp2_with fail
          go_roundw
          case rel => exact ⟨D + 1, by omega, hid (by rw [Int.add_sub_cancel, hsq.out]; exact hle), by go_num, hid (fun e g1 g2 => by
            by_cases e1 : e = D
            · subst e1; rw [hR.out]; exact hr
            · exact hn.out e g1 (by omega)), (by first | rfl | trivial)⟩
          case measure => simp [intOf] <;> omega
      · obtain rfl : V = true := by
          rw [← hV.out]
          refine primeB_yes h2 hb fun d g1 g2 => hn.out d g1 (Int.lt_of_not_ge fun hge => ?_)
          have := Int.mul_le_mul hge hge (show (0 : Int) ≤ D by omega) (show (0 : Int) ≤ d by omega)
          have := hsq.out
          omega
        go_wp2_with fail
        go_ret
        exact ⟨rfl, rfl⟩
  · obtain rfl : V = false := by rw [← hV.out]; exact primeB_no (by omega)
    go_enter Try.func18, Try.ntmps18
    go_wp2
    go_ret
    exact ⟨rfl, rfl⟩
set_option maxRecDepth 100000 in
set_option maxHeartbeats 2000000 in
theorem rprime_any (n : Int) (h0 : -9223372036854775808 ≤ n) (h1 : n < 9223372036854775808) (w : World) :
    Calls Try.prog 19 #[.int .i64 n] w fun e w' => e = .returned (.bool (primeB n)) ∧ w = w' := by
  obtain ⟨V, hV⟩ : ∃ V, Hid (primeB n = V) := ⟨_, hid rfl⟩
  rw [hV.out]
  by_cases ha : n < 2
  · obtain rfl : V = false := by rw [← hV.out]; exact primeB_no (by omega)
    go_enter Try.func19, Try.ntmps19
    go_wp2
    go_ret
    exact ⟨rfl, rfl⟩
  by_cases hb : n < 2147483648
  · have h2 : 2 ≤ n := by omega
    clear h0 h1 ha
    go_enter Try.func19, Try.ntmps19
    go_wp2_with fail
    go_loopw [3] (fun d wr => ∃ D : Int, 2 ≤ D ∧ Hid ((D - 1) * (D - 1) ≤ n) ∧ d = .int .i64 D ∧ Hid (∀ e : Int, 2 ≤ e → e < D → n % e ≠ 0) ∧ w = wr) (fun d _ => (n + 2 - intOf d).toNat)
    case atStart => exact ⟨2, by omega, hid (by omega), rfl, hid (fun e g1 g2 => absurd g2 (by omega)), rfl⟩
    case round =>
      obtain ⟨D, hD, hs, rfl, hn, rfl⟩ := hrel
      obtain ⟨q0, q1, q2⟩ := sq_bd hD hs.out hb
      obtain ⟨s, hsq⟩ : ∃ s, Hid (D * D = s) := ⟨_, hid rfl⟩
      rw [hsq.out] at q0 q1
      have hds : D * D = s := hsq.out
      have hz : (D == 0) = false := by rw [beq_eq_false_iff_ne]; omega
      by_cases hle : s ≤ n
      · have hlt : D < n + 2 := by have := sq_le hD; have := hsq.out; omega
        obtain ⟨R, hR⟩ : ∃ R, Hid (n % D = R) := ⟨_, hid rfl⟩
        have ht : n.tmod D = R := by rw [Int.tmod_eq_emod_of_nonneg (by omega)]; exact hR.out
        by_cases hr : R = 0
        · subst hr
          obtain rfl : V = false := by rw [← hV.out]; exact primeB_no (fun h => h.2.2 D hD (by rw [hsq.out]; exact hle) hR.out)
          go_wp2_with fail
          go_ret
          exact ⟨rfl, rfl⟩
        · have hr' : (R == 0) = false := beq_eq_false_iff_ne.2 hr
          go_wp2_with fail
          go_roundw
          case rel => exact ⟨D + 1, by omega, hid (by rw [Int.add_sub_cancel, hsq.out]; exact hle), by go_num, hid (fun e g1 g2 => by
            by_cases e1 : e = D
            · subst e1; rw [hR.out]; exact hr
            · exact hn.out e g1 (by omega)), (by first | rfl | trivial)⟩
          case measure => simp [intOf] <;> omega
      · obtain rfl : V = true := by
          rw [← hV.out]
          refine primeB_yes h2 hb fun d g1 g2 => hn.out d g1 (Int.lt_of_not_ge fun hge => ?_)
          have := Int.mul_le_mul hge hge (show (0 : Int) ≤ D by omega) (show (0 : Int) ≤ d by omega)
          have := hsq.out
          omega
        go_wp2_with fail
        go_ret
        exact ⟨rfl, rfl⟩
  · obtain rfl : V = false := by rw [← hV.out]; exact primeB_no (by omega)
    go_enter Try.func19, Try.ntmps19
    go_wp2
    go_ret
    exact ⟨rfl, rfl⟩
end Go.Proofs.Ytgccbfkofkohpaa
