/- The reference's quotient and inverse: numbers. -/
import Derived.Test.YtcfobgimpflneaaGaRz
import Derived.Test.YtcfobgimpflneaaGaRow
namespace Go.Proofs.Ytcfobgimpflneaa
set_option linter.unusedVariables false
set_option linter.unusedSimpArgs false
open Go.ChangeShapes Go.WideShapes Go.ChangeAt Go.RowKit
/-- The quotient's bits from k on. -/
def qN (a b k : Nat) : Nat := a / 2 ^ k / b * 2 ^ k
theorem qN_top {a b : Nat} (ha : a < 4294967296 ^ 8) : qN a b 256 = 0 := by
  unfold qN
  have h : a / 2 ^ 256 = 0 := Nat.div_eq_of_lt (by rw [show (2 : Nat) ^ 256 = 4294967296 ^ 8 by decide +kernel]; exact ha)
  rw [h, Nat.zero_div, Nat.zero_mul]
theorem qN_end (a b : Nat) : qN a b 0 = a / b := by unfold qN; rw [Nat.pow_zero, Nat.div_one, Nat.mul_one]
theorem qN_mod (a b k : Nat) : qN a b k % 2 ^ k = 0 := by unfold qN; exact Nat.mul_mod_left _ _
theorem qN_le (a b k : Nat) : qN a b k ≤ a := by
  unfold qN
  exact Nat.le_trans (Nat.mul_le_mul_right _ (Nat.div_le_self _ _)) (Nat.div_mul_le_self _ _)
theorem half_bits (a k : Nat) : a / 2 ^ k = 2 * (a / 2 ^ (k + 1)) + a / 2 ^ k % 2 := by rw [Nat.pow_succ, ← Nat.div_div_eq_div_mul]; omega
theorem qN_step {a b k r : Nat} (h0 : 0 < b) (hr : r = a / 2 ^ (k + 1) % b) : qN a b k = qN a b (k + 1) + (if b ≤ 2 * r + a / 2 ^ k % 2 then 2 ^ k else 0) := by
  have h1 := half_bits a k
  have h2 := Nat.div_add_mod (a / 2 ^ (k + 1)) b
  rw [← hr] at h2
  have hrb : r < b := by rw [hr]; exact Nat.mod_lt _ h0
  unfold qN
  generalize a / 2 ^ (k + 1) / b = Q at *
  generalize a / 2 ^ k % 2 = t at *
  have ht : t ≤ 1 ∨ True := .inr trivial
  have e : a / 2 ^ k = b * (2 * Q) + (2 * r + t) := by
    rw [h1, ← h2]; rw [Nat.mul_add, ← Nat.mul_assoc, Nat.mul_comm 2 b, Nat.mul_assoc]; omega
  have ed : a / 2 ^ k / b = 2 * Q + (2 * r + t) / b := by rw [e, Nat.mul_add_div h0]
  rw [ed]
  have hb : t = a / 2 ^ k - 2 * (a / 2 ^ (k + 1)) := by omega
  have ht1 : t < 2 := by
    have := half_bits a k
    have h3 : a / 2 ^ k % 2 < 2 := Nat.mod_lt _ (by decide)
    omega
  by_cases hc : b ≤ 2 * r + t
  · rw [if_pos hc, show (2 * r + t) / b = 1 from by
      have e1 : (2 * r + t) / b = (2 * r + t - b) / b + 1 := by rw [Nat.div_eq_sub_div h0 hc]
      rw [e1, Nat.div_eq_of_lt (by omega)]]
    rw [Nat.add_mul, Nat.one_mul, Nat.pow_succ]
    congr 1
    rw [Nat.mul_comm 2 Q, Nat.mul_assoc, Nat.mul_comm 2]
  · rw [if_neg hc, Nat.div_eq_of_lt (by omega), Nat.add_zero, Nat.add_zero, Nat.pow_succ]
    rw [Nat.mul_comm 2 Q, Nat.mul_assoc, Nat.mul_comm 2]
/-- One more bit in a number that has none from it on. -/
theorem dig_bitQ {Q i : Nat} (hQ : Q % 2 ^ (i + 1) = 0) (j : Nat) : (j = i / 32 → dig (Q + 2 ^ i) j = dig Q j + 2 ^ (i % 32) ∧ dig Q j % 2 ^ (i % 32 + 1) = 0) ∧ (j ≠ i / 32 → dig (Q + 2 ^ i) j = dig Q j) := by
  obtain ⟨t, rfl⟩ : ∃ t, Q = 2 ^ (i + 1) * t := ⟨Q / 2 ^ (i + 1), by have := Nat.div_add_mod Q (2 ^ (i + 1)); omega⟩
  have e32 : (4294967296 : Nat) = 2 ^ 32 := rfl
  have hs : i % 32 < 32 := Nat.mod_lt _ (by decide)
  unfold dig
  rw [e32, ← Nat.pow_mul]
  refine ⟨fun hj => ?_, fun hj => ?_⟩
  · have hi : i = 32 * j + i % 32 := by omega
    obtain ⟨s, hsd⟩ : ∃ s, i % 32 = s := ⟨_, rfl⟩
    rw [hsd] at hi hs ⊢
    subst hi
    have e1 : 2 ^ (32 * j + s + 1) * t = 2 ^ (32 * j) * (2 ^ (s + 1) * t) := by rw [Nat.add_assoc, Nat.pow_add, Nat.mul_assoc]
    have e2 : 2 ^ (32 * j + s + 1) * t + 2 ^ (32 * j + s) = 2 ^ (32 * j) * (2 ^ (s + 1) * t + 2 ^ s) := by rw [e1, Nat.pow_add 2 (32 * j) s, Nat.mul_add]
    rw [e2, e1, Nat.mul_div_cancel_left _ (Nat.pow_pos (by decide)), Nat.mul_div_cancel_left _ (Nat.pow_pos (by decide))]
    obtain ⟨u, hu⟩ : ∃ u, (2 : Nat) ^ 32 = 2 ^ (s + 1) * u := ⟨2 ^ (31 - s), by rw [← Nat.pow_add]; congr 1; omega⟩
    have hm : 2 ^ (s + 1) * t % 2 ^ 32 = 2 ^ (s + 1) * (t % u) := by rw [hu, Nat.mul_mod_mul_left]
    have hu0 : 0 < u := by
      rcases Nat.eq_zero_or_pos u with h | h
      · rw [h, Nat.mul_zero] at hu; exact absurd hu (by decide)
      · exact h
    have hp : 2 ^ (s + 1) = 2 ^ s + 2 ^ s := by rw [Nat.pow_succ]; omega
    have hpp : 0 < 2 ^ s := Nat.pow_pos (by decide)
    have hlt : 2 ^ (s + 1) * (t % u) + 2 ^ s < 2 ^ 32 := by
      rw [hu]
      have h1 : t % u + 1 ≤ u := Nat.mod_lt _ hu0
      have h2 : 2 ^ (s + 1) * (t % u + 1) ≤ 2 ^ (s + 1) * u := Nat.mul_le_mul_left _ h1
      rw [Nat.mul_add, Nat.mul_one] at h2
      omega
    constructor
    · rw [Nat.add_mod, hm, Nat.mod_eq_of_lt (show 2 ^ s < 2 ^ 32 from Nat.pow_lt_pow_right (by decide) hs), Nat.mod_eq_of_lt hlt]
    · rw [hm, Nat.mul_mod_right]
  · rcases Nat.lt_or_ge j (i / 32) with h | h
    · have hi : i = 32 * j + (32 + (i - 32 * j - 32)) := by omega
      generalize i - 32 * j - 32 = d at *
      subst hi
      have e1 : 2 ^ (32 * j + (32 + d) + 1) * t = 2 ^ (32 * j) * (2 ^ 32 * (2 ^ (d + 1) * t)) := by rw [Nat.add_assoc, Nat.pow_add, Nat.add_assoc, Nat.pow_add 2 32, Nat.mul_assoc, Nat.mul_assoc]
      have e2 : 2 ^ (32 * j + (32 + d) + 1) * t + 2 ^ (32 * j + (32 + d)) = 2 ^ (32 * j) * (2 ^ 32 * (2 ^ (d + 1) * t + 2 ^ d)) := by rw [e1, Nat.pow_add 2 (32 * j), Nat.pow_add 2 32 d, Nat.mul_add (2 ^ 32), Nat.mul_add (2 ^ (32 * j))]
      rw [e2, e1, Nat.mul_div_cancel_left _ (Nat.pow_pos (by decide)), Nat.mul_div_cancel_left _ (Nat.pow_pos (by decide)), Nat.mul_mod_right, Nat.mul_mod_right]
    · have hj2 : i / 32 < j := by omega
      obtain ⟨e, he⟩ : ∃ e, 32 * j = i + (1 + e) := ⟨32 * j - i - 1, by omega⟩
      rw [he, Nat.pow_add 2 i (1 + e), ← Nat.div_div_eq_div_mul, ← Nat.div_div_eq_div_mul, Nat.pow_succ 2 i, Nat.mul_assoc]
      rw [show 2 ^ i * (2 * t) + 2 ^ i = 2 ^ i * (2 * t + 1) by rw [Nat.mul_add, Nat.mul_one], Nat.mul_div_cancel_left _ (Nat.pow_pos (by decide)), Nat.mul_div_cancel_left _ (Nat.pow_pos (by decide))]
      rw [Nat.pow_add, Nat.pow_one, ← Nat.div_div_eq_div_mul, ← Nat.div_div_eq_div_mul]
      congr 2
      omega
theorem q_bit {Q i : Nat} (hQ : Q % 2 ^ (i + 1) = 0) : bits BinOp.or IntKind.u32 (digI Q (i / 32)) (2 ^ (i % 32)) = digI (Q + 2 ^ i) (i / 32) ∧ ∀ j, j ≠ i / 32 → digI (Q + 2 ^ i) j = digI Q j := by
  constructor
  · obtain ⟨h1, h2⟩ := (dig_bitQ hQ (i / 32)).1 rfl
    have hs : i % 32 < 32 := Nat.mod_lt _ (by decide)
    have hd := dig_lt Q (i / 32)
    have e : ((2 : Int) ^ (i % 32)) = ((2 ^ (i % 32) : Nat) : Int) := by simp
    have hl : 2 ^ (i % 32) < 2 ^ 32 := Nat.pow_lt_pow_right (by decide) hs
    have hl2 : 2 ^ (i % 32) < 2 ^ (i % 32 + 1) := Nat.pow_lt_pow_right (by decide) (by omega)
    have := bits_join .u32 32 (by decide) (fun n h0 h1 => by rw [IntKind.wrap_u32]; omega) (i % 32 + 1) ((dig Q (i / 32) : Nat) : Int) ((2 ^ (i % 32) : Nat) : Int) (Int.natCast_nonneg _) (by exact_mod_cast h2) (by exact_mod_cast hd) (Int.natCast_nonneg _) (by exact_mod_cast hl2) (by exact_mod_cast hl)
    unfold digI
    rw [h1, e, this, Int.natCast_add]
  · intro j hj
    unfold digI
    rw [(dig_bitQ hQ j).2 hj]
/-- Where the reference's way stands. -/
structure RI (a m high low s t : Nat) : Prop where
  lt : low < high
  hm : high ≤ m
  sm : s < m
  tm : t < m
  g : Nat.gcd high low = Nat.gcd m a
  e1 : ∃ z : Int, (a : Int) * s = low + m * z
  e2 : ∃ z : Int, (a : Int) * t = high + m * z
theorem ri_first (a : Nat) {m : Nat} (h2 : 2 ≤ m) : RI a m m (a % m) 1 0 where
  lt := Nat.mod_lt _ (by omega)
  hm := Nat.le_refl _
  sm := by omega
  tm := by omega
  g := by rw [Nat.gcd_comm, ← Nat.gcd_rec]
  e1 := ⟨(a / m : Nat), by
    have := Nat.div_add_mod a m
    have h : ((a : Nat) : Int) = ((m * (a / m) + a % m : Nat) : Int) := by rw [this]
    rw [Int.natCast_add, Int.natCast_mul] at h
    rw [h]; simp; omega⟩
  e2 := ⟨-1, by simp; omega⟩
/-- t less p, by m. -/
def dN (m t p : Nat) : Nat := if p ≤ t then t - p else t + m - p
theorem dN_lt {m t p : Nat} (ht : t < m) (hp : p < m) : dN m t p < m := by unfold dN; split <;> omega
theorem dN_eq {m t p : Nat} (hp : p < m) : ∃ z : Int, (dN m t p : Int) = t - p + m * z := by
  unfold dN
  split
  · exact ⟨0, by simp; omega⟩
  · exact ⟨1, by simp; omega⟩
theorem RI.next {a m high low s t : Nat} (h : RI a m high low s t) (h0 : 0 < low) : RI a m low (high % low) (dN m t (high / low * s % m)) s := by
  have hd := Nat.div_add_mod high low
  have hm0 : 0 < m := by have := h.sm; omega
  have hp : high / low * s % m < m := Nat.mod_lt _ hm0
  refine ⟨Nat.mod_lt _ h0, by have := h.lt; have := h.hm; omega, dN_lt h.tm hp, h.sm, ?_, ?_, h.e1⟩
  · rw [← h.g, Nat.gcd_comm, ← Nat.gcd_rec, Nat.gcd_comm]
  · obtain ⟨z1, h1⟩ := h.e1
    obtain ⟨z2, h2⟩ := h.e2
    obtain ⟨z3, h3⟩ := dN_eq (t := t) hp
    have hpm := Nat.div_add_mod (high / low * s) m
    have e4 : ((high / low * s % m : Nat) : Int) = ((high / low : Nat) : Int) * s - m * ((high / low * s / m : Nat) : Int) := by
      have : ((m * (high / low * s / m) + high / low * s % m : Nat) : Int) = ((high / low * s : Nat) : Int) := by rw [hpm]
      rw [Int.natCast_add, Int.natCast_mul, Int.natCast_mul] at this
      omega
    have hdi : (high : Int) = (low : Int) * ((high / low : Nat) : Int) + ((high % low : Nat) : Int) := by rw [← Int.natCast_mul, ← Int.natCast_add, hd]
    refine ⟨z2 - ((high / low : Nat) : Int) * z1 + a * ((high / low * s / m : Nat) : Int) + a * z3, ?_⟩
    rw [h3, e4]
    generalize ((high / low : Nat) : Int) = q at *
    generalize ((high / low * s / m : Nat) : Int) = v at *
    generalize ((high % low : Nat) : Int) = R at *
    grind
theorem RI.last {a m high s t : Nat} (h : RI a m high 0 s t) (h2 : 2 ≤ m) : (high = 1 ∧ t = invN a m ∧ invB a m = true) ∨ (high ≠ 1 ∧ invB a m = false ∧ invN a m = 0) := by
  have hg := h.g
  rw [Nat.gcd_zero_right] at hg
  by_cases h1 : high = 1
  · obtain ⟨z, hz⟩ := h.e2
    rw [h1] at hz
    have := inv_yes h2 h.tm (one_mod h2 (by simpa using hz))
    exact .inl ⟨h1, this.1.symm, this.2⟩
  · have hb : invB a m = false := by
      unfold invB
      exact decide_eq_false (by omega)
    exact .inr ⟨h1, hb, inv_no hb⟩
theorem inv_small {a m : Nat} (h : m < 2) : invB a m = false ∧ invN a m = 0 := by
  have : invB a m = false := by unfold invB; exact decide_eq_false (by omega)
  exact ⟨this, inv_no this⟩
end Go.Proofs.Ytcfobgimpflneaa
