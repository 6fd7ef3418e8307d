/- sentinelref3.Raw. -/
import Derived.Test.YtajombnckgehbaaSRef
namespace Go.Proofs.Ytajombnckgehbaa
set_option linter.unusedVariables false
set_option linter.unusedSimpArgs false
open Go.ChangeShapes Go.WideShapes Go.ChangeAt Go.RowKit Go.Shelf

/-- Four bytes laid into a word. -/
theorem or4 (a b0 b1 b2 b3 : Nat) (h0 : b0 < 256) (h1 : b1 < 256) (h2 : b2 < 256) (h3 : b3 < 256) :
    a ^^^ (((b0 ||| b1 * 256) ||| b2 * 65536) ||| b3 * 16777216) = (((a ^^^ b0) ^^^ b1 * 256) ^^^ b2 * 65536) ^^^ b3 * 16777216 := by
  apply Nat.eq_of_testBit_eq
  intro i
  have e1 : b1 * 256 = b1 <<< 8 := by rw [Nat.shiftLeft_eq]
  have e2 : b2 * 65536 = b2 <<< 16 := by rw [Nat.shiftLeft_eq]
  have e3 : b3 * 16777216 = b3 <<< 24 := by rw [Nat.shiftLeft_eq]
  rw [e1, e2, e3]
  simp only [Nat.testBit_xor, Nat.testBit_or, Nat.testBit_shiftLeft]
  have t0 : 8 ≤ i → b0.testBit i = false := fun h => Nat.testBit_lt_two_pow (Nat.lt_of_lt_of_le h0 (Nat.pow_le_pow_right (n := 2) (by decide) h))
  have t1 : 16 ≤ i → b1.testBit (i - 8) = false := fun h => Nat.testBit_lt_two_pow (Nat.lt_of_lt_of_le h1 (Nat.pow_le_pow_right (n := 2) (by decide) (by omega : 8 ≤ i - 8)))
  have t2 : 24 ≤ i → b2.testBit (i - 16) = false := fun h => Nat.testBit_lt_two_pow (Nat.lt_of_lt_of_le h2 (Nat.pow_le_pow_right (n := 2) (by decide) (by omega : 8 ≤ i - 16)))
  by_cases c1 : 8 ≤ i
  · rw [t0 c1]
    by_cases c2 : 16 ≤ i
    · rw [t1 c2]
      by_cases c3 : 24 ≤ i
      · rw [t2 c3]; simp [c1, c2, c3]
      · simp [c1, c2, c3]
    · have c3 : ¬ 24 ≤ i := by omega
      simp [c1, c2, c3]
  · have c2 : ¬ 16 ≤ i := by omega
    have c3 : ¬ 24 ≤ i := by omega
    simp [c1, c2, c3]
theorem xor4 {a b0 b1 b2 b3 : Int} (ha : 0 ≤ a ∧ a < 4294967296) (h0 : 0 ≤ b0 ∧ b0 < 256) (h1 : 0 ≤ b1 ∧ b1 < 256) (h2 : 0 ≤ b2 ∧ b2 < 256) (h3 : 0 ≤ b3 ∧ b3 < 256) :
    bits .xor .u32 a (bits .or .u32 (bits .or .u32 (bits .or .u32 b0 (b1 * 256)) (b2 * 65536)) (b3 * 16777216)) = xorW (xorW (xorW (xorW a b0) (b1 * 256)) (b2 * 65536)) (b3 * 16777216) := by
  obtain ⟨a, rfl⟩ := Int.eq_ofNat_of_zero_le ha.1
  obtain ⟨b0, rfl⟩ := Int.eq_ofNat_of_zero_le h0.1
  obtain ⟨b1, rfl⟩ := Int.eq_ofNat_of_zero_le h1.1
  obtain ⟨b2, rfl⟩ := Int.eq_ofNat_of_zero_le h2.1
  obtain ⟨b3, rfl⟩ := Int.eq_ofNat_of_zero_le h3.1
  have m1 : (b1 : Int) * 256 = ((b1 * 256 : Nat) : Int) := by rw [Int.natCast_mul]; rfl
  have m2 : (b2 : Int) * 65536 = ((b2 * 65536 : Nat) : Int) := by rw [Int.natCast_mul]; rfl
  have m3 : (b3 : Int) * 16777216 = ((b3 * 16777216 : Nat) : Int) := by rw [Int.natCast_mul]; rfl
  have L : ∀ x y : Nat, x < 4294967296 → y < 4294967296 → x ^^^ y < 4294967296 := fun x y hx hy => Nat.xor_lt_two_pow (n := 32) hx hy
  have O : ∀ x y : Nat, x < 4294967296 → y < 4294967296 → x ||| y < 4294967296 := fun x y hx hy => Nat.or_lt_two_pow (n := 32) hx hy
  have p0 : b0 < 4294967296 := by omega
  have p1 : b1 * 256 < 4294967296 := Nat.lt_of_le_of_lt (Nat.mul_le_mul_right 256 (show b1 ≤ 255 by omega)) (by decide)
  have p2 : b2 * 65536 < 4294967296 := Nat.lt_of_le_of_lt (Nat.mul_le_mul_right 65536 (show b2 ≤ 255 by omega)) (by decide)
  have p3 : b3 * 16777216 < 4294967296 := Nat.lt_of_le_of_lt (Nat.mul_le_mul_right 16777216 (show b3 ≤ 255 by omega)) (by decide)
  have pa : a < 4294967296 := by omega
  rw [m1, m2, m3, ← xor_fold, ← xor_fold, ← xor_fold, ← xor_fold, u32_or_nat _ _ p0 p1, u32_or_nat _ _ (O _ _ p0 p1) p2, u32_or_nat _ _ (O _ _ (O _ _ p0 p1) p2) p3, u32_xor_nat _ _ pa (O _ _ (O _ _ (O _ _ p0 p1) p2) p3),
    u32_xor_nat _ _ pa p0, u32_xor_nat _ _ (L _ _ pa p0) p1, u32_xor_nat _ _ (L _ _ (L _ _ pa p0) p1) p2, u32_xor_nat _ _ (L _ _ (L _ _ (L _ _ pa p0) p1) p2) p3, or4 a b0 b1 b2 b3 (by omega) (by omega) (by omega) (by omega)]
def W8.wset (s : W8) (q : Nat) (v : Int) : W8 := match q with
  | 0 => { s with x0 := v }
  | 1 => { s with x1 := v }
  | 2 => { s with x2 := v }
  | _ => { s with x3 := v }
theorem absN_four (z : Nat → Int) (s : W8) (n : Nat) : absN z s (n + 4) = ((((absN z s n).xat (n / 4) (mulF (n % 4) (z n))).xat ((n + 1) / 4) (mulF ((n + 1) % 4) (z (n + 1)))).xat ((n + 2) / 4) (mulF ((n + 2) % 4) (z (n + 2)))).xat ((n + 3) / 4) (mulF ((n + 3) % 4) (z (n + 3))) := rfl
theorem absN_word (z : Nat → Int) (s : W8) {q : Nat} (hq : q < 4) : absN z s (4 * q + 4) = (absN z s (4 * q)).wset q (xorW (xorW (xorW (xorW (wrd (absN z s (4 * q)) q) (z (4 * q))) (z (4 * q + 1) * 256)) (z (4 * q + 2) * 65536)) (z (4 * q + 3) * 16777216)) := by
  rw [absN_four]
  generalize absN z s (4 * q) = A
  have h : q = 0 ∨ q = 1 ∨ q = 2 ∨ q = 3 := by omega
  rcases h with rfl | rfl | rfl | rfl <;> rfl
theorem sumW_feed (S : W8) (b : List UInt8) : sumW (feed S b).1 (feed S b).2 = sumW S b := by
  unfold sumW pad16
  have hm := feed_mod S b
  have e : ((feed S b).2 ++ [128]).length % 16 = (b ++ [128]).length % 16 := by rw [List.length_append, List.length_append, hm]; simp
  rw [e, List.append_assoc, ← feed_append, ← List.append_assoc]
theorem pad16_append {P X : List UInt8} (h : P.length % 16 = 0) : pad16 (P ++ X) = P ++ pad16 X := by
  unfold pad16
  have : (P ++ X).length % 16 = X.length % 16 := by rw [List.length_append]; omega
  rw [this, List.append_assoc]
theorem raw_feed (key b : List UInt8) : mixW (feed zeroW (pad16 (pad16 (eightL key.length ++ key) ++ b ++ [128]))).1.one7 = sumW (initW key) b := by
  unfold sumW
  rw [List.append_assoc, pad16_append (pad16_mod _), feed_append, feed_full (pad16_mod _), List.nil_append]
  rfl
theorem size8' : (Try.prog.info? 25).map (·.size) = some 8 := size8
end Go.Proofs.Ytajombnckgehbaa
