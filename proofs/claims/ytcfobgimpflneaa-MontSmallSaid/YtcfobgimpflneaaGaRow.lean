/- Rows of Euclid's way. -/
import Derived.Test.YtcfobgimpflneaaMtShl
import Derived.Test.YtcfobgimpflneaaGaNum
namespace Go.Proofs.Ytcfobgimpflneaa
set_option linter.unusedVariables false
set_option linter.unusedSimpArgs false
open Go.ChangeShapes Go.WideShapes Go.ChangeAt Go.RowKit
def mrowA (r t : Nat) : Array Value := #[numF r 0, numF r 1, numF r 2, numF r 3, numF r 4, numF r 5, numF r 6, numF r 7, numF t 0, numF t 1, numF t 2, numF t 3, numF t 4, numF t 5, numF t 6, numF t 7]
theorem mrowA_size (r t : Nat) : (mrowA r t).size = 16 := rfl
theorem size_mrow : (Try.prog.info? 67).map (·.size) = some 16 := by kernel_rfl
theorem mrowA_zero : mrowA 0 0 = #[.int .u32 0, .int .u32 0, .int .u32 0, .int .u32 0, .int .u32 0, .int .u32 0, .int .u32 0, .int .u32 0, .int .u32 0, .int .u32 0, .int .u32 0, .int .u32 0, .int .u32 0, .int .u32 0, .int .u32 0, .int .u32 0] := by unfold mrowA; simp only [numF_none]
theorem mrowA_cells (r t : Nat) : (mrowA r t).all (·.oneCell') = true := by simp [mrowA, numF, Value.oneCell']
theorem mrowA_r {r t : Nat} (j : Nat) (v : Value) (h : (numA r)[j]? = some v) : (mrowA r t)[0 + j]? = some v := by
  have hj := (Array.getElem?_eq_some_iff.1 h).1
  rw [numA_size] at hj
  rw [Nat.zero_add, ← h]
  have : j = 0 ∨ j = 1 ∨ j = 2 ∨ j = 3 ∨ j = 4 ∨ j = 5 ∨ j = 6 ∨ j = 7 := by omega
  rcases this with rfl | rfl | rfl | rfl | rfl | rfl | rfl | rfl <;> rfl
theorem mrowA_t {r t : Nat} (j : Nat) (v : Value) (h : (numA t)[j]? = some v) : (mrowA r t)[8 + j]? = some v := by
  have hj := (Array.getElem?_eq_some_iff.1 h).1
  rw [numA_size] at hj
  rw [← h]
  have : j = 0 ∨ j = 1 ∨ j = 2 ∨ j = 3 ∨ j = 4 ∨ j = 5 ∨ j = 6 ∨ j = 7 := by omega
  rcases this with rfl | rfl | rfl | rfl | rfl | rfl | rfl | rfl <;> rfl
/-- How far up the one that is taken off is shifted at first. -/
theorem wo_pack {A B : Nat} (hA : A < 4294967296 ^ 8) (h0 : 0 < B) (hBA : B ≤ A) : ∃ (KA KB : Int) (K : Nat), topI A 8 = KA ∧ topI B 8 = KB ∧ KA - KB = (K : Int) ∧ K ≤ 255 ∧ A < B * 2 ^ (K + 1) ∧ B * 2 ^ K < 4294967296 ^ 8 := by
  have at1 : ∀ a, 0 < a → ∃ k, a / 2 ^ k = 1 := fun a ha => by
    refine ⟨Nat.log2 a, ?_⟩
    have h1 := Nat.log2_self_le (n := a) (by omega)
    have h2 := Nat.lt_log2_self (n := a)
    rw [Nat.pow_succ] at h2
    exact Nat.div_eq_of_lt_le (by omega) (by omega)
  obtain ⟨p, hp⟩ := at1 A (by omega)
  obtain ⟨q, hq⟩ := at1 B h0
  have e1 := top_one hA hp
  have e2 := top_one (Nat.lt_of_le_of_lt hBA hA) hq
  have pp : 0 < 2 ^ p := Nat.pow_pos (by decide)
  have pq : 0 < 2 ^ q := Nat.pow_pos (by decide)
  have a1 : 2 ^ p ≤ A := by have := Nat.div_add_mod A (2 ^ p); rw [hp] at this; omega
  have a2 : A < 2 ^ p * 2 := by have := Nat.div_add_mod A (2 ^ p); have := Nat.mod_lt A pp; rw [hp] at *; omega
  have b1 : 2 ^ q ≤ B := by have := Nat.div_add_mod B (2 ^ q); rw [hq] at this; omega
  have b2 : B < 2 ^ q * 2 := by have := Nat.div_add_mod B (2 ^ q); have := Nat.mod_lt B pq; rw [hq] at *; omega
  have hqp : q ≤ p := by
    refine Nat.le_of_not_lt fun h => ?_
    have : 2 ^ (p + 1) ≤ 2 ^ q := Nat.pow_le_pow_right (by decide) h
    rw [Nat.pow_succ] at this
    omega
  have hp255 : p ≤ 255 := by
    refine Nat.le_of_not_lt fun h => ?_
    have : 2 ^ 256 ≤ 2 ^ p := Nat.pow_le_pow_right (by decide) h
    rw [big_eq] at hA
    omega
  refine ⟨_, _, p - q, e1, e2, by omega, by omega, ?_, ?_⟩
  · have e : 2 ^ p = 2 ^ q * 2 ^ (p - q) := by rw [← Nat.pow_add]; congr 1; omega
    rw [e] at a2
    have : 2 ^ q * 2 ^ (p - q) * 2 ≤ B * 2 ^ (p - q) * 2 := Nat.mul_le_mul_right _ (Nat.mul_le_mul_right _ b1)
    rw [Nat.pow_succ, ← Nat.mul_assoc]
    omega
  · have e : 2 ^ (p + 1) = 2 ^ q * 2 * 2 ^ (p - q) := by rw [Nat.mul_right_comm, ← Nat.pow_add, ← Nat.pow_succ]; congr 1; omega
    have h1 : B * 2 ^ (p - q) < 2 ^ q * 2 * 2 ^ (p - q) := Nat.mul_lt_mul_of_pos_right b2 (Nat.pow_pos (by decide))
    rw [← e] at h1
    have h2 : 2 ^ (p + 1) ≤ 2 ^ 256 := Nat.pow_le_pow_right (by decide) (by omega)
    rw [big_eq]
    omega
/-- A round. -/
theorem wo_step {A B ta tb q R j K : Nat} (hj : j ≤ K) (h0 : 0 < B) (hK : B * 2 ^ K < 4294967296 ^ 8) (hA : A = R + q * B) (hR : R < B * 2 ^ (j + 1)) (hAP : A < 4294967296 ^ 8) (hT : ta + A / B * tb < 4294967296 ^ 8) :
    B * 2 ^ j % 4294967296 ^ 8 = B * 2 ^ j ∧ B * 2 ^ j < 4294967296 ^ 8 ∧
    ((B * 2 ^ j ≤ R ∧ lentI R (B * 2 ^ j) = 0 ∧ subN R (B * 2 ^ j) = R - B * 2 ^ j ∧ A = (R - B * 2 ^ j) + (q + 2 ^ j) * B ∧ R - B * 2 ^ j < B * 2 ^ j ∧ tb * 2 ^ j % 4294967296 ^ 8 = tb * 2 ^ j ∧ ta + q * tb + tb * 2 ^ j = ta + (q + 2 ^ j) * tb ∧ ta + q * tb < 4294967296 ^ 8 ∧ tb * 2 ^ j < 4294967296 ^ 8) ∨
     (R < B * 2 ^ j ∧ lentI R (B * 2 ^ j) = 1)) := by
  have hb : B * 2 ^ j < 4294967296 ^ 8 := Nat.lt_of_le_of_lt (Nat.mul_le_mul_left _ (Nat.pow_le_pow_right (by decide) hj)) hK
  refine ⟨Nat.mod_eq_of_lt hb, hb, ?_⟩
  rcases Nat.lt_or_ge R (B * 2 ^ j) with h | h
  · exact .inr ⟨h, by unfold lentI; rw [if_neg (by omega)]⟩
  · have hq : A = (R - B * 2 ^ j) + (q + 2 ^ j) * B := by
      rw [Nat.add_mul, Nat.mul_comm (2 ^ j) B]; omega
    have hle : q + 2 ^ j ≤ A / B := (Nat.le_div_iff_mul_le h0).2 (by omega)
    have hm : (q + 2 ^ j) * tb ≤ A / B * tb := Nat.mul_le_mul_right _ hle
    have hd : (q + 2 ^ j) * tb = q * tb + tb * 2 ^ j := by rw [Nat.add_mul, Nat.mul_comm (2 ^ j)]
    have ht : tb * 2 ^ j < 4294967296 ^ 8 := by omega
    refine .inl ⟨h, by unfold lentI; rw [if_pos h], by unfold subN; rw [if_pos h], hq, ?_, Nat.mod_eq_of_lt ht, ?_, by omega, ht⟩
    · rw [Nat.pow_succ, ← Nat.mul_assoc] at hR
      omega
    · rw [hd]; omega
theorem wo_end {A B R q : Nat} (h0 : 0 < B) (hA : A = R + q * B) (hR : R < B * 2 ^ 0) : R = A % B ∧ q = A / B := by
  rw [Nat.pow_zero, Nat.mul_one] at hR
  rw [hA]
  constructor
  · rw [Nat.add_mul_mod_self_right, Nat.mod_eq_of_lt hR]
  · rw [Nat.add_mul_div_right _ _ h0, Nat.div_eq_of_lt hR, Nat.zero_add]
end Go.Proofs.Ytcfobgimpflneaa
namespace Go.Proofs.Ytcfobgimpflneaa
set_option linter.unusedVariables false
set_option linter.unusedSimpArgs false
open Go.ChangeShapes Go.WideShapes Go.ChangeAt Go.RowKit
/-- Whether there is an inverse; the inverse, or 0. -/
def invB (a m : Nat) : Bool := decide (2 ≤ m ∧ Nat.gcd m a = 1)
noncomputable def invN (a m : Nat) : Nat := open Classical in if h : ∃ y, 2 ≤ m ∧ y < m ∧ a * y % m = 1 then Classical.choose h else 0
theorem gcd_of_inv {a m y : Nat} (h2 : 2 ≤ m) (h : a * y % m = 1) : Nat.gcd m a = 1 := by
  have hd1 : Nat.gcd m a ∣ m := Nat.gcd_dvd_left _ _
  have hd2 : Nat.gcd m a ∣ a * y := Nat.dvd_mul_right_of_dvd (Nat.gcd_dvd_right _ _) _
  have hd3 : Nat.gcd m a ∣ a * y % m := (Nat.dvd_mod_iff hd1).2 hd2
  rw [h] at hd3
  exact Nat.dvd_one.1 hd3
theorem inv_same {a m x y : Nat} (h2 : 2 ≤ m) (hx : x < m) (hy : y < m) (h1 : a * x % m = 1) (h3 : a * y % m = 1) : x = y := by
  have e1 : y * (a * x) % m = y := by rw [Nat.mul_mod, h1, Nat.mul_one, Nat.mod_mod, Nat.mod_eq_of_lt hy]
  have e2 : x * (a * y) % m = x := by rw [Nat.mul_mod, h3, Nat.mul_one, Nat.mod_mod, Nat.mod_eq_of_lt hx]
  have e3 : x * (a * y) = y * (a * x) := by grind
  rw [e3, e1] at e2
  exact e2.symm
theorem inv_yes {a m y : Nat} (h2 : 2 ≤ m) (hy : y < m) (h : a * y % m = 1) : invN a m = y ∧ invB a m = true := by
  constructor
  · unfold invN
    have hE : ∃ y, 2 ≤ m ∧ y < m ∧ a * y % m = 1 := ⟨y, h2, hy, h⟩
    rw [dif_pos hE]
    obtain ⟨-, c1, c2⟩ := Classical.choose_spec hE
    exact inv_same h2 c1 hy c2 h
  · unfold invB
    exact decide_eq_true ⟨h2, gcd_of_inv h2 h⟩
theorem inv_no {a m : Nat} (h : invB a m = false) : invN a m = 0 := by
  unfold invN
  rw [dif_neg]
  rintro ⟨y, h2, -, h3⟩
  unfold invB at h
  rw [decide_eq_true ⟨h2, gcd_of_inv h2 h3⟩] at h
  cases h
/-- Where Euclid's way stands. -/
structure Euc (a m A ta B tb : Nat) (s : Int) : Prop where
  lt : B < A
  am : A ≤ m
  sum : ta * B + tb * A = m
  le : ta ≤ m
  g : Nat.gcd A B = Nat.gcd m a
  hs : s = 1 ∨ s = -1
  e1 : ∃ z : Int, (a : Int) * tb = s * B + m * z
  e2 : ∃ z : Int, (a : Int) * ta = -s * A + m * z
theorem euc_first (a : Nat) {m : Nat} (h0 : 0 < m) : Euc a m m 0 (a % m) 1 1 where
  lt := Nat.mod_lt _ h0
  am := Nat.le_refl _
  sum := by omega
  le := by omega
  g := by rw [Nat.gcd_comm, ← Nat.gcd_rec]
  hs := .inl rfl
  e1 := ⟨(a / m : Nat), by
    have := Nat.div_add_mod a m
    have h : ((a : Nat) : Int) = ((m * (a / m) + a % m : Nat) : Int) := by rw [this]
    rw [Int.natCast_add, Int.natCast_mul] at h
    rw [h]; simp; omega⟩
  e2 := ⟨1, by simp; omega⟩
theorem Euc.tb_le {a m A ta B tb : Nat} {s : Int} (h : Euc a m A ta B tb s) : tb ≤ m := by
  have h1 := h.sum
  have h2 : tb * 1 ≤ tb * A := Nat.mul_le_mul_left _ (by have := h.lt; omega)
  omega
theorem Euc.next {a m A ta B tb : Nat} {s : Int} (h : Euc a m A ta B tb s) (h0 : 0 < B) : Euc a m B tb (A % B) (ta + A / B * tb) (-s) := by
  have hd := Nat.div_add_mod A B
  refine ⟨Nat.mod_lt _ h0, by have := h.lt; have := h.am; omega, ?_, h.tb_le, ?_, by have := h.hs; omega, ?_, ?_⟩
  · rw [← h.sum]
    generalize A % B = R at *
    generalize A / B = q at *
    rw [← hd]
    grind
  · rw [← h.g, Nat.gcd_comm, ← Nat.gcd_rec, Nat.gcd_comm]
  · obtain ⟨z1, h1⟩ := h.e1
    obtain ⟨z2, h2⟩ := h.e2
    have hdi : (A : Int) = (B : Int) * ((A / B : Nat) : Int) + ((A % B : Nat) : Int) := by rw [← Int.natCast_mul, ← Int.natCast_add, hd]
    refine ⟨z2 + ((A / B : Nat) : Int) * z1, ?_⟩
    rw [Int.natCast_add, Int.natCast_mul]
    generalize ((A / B : Nat) : Int) = q at *
    generalize ((A % B : Nat) : Int) = R at *
    grind
  · obtain ⟨z1, h1⟩ := h.e1
    exact ⟨z1, by rw [h1]; grind⟩
theorem Euc.bd {a m A ta B tb : Nat} {s : Int} (h : Euc a m A ta B tb s) (h0 : 0 < B) : ta + A / B * tb ≤ m := (h.next h0).tb_le
theorem one_mod {m y : Nat} (h2 : 2 ≤ m) {z : Int} {a : Nat} (h : (a : Int) * y = 1 + m * z) : a * y % m = 1 := by
  have h1 : ((a * y : Nat) : Int) % m = 1 := by
    rw [Int.natCast_mul, h, Int.add_mul_emod_self_left]
    exact Int.emod_eq_of_lt (by decide) (by omega)
  exact_mod_cast h1
theorem Euc.last {a m A ta tb : Nat} {s : Int} (h : Euc a m A ta 0 tb s) (hmP : m < 4294967296 ^ 8) :
    (A = 1 ∧ m ≠ 1 ∧ (s = 1 ∧ subN m ta = invN a m ∨ s = -1 ∧ ta = invN a m) ∧ invB a m = true) ∨ ((A ≠ 1 ∨ m = 1) ∧ invB a m = false ∧ invN a m = 0) := by
  have hg := h.g
  rw [Nat.gcd_zero_right] at hg
  have hA := h.lt
  have hAm := h.am
  by_cases h1 : A = 1 ∧ m ≠ 1
  · obtain ⟨hA1, hm1⟩ := h1
    have h2 : 2 ≤ m := by omega
    obtain ⟨z, hz⟩ := h.e2
    rw [hA1] at hz
    have hle := h.le
    refine .inl ⟨hA1, hm1, ?_⟩
    rcases h.hs with rfl | rfl
    · have e : (a : Int) * ((m - ta : Nat) : Int) = 1 + m * ((a : Int) - z) := by
        rw [Int.ofNat_sub hle]
        grind
      have hne : ta ≠ 0 := fun h0 => by
        rw [h0] at hz
        have : (m : Int) ∣ 1 := ⟨z, by simp at hz; omega⟩
        have := Int.le_of_dvd (by decide) this
        omega
      have := inv_yes h2 (y := m - ta) (by omega) (one_mod h2 e)
      exact ⟨.inl ⟨rfl, by unfold subN; rw [if_pos hle, this.1]⟩, this.2⟩
    · have e : (a : Int) * (ta : Int) = 1 + m * z := by rw [hz]; simp
      have hne : ta ≠ m := fun h0 => by
        rw [h0] at e
        have : (m : Int) ∣ 1 := ⟨(a : Int) - z, by rw [Int.mul_sub]; have := Int.mul_comm (a : Int) m; omega⟩
        have := Int.le_of_dvd (by decide) this
        omega
      have := inv_yes h2 (y := ta) (by omega) (one_mod h2 e)
      exact ⟨.inr ⟨rfl, this.1.symm⟩, this.2⟩
  · have hb : invB a m = false := by
      unfold invB
      exact decide_eq_false (by omega)
    exact .inr ⟨by omega, hb, inv_no hb⟩
theorem inv_zero (a : Nat) : invB a 0 = false ∧ invN a 0 = 0 := by
  have : invB a 0 = false := by unfold invB; exact decide_eq_false (by omega)
  exact ⟨this, inv_no this⟩
end Go.Proofs.Ytcfobgimpflneaa
