/- Fermat's theorem; what follows of it for groups. -/
import Derived.Test.YtgccbfkofkohpaaGaGa
namespace Go.Proofs.Ytgccbfkofkohpaa
set_option linter.unusedVariables false
set_option maxRecDepth 20000
set_option linter.unusedSimpArgs false
def ch : Nat → Nat → Nat
  | _, 0 => 1
  | 0, _ + 1 => 0
  | n + 1, k + 1 => ch n k + ch n (k + 1)
def chS (a n : Nat) : Nat → Nat
  | 0 => 0
  | m + 1 => chS a n m + ch n m * a ^ m
theorem ch_zero (n : Nat) : ch n 0 = 1 := by cases n <;> rfl
theorem ch_succ (n k : Nat) : ch (n + 1) (k + 1) = ch n k + ch n (k + 1) := rfl
theorem ch_far : ∀ (n k : Nat), n < k → ch n k = 0
  | 0, 0, h => by omega
  | 0, k + 1, h => rfl
  | n + 1, 0, h => by omega
  | n + 1, k + 1, h => by rw [ch_succ, ch_far n k (by omega), ch_far n (k + 1) (by omega)]
theorem chS_step (a n : Nat) : ∀ m, chS a (n + 1) (m + 1) = chS a n (m + 1) + a * chS a n m
  | 0 => by simp [chS, ch_zero]
  | m + 1 => by
    have ih := chS_step a n m
    have e1 : chS a (n + 1) (m + 1 + 1) = chS a (n + 1) (m + 1) + ch (n + 1) (m + 1) * a ^ (m + 1) := rfl
    have e2 : chS a n (m + 1 + 1) = chS a n (m + 1) + ch n (m + 1) * a ^ (m + 1) := rfl
    have e3 : chS a n (m + 1) = chS a n m + ch n m * a ^ m := rfl
    rw [e1, ih, e2, ch_succ, Nat.add_mul]
    have e4 : a * chS a n (m + 1) = a * chS a n m + ch n m * a ^ (m + 1) := by
      rw [e3, Nat.mul_add, Nat.pow_succ, Nat.mul_left_comm, Nat.mul_comm a (a ^ m)]
    rw [e4]
    omega
theorem chS_all (a : Nat) : ∀ n, chS a n (n + 1) = (a + 1) ^ n
  | 0 => by simp [chS, ch]
  | n + 1 => by
    rw [chS_step, show chS a n (n + 1 + 1) = chS a n (n + 1) + ch n (n + 1) * a ^ (n + 1) from rfl, ch_far n (n + 1) (by omega), chS_all a n, Nat.zero_mul, Nat.add_zero, Nat.pow_succ, Nat.mul_add, Nat.mul_one, Nat.mul_comm a]
    exact Nat.add_comm _ _
theorem ch_absorb : ∀ (n k : Nat), (k + 1) * ch (n + 1) (k + 1) = (n + 1) * ch n k
  | 0, 0 => rfl
  | 0, k + 1 => by simp [ch]
  | n + 1, 0 => by
    have ih := ch_absorb n 0
    simp only [Nat.zero_add, Nat.one_mul, ch_zero, Nat.mul_one] at ih ⊢
    rw [ch_succ, ch_zero, show (0 : Nat) + 1 = 1 from rfl, ih]; omega
  | n + 1, k + 1 => by
    have i1 := ch_absorb n k
    have i2 := ch_absorb n (k + 1)
    rw [ch_succ (n + 1) (k + 1), Nat.mul_add, i2, Nat.add_mul (k + 1) 1, i1, Nat.one_mul, ch_succ n k, Nat.add_mul (n + 1) 1, Nat.mul_add (n + 1)]
    omega
/-- What is no divisor's multiple is coprime. -/
theorem coprime_of {p k : Nat} (hp : ∀ d, 2 ≤ d → d < p → p % d ≠ 0) (h0 : 0 < k) (hk : k < p) : Nat.Coprime p k := by
  have h1 := Nat.gcd_dvd_left p k
  have h2 := Nat.gcd_dvd_right p k
  have h3 := Nat.le_of_dvd h0 h2
  have h4 : 0 < Nat.gcd p k := Nat.gcd_pos_of_pos_right _ h0
  unfold Nat.Coprime
  refine Nat.le_antisymm (Nat.le_of_not_lt fun h => ?_) h4
  exact hp (Nat.gcd p k) h (by omega) (Nat.mod_eq_zero_of_dvd h1)
theorem chS_mod {p a : Nat} (hp : ∀ d, 2 ≤ d → d < p → p % d ≠ 0) (h2 : 2 ≤ p) : ∀ m, m < p → chS a p (m + 1) % p = 1
  | 0, _ => by simp [chS, ch_zero, Nat.mod_eq_of_lt h2]
  | m + 1, h => by
    have ih := chS_mod (a := a) hp h2 m (by omega)
    have e : chS a p (m + 1 + 1) = chS a p (m + 1) + ch p (m + 1) * a ^ (m + 1) := rfl
    have hd : p ∣ ch p (m + 1) := by
      obtain ⟨n, rfl⟩ : ∃ n, p = n + 1 := ⟨p - 1, by omega⟩
      have := ch_absorb n m
      refine Nat.Coprime.dvd_of_dvd_mul_left (coprime_of hp (Nat.succ_pos m) h) ⟨ch n m, this⟩
    rw [e, Nat.add_mod, ih, Nat.mod_eq_zero_of_dvd (Nat.dvd_mul_right_of_dvd hd _), Nat.add_zero, Nat.mod_eq_of_lt h2]
/-- **Fermat.** -/
theorem fermat {p : Nat} (hp : ∀ d, 2 ≤ d → d < p → p % d ≠ 0) (h2 : 2 ≤ p) : ∀ a, a ^ p % p = a % p
  | 0 => by rw [Nat.zero_pow (by omega)]
  | a + 1 => by
    obtain ⟨n, rfl⟩ : ∃ n, p = n + 1 := ⟨p - 1, by omega⟩
    have h1 := chS_mod (a := a) hp h2 n (by omega)
    have e : chS a (n + 1) (n + 1 + 1) = chS a (n + 1) (n + 1) + ch (n + 1) (n + 1) * a ^ (n + 1) := rfl
    have h3 : ∀ m, ch m m = 1 := fun m => by
      induction m with
      | zero => rfl
      | succ m ih => rw [ch_succ, ih, ch_far m (m + 1) (by omega)]
    rw [← chS_all, e, h3, Nat.one_mul, Nat.add_mod, h1, fermat hp h2 a, Nat.add_comm, Nat.mod_add_mod]
theorem fermat1 {p : Nat} (hp : ∀ d, 2 ≤ d → d < p → p % d ≠ 0) (h2 : 2 ≤ p) {a : Nat} (ha : a % p ≠ 0) : a ^ (p - 1) % p = 1 := by
  obtain ⟨n, rfl⟩ : ∃ n, p = n + 1 := ⟨p - 1, by omega⟩
  have h := fermat hp h2 a
  have hc : Nat.Coprime (n + 1) a := by
    unfold Nat.Coprime
    rw [Nat.gcd_rec]
    exact (coprime_of hp (by omega) (Nat.mod_lt _ (by omega))).symm
  rw [Nat.add_sub_cancel]
  have h0 : 0 < a ^ n := Nat.pow_pos (Nat.pos_of_ne_zero fun e => ha (by rw [e, Nat.zero_mod]))
  have hd : (n + 1) ∣ a * (a ^ n - 1) := by
    rw [Nat.mul_sub, Nat.mul_one, Nat.mul_comm, ← Nat.pow_succ]
    exact Nat.dvd_of_mod_eq_zero (Nat.sub_mod_eq_zero_of_mod_eq h)
  have := Nat.Coprime.dvd_of_dvd_mul_left hc hd
  obtain ⟨q, hq⟩ := this
  rw [show a ^ n = 1 + (n + 1) * q by omega, Nat.add_mul_mod_self_left, Nat.mod_eq_of_lt h2]
open Classical in
theorem noDiv_of {p : Nat} (h : primeB (p : Int) = true) : 2 ≤ p ∧ ∀ d, 2 ≤ d → d < p → p % d ≠ 0 := by
  unfold primeB at h
  obtain ⟨h1, -, h2⟩ := of_decide_eq_true h
  refine ⟨by omega, fun d d1 d2 hd => ?_⟩
  have key : ∀ d : Nat, 2 ≤ d → d * d ≤ p → p % d ≠ 0 := fun d e1 e2 e3 => h2 (d : Int) (by omega) (by exact_mod_cast e2) (by exact_mod_cast e3)
  obtain ⟨e, rfl⟩ := Nat.dvd_of_mod_eq_zero hd
  have e2 : 2 ≤ e := by
    rcases e with _ | _ | e
    · omega
    · omega
    · omega
  by_cases c : d ≤ e
  · exact key d d1 (Nat.mul_le_mul_left d c) hd
  · exact key e e2 (Nat.mul_le_mul_right e (by omega)) (Nat.mul_mod_left _ _)
/-- A square by P, raised to Q. -/
theorem square_one {p : Nat} (hp : primeB (p : Int) = true) (ho : p % 2 = 1) {n : Nat} (hn : n * n % p ≠ 0) : (n * n % p) ^ (p / 2) % p = 1 := by
  obtain ⟨h2, hd⟩ := noDiv_of hp
  have h1 : n % p ≠ 0 := fun e => hn (by rw [Nat.mul_mod, e, Nat.zero_mul, Nat.zero_mod])
  rw [← Nat.pow_mod, ← Nat.pow_two, ← Nat.pow_mul, show 2 * (p / 2) = p - 1 by omega]
  exact fermat1 hd h2 h1
/-- Euclid. -/
theorem prime_mul {q a b : Nat} (hq : primeB (q : Int) = true) (ha : a % q ≠ 0) (hb : b % q ≠ 0) : a * b % q ≠ 0 := fun h => by
  obtain ⟨h2, hd⟩ := noDiv_of hq
  have hc : Nat.Coprime q a := by
    unfold Nat.Coprime
    rw [Nat.gcd_rec]
    exact (coprime_of hd (by omega) (Nat.mod_lt _ (by omega))).symm
  exact hb (Nat.mod_eq_zero_of_dvd (Nat.Coprime.dvd_of_dvd_mul_left hc (Nat.dvd_of_mod_eq_zero h)))
/-- An exponent may be taken by Q. -/
theorem pow_by {p q x : Nat} (h2 : 1 < p) (hx : x ^ q % p = 1) (m : Nat) : x ^ (m % q) % p = x ^ m % p := by
  have e : x ^ m = x ^ (m % q) * (x ^ q) ^ (m / q) := by rw [← Nat.pow_mul, ← Nat.pow_add, Nat.mod_add_div]
  have h1 : (x ^ q) ^ (m / q) % p = 1 := by rw [Nat.pow_mod, hx, Nat.one_pow, Nat.mod_eq_of_lt h2]
  rw [e, Nat.mul_mod, h1, Nat.mul_one, Nat.mod_mod]
end Go.Proofs.Ytgccbfkofkohpaa
