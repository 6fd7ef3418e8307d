/- Montgomery's numbers: halved 256 times by an odd number; what times odd is less by one than 2^32. -/
import Derived.WalkKit
import Derived.Test.YtgccbfkofkohpaaGaNum
namespace Go.Proofs.Ytgccbfkofkohpaa
set_option linter.unusedVariables false
set_option maxRecDepth 20000
set_option linter.unusedSimpArgs false
/-- A number halved, by an odd one. -/
def hfM (m a : Nat) : Nat := if a % 2 = 1 then (a + m) / 2 else a / 2
def hvM (m : Nat) : Nat → Nat → Nat
  | 0, a => a
  | k + 1, a => hvM m k (hfM m a)
theorem hfM_spec {m : Nat} (hm : m % 2 = 1) (a : Nat) : 2 * hfM m a = a ∨ 2 * hfM m a = a + m := by
  unfold hfM; split <;> omega
theorem hfM_lt {m a : Nat} (ha : a < m) : hfM m a < m := by unfold hfM; split <;> omega
theorem hfM_mod {m : Nat} (hm : m % 2 = 1) (a : Nat) : 2 * hfM m a % m = a % m := by
  rcases hfM_spec hm a with h | h
  · rw [h]
  · rw [h, Nat.add_mod_right]
theorem hvM_lt {m : Nat} : ∀ (k a : Nat), a < m → hvM m k a < m
  | 0, a, h => h
  | k + 1, a, h => hvM_lt k _ (hfM_lt h)
theorem hvM_mod {m : Nat} (hm : m % 2 = 1) : ∀ (k a : Nat), 2 ^ k * hvM m k a % m = a % m
  | 0, a => by simp [hvM]
  | k + 1, a => by
    have ih := hvM_mod hm k (hfM m a)
    show 2 ^ (k + 1) * hvM m k (hfM m a) % m = a % m
    rw [Nat.pow_succ, Nat.mul_comm (2 ^ k) 2, Nat.mul_assoc, Nat.mul_mod, ih, ← Nat.mul_mod, hfM_mod hm]
theorem hvM_succ (m : Nat) : ∀ (k a : Nat), hvM m (k + 1) a = hfM m (hvM m k a)
  | 0, a => rfl
  | k + 1, a => by rw [hvM, hvM_succ m k]; rfl
theorem two_cancel {m x y : Nat} (hm : m % 2 = 1) (h : 2 * x % m = 2 * y % m) : x % m = y % m := by
  have e : ∀ z, z % m = 2 * z * ((m + 1) / 2) % m := fun z => by
    have h1 : 2 * z * ((m + 1) / 2) = z * (m + 1) := by
      rw [Nat.mul_comm 2 z, Nat.mul_assoc]
      congr 1
      omega
    rw [h1, Nat.mul_succ, Nat.mul_comm z m, Nat.add_comm, Nat.add_mul_mod_self_left]
  rw [e x, e y, Nat.mul_mod, h, ← Nat.mul_mod]
theorem pow_cancel {m : Nat} (hm : m % 2 = 1) : ∀ (k x y : Nat), 2 ^ k * x % m = 2 ^ k * y % m → x % m = y % m
  | 0, x, y, h => by simpa using h
  | k + 1, x, y, h => by
    refine pow_cancel hm k x y (two_cancel hm ?_)
    rw [← Nat.mul_assoc, ← Nat.mul_assoc, Nat.mul_comm 2 (2 ^ k), ← Nat.pow_succ]
    exact h
theorem big_eq : (4294967296 : Nat) ^ 8 = 2 ^ 256 := by rw [show (4294967296 : Nat) = 2 ^ 32 from rfl, ← Nat.pow_mul]
/-- What times 2^256 leaves x, by m. -/
def mm (m x : Nat) : Nat := hvM m 256 (x % m)
theorem mm_lt {m : Nat} (h0 : 0 < m) (x : Nat) : mm m x < m := hvM_lt _ _ (Nat.mod_lt _ h0)
theorem mm_spec {m : Nat} (hm : m % 2 = 1) (x : Nat) : 4294967296 ^ 8 * mm m x % m = x % m := by
  unfold mm
  rw [big_eq, hvM_mod hm, Nat.mod_mod]
theorem mm_unique {m r x : Nat} (hm : m % 2 = 1) (hr : r < m) (h : 4294967296 ^ 8 * r % m = x % m) : r = mm m x := by
  have h1 := mm_spec hm x
  have h2 : r % m = mm m x % m := by
    refine pow_cancel hm 256 r (mm m x) ?_
    rw [← big_eq, h, h1]
  rwa [Nat.mod_eq_of_lt hr, Nat.mod_eq_of_lt (mm_lt (by omega) x)] at h2
theorem mm_congr {m x y : Nat} (h : x % m = y % m) : mm m x = mm m y := by unfold mm; rw [h]
attribute [irreducible] mm
/-- In, Out: R is what 2^256 leaves, Two what its square leaves. -/
theorem mm_in {m : Nat} (hm : m % 2 = 1) (a two : Nat) (h2 : two = 4294967296 ^ 8 * 4294967296 ^ 8 % m) : mm m (a * two) = a * 4294967296 ^ 8 % m := by
  refine (mm_unique hm (Nat.mod_lt _ (by omega)) ?_).symm
  rw [h2, Nat.mul_mod, Nat.mod_mod, ← Nat.mul_mod, Nat.mul_mod a, Nat.mod_mod, ← Nat.mul_mod]
  congr 1
  rw [Nat.mul_left_comm]
theorem mm_out {m : Nat} (hm : m % 2 = 1) (a : Nat) : mm m (a * 4294967296 ^ 8 % m) = a % m := by
  refine (mm_unique hm (Nat.mod_lt _ (by omega)) ?_).symm
  rw [Nat.mul_mod, Nat.mod_mod, ← Nat.mul_mod, Nat.mod_mod, Nat.mul_comm]
/-- One step towards an inverse by 2^32. -/
def nxI (o x : Int) : Int := x * ((2 - o * x) % 4294967296) % 4294967296
theorem nx_spec {o x d : Int} (hd : d * d ∣ 4294967296) (h : d ∣ 1 - o * x) : d * d ∣ 1 - o * nxI o x := by
  obtain ⟨k, hk⟩ := h
  obtain ⟨q, hq⟩ := hd
  obtain ⟨p2, h2⟩ : ∃ p, (2 - o * x) % 4294967296 = (2 - o * x) - 4294967296 * p := ⟨_, by rw [Int.emod_def]⟩
  obtain ⟨p3, h3⟩ : ∃ p, nxI o x = x * ((2 - o * x) % 4294967296) - 4294967296 * p := ⟨_, by unfold nxI; rw [Int.emod_def]⟩
  rw [h3, h2]
  refine ⟨k * k + q * (o * x * p2 + o * p3), ?_⟩
  have e : 1 - o * (x * (2 - o * x - 4294967296 * p2) - 4294967296 * p3) = (1 - o * x) * (1 - o * x) + 4294967296 * (o * x * p2 + o * p3) := by grind
  rw [e, hk, hq]
  grind
theorem inv_unique {o x y : Int} (hx : 4294967296 ∣ 1 - o * x) (hy : 4294967296 ∣ 1 - o * y) (x0 : 0 ≤ x) (x1 : x < 4294967296) (y0 : 0 ≤ y) (y1 : y < 4294967296) : x = y := by
  obtain ⟨a, ha⟩ := hx
  obtain ⟨b, hb⟩ := hy
  have e : x - y = 4294967296 * (x * b - y * a) := by
    have h1 : x * (1 - o * y) = x * (4294967296 * b) := by rw [hb]
    have h2 : y * (1 - o * x) = y * (4294967296 * a) := by rw [ha]
    have h3 : x * (o * y) = y * (o * x) := by simp only [Int.mul_assoc, Int.mul_left_comm, Int.mul_comm]
    have h4 : x * (4294967296 * b) = 4294967296 * (x * b) := by rw [Int.mul_left_comm]
    have h5 : y * (4294967296 * a) = 4294967296 * (y * a) := by rw [Int.mul_left_comm]
    rw [Int.mul_sub, Int.mul_one] at h1 h2
    omega
  omega
end Go.Proofs.Ytgccbfkofkohpaa
namespace Go.Proofs.Ytgccbfkofkohpaa
set_option linter.unusedVariables false
set_option maxRecDepth 20000
set_option linter.unusedSimpArgs false
open Go.ChangeShapes Go.WideShapes Go.ChangeAt Go.RowKit
def itI (o : Int) : Nat → Int → Int
  | 0, x => x
  | k + 1, x => nxI o (itI o k x)
theorem nx_bd (o x : Int) : 0 ≤ nxI o x ∧ nxI o x < 4294967296 := by unfold nxI; omega
theorem itI_bd {o x : Int} (h : 0 ≤ x ∧ x < 4294967296) : ∀ k, 0 ≤ itI o k x ∧ itI o k x < 4294967296
  | 0 => h
  | k + 1 => nx_bd _ _
/-- What times an odd number is less by one than 2^32. -/
def ngI (o : Int) : Int := -(itI o 4 o) % 4294967296
theorem odd_eight {o : Int} (h : o % 2 = 1) : (8 : Int) ∣ 1 - o * o := by
  obtain ⟨k, hk⟩ : ∃ k, o = 2 * k + 1 := ⟨o / 2, by omega⟩
  obtain ⟨j, hj⟩ : ∃ j, k * (k + 1) = 2 * j := by
    have : k % 2 = 0 ∨ k % 2 = 1 := by omega
    rcases this with h | h
    · obtain ⟨q, hq⟩ : ∃ q, k = 2 * q := ⟨k / 2, by omega⟩
      exact ⟨q * (k + 1), by rw [hq]; grind⟩
    · obtain ⟨q, hq⟩ : ∃ q, k + 1 = 2 * q := ⟨(k + 1) / 2, by omega⟩
      exact ⟨k * q, by rw [hq]; grind⟩
  refine ⟨-j, ?_⟩
  have : 1 - o * o = -4 * (k * (k + 1)) := by rw [hk]; grind
  rw [this, hj]
  omega
theorem neg_inv {o : Int} (h : o % 2 = 1) : (4294967296 : Int) ∣ 1 - o * itI o 4 o := by
  have a0 := odd_eight h
  have a1 : (64 : Int) ∣ 1 - o * itI o 1 o := nx_spec (d := 8) (by decide) a0
  have a2 : (4096 : Int) ∣ 1 - o * itI o 2 o := nx_spec (d := 64) (by decide) a1
  have a3 : (16777216 : Int) ∣ 1 - o * itI o 3 o := nx_spec (d := 4096) (by decide) a2
  exact nx_spec (d := 65536) (by decide) (Int.dvd_trans (by decide) a3)
theorem one_inv {o : Int} (h : o % 2 = 1) : (4294967296 : Int) ∣ 1 - o * itI o 5 1 := by
  have a0 : (2 : Int) ∣ 1 - o * itI o 0 1 := by show (2 : Int) ∣ 1 - o * 1; omega
  have a1 : (4 : Int) ∣ 1 - o * itI o 1 1 := nx_spec (d := 2) (by decide) a0
  have a2 : (16 : Int) ∣ 1 - o * itI o 2 1 := nx_spec (d := 4) (by decide) a1
  have a3 : (256 : Int) ∣ 1 - o * itI o 3 1 := nx_spec (d := 16) (by decide) a2
  have a4 : (65536 : Int) ∣ 1 - o * itI o 4 1 := nx_spec (d := 256) (by decide) a3
  exact nx_spec (d := 65536) (by decide) a4
theorem ng_same {o : Int} (h : o % 2 = 1) (h0 : 0 ≤ o) (h1 : o < 4294967296) : -(itI o 5 1) % 4294967296 = ngI o := by
  unfold ngI
  have b1 := itI_bd (o := o) (x := o) ⟨h0, h1⟩ 4
  have b2 := itI_bd (o := o) (x := 1) ⟨by omega, by omega⟩ 5
  rw [inv_unique (one_inv h) (neg_inv h) b2.1 b2.2 b1.1 b1.2]
/-- Neg times the lowest limb, and one more, is a multiple of 2^32. -/
theorem ng_spec {o : Int} (h : o % 2 = 1) : ∃ q, ngI o * o + 1 = 4294967296 * q := by
  obtain ⟨a, ha⟩ := neg_inv h
  obtain ⟨p, hp⟩ : ∃ p, ngI o = -(itI o 4 o) - 4294967296 * p := ⟨-(itI o 4 o) / 4294967296, by unfold ngI; rw [Int.emod_def]⟩
  exact ⟨a - p * o, by rw [hp]; grind⟩
set_option maxRecDepth 100000 in
set_option maxHeartbeats 4000000 in
theorem negated_any (o : Int) (h0 : 0 ≤ o) (h1 : o < 4294967296) (w : World) :
    Calls Try.prog 73 #[.int .u32 o] w fun e w' => e = .returned (.int .u32 (ngI o)) ∧ w = w' := by
  have HB := hid (itI_bd (o := o) (x := o) ⟨h0, h1⟩)
  have HG : Hid (ngI o = -(itI o 4 o) % 4294967296) := hid rfl
  have HI : Hid (∀ k, nxI o (itI o k o) = itI o (k + 1) o) := hid (fun _ => rfl)
  go_enter Try.func73, Try.ntmps73
  go_wp2
  go_loopw [3, 5] (fun x i wr => ∃ k : Nat, k ≤ 4 ∧ i = .int .i64 (k : Int) ∧ x = .int .u32 (itI o k o) ∧ wr = w) (fun _ i _ => 4 - (intOf i).toNat)
  case atStart => exact ⟨0, by omega, rfl, rfl, rfl⟩
  case round =>
    obtain ⟨k, hk, rfl, rfl, rfl⟩ := hrel
    by_cases hlt : k < 4
    · obtain ⟨b1, b2⟩ := HB.out k
      have hi := HI.out k
      obtain ⟨X, hX⟩ : ∃ X, itI o k o = X := ⟨_, rfl⟩
      rw [hX] at b1 b2 hi ⊢
      have hn : Hid (nxI o X = X * ((2 - o * X) % 4294967296) % 4294967296) := hid rfl
      clear hX
      go_wp2
      go_roundw
      case rel => exact ⟨k + 1, by omega, by go_num, by rw [← hi, hn.out], trivial⟩
      case measure => simp [intOf]; omega
    · obtain rfl : k = 4 := by omega
      have hg := HG.out
      obtain ⟨b1, b2⟩ := HB.out 4
      obtain ⟨X, hX⟩ : ∃ X, itI o 4 o = X := ⟨_, rfl⟩
      rw [hX] at b1 b2 hg ⊢
      clear hX
      go_wp2
      go_ret
      exact ⟨by rw [hg]; rfl, rfl⟩
end Go.Proofs.Ytgccbfkofkohpaa
