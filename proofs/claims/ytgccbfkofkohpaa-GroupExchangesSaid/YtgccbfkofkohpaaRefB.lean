/- sentinelref1: Bits, Mul. -/
import Derived.Test.YtgccbfkofkohpaaGaRef
import Derived.Test.YtgccbfkofkohpaaMul
import Derived.Test.YtgccbfkofkohpaaGaRest
namespace Go.Proofs.Ytgccbfkofkohpaa
set_option linter.unusedVariables false
set_option maxRecDepth 20000
set_option linter.unusedSimpArgs false
open Go.ChangeShapes Go.WideShapes Go.ChangeAt Go.RowKit
theorem pow32 (j : Nat) : 4294967296 ^ j = 2 ^ (32 * j) := by rw [Nat.pow_mul]
/-- The highest bit is where Bits says. -/
theorem top_one {a k : Nat} (ha : a < 4294967296 ^ 8) (h : a / 2 ^ k = 1) : topI a 8 = (k : Int) + 1 := by
  have h0 : 0 < a := by
    refine Nat.pos_of_ne_zero fun e => ?_
    rw [e, Nat.zero_div] at h
    cases h
  obtain ⟨n, h1, h2, h3, h4, h5⟩ := top_ind h0 8 ha
  obtain ⟨j, rfl⟩ : ∃ j, n = j + 1 := ⟨n - 1, by omega⟩
  rw [Nat.add_sub_cancel] at *
  have hd := dig_lt a j
  obtain ⟨b1, b2, b3⟩ := Lib.bitLenAux_bounds 64 (dig a j) (by omega) h3
  change 1 ≤ Lib.bitLen (dig a j) at b1
  change 2 ^ (Lib.bitLen (dig a j) - 1) ≤ dig a j at b2
  change dig a j < 2 ^ Lib.bitLen (dig a j) at b3
  have hk := pow_pos' j
  have hq : a / 4294967296 ^ j < 4294967296 := by rw [Nat.div_lt_iff_lt_mul hk, Nat.mul_comm, ← Nat.pow_succ]; exact h5
  have e2 : dig a j = a / 4294967296 ^ j := by unfold dig; rw [Nat.mod_eq_of_lt hq]
  have lo : 2 ^ (32 * j + (Lib.bitLen (dig a j) - 1)) ≤ a := by
    rw [Nat.pow_add, ← pow32, Nat.mul_comm]
    rw [e2] at b2 ⊢
    exact Nat.le_trans (Nat.mul_le_mul_right _ b2) (Nat.div_mul_le_self _ _)
  have hi : a < 2 ^ (32 * j + Lib.bitLen (dig a j)) := by
    rw [Nat.pow_add, ← pow32, Nat.mul_comm]
    rw [e2] at b3 ⊢
    exact (Nat.div_lt_iff_lt_mul hk).1 b3
  have lo' : 2 ^ k ≤ a := by
    refine Nat.le_of_not_lt fun hl => ?_
    rw [Nat.div_eq_of_lt hl] at h
    cases h
  have hi' : a < 2 ^ (k + 1) := by
    rw [Nat.pow_succ, Nat.mul_comm]
    exact (Nat.div_lt_iff_lt_mul (Nat.pow_pos (by decide))).1 (by omega)
  have p1 : k < 32 * j + Lib.bitLen (dig a j) := (Nat.pow_lt_pow_iff_right (by decide : 1 < 2)).1 (Nat.lt_of_le_of_lt lo' hi)
  have p2 : 32 * j + (Lib.bitLen (dig a j) - 1) < k + 1 := (Nat.pow_lt_pow_iff_right (by decide : 1 < 2)).1 (Nat.lt_of_le_of_lt lo hi')
  rw [h4]; omega
theorem bit_up {a k : Nat} (h : a / 2 ^ (k + 1) = 0) : (bitI a k = 1 ∧ a / 2 ^ k = 1) ∨ (bitI a k = 0 ∧ a / 2 ^ k = 0) := by
  rw [Nat.pow_succ, ← Nat.div_div_eq_div_mul] at h
  unfold bitI
  generalize a / 2 ^ k = q at *
  have : q = 0 ∨ q = 1 := by omega
  rcases this with rfl | rfl
  · right; simp
  · left; simp
set_option maxHeartbeats 1000000 in
theorem rbits_any (a : Nat) (ha : a < 4294967296 ^ 8) (w : World) :
    Calls Try.prog 52 #[numV a] w fun e w' => e = .returned (.int .i64 (topI a 8)) ∧ Below w.heap.size w w' := by
  have TOP := hid (fun k => @top_one a k ha)
  have ST : Hid (a / 2 ^ 256 = 0) := hid (Nat.div_eq_of_lt (by rw [show (2 : Nat) ^ 256 = 4294967296 ^ 8 by decide +kernel]; exact ha))
  clear ha
  have g0 := Num.new w 26 a
  have gb := step_alloc w (.cells (numA a) 26)
  go_enter Try.func52, Try.ntmps52
  go_wp2
  generalize World.alloc _ _ = W at *
  go_loopw [3] (fun i wr => ∃ q : Int, -1 ≤ q ∧ q ≤ 255 ∧ i = .int .i64 q ∧ Hid (a / 2 ^ (q + 1).toNat = 0) ∧ Below (w.heap.size + 1) W wr) (fun i _ => (intOf i + 1).toNat)
  case atStart => exact ⟨255, by omega, by omega, rfl, ST, Below.refl _ _⟩
  case round =>
    obtain ⟨q, hq1, hq2, rfl, ht, hB⟩ := hrel
    have n0 := g0.below hB (by omega)
    have hlt := g0.lt
    by_cases hq : 0 ≤ q
    · obtain ⟨k, rfl⟩ := Int.eq_ofNat_of_zero_le hq
      have hk := rbit_any a k (by omega)
      rcases bit_up (show a / 2 ^ (k + 1) = 0 from ht.out) with ⟨e1, e2⟩ | ⟨e1, e2⟩
      · have E := hid e2
        rw [e1] at hk
        clear e1 e2 ht
        go_wp2_with (refine wpList_load_num rfl _ _ rfl _ rfl _ _ _ n0 Try.underlying26 rfl size26 ?_)
        refine (hk _).mono ?_
        rintro e w1 ⟨rfl, b1⟩
        clear hk
        go_wp2
        go_ret
        exact ⟨by rw [TOP.out k E.out]; rfl, gb.trans ((hB.trans (b1.mono (by have := hB.size; omega))).mono (by omega))⟩
      · have E := hid e2
        rw [e1] at hk
        clear e1 e2 ht
        go_wp2_with (refine wpList_load_num rfl _ _ rfl _ rfl _ _ _ n0 Try.underlying26 rfl size26 ?_)
        refine (hk _).mono ?_
        rintro e w1 ⟨rfl, b1⟩
        clear hk
        go_wp2
        go_roundw
        case rel => exact ⟨(k : Int) - 1, by omega, by omega, by go_num, by rw [show ((k : Int) - 1 + 1).toNat = k by omega]; exact E, hB.trans (b1.mono (by have := hB.size; omega))⟩
        case measure => simp [intOf] <;> omega
    · have hq' : q = -1 := by omega
      subst hq'
      have e : a = 0 := by have := ht.out; simpa using this
      have E := hid (show topI a 8 = 0 by rw [e]; exact topI_none 8)
      clear e
      go_wp2
      go_ret
      exact ⟨by rw [E.out]; rfl, gb.trans (hB.mono (by omega))⟩
end Go.Proofs.Ytgccbfkofkohpaa
