/- limb.Bits, limb.Cmp, limb.Pick: contracts. -/
import Derived.Test.YteihojjciklfoaaSub
namespace Go.Proofs.Yteihojjciklfoaa
set_option linter.unusedVariables false
set_option linter.unusedSimpArgs false
open Go.ChangeShapes Go.WideShapes Go.ChangeAt Go.RowKit

def topI (a : Nat) : Nat → Int
  | 0 => 0
  | i + 1 => if digI a i = 0 then topI a i else 32 * (i : Int) + Lib.bitLen (digI a i).toNat
theorem topI_zero {a i : Nat} (h : digI a i = 0) : topI a (i + 1) = topI a i := by simp [topI, h]
theorem topI_here {a i : Nat} (h : ¬ digI a i = 0) : topI a (i + 1) = 32 * (i : Int) + Lib.bitLen (digI a i).toNat := by simp [topI, h]

set_option maxHeartbeats 800000 in
theorem bits_any (a : Nat) (w : World) :
    Calls Try.prog 27 #[numV a] w fun e w' => e = .returned (.int .i64 (topI a 8)) ∧ Below w.heap.size w w' := by
  go_enter Try.func27, Try.ntmps27
  go_wp2
  have g0 := Num.new w 26 a
  have gb : Below w.heap.size w (w.alloc (.cells (numA a) 26)) := (Below.refl _ _).alloc (Nat.le_refl _) _
  generalize hW : w.alloc _ = W at *
  clear hW
  go_loop [3] (fun i => ∃ q : Int, -1 ≤ q ∧ q ≤ 7 ∧ i = .int .i64 q ∧ Hid (topI a 8 = topI a (q + 1).toNat)) (fun i => (intOf i + 1).toNat)
  case atStart => exact ⟨7, by omega, by omega, rfl, rfl⟩
  case round =>
    obtain ⟨q, h1, h2, rfl, ht⟩ := hrel
    by_cases hq : 0 ≤ q
    · obtain ⟨k, rfl⟩ := Int.eq_ofNat_of_zero_le hq
      have hc := g0.cell (k := k) (by omega)
      have hd1 := digI_ge a k
      have hd2 := digI_lt a k
      by_cases hz : digI a k = 0
      · have HZ := hid hz
        have hz1 : (digI a k != 0) = false := by simp [hz]
        clear hz
        go_wp2
        go_round
        case rel => exact ⟨(k : Int) - 1, by omega, by omega, rfl, by
          have := ht.out; rw [show ((k : Int) + 1).toNat = k + 1 by omega, topI_zero HZ.out] at this; rw [show ((k : Int) - 1 + 1).toNat = k by omega]; exact this⟩
        case measure => simp [intOf] <;> omega
      · have HZ := hid hz
        have hz1 : (digI a k != 0) = true := by simp [hz]
        have hl := bitLen_le32 (digI a k) hd1 (by omega)
        clear hz
        go_wp2_with (go_at_call 50; refine (len32_any _ _ hd1 (by omega)).mono ?_; rintro e w' ⟨rfl, rfl⟩)
        go_ret
        refine ⟨?_, gb⟩
        have := ht.out
        rw [show ((k : Int) + 1).toNat = k + 1 by omega, topI_here HZ.out] at this
        rw [this]; rfl
    · have hq' : q = -1 := by omega
      subst hq'
      go_wp2
      go_ret
      refine ⟨?_, gb⟩
      have := ht.out
      rw [this]; rfl

def cmpI (a b : Nat) : Int := if a < b then -1 else if b < a then 1 else 0
/-- The upper digits are the same. -/
def SameFrom (a b k : Nat) : Prop := a / 4294967296 ^ k = b / 4294967296 ^ k
theorem sameFrom_top {a b : Nat} (ha : a < 4294967296 ^ 8) (hb : b < 4294967296 ^ 8) : SameFrom a b 8 := by
  unfold SameFrom; rw [Nat.div_eq_of_lt ha, Nat.div_eq_of_lt hb]
theorem div_pow_succ (a k : Nat) : a / 4294967296 ^ k = a / 4294967296 ^ (k + 1) * 4294967296 + dig a k := by
  have h : a / 4294967296 ^ (k + 1) = a / 4294967296 ^ k / 4294967296 := by rw [Nat.pow_succ, Nat.div_div_eq_div_mul]
  rw [h, dig]; omega
theorem sameFrom_step {a b k : Nat} (h : SameFrom a b (k + 1)) (e : dig a k = dig b k) : SameFrom a b k := by
  unfold SameFrom at *; rw [div_pow_succ a k, div_pow_succ b k, h, e]
theorem lt_of_dig {a b k : Nat} (h : SameFrom a b (k + 1)) (e : dig a k < dig b k) : a < b := by
  unfold SameFrom at h
  have h1 : a / 4294967296 ^ k < b / 4294967296 ^ k := by rw [div_pow_succ a k, div_pow_succ b k, h]; omega
  rcases Nat.lt_or_ge a b with hl | hl
  · exact hl
  · have := Nat.div_le_div_right (c := 4294967296 ^ k) hl
    omega
theorem cmp_lt {a b k : Nat} (h : SameFrom a b (k + 1)) (e : digI a k < digI b k) : cmpI a b = -1 := by
  have := lt_of_dig h (by unfold digI at e; omega)
  unfold cmpI; rw [if_pos this]
theorem cmp_gt {a b k : Nat} (h : SameFrom a b (k + 1)) (e : digI b k < digI a k) : cmpI a b = 1 := by
  have := lt_of_dig (Eq.symm h) (by unfold digI at e; omega)
  unfold cmpI; rw [if_neg (by omega), if_pos this]
theorem cmp_eq {a b : Nat} (h : SameFrom a b 0) : cmpI a b = 0 := by
  have : a = b := by unfold SameFrom at h; simpa using h
  unfold cmpI; rw [if_neg (by omega), if_neg (by omega)]

set_option maxHeartbeats 1000000 in
theorem cmp_any (a b : Nat) (ha : a < 4294967296 ^ 8) (hb : b < 4294967296 ^ 8) (w : World) :
    Calls Try.prog 25 #[numV a, numV b] w fun e w' => e = .returned (.int .i64 (cmpI a b)) ∧ Below w.heap.size w w' := by
  go_enter Try.func25, Try.ntmps25
  go_wp2
  have g0 := (Num.new w 26 a).alloc (.cells (numA b) 26)
  have g1 := Num.new (w.alloc (.cells (numA a) 26)) 26 b
  rw [World.size_alloc] at g1
  have gb : Below w.heap.size w ((w.alloc (.cells (numA a) 26)).alloc (.cells (numA b) 26)) := ((Below.refl _ _).alloc (Nat.le_refl _) _).alloc (by simp) _
  generalize hW : World.alloc _ _ = W at *
  clear hW
  go_loopw [5] (fun i wr => ∃ q : Int, -1 ≤ q ∧ q ≤ 7 ∧ i = .int .i64 q ∧ Hid (SameFrom a b (q + 1).toNat) ∧ ∃ n, wr = W.drewN n) (fun i _ => (intOf i + 1).toNat)
  case atStart => exact ⟨7, by omega, by omega, rfl, sameFrom_top ha hb, 0, rfl⟩
  case round =>
    obtain ⟨q, h1, h2, rfl, ht, n0, rfl⟩ := hrel
    by_cases hq : 0 ≤ q
    · obtain ⟨k, rfl⟩ := Int.eq_ofNat_of_zero_le hq
      have hc := g0.cell (k := k) (by omega)
      have hd := g1.cell (k := k) (by omega)
      have ht' : Hid (SameFrom a b (k + 1)) := ht
      clear ht
      by_cases hlt : digI a k < digI b k
      · go_wp2
        go_quiet (fail)
        go_wp2
        go_ret
        exact ⟨by rw [cmp_lt ht'.out hlt]; rfl, by first | exact below_drewN gb _ | exact below_drewN (below_drewN gb _) _ | exact below_drewN (below_drewN (below_drewN gb _) _) _⟩
      · by_cases hgt : digI b k < digI a k
        · go_wp2
          go_quiet (fail)
          go_wp2
          go_quiet (fail)
          go_wp2
          go_ret
          exact ⟨by rw [cmp_gt ht'.out hgt]; rfl, by first | exact below_drewN gb _ | exact below_drewN (below_drewN gb _) _ | exact below_drewN (below_drewN (below_drewN gb _) _) _⟩
        · have hs : Hid (SameFrom a b k) := sameFrom_step ht'.out (by unfold digI at hlt hgt; omega)
          go_wp2
          go_quiet (fail)
          go_wp2
          go_quiet (fail)
          go_wp2
          go_roundw
          case rel => exact ⟨(k : Int) - 1, by omega, by omega, rfl, by rw [show ((k : Int) - 1 + 1).toNat = k by omega]; exact hs, _, rfl⟩
          case measure => simp [intOf] <;> omega
    · have hq' : q = -1 := by omega
      subst hq'
      go_wp2
      go_ret
      exact ⟨by rw [cmp_eq ht.out]; rfl, by first | exact below_drewN gb _ | exact below_drewN (below_drewN gb _) _ | exact below_drewN (below_drewN (below_drewN gb _) _) _⟩
end Go.Proofs.Yteihojjciklfoaa
