/- sponge.Same: two rows of bytes are the same just where they are. -/
import Derived.Test.YtajombnckgehbaaSEight
namespace Go.Proofs.Ytajombnckgehbaa
set_option linter.unusedVariables false
set_option linter.unusedSimpArgs false
open Go.ChangeShapes Go.WideShapes Go.ChangeAt Go.RowKit
/-- The bytes x 0 .. x (n - 1) that a slice leads to. -/
def RdB (w : World) (A : Option Addr) (n : Nat) (x : Nat → Int) : Prop :=
  n ≤ maxLen ∧ (∀ k, 0 ≤ x k ∧ x k < 256) ∧ (0 < n → ∃ b o, A = some ⟨b, o, none⟩ ∧ b < w.heap.size ∧ ∀ k, k < n → w.cell? ⟨b, o + k, none⟩ = some (.int .u8 (x k)))
theorem u8_or_xor (a b c : Int) (ha : 0 ≤ a ∧ a < 256) (hb : 0 ≤ b ∧ b < 256) (hc : 0 ≤ c ∧ c < 256) : bits .or .u8 c (bits .xor .u8 a b) = 0 ↔ c = 0 ∧ a = b := by
  obtain ⟨a, rfl⟩ := Int.eq_ofNat_of_zero_le ha.1
  obtain ⟨b, rfl⟩ := Int.eq_ofNat_of_zero_le hb.1
  obtain ⟨c, rfl⟩ := Int.eq_ofNat_of_zero_le hc.1
  have ha' : a < 2 ^ 8 := by omega
  have hb' : b < 2 ^ 8 := by omega
  have hc' : c < 2 ^ 8 := by omega
  have hx : bits .xor .u8 (a : Int) (b : Int) = ((a ^^^ b : Nat) : Int) := by
    have e1 : a % 2 ^ IntKind.u8.bits = a := Nat.mod_eq_of_lt ha'
    have e2 : b % 2 ^ IntKind.u8.bits = b := Nat.mod_eq_of_lt hb'
    have e3 : a ^^^ b < 2 ^ 8 := Nat.xor_lt_two_pow ha' hb'
    simp only [bits, BitVec.ofInt_natCast, BitVec.toNat_xor, BitVec.toNat_ofNat, e1, e2]
    rw [IntKind.wrap_u8]; omega
  rw [hx, (bits_nat .u8 8 (by decide) (fun n h0 h1 => by rw [IntKind.wrap_u8]; omega) c (a ^^^ b) hc' (Nat.xor_lt_two_pow ha' hb')).2]
  constructor
  · intro h
    have h1 : c ||| (a ^^^ b) = 0 := by omega
    obtain ⟨h2, h3⟩ := Nat.or_eq_zero_iff.1 h1
    have h4 : a = b := by
      have e : a ^^^ b ^^^ b = 0 ^^^ b := by rw [h3]
      rwa [Nat.xor_assoc, Nat.xor_self, Nat.xor_zero, Nat.zero_xor] at e
    exact ⟨by omega, by omega⟩
  · rintro ⟨h1, h2⟩
    have h1' : c = 0 := by omega
    have h2' : a = b := by omega
    subst h1' h2'
    simp
theorem u8_bd (op : BinOp) (a b : Int) : 0 ≤ bits op .u8 a b ∧ bits op .u8 a b < 256 := by
  have := wrap_within .u8 (bits op .u8 a b)
  unfold bits
  rw [IntKind.wrap_u8]
  omega
def AgreeTo (x y : Nat → Int) (k : Nat) : Prop := ∀ j, j < k → x j = y j
theorem agree_succ {x y : Nat → Int} {k : Nat} : AgreeTo x y (k + 1) ↔ AgreeTo x y k ∧ x k = y k := by
  constructor
  · exact fun h => ⟨fun j hj => h j (by omega), h k (by omega)⟩
  · rintro ⟨h1, h2⟩ j hj
    by_cases e : j = k
    · subst e; exact h2
    · exact h1 j (by omega)
/-- The answer. -/
noncomputable def sameB (x y : Nat → Int) (n : Nat) : Bool := @decide (AgreeTo x y n) (Classical.propDecidable _)
set_option maxHeartbeats 2000000 in
set_option maxRecDepth 100000 in
theorem same_len (A B : Option Addr) (n m cap1 cap2 : Nat) (x y : Nat → Int) (w : World) (hx : RdB w A n x) (hy : RdB w B m y) (hnm : n ≠ m) :
    Calls Try.prog 32 #[.slice A n cap1, .slice B m cap2] w fun e w' => e = .returned (.bool false) ∧ Below w.heap.size w w' := by
  obtain ⟨h1, _, _⟩ := hx
  obtain ⟨h2, _, _⟩ := hy
  unfold maxLen at h1 h2
  have hne : ((n : Int) == (m : Int)) = false := by rw [beq_eq_false_iff_ne]; exact fun e => hnm (Int.ofNat.inj e)
  have hne' : ((n : Int) != (m : Int)) = true := by rw [bne, hne]; rfl
  go_enter Try.func32, Try.ntmps32
  go_wp2
  go_ret
  exact ⟨rfl, Below.refl _ _⟩
set_option maxHeartbeats 2000000 in
set_option maxRecDepth 100000 in
theorem same_any (A B : Option Addr) (n cap1 cap2 : Nat) (x y : Nat → Int) (w : World) (hx : RdB w A n x) (hy : RdB w B n y) :
    Calls Try.prog 32 #[.slice A n cap1, .slice B n cap2] w fun e w' => e = .returned (.bool (sameB x y n)) ∧ Below w.heap.size w w' := by
  obtain ⟨h1, bx, fx⟩ := hx
  obtain ⟨h2, by_, fy⟩ := hy
  unfold maxLen at h1 h2
  have BX := hid bx
  have BY := hid by_
  have FX := hid fx
  have FY := hid fy
  clear bx by_ fx fy
  go_enter Try.func32, Try.ntmps32
  go_wp2
  go_loopw [5, 14] (fun o i wr => ∃ (k : Nat) (c : Int), k ≤ n ∧ i = .int .i64 k ∧ o = .int .u8 c ∧ 0 ≤ c ∧ c < 256 ∧ Hid (c = 0 ↔ AgreeTo x y k) ∧ ∃ d, wr = w.drewN d) (fun _ i _ => n - (intOf i).toNat)
  case atStart => exact ⟨0, 0, by omega, rfl, rfl, by omega, by omega, hid ⟨fun _ j hj => absurd hj (by omega), fun _ => rfl⟩, 0, rfl⟩
  case round =>
    obtain ⟨k, c, hk, rfl, rfl, c0, c1, hag, d, rfl⟩ := hrel
    by_cases hlt : k < n
    · obtain ⟨b1, o1, rfl, l1, cx⟩ := FX.out (by omega)
      obtain ⟨b2, o2, rfl, l2, cy⟩ := FY.out (by omega)
      have s1 := cx k hlt
      have s2 := cy k hlt
      have hbx := BX.out k
      have hby := BY.out k
      have HA : Hid (bits .or .u8 c (bits .xor .u8 (x k) (y k)) = 0 ↔ AgreeTo x y (k + 1)) := hid ((u8_or_xor _ _ _ hbx hby ⟨c0, c1⟩).trans ((and_congr_left' hag.out).trans agree_succ.symm))
      obtain ⟨u0, u1⟩ := u8_bd .or c (bits .xor .u8 (x k) (y k))
      obtain ⟨x0, x1⟩ := hbx
      obtain ⟨y0, y1⟩ := hby
      clear cx cy hag FX FY
      go_wp2
      go_quiet (fail)
      go_wp2
      go_roundw
      case rel => exact ⟨k + 1, _, by omega, by go_num, rfl, u0, u1, HA, _, rfl⟩
      case measure => simp [intOf]; omega
    · obtain rfl : k = n := by omega
      by_cases hc : c = 0
      · have E : Hid (sameB x y k = true) := hid (by unfold sameB; simpa using hag.out.1 hc)
        subst hc
        go_wp2
        go_ret
        exact ⟨by rw [E.out]; rfl, below_drewN (Below.refl _ _) _⟩
      · have E : Hid (sameB x y k = false) := hid (by unfold sameB; simpa using fun h => hc (hag.out.2 h))
        have hc' : (c == 0) = false := by simpa using hc
        go_wp2
        go_ret
        exact ⟨by rw [E.out]; rfl, below_drewN (Below.refl _ _) _⟩
end Go.Proofs.Ytajombnckgehbaa
