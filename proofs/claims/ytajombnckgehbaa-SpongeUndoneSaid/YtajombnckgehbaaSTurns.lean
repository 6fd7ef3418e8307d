/- Words turned back: sentinellaw3.right; xor and sums undone. -/
import Derived.Test.YtajombnckgehbaaSWithin
namespace Go.Proofs.Ytajombnckgehbaa
set_option linter.unusedVariables false
set_option linter.unusedSimpArgs false
open Go.ChangeShapes Go.WideShapes Go.ChangeAt Go.RowKit Go.Shelf

theorem sub_add {x y : Int} (h0 : 0 ≤ x) (h1 : x < 4294967296) : (addW x y - y) % 4294967296 = x := by
  unfold addW; omega
theorem xor_xor {x y : Int} (hx : 0 ≤ x ∧ x < 4294967296) (hy : 0 ≤ y ∧ y < 4294967296) : xorW (xorW x y) y = x := by
  obtain ⟨a, rfl⟩ := Int.eq_ofNat_of_zero_le hx.1
  obtain ⟨b, rfl⟩ := Int.eq_ofNat_of_zero_le hy.1
  unfold xorW
  have ha : a < 2 ^ 32 := by omega
  have hb : b < 2 ^ 32 := by omega
  have N : ∀ c d : Nat, c < 2 ^ 32 → d < 2 ^ 32 → bits .xor .u32 (c : Int) (d : Int) = ((c ^^^ d : Nat) : Int) := fun c d hc hd => by
    have e1 : c % 2 ^ 32 = c := Nat.mod_eq_of_lt hc
    have e2 : d % 2 ^ 32 = d := Nat.mod_eq_of_lt hd
    have e3 : c ^^^ d < 2 ^ 32 := Nat.xor_lt_two_pow hc hd
    exact u32_xor_nat c d hc hd
  rw [N a b ha hb, N _ _ (Nat.xor_lt_two_pow ha hb) hb, Nat.xor_assoc, Nat.xor_self, Nat.xor_zero]
theorem or_nat {c d : Nat} (hc : c < 2 ^ 32) (hd : d < 2 ^ 32) : bits .or .u32 (c : Int) (d : Int) = ((c ||| d : Nat) : Int) := u32_or_nat c d hc hd
theorem rot_val16 {x : Int} (hx : 0 ≤ x ∧ x < 4294967296) : rotW 65536 x = x * 65536 % 4294967296 + x / 65536 := by
  obtain ⟨a, rfl⟩ := Int.eq_ofNat_of_zero_le hx.1
  unfold rotW
  have e1 : (a : Int) * 65536 % 4294967296 = ((a * 65536 % 4294967296 : Nat) : Int) := by omega
  have e2 : (a : Int) / (4294967296 / 65536) = ((a / 65536 : Nat) : Int) := by omega
  rw [e1, e2, or_nat (by omega) (by omega), nat_join 16 _ _ (by omega) (by omega)]
  omega
theorem right_val16 {x : Int} (hx : 0 ≤ x ∧ x < 4294967296) : bits .or .u32 (rotW 65536 x / 65536) (rotW 65536 x * 65536 % 4294967296) = x := by
  rw [rot_val16 hx]
  obtain ⟨a, rfl⟩ := Int.eq_ofNat_of_zero_le hx.1
  have e1 : ((a : Int) * 65536 % 4294967296 + (a : Int) / 65536) / 65536 = ((a % 65536 : Nat) : Int) := by omega
  have e2 : ((a : Int) * 65536 % 4294967296 + (a : Int) / 65536) * 65536 % 4294967296 = ((a / 65536 * 65536 : Nat) : Int) := by omega
  rw [e1, e2, or_nat (by omega) (by omega), Nat.or_comm, nat_join 16 _ _ (by omega) (by omega)]
  omega
set_option maxHeartbeats 400000 in
theorem right16 {x : Int} (hx : 0 ≤ x ∧ x < 4294967296) (w : World) :
    Calls Try.prog 48 #[.int .u32 (rotW 65536 x), .int .i64 16] w fun e w' => e = .returned (.int .u32 x) ∧ w' = w := by
  have h := right_val16 hx
  have hb := rotW_bd 65536 x
  generalize rotW 65536 x = y at *
  obtain ⟨h0, h1⟩ := hb
  go_enter Try.func48, Try.ntmps48
  go_wp2
  go_ret
  exact ⟨by rw [← h]; rfl, rfl⟩
theorem rot_val12 {x : Int} (hx : 0 ≤ x ∧ x < 4294967296) : rotW 4096 x = x * 4096 % 4294967296 + x / 1048576 := by
  obtain ⟨a, rfl⟩ := Int.eq_ofNat_of_zero_le hx.1
  unfold rotW
  have e1 : (a : Int) * 4096 % 4294967296 = ((a * 4096 % 4294967296 : Nat) : Int) := by omega
  have e2 : (a : Int) / (4294967296 / 4096) = ((a / 1048576 : Nat) : Int) := by omega
  rw [e1, e2, or_nat (by omega) (by omega), nat_join 12 _ _ (by omega) (by omega)]
  omega
theorem right_val12 {x : Int} (hx : 0 ≤ x ∧ x < 4294967296) : bits .or .u32 (rotW 4096 x / 4096) (rotW 4096 x * 1048576 % 4294967296) = x := by
  rw [rot_val12 hx]
  obtain ⟨a, rfl⟩ := Int.eq_ofNat_of_zero_le hx.1
  have e1 : ((a : Int) * 4096 % 4294967296 + (a : Int) / 1048576) / 4096 = ((a % 1048576 : Nat) : Int) := by omega
  have e2 : ((a : Int) * 4096 % 4294967296 + (a : Int) / 1048576) * 1048576 % 4294967296 = ((a / 1048576 * 1048576 : Nat) : Int) := by omega
  rw [e1, e2, or_nat (by omega) (by omega), Nat.or_comm, nat_join 20 _ _ (by omega) (by omega)]
  omega
set_option maxHeartbeats 400000 in
theorem right12 {x : Int} (hx : 0 ≤ x ∧ x < 4294967296) (w : World) :
    Calls Try.prog 48 #[.int .u32 (rotW 4096 x), .int .i64 12] w fun e w' => e = .returned (.int .u32 x) ∧ w' = w := by
  have h := right_val12 hx
  have hb := rotW_bd 4096 x
  generalize rotW 4096 x = y at *
  obtain ⟨h0, h1⟩ := hb
  go_enter Try.func48, Try.ntmps48
  go_wp2
  go_ret
  exact ⟨by rw [← h]; rfl, rfl⟩
theorem rot_val8 {x : Int} (hx : 0 ≤ x ∧ x < 4294967296) : rotW 256 x = x * 256 % 4294967296 + x / 16777216 := by
  obtain ⟨a, rfl⟩ := Int.eq_ofNat_of_zero_le hx.1
  unfold rotW
  have e1 : (a : Int) * 256 % 4294967296 = ((a * 256 % 4294967296 : Nat) : Int) := by omega
  have e2 : (a : Int) / (4294967296 / 256) = ((a / 16777216 : Nat) : Int) := by omega
  rw [e1, e2, or_nat (by omega) (by omega), nat_join 8 _ _ (by omega) (by omega)]
  omega
theorem right_val8 {x : Int} (hx : 0 ≤ x ∧ x < 4294967296) : bits .or .u32 (rotW 256 x / 256) (rotW 256 x * 16777216 % 4294967296) = x := by
  rw [rot_val8 hx]
  obtain ⟨a, rfl⟩ := Int.eq_ofNat_of_zero_le hx.1
  have e1 : ((a : Int) * 256 % 4294967296 + (a : Int) / 16777216) / 256 = ((a % 16777216 : Nat) : Int) := by omega
  have e2 : ((a : Int) * 256 % 4294967296 + (a : Int) / 16777216) * 16777216 % 4294967296 = ((a / 16777216 * 16777216 : Nat) : Int) := by omega
  rw [e1, e2, or_nat (by omega) (by omega), Nat.or_comm, nat_join 24 _ _ (by omega) (by omega)]
  omega
set_option maxHeartbeats 400000 in
theorem right8 {x : Int} (hx : 0 ≤ x ∧ x < 4294967296) (w : World) :
    Calls Try.prog 48 #[.int .u32 (rotW 256 x), .int .i64 8] w fun e w' => e = .returned (.int .u32 x) ∧ w' = w := by
  have h := right_val8 hx
  have hb := rotW_bd 256 x
  generalize rotW 256 x = y at *
  obtain ⟨h0, h1⟩ := hb
  go_enter Try.func48, Try.ntmps48
  go_wp2
  go_ret
  exact ⟨by rw [← h]; rfl, rfl⟩
theorem rot_val7 {x : Int} (hx : 0 ≤ x ∧ x < 4294967296) : rotW 128 x = x * 128 % 4294967296 + x / 33554432 := by
  obtain ⟨a, rfl⟩ := Int.eq_ofNat_of_zero_le hx.1
  unfold rotW
  have e1 : (a : Int) * 128 % 4294967296 = ((a * 128 % 4294967296 : Nat) : Int) := by omega
  have e2 : (a : Int) / (4294967296 / 128) = ((a / 33554432 : Nat) : Int) := by omega
  rw [e1, e2, or_nat (by omega) (by omega), nat_join 7 _ _ (by omega) (by omega)]
  omega
theorem right_val7 {x : Int} (hx : 0 ≤ x ∧ x < 4294967296) : bits .or .u32 (rotW 128 x / 128) (rotW 128 x * 33554432 % 4294967296) = x := by
  rw [rot_val7 hx]
  obtain ⟨a, rfl⟩ := Int.eq_ofNat_of_zero_le hx.1
  have e1 : ((a : Int) * 128 % 4294967296 + (a : Int) / 33554432) / 128 = ((a % 33554432 : Nat) : Int) := by omega
  have e2 : ((a : Int) * 128 % 4294967296 + (a : Int) / 33554432) * 33554432 % 4294967296 = ((a / 33554432 * 33554432 : Nat) : Int) := by omega
  rw [e1, e2, or_nat (by omega) (by omega), Nat.or_comm, nat_join 25 _ _ (by omega) (by omega)]
  omega
set_option maxHeartbeats 400000 in
theorem right7 {x : Int} (hx : 0 ≤ x ∧ x < 4294967296) (w : World) :
    Calls Try.prog 48 #[.int .u32 (rotW 128 x), .int .i64 7] w fun e w' => e = .returned (.int .u32 x) ∧ w' = w := by
  have h := right_val7 hx
  have hb := rotW_bd 128 x
  generalize rotW 128 x = y at *
  obtain ⟨h0, h1⟩ := hb
  go_enter Try.func48, Try.ntmps48
  go_wp2
  go_ret
  exact ⟨by rw [← h]; rfl, rfl⟩
end Go.Proofs.Ytajombnckgehbaa
