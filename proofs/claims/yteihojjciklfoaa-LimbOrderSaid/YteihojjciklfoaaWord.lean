/- Words: bits.Sub32, Len32, LeadingZeros32; within, From. -/
import Derived.Test.YteihojjciklfoaaAdd
import Derived.Laws.BitsAllLaws
import Derived.Lib.Strings
import Derived.Lib.Slices
import Derived.Lib.Small
import Derived.Lib.Walk
import Derived.Lib.BitFns
import Derived.Laws.MathBits
namespace Go.Proofs.Yteihojjciklfoaa
set_option linter.unusedVariables false
set_option linter.unusedSimpArgs false
open Go.ChangeShapes Go.WideShapes Go.ChangeAt Go.RowKit

/-! What is borrowed, by the highest bits. -/
theorem borrow_nat (x y c : Nat) (hx : x < 4294967296) (hy : y < 4294967296) (hc : c ≤ 1) (d : Nat) (hd : d < 4294967296) (hdd : d = (x + 8589934592 - y - c) % 4294967296) :
    (((4294967295 ^^^ x) &&& y) ||| ((4294967295 ^^^ (x ^^^ y)) &&& d)) / 2147483648 = if x < y + c then 1 else 0 := by
  have e : (((4294967295 ^^^ x) &&& y) ||| ((4294967295 ^^^ (x ^^^ y)) &&& d)) / 2 ^ 31 = ((1 ^^^ x / 2 ^ 31) &&& y / 2 ^ 31) ||| ((1 ^^^ (x / 2 ^ 31 ^^^ y / 2 ^ 31)) &&& d / 2 ^ 31) := by
    simp only [Nat.or_div_two_pow, Nat.and_div_two_pow, Nat.xor_div_two_pow]
  have e' : ∀ n : Nat, n / 2147483648 = n / 2 ^ 31 := fun n => rfl
  rw [e', e]
  have h1 : x / 2 ^ 31 = 0 ∨ x / 2 ^ 31 = 1 := by omega
  have h2 : y / 2 ^ 31 = 0 ∨ y / 2 ^ 31 = 1 := by omega
  have h3 : d / 2 ^ 31 = 0 ∨ d / 2 ^ 31 = 1 := by omega
  rcases h1 with h1 | h1 <;> rcases h2 with h2 | h2 <;> rcases h3 with h3 | h3 <;> rw [h1, h2, h3] <;> simp <;> omega
theorem borrow_int (x y c : Int) (hx : 0 ≤ x) (hx' : x < 4294967296) (hy : 0 ≤ y) (hy' : y < 4294967296) (hc : 0 ≤ c) (hc' : c ≤ 1) :
    bits .or .u32 (bits .and .u32 (bits .xor .u32 4294967295 x) y) (bits .and .u32 (bits .xor .u32 4294967295 (bits .xor .u32 x y)) ((x - y - c) % 4294967296)) / 2147483648 = -((x - y - c) / 4294967296) := by
  obtain ⟨x, rfl⟩ := Int.eq_ofNat_of_zero_le hx
  obtain ⟨y, rfl⟩ := Int.eq_ofNat_of_zero_le hy
  obtain ⟨c, rfl⟩ := Int.eq_ofNat_of_zero_le hc
  have ed : ((x : Int) - y - c) % 4294967296 = (((x + 8589934592 - y - c) % 4294967296 : Nat) : Int) := by omega
  have hm : (4294967295 : Int) = ((4294967295 : Nat) : Int) := rfl
  have b1 : x ^^^ y < 4294967296 := Nat.xor_lt_two_pow (n := 32) (by omega) (by omega)
  have b2 : 4294967295 ^^^ x < 4294967296 := Nat.xor_lt_two_pow (n := 32) (by omega) (by omega)
  have b3 : 4294967295 ^^^ (x ^^^ y) < 4294967296 := Nat.xor_lt_two_pow (n := 32) (by omega) (by omega)
  have bd : (x + 8589934592 - y - c) % 4294967296 < 4294967296 := Nat.mod_lt _ (by omega)
  have h := borrow_nat x y c (by omega) (by omega) (by omega) _ bd rfl
  rw [ed, hm, u32_xor_nat _ _ (by omega) (by omega), u32_xor_nat _ _ (by omega) (by omega), u32_xor_nat _ _ (by omega) b1, u32_and_nat _ _ b2 (by omega), u32_and_nat _ _ b3 bd,
    u32_or_nat _ _ (Nat.and_lt_two_pow (n := 32) _ (by omega)) (Nat.and_lt_two_pow (n := 32) _ bd)]
  have e : ∀ n : Nat, (n : Int) / 2147483648 = ((n / 2147483648 : Nat) : Int) := fun n => by omega
  rw [e, h]
  split <;> omega

set_option maxHeartbeats 400000 in
theorem sub32_any (x y c : Int) (hx : 0 ≤ x) (hx' : x < 4294967296) (hy : 0 ≤ y) (hy' : y < 4294967296) (hc : 0 ≤ c) (hc' : c ≤ 1) (w : World) :
    Calls Try.prog 40 #[.int .u32 x, .int .u32 y, .int .u32 c] w fun e w' => e = .returned (.tuple #[.int .u32 ((x - y - c) % 4294967296), .int .u32 (-((x - y - c) / 4294967296))]) ∧ w = w' := by
  have hb := hid (borrow_int x y c hx hx' hy hy' hc hc')
  go_enter Try.func40, Try.ntmps40
  go_wp2
  go_ret2
  refine ⟨?_, rfl⟩
  have hs : IntKind.u32.signed = false := rfl
  have hm : IntKind.u32.max = 4294967295 := by decide
  simp only [hs, hm] at *
  simp
  exact hb.out

theorem wrap_add (k a b : Nat) (hk : k ≤ 56) (ha : a ≤ 8) (hb : b = k + a) : wrap64 ((k : Int) + wrap64 (a : Int)) = (b : Int) := by
  unfold wrap64
  omega
theorem wrap_wrap (a : Nat) (ha : a ≤ 8) : wrap64 (wrap64 (a : Int)) = (a : Int) := by
  unfold wrap64
  omega
set_option maxRecDepth 100000 in
theorem len8tab_size : (256 : Int) ≤ (Lib.len8tab.size : Int) := by
  have : Lib.len8tab.size = 256 := by decide
  omega
theorem len8_get (y : Int) (h : y.toNat < Lib.len8tab.size) : ((Lib.len8tab[y.toNat]'h).toNat : Int) = Lib.len8 y := by
  unfold Lib.len8
  rw [getElem?_pos Lib.len8tab y.toNat h]
  rfl
set_option maxHeartbeats 4000000 in
set_option maxRecDepth 100000 in
theorem len32_any (x : Int) (w : World) (h0 : 0 ≤ x) (h1 : x ≤ 4294967295) :
    Calls Try.prog 50 #[.int .u32 x] w fun e w' => e = .returned (.int .i64 (Lib.bitLen x.toNat)) ∧ w = w' := by
  have hsz := len8tab_size
  go_enter Try.func50, Try.ntmps50
  go_wp2
  all_goals (go_ret; refine ⟨congrArg Ending.returned (congrArg (Value.int IntKind.i64) ?_), rfl⟩)
  all_goals first
    | (rw [len8_get (x / 65536 / 256) (by omega), Lib.len8_of (x / 65536 / 256) (by omega) (by omega)]
       have e : (x / 65536 / 256).toNat = x.toNat / 16777216 := by omega
       have l := Lib.bitLen_le8' (x / 65536 / 256) (by omega) (by omega)
       rw [e] at l ⊢
       exact wrap_add 24 _ _ (by omega) l (Lib.bitLen_shift24 x.toNat (by omega) (by omega)))
    | (rw [len8_get (x / 65536) (by omega), Lib.len8_of (x / 65536) (by omega) (by omega)]
       have e : (x / 65536).toNat = x.toNat / 65536 := by omega
       have l := Lib.bitLen_le8' (x / 65536) (by omega) (by omega)
       rw [e] at l ⊢
       exact wrap_add 16 _ _ (by omega) l (Lib.bitLen_shift16 x.toNat (by omega) (by omega)))
    | (rw [len8_get (x / 256) (by omega), Lib.len8_of (x / 256) (by omega) (by omega)]
       have e : (x / 256).toNat = x.toNat / 256 := by omega
       have l := Lib.bitLen_le8' (x / 256) (by omega) (by omega)
       rw [e] at l ⊢
       exact wrap_add 8 _ _ (by omega) l (Lib.bitLen_shift8 x.toNat (by omega) (by omega)))
    | (rw [len8_get x (by omega), Lib.len8_of x (by omega) (by omega)]
       exact wrap_wrap _ (Lib.bitLen_le8' x (by omega) (by omega)))
theorem bitLen_le32 (x : Int) (h0 : 0 ≤ x) (h1 : x ≤ 4294967295) : Lib.bitLen x.toNat ≤ 32 := Lib.bitLen_le x.toNat 32 (by omega) (by omega)
set_option maxHeartbeats 400000 in
theorem lead32_any (x : Int) (w : World) (h0 : 0 ≤ x) (h1 : x ≤ 4294967295) :
    Calls Try.prog 43 #[.int .u32 x] w fun e w' => e = .returned (.int .i64 (32 - (Lib.bitLen x.toNat : Int))) ∧ w = w' := by
  have l := bitLen_le32 x h0 h1
  go_enter Try.func43, Try.ntmps43
  go_wp2_with (go_at_call 50; refine (len32_any x _ h0 h1).mono ?_; rintro e w' ⟨rfl, rfl⟩)
  go_ret
  exact ⟨rfl, rfl⟩

/-! From -/
theorem fromA (n : Nat) (h : n < 18446744073709551616) : #[Value.int .u32 ((n : Int) % 4294967296), .int .u32 ((n : Int) / 4294967296), .int .u32 0, .int .u32 0, .int .u32 0, .int .u32 0, .int .u32 0, .int .u32 0] = numA n := by
  have h0 : ∀ k, 2 ≤ k → digI n k = 0 := fun k hk => by unfold digI; rw [dig_of_lt (m := 2) (by omega) hk]; rfl
  have e0 : digI n 0 = (n : Int) % 4294967296 := by unfold digI dig; simp
  have e1 : digI n 1 = (n : Int) / 4294967296 := by unfold digI dig; simp only [Nat.pow_one]; omega
  simp only [numA, numF, e0, e1, h0 2 (by omega), h0 3 (by omega), h0 4 (by omega), h0 5 (by omega), h0 6 (by omega), h0 7 (by omega)]
theorem zeroA : #[Value.int .u32 0, .int .u32 0, .int .u32 0, .int .u32 0, .int .u32 0, .int .u32 0, .int .u32 0, .int .u32 0] = numA 0 := fromA 0 (by omega)
set_option maxHeartbeats 400000 in
theorem from_any (x : Int) (hx : -9223372036854775808 ≤ x) (hx' : x < 9223372036854775808) (w : World) :
    Calls Try.prog 29 #[.int .i64 x] w fun e w' => e = .returned (numV x.toNat) ∧ Below w.heap.size w w' := by
  by_cases h : x < 0
  · have hz : x.toNat = 0 := by omega
    rw [hz]
    clear hz
    go_enter Try.func29, Try.ntmps29
    go_wp2
    rw [zeroA]
    exact bodyPost_ret (results_num rfl rfl (Num.new _ _ _) Try.underlying26 rfl size26) rfl ⟨rfl, (Below.refl _ _).alloc (Nat.le_refl _) _⟩
  · have hf := hid (fromA x.toNat (by omega))
    have hn := hid (show ((x.toNat : Nat) : Int) = x by omega)
    go_enter Try.func29, Try.ntmps29
    go_wp2
    have hf := hf.out
    rw [hn.out] at hf
    rw [hf]
    exact bodyPost_ret (results_num rfl rfl (Num.new _ _ _) Try.underlying26 rfl size26) rfl ⟨rfl, (Below.refl _ _).alloc (Nat.le_refl _) _⟩
set_option maxHeartbeats 400000 in
theorem from_ref (x : Int) (hx : -9223372036854775808 ≤ x) (hx' : x < 9223372036854775808) (w : World) :
    Calls Try.prog 30 #[.int .i64 x] w fun e w' => e = .returned (numV x.toNat) ∧ Below w.heap.size w w' := by
  by_cases h : 0 < x
  · have hf := hid (fromA x.toNat (by omega))
    have hn := hid (show ((x.toNat : Nat) : Int) = x by omega)
    go_enter Try.func30, Try.ntmps30
    go_wp2
    have hf := hf.out
    rw [hn.out] at hf
    rw [hf]
    exact bodyPost_ret (results_num rfl rfl ((Num.new _ _ _).alloc _) Try.underlying26 rfl size26) rfl ⟨rfl, ((Below.refl _ _).alloc (Nat.le_refl _) _).alloc (by simp) _⟩
  · have hz : x.toNat = 0 := by omega
    rw [hz]
    clear hz
    go_enter Try.func30, Try.ntmps30
    go_wp2
    rw [zeroA]
    exact bodyPost_ret (results_num rfl rfl ((Num.new _ _ _).alloc _) Try.underlying26 rfl size26) rfl ⟨rfl, ((Below.refl _ _).alloc (Nat.le_refl _) _).alloc (by simp) _⟩
end Go.Proofs.Yteihojjciklfoaa
