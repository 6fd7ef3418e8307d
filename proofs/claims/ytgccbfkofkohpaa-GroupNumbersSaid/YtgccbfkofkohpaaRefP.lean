/- sentinelref1: Bytes, Read: contracts. -/
import Derived.Test.YtgccbfkofkohpaaGaRel
namespace Go.Proofs.Ytgccbfkofkohpaa
set_option linter.unusedVariables false
set_option maxRecDepth 20000
set_option linter.unusedSimpArgs false
open Go.ChangeShapes Go.WideShapes Go.ChangeAt Go.RowKit

theorem take4 (a : Nat) {k : Nat} (hk : k < 8) : (bytesN a).take (32 - 4 * k) = (bytesN a).take (28 - 4 * k) ++ [byteN a (28 - 4 * k), byteN a (29 - 4 * k), byteN a (30 - 4 * k), byteN a (31 - 4 * k)] := by
  have h : k = 0 ∨ k = 1 ∨ k = 2 ∨ k = 3 ∨ k = 4 ∨ k = 5 ∨ k = 6 ∨ k = 7 := by omega
  rcases h with rfl | rfl | rfl | rfl | rfl | rfl | rfl | rfl <;> rfl
theorem four_bytes (a : Nat) {k : Nat} (hk : k < 8) : #[Value.int .u8 (IntKind.u8.wrap (digI a k / 16777216)), .int .u8 (IntKind.u8.wrap (digI a k / 65536)), .int .u8 (IntKind.u8.wrap (digI a k / 256)), .int .u8 (IntKind.u8.wrap (digI a k))] = bvs [byteN a (28 - 4 * k), byteN a (29 - 4 * k), byteN a (30 - 4 * k), byteN a (31 - 4 * k)] := by
  have h0 := dig_byte a k 0 (by omega)
  have h1 := dig_byte a k 1 (by omega)
  have h2 := dig_byte a k 2 (by omega)
  have h3 := dig_byte a k 3 (by omega)
  have hl := dig_lt a k
  simp only [bvs, List.map_cons, List.map_nil, bv, byteN_toNat, digI, IntKind.wrap_u8]
  rw [show 31 - (28 - 4 * k) = 4 * k + 3 by omega, show 31 - (29 - 4 * k) = 4 * k + 2 by omega, show 31 - (30 - 4 * k) = 4 * k + 1 by omega, show 31 - (31 - 4 * k) = 4 * k + 0 by omega, ← h0, ← h1, ← h2, ← h3]
  generalize dig a k = d at *
  simp
/-! Read. -/
theorem dig_place {R k b : Nat} (hR : 256 ^ (k + 1) ∣ R) (hb : b < 256) : (∀ j, j ≠ k / 4 → dig (R + b * 256 ^ k) j = dig R j) ∧ dig (R + b * 256 ^ k) (k / 4) = dig R (k / 4) + b * 256 ^ (k % 4) ∧ dig R (k / 4) % 256 ^ (k % 4 + 1) = 0 := by
  obtain ⟨Q, rfl⟩ := hR
  have e : ∀ j, (4294967296 : Nat) ^ j = 256 ^ (4 * j) := fun j => by rw [Nat.pow_mul]
  have hp : ∀ j, (0 : Nat) < 256 ^ j := fun j => Nat.pow_pos (by decide)
  refine ⟨fun j hj => ?_, ?_⟩
  · unfold dig
    rw [e]
    rcases Nat.lt_or_gt_of_ne hj with h | h
    · obtain ⟨x, rfl⟩ : ∃ x, k = 4 * j + 4 + x := ⟨k - (4 * j + 4), by omega⟩
      have e1 : b * 256 ^ (4 * j + 4 + x) = 256 ^ (4 * j) * (4294967296 * (b * 256 ^ x)) := by
        rw [Nat.pow_add, Nat.pow_add, show (4294967296 : Nat) = 256 ^ 4 from rfl]; simp only [Nat.mul_assoc, Nat.mul_comm, Nat.mul_left_comm]
      rw [e1, Nat.add_mul_div_left _ _ (hp _), Nat.add_mul_mod_self_left]
    · obtain ⟨x, hx⟩ : ∃ x, 4 * j = k + 1 + x := ⟨4 * j - (k + 1), by omega⟩
      have e3 : (256 : Nat) ^ (k + 1 + x) = 256 ^ k * (256 * 256 ^ x) := by rw [Nat.pow_add, Nat.pow_succ, Nat.mul_assoc]
      have e4 : 256 ^ (k + 1) * Q = 256 ^ k * (256 * Q) := by rw [Nat.pow_succ, Nat.mul_assoc]
      rw [hx, e3, e4, Nat.mul_comm b, ← Nat.mul_add, Nat.mul_div_mul_left _ _ (hp k), Nat.mul_div_mul_left _ _ (hp k), ← Nat.div_div_eq_div_mul, ← Nat.div_div_eq_div_mul]
      congr 2
      omega
  · unfold dig
    rw [e]
    obtain ⟨d, r, hk, hr⟩ : ∃ d r, k = 4 * d + r ∧ r < 4 := ⟨k / 4, k % 4, by omega, by omega⟩
    have h1 : k / 4 = d := by omega
    have h2 : k % 4 = r := by omega
    rw [h1, h2, hk]
    have e1 : 256 ^ (4 * d + r + 1) * Q = 256 ^ (4 * d) * (256 ^ (r + 1) * Q) := by
      rw [Nat.add_assoc, Nat.pow_add, Nat.mul_assoc]
    have e2 : b * 256 ^ (4 * d + r) = 256 ^ (4 * d) * (b * 256 ^ r) := by
      rw [Nat.pow_add]; simp only [Nat.mul_assoc, Nat.mul_comm, Nat.mul_left_comm]
    rw [e1, e2, ← Nat.mul_add, Nat.mul_div_cancel_left _ (hp _), Nat.mul_div_cancel_left _ (hp _)]
    have : r = 0 ∨ r = 1 ∨ r = 2 ∨ r = 3 := by omega
    rcases this with rfl | rfl | rfl | rfl <;> simp <;> omega
theorem or_place {x b r : Nat} (hx : x < 4294967296) (hm : x % 256 ^ (r + 1) = 0) (hb : b < 256) (hr : r < 4) : bits .or .u32 (x : Int) ((b * 256 ^ r : Nat) : Int) = ((x + b * 256 ^ r : Nat) : Int) := by
  have h : b * 256 ^ r < 256 ^ (r + 1) := by rw [Nat.pow_succ, Nat.mul_comm]; exact Nat.mul_lt_mul_of_pos_left hb (Nat.pow_pos (by decide))
  have h2 : (256 : Nat) ^ (r + 1) ≤ 256 ^ 4 := Nat.pow_le_pow_right (by decide) (by omega)
  rw [u32_or_nat _ _ hx (by omega), nat_join (8 * (r + 1)) x _ (by rw [Nat.pow_mul]; exact hm) (by rw [Nat.pow_mul]; exact h)]
theorem Num.setDig {w : World} {b R R' d : Nat} {t : TypeId} (h : Num w b t R) (hd : d < 8) (hj : ∀ j, j ≠ d → dig R' j = dig R j) : Num (w.setCell ⟨b, d, none⟩ (.int .u32 (digI R' d))) b t R' := by
  refine num_of_row (h.row.set d _) fun j hj8 => ?_
  by_cases e : j = d
  · rw [if_pos e, e]; rfl
  · rw [if_neg e]; unfold numF digI; rw [hj j e]
/-- What is read of l when i bytes of n are. -/
def sofar (l : List UInt8) (n i : Nat) : Nat := readN (l.take i) * 256 ^ (n - i)
theorem sofar_next {l : List UInt8} {n i : Nat} (hl : l.length = n) (hi : i < n) : ∃ b : UInt8, l[i]? = some b ∧ sofar l n (i + 1) = sofar l n i + b.toNat * 256 ^ (n - 1 - i) ∧ 256 ^ (n - 1 - i + 1) ∣ sofar l n i := by
  have h : i < l.length := by omega
  refine ⟨l[i], List.getElem?_eq_getElem h, ?_, ?_⟩
  · unfold sofar
    rw [List.take_succ_eq_append_getElem h, readN_snoc, show n - i = n - 1 - i + 1 by omega, show n - (i + 1) = n - 1 - i by omega, Nat.pow_succ]
    grind
  · unfold sofar
    rw [show n - 1 - i + 1 = n - i by omega]
    exact Nat.dvd_mul_left _ _
theorem sofar_zero (l : List UInt8) (n : Nat) : sofar l n 0 = 0 := by unfold sofar; simp [readN]
theorem sofar_all {l : List UInt8} {n : Nat} (hl : l.length = n) : sofar l n n = readN l := by unfold sofar; rw [List.take_of_length_le (by omega)]; simp
attribute [irreducible] sofar
/-- One byte laid in: as the walk has it. -/
theorem place_step {l : List UInt8} {n i : Nat} (hl : l.length = n) (hn : n ≤ 32) (hi : i < n) : ∃ (b : UInt8) (d r : Nat), l[i]? = some b ∧ n - 1 - i = 4 * d + r ∧ d < 8 ∧ r < 4 ∧
    (∀ j, j ≠ d → dig (sofar l n (i + 1)) j = dig (sofar l n i) j) ∧ bits .or .u32 (digI (sofar l n i) d) ((b.toNat * 256 ^ r : Nat) : Int) = digI (sofar l n (i + 1)) d := by
  obtain ⟨b, h1, h2, h3⟩ := sofar_next hl hi
  obtain ⟨q1, q2, q3⟩ := dig_place h3 b.toNat_lt
  refine ⟨b, (n - 1 - i) / 4, (n - 1 - i) % 4, h1, by omega, by omega, by omega, fun j hj => by rw [h2]; exact q1 j hj, ?_⟩
  unfold digI
  rw [or_place (dig_lt _ _) q3 b.toNat_lt (by omega), h2, q2]
set_option maxHeartbeats 400000 in
theorem rread_none (A : Option Addr) (n cap : Nat) (hn : 32 < n) (hm : n ≤ maxLen) (w : World) :
    Calls Try.prog 40 #[.slice A n cap] w fun e w' => e = .returned (.tuple #[numV 0, .bool false]) ∧ Below w.heap.size w w' := by
  unfold maxLen at hm
  have g0 := (Num.new w 26 0)
  have g1 := Num.new (w.alloc (.cells (numA 0) 26)) 26 0
  rw [World.size_alloc] at g1
  have g0' := g0.alloc (.cells (numA 0) 26)
  rw [← zeroA] at g0' g1
  have gb : Below w.heap.size w ((w.alloc (.cells #[Value.int .u32 0, .int .u32 0, .int .u32 0, .int .u32 0, .int .u32 0, .int .u32 0, .int .u32 0, .int .u32 0] 26)).alloc (.cells #[Value.int .u32 0, .int .u32 0, .int .u32 0, .int .u32 0, .int .u32 0, .int .u32 0, .int .u32 0, .int .u32 0] 26)) := ((Below.refl _ _).alloc (Nat.le_refl _) _).alloc (by simp) _
  go_enter Try.func40, Try.ntmps40
  go_wp2_with (first | (refine wpList_load_num rfl _ _ rfl _ rfl _ _ _ g1 Try.underlying26 rfl size26 ?_) | (refine wpList_store_num rfl _ _ _ rfl _ rfl 0 rfl _ rfl g0' size26 ?_; intro w5 hg5 m5))
  exact bodyPost_ret (results_num_tmp rfl rfl m5 Try.underlying26 rfl size26) rfl ⟨rfl, below_of_grown gb hg5 (by simp <;> omega) (by omega)⟩
set_option maxHeartbeats 4000000 in
theorem rread_any (A : Option Addr) (l : List UInt8) (n cap : Nat) (hl : l.length = n) (hn : n ≤ 32) (w : World) (hR : Rd w A l) :
    Calls Try.prog 40 #[.slice A n cap] w fun e w' => e = .returned (.tuple #[numV (readN l), .bool true]) ∧ Below w.heap.size w w' := by
  have PS := hid (fun i hi => @place_step l n i hl hn hi)
  have SA := hid (sofar_all hl)
  have g0 := (Num.new w 26 0).alloc (.cells (numA 0) 26)
  have g1 := Num.new (w.alloc (.cells (numA 0) 26)) 26 0
  rw [World.size_alloc, ← sofar_zero l n] at g1
  have gb : Below w.heap.size w ((w.alloc (.cells (numA 0) 26)).alloc (.cells (numA 0) 26)) := ((Below.refl _ _).alloc (Nat.le_refl _) _).alloc (by simp) _
  have hs : ((w.alloc (.cells (numA 0) 26)).alloc (.cells (numA 0) 26)).heap.size = w.heap.size + 2 := by simp
  rw [sofar_zero] at g1
  rw [← zeroA] at g0 g1 gb hs
  have SZ := hid (sofar_zero l n)
  have HL := hid hl
  clear hl
  go_enter Try.func40, Try.ntmps40
  go_wp2
  generalize World.alloc (World.alloc _ _) _ = W at *
  go_loopw [5] (fun i wr => ∃ k : Nat, k ≤ n ∧ i = .int .i64 k ∧ Num wr (w.heap.size + 1) 26 (sofar l n k) ∧ W.grownBy wr (some (w.heap.size + 1))) (fun i _ => n - (intOf i).toNat)
  case atStart => exact ⟨0, by omega, rfl, by rw [SZ.out]; exact g1, World.grownBy.refl _ _⟩
  case round =>
    obtain ⟨i, hi, rfl, hnm, hg⟩ := hrel
    clear g1
    by_cases hlt : i < n
    · obtain ⟨b, d, r, hb, hk, hd, hr, hj, hor⟩ := PS.out i hlt
      have hbb := b.toNat_lt
      have hcd := hnm.cell hd
      have hfd := hnm.frozen d
      have hB := below_of_grown gb hg (by omega) (by omega)
      obtain ⟨bb, oo, rfl, hbb2, hcl⟩ := (hR.below hB (Nat.le_refl _)).at (by have := HL.out; omega)
      have hcb := hcl i b hb
      clear hcl
      have HK := hid hk
      have HN := hid (hnm.setDig hd hj)
      clear hk hj hb
      obtain ⟨c, hc⟩ : ∃ c : Int, c = (b.toNat : Int) := ⟨_, rfl⟩
      rw [← hc] at hcb
      have hr3 : r = 0 ∨ r = 1 ∨ r = 2 ∨ r = 3 := by omega
      have hoR := digI_ge (sofar l n i) d
      have hoS := digI_lt (sofar l n i) d
      rcases hr3 with rfl | rfl | rfl | rfl
      · have hd8 : (d : Int) < 8 := by omega
        have hd0 : (0 : Int) ≤ (d : Int) := by omega
        have hor' : bits BinOp.or IntKind.u32 (digI (sofar l n i) d) (c % 4294967296) = digI (sofar l n (i + 1)) d := by rw [← hor, hc, Int.emod_eq_of_lt (by omega) (by omega)]; simp
        have hkI : (n : Int) - 1 - (i : Int) = 4 * (d : Int) := by have := HK.out; omega
        have hdd : IntKind.i64.wrap (d : Int) = (d : Int) := Go.IntWalk.i64_in _ (by omega)
        have hk4 : IntKind.i64.wrap ((4 * (d : Int)).tdiv 4) = (d : Int) := by rw [Int.tdiv_eq_ediv_of_nonneg (by omega), show (4 * (d : Int)) / 4 = (d : Int) by omega]; exact Go.IntWalk.i64_in _ (by omega)
        have hr4 : IntKind.i64.wrap ((4 * (d : Int)).tmod 4) = 0 := by rw [Int.tmod_eq_emod_of_nonneg (by omega), show (4 * (d : Int)) % 4 = 0 by omega]; rfl
        clear hor
        have hc0 : 0 ≤ c := by omega
        have hc1 : c < 256 := by omega
        clear hc
        go_wp2_with fail
        go_still_tail 18, (by kernel_rfl)
        change wpList _ _ _ _ _ (World.drew _)
        go_wp2
        go_roundw
        case rel => exact ⟨i + 1, by omega, by go_num, HN.out, only_drewN (grown_set hg rfl _) 1⟩
        case measure => simp [intOf] <;> omega
      · have hd8 : (d : Int) < 8 := by omega
        have hd0 : (0 : Int) ≤ (d : Int) := by omega
        have hor' : bits BinOp.or IntKind.u32 (digI (sofar l n i) d) (c * 256 % 4294967296) = digI (sofar l n (i + 1)) d := by rw [← hor, hc, Int.emod_eq_of_lt (by omega) (by omega)]; simp
        have hkI : (n : Int) - 1 - (i : Int) = 4 * (d : Int) + 1 := by have := HK.out; omega
        have hk4 : IntKind.i64.wrap ((4 * (d : Int) + 1).tdiv 4) = (d : Int) := by rw [Int.tdiv_eq_ediv_of_nonneg (by omega), show (4 * (d : Int) + 1) / 4 = (d : Int) by omega]; exact Go.IntWalk.i64_in _ (by omega)
        have hr4 : IntKind.i64.wrap ((4 * (d : Int) + 1).tmod 4) = 1 := by rw [Int.tmod_eq_emod_of_nonneg (by omega), show (4 * (d : Int) + 1) % 4 = 1 by omega]; rfl
        clear hor
        have hc0 : 0 ≤ c := by omega
        have hc1 : c < 256 := by omega
        clear hc
        go_wp2_with fail
        go_still_tail 18, (by kernel_rfl)
        change wpList _ _ _ _ _ (World.drew _)
        go_wp2
        go_roundw
        case rel => exact ⟨i + 1, by omega, by go_num, HN.out, only_drewN (grown_set hg rfl _) 1⟩
        case measure => simp [intOf] <;> omega
      · have hd8 : (d : Int) < 8 := by omega
        have hd0 : (0 : Int) ≤ (d : Int) := by omega
        have hor' : bits BinOp.or IntKind.u32 (digI (sofar l n i) d) (c * 65536 % 4294967296) = digI (sofar l n (i + 1)) d := by rw [← hor, hc, Int.emod_eq_of_lt (by omega) (by omega)]; simp
        have hkI : (n : Int) - 1 - (i : Int) = 4 * (d : Int) + 2 := by have := HK.out; omega
        have hk4 : IntKind.i64.wrap ((4 * (d : Int) + 2).tdiv 4) = (d : Int) := by rw [Int.tdiv_eq_ediv_of_nonneg (by omega), show (4 * (d : Int) + 2) / 4 = (d : Int) by omega]; exact Go.IntWalk.i64_in _ (by omega)
        have hr4 : IntKind.i64.wrap ((4 * (d : Int) + 2).tmod 4) = 2 := by rw [Int.tmod_eq_emod_of_nonneg (by omega), show (4 * (d : Int) + 2) % 4 = 2 by omega]; rfl
        clear hor
        have hc0 : 0 ≤ c := by omega
        have hc1 : c < 256 := by omega
        clear hc
        go_wp2_with fail
        go_still_tail 18, (by kernel_rfl)
        change wpList _ _ _ _ _ (World.drew _)
        go_wp2
        go_roundw
        case rel => exact ⟨i + 1, by omega, by go_num, HN.out, only_drewN (grown_set hg rfl _) 1⟩
        case measure => simp [intOf] <;> omega
      · have hd8 : (d : Int) < 8 := by omega
        have hd0 : (0 : Int) ≤ (d : Int) := by omega
        have hor' : bits BinOp.or IntKind.u32 (digI (sofar l n i) d) (c * 16777216 % 4294967296) = digI (sofar l n (i + 1)) d := by rw [← hor, hc, Int.emod_eq_of_lt (by omega) (by omega)]; simp
        have hkI : (n : Int) - 1 - (i : Int) = 4 * (d : Int) + 3 := by have := HK.out; omega
        have hk4 : IntKind.i64.wrap ((4 * (d : Int) + 3).tdiv 4) = (d : Int) := by rw [Int.tdiv_eq_ediv_of_nonneg (by omega), show (4 * (d : Int) + 3) / 4 = (d : Int) by omega]; exact Go.IntWalk.i64_in _ (by omega)
        have hr4 : IntKind.i64.wrap ((4 * (d : Int) + 3).tmod 4) = 3 := by rw [Int.tmod_eq_emod_of_nonneg (by omega), show (4 * (d : Int) + 3) % 4 = 3 by omega]; rfl
        clear hor
        have hc0 : 0 ≤ c := by omega
        have hc1 : c < 256 := by omega
        clear hc
        go_wp2_with fail
        go_still_tail 18, (by kernel_rfl)
        change wpList _ _ _ _ _ (World.drew _)
        go_wp2
        go_roundw
        case rel => exact ⟨i + 1, by omega, by go_num, HN.out, only_drewN (grown_set hg rfl _) 1⟩
        case measure => simp [intOf] <;> omega
    · obtain rfl : i = n := by omega
      have hB := below_of_grown gb hg (by omega) (by omega)
      have m0 : Num wr w.heap.size 26 0 := g0.grown hg (by simp)
      rw [SA.out] at hnm
      go_wp2_with (first | (refine wpList_load_num rfl _ _ rfl _ rfl _ _ _ hnm Try.underlying26 rfl size26 ?_) | (refine wpList_store_num rfl _ _ _ rfl _ rfl _ rfl _ rfl m0 size26 ?_; intro w5 hg5 m5))
      exact bodyPost_ret (results_num_tmp rfl rfl m5 Try.underlying26 rfl size26) rfl ⟨rfl, below_of_grown hB hg5 hB.size (by omega)⟩
end Go.Proofs.Ytgccbfkofkohpaa
