/- The reference's half. -/
import Derived.Test.YtcfobgimpflneaaMtRef
import Derived.Test.YtcfobgimpflneaaGaRef
import Derived.Test.YtcfobgimpflneaaGaByte
import Derived.Test.YtcfobgimpflneaaPick
namespace Go.Proofs.Ytcfobgimpflneaa
set_option linter.unusedVariables false
set_option linter.unusedSimpArgs false
open Go.ChangeShapes Go.WideShapes Go.ChangeAt Go.RowKit
/-- A limb halved, and the bit that comes from the next one. -/
theorem half_or {x y : Nat} (hx : x < 4294967296) (hy : y < 4294967296) : bits .or .u32 ((x : Int) / 2) ((y : Int) * 2147483648 % 4294967296) = ((x / 2 + y % 2 * 2147483648 : Nat) : Int) := by
  have e1 : (x : Int) / 2 = ((x / 2 : Nat) : Int) := by omega
  have e2 : (y : Int) * 2147483648 % 4294967296 = ((y % 2 * 2147483648 : Nat) : Int) := by omega
  rw [e1, e2, u32_or_nat _ _ (by omega) (by omega), Nat.or_comm, nat_join 31 (y % 2 * 2147483648) (x / 2) (by omega) (by omega)]
  omega
theorem half_dig (X i : Nat) : dig (X / 2) i = dig X i / 2 + dig X (i + 1) % 2 * 2147483648 := by
  unfold dig
  have e1 : X / 2 / 4294967296 ^ i = X / 4294967296 ^ i / 2 := by rw [Nat.div_div_eq_div_mul, Nat.div_div_eq_div_mul, Nat.mul_comm]
  have e2 : X / 4294967296 ^ (i + 1) = X / 4294967296 ^ i / 4294967296 := by rw [Nat.pow_succ, Nat.div_div_eq_div_mul]
  rw [e1, e2]
  generalize X / 4294967296 ^ i = Z
  omega
/-- What is halved: a number, or a number and an odd one. -/
theorem half_pack {a m : Nat} (ho : m % 2 = 1) (ha : a < 4294967296 ^ 8) (hm : m < 4294967296 ^ 8) (X : Nat) (hX : X = if a % 2 = 1 then a + m else a) :
    X / 2 = hfM m a ∧ X / 2 < 4294967296 ^ 8 ∧ X / 4294967296 ^ 8 ≤ 1 ∧ (∀ i, i < 8 → dig (X / 2) i = dig (X % 4294967296 ^ 8) i / 2 + dig X (i + 1) % 2 * 2147483648) ∧ dig X 8 = X / 4294967296 ^ 8 := by
  have hXb : X < 2 * 4294967296 ^ 8 := by rw [hX]; split <;> omega
  have h1 : X / 4294967296 ^ 8 ≤ 1 := by
    have : X / 4294967296 ^ 8 < 2 := Nat.div_lt_of_lt_mul (by omega)
    omega
  refine ⟨?_, by omega, h1, fun i hi => ?_, ?_⟩
  · unfold hfM; rw [hX]; split <;> rfl
  · rw [half_dig, dig_mod X hi]
  · unfold dig; rw [Nat.mod_eq_of_lt (by omega)]
theorem half_row {w : World} {g : Nat} {t : TypeId} {A H k : Nat} (h : w.rowIs g t 8 (fun j => if j < k then numF H j else numF A j)) (hk : k < 8) {v : Value} (hv : v = numF H k) : (w.setCell ⟨g, k, none⟩ v).rowIs g t 8 (fun j => if j < k + 1 then numF H j else numF A j) :=
  (h.set k _).congr fun j hj => by
    by_cases e : j = k
    · subst e; rw [if_pos rfl, if_pos (by omega), hv]
    · rw [if_neg e]
      by_cases h1 : j < k
      · rw [if_pos h1, if_pos (by omega)]
      · rw [if_neg h1, if_neg (by omega)]
set_option maxRecDepth 100000 in
set_option maxHeartbeats 16000000 in
theorem half_any (a m : Nat) (ha : a < m) (hm : m < 4294967296 ^ 8) (ho : m % 2 = 1) (w : World) :
    Calls Try.prog 61 #[numV a, numV m] w fun e w' => e = .returned (numV (hfM m a)) ∧ Below w.heap.size w w' := by
  obtain ⟨X, hX⟩ : ∃ X, X = if a % 2 = 1 then a + m else a := ⟨_, rfl⟩
  obtain ⟨p1, p2, p3, p4, p5⟩ := half_pack ho (by omega) hm X hX
  have P1 := hid p1
  have P2 := hid p2
  have P4 := hid p4
  have P5 := hid p5
  have P3 := hid p3
  have HM := hid hm
  have HA := hid ha
  have hd0 : dig a 0 % 2 = a % 2 := by unfold dig; rw [Nat.pow_zero, Nat.div_one]; omega
  have hbit := bit_dig a 0
  have hb0 : bitI a 0 = ((a % 2 : Nat) : Int) := by unfold bitI; rw [Nat.pow_zero, Nat.div_one]
  have hbit' : bits .and .u32 (digI a 0) 1 = ((a % 2 : Nat) : Int) := by rw [← hb0, ← hbit]; simp
  rw [← P1.out]
  clear p1 p2 p3 p4 p5 hm ha hbit hb0 hd0
  go_enter Try.func61, Try.ntmps61
  go_upto_region 2 with fail
  obtain ⟨W, hW⟩ : ∃ W, W = ((w.alloc (.cells (numA a) 26)).alloc (.cells (numA m) 26)).alloc (.cells #[.int .u32 0, .int .u32 0, .int .u32 0, .int .u32 0, .int .u32 0, .int .u32 0, .int .u32 0, .int .u32 0] 26) := ⟨_, rfl⟩
  have qa : Num W w.heap.size 26 a := by rw [hW]; exact ((Num.new w _ _).alloc _).alloc _
  have qm : Num W (w.heap.size + 1) 26 m := by
    have := (Num.new (w.alloc (.cells (numA a) 26)) 26 m).alloc (.cells #[.int .u32 0, .int .u32 0, .int .u32 0, .int .u32 0, .int .u32 0, .int .u32 0, .int .u32 0, .int .u32 0] 26)
    rw [World.size_alloc] at this; rw [hW]; exact this
  have qr : Num W (w.heap.size + 1 + 1) 26 0 := by
    have := Num.new ((w.alloc (.cells (numA a) 26)).alloc (.cells (numA m) 26)) 26 0
    rw [World.size_alloc, World.size_alloc, ← zeroA] at this; rw [hW]; exact this
  have gb : Below w.heap.size w W := by rw [hW]; exact (((Below.refl _ _).alloc (Nat.le_refl _) _).alloc (by simp) _).alloc (by simp; omega) _
  rw [← hW]
  clear hW
  have c0 := qa.cell (k := 0) (by decide)
  have f0 := qa.frozen 0
  have qrl := qr.lt
  rcases Nat.mod_two_eq_zero_or_one a with hp | hp
  · rw [hp] at hbit'
    have hd : decide ((0 : Int) = 1) = false := rfl
    rw [if_neg (by omega)] at hX
    subst hX
    have HA1 : Hid (X % 4294967296 ^ 8 = X) := hid (Nat.mod_eq_of_lt (by have := HA.out; have := HM.out; omega))
    have HOV0 : Hid (dig X 8 = 0) := hid (by rw [P5.out, Nat.div_eq_of_lt (by have := HA.out; have := HM.out; omega)])
    go_upto_region 4 with fail
    have ra := qa.row
    obtain ⟨A, hA⟩ : ∃ A, A = X := ⟨_, rfl⟩
    have HA1 : Hid (X % 4294967296 ^ 8 = A) := hid (by rw [HA1.out, hA])
    rw [← hA] at ra
    obtain ⟨W1, hW1⟩ : ∃ W1, W1 = W := ⟨_, rfl⟩
    have qr1 := qr
    have bb := gb
    rw [← hW1] at ra qr1 bb qrl ⊢
    generalize hov : Value.int IntKind.u32 0 = vv
    obtain ⟨OV, rfl⟩ : ∃ OV : Int, vv = .int .u32 OV := ⟨0, hov.symm⟩
    have HOV : Hid (((dig X 8 : Nat) : Int) = OV) := hid (by rw [HOV0.out]; injection hov)
    obtain ⟨hov0, hov1⟩ : 0 ≤ OV ∧ OV < 4294967296 := by rw [← HOV.out, HOV0.out]; decide
    clear hov hA hW1 qr gb qa qm c0 f0 hbit' hd
    go_wp2_with fail
    go_loopw [6] (fun i wr => ∃ k : Nat, k ≤ 8 ∧ i = .int .i64 (k : Int) ∧ wr.rowIs w.heap.size 26 8 (fun j => if j < k then numF (X / 2) j else numF A j) ∧ W1.grownBy wr (some w.heap.size)) (fun i _ => 8 - (intOf i).toNat)
    case atStart => exact ⟨0, by omega, rfl, ra.congr fun j _ => by rw [if_neg (by omega)], World.grownBy.refl _ _⟩
    case round =>
      obtain ⟨k, hk, rfl, hr, hg⟩ := hrel
      clear ra
      by_cases hlt : k < 8
      · have c1 := hr.cell (i := k) hlt
        rw [if_neg (by omega), numF] at c1
        have f1 := hr.frozen k
        have hl1 := dig_lt A k
        have hD := P4.out k hlt
        rw [HA1.out] at hD
        rcases Nat.lt_or_eq_of_le (show k + 1 ≤ 8 by omega) with h8 | h8
        · have c2 := hr.cell (i := k + 1) h8
          rw [if_neg (by omega), numF] at c2
          have hl2 := dig_lt A (k + 1)
          have hA2 : dig X (k + 1) = dig A (k + 1) := by rw [← HA1.out, dig_mod X h8]
          have hor := half_or hl1 hl2
          rw [← hA2, ← hD] at hor
          have hdec : decide ((k : Int) + 1 < 8) = true := by simp; omega
          have hsh := digI_ge A (k + 1)
          have hsh2 := digI_lt A (k + 1)
          have hx0 := digI_ge A k
          have hor2 : bits .or .u32 (digI A k / 2) (digI A (k + 1) * 2147483648 % 4294967296) = digI (X / 2) k := by unfold digI; rw [← hA2]; exact hor
          go_wp2_with fail
          go_roundw
          case rel => exact ⟨k + 1, by omega, by go_num, half_row hr hlt rfl, grown_set hg rfl _⟩
          case measure => simp [intOf] <;> omega
        · have hor := half_or hl1 (dig_lt X 8)
          rw [show 8 = k + 1 from h8.symm, ← hD] at hor
          rw [show k + 1 = 8 from h8] at hor
          have hdec : decide ((k : Int) + 1 < 8) = false := by simp; omega
          have hx0 := digI_ge A k
          obtain rfl : k = 7 := by omega
          rw [← HOV.out] at hov0 hov1
          have hor2 : bits .or .u32 (digI A 7 / 2) (((dig X 8 : Nat) : Int) * 2147483648 % 4294967296) = digI (X / 2) 7 := by unfold digI; exact hor
          rw [HOV.out] at hor2 hov0 hov1
          go_wp2_with fail
          go_roundw
          case rel => exact ⟨7 + 1, by omega, by go_num, half_row hr hlt rfl, grown_set hg rfl _⟩
          case measure => simp [intOf] <;> omega
      · obtain rfl : k = 8 := by omega
        have m8 : Num wr w.heap.size 26 (X / 2) := num_of_row hr fun j hj => by rw [if_pos hj]
        have qr2 := qr1.grown hg (by simp; omega)
        have sg := hg.size
        have z1 := bb.size
        go_wp2_with (first | (refine wpList_load_num rfl _ (.tmp 2) rfl _ rfl _ _ _ m8 Try.underlying26 rfl size26 ?_) | (refine wpList_store_num rfl _ (.tmp 4) _ rfl _ rfl _ rfl _ rfl qr2 size26 ?_; intro w3 g3 m3))
        exact bodyPost_ret (results_num rfl rfl m3 Try.underlying26 rfl size26) rfl ⟨rfl, below_of_grown (below_of_grown bb hg (by omega) (by omega)) g3 (by omega) (by omega)⟩
  · rw [hp] at hbit'
    have hd : decide ((1 : Int) = 1) = true := rfl
    rw [if_pos (by omega)] at hX
    go_upto_region 4 with (first | (refine wpList_load_num rfl _ (.tmp 2) rfl _ rfl _ _ _ qa Try.underlying26 rfl size26 ?_) | (refine wpList_load_num rfl _ (.tmp 3) rfl _ rfl _ _ _ qm Try.underlying26 rfl size26 ?_))
    refine (radd_any a m (by have := HA.out; have := HM.out; omega) HM.out _).mono ?_
    rintro e w1 ⟨rfl, b1⟩
    have qa1 := qa.step b1
    have qr0 := qr.step b1
    go_upto_region 4 with (refine wpList_store_num rfl _ (.tmp 2) _ rfl _ rfl _ rfl _ rfl qa1 size26 ?_; intro W1 g2 m2)
    have ra := m2.row
    have qr1 := qr0.grown g2 (by simp; omega)
    have z0 := gb.size
    have z1 := b1.size
    have bb := below_of_grown (below_trans gb b1 (by omega)) g2 (by omega) (by omega)
    have qrl := qr1.lt
    have HA1 : Hid (X % 4294967296 ^ 8 = addN a m) := hid (by rw [hX]; unfold addN; split <;> have := HA.out <;> have := HM.out <;> omega)
    have HOV : Hid (((dig X 8 : Nat) : Int) = overI a m) := hid (by rw [P5.out, hX]; unfold overI; split <;> have := HA.out <;> have := HM.out <;> omega)
    generalize addN a m = A at *
    generalize overI a m = OV at *
    obtain ⟨hov0, hov1⟩ : 0 ≤ OV ∧ OV < 4294967296 := by rw [← HOV.out]; have := dig_lt X 8; omega
    clear qr gb qa qm c0 f0 hbit' hd qa1 qr0 g2 m2 b1 z0 z1 hX
    go_wp2_with fail
    go_loopw [6] (fun i wr => ∃ k : Nat, k ≤ 8 ∧ i = .int .i64 (k : Int) ∧ wr.rowIs w.heap.size 26 8 (fun j => if j < k then numF (X / 2) j else numF A j) ∧ W1.grownBy wr (some w.heap.size)) (fun i _ => 8 - (intOf i).toNat)
    case atStart => exact ⟨0, by omega, rfl, ra.congr fun j _ => by rw [if_neg (by omega)], World.grownBy.refl _ _⟩
    case round =>
      obtain ⟨k, hk, rfl, hr, hg⟩ := hrel
      clear ra
      by_cases hlt : k < 8
      · have c1 := hr.cell (i := k) hlt
        rw [if_neg (by omega), numF] at c1
        have f1 := hr.frozen k
        have hl1 := dig_lt A k
        have hD := P4.out k hlt
        rw [HA1.out] at hD
        rcases Nat.lt_or_eq_of_le (show k + 1 ≤ 8 by omega) with h8 | h8
        · have c2 := hr.cell (i := k + 1) h8
          rw [if_neg (by omega), numF] at c2
          have hl2 := dig_lt A (k + 1)
          have hA2 : dig X (k + 1) = dig A (k + 1) := by rw [← HA1.out, dig_mod X h8]
          have hor := half_or hl1 hl2
          rw [← hA2, ← hD] at hor
          have hdec : decide ((k : Int) + 1 < 8) = true := by simp; omega
          have hsh := digI_ge A (k + 1)
          have hsh2 := digI_lt A (k + 1)
          have hx0 := digI_ge A k
          have hor2 : bits .or .u32 (digI A k / 2) (digI A (k + 1) * 2147483648 % 4294967296) = digI (X / 2) k := by unfold digI; rw [← hA2]; exact hor
          go_wp2_with fail
          go_roundw
          case rel => exact ⟨k + 1, by omega, by go_num, half_row hr hlt rfl, grown_set hg rfl _⟩
          case measure => simp [intOf] <;> omega
        · have hor := half_or hl1 (dig_lt X 8)
          rw [show 8 = k + 1 from h8.symm, ← hD] at hor
          rw [show k + 1 = 8 from h8] at hor
          have hdec : decide ((k : Int) + 1 < 8) = false := by simp; omega
          have hx0 := digI_ge A k
          obtain rfl : k = 7 := by omega
          rw [← HOV.out] at hov0 hov1
          have hor2 : bits .or .u32 (digI A 7 / 2) (((dig X 8 : Nat) : Int) * 2147483648 % 4294967296) = digI (X / 2) 7 := by unfold digI; exact hor
          rw [HOV.out] at hor2 hov0 hov1
          go_wp2_with fail
          go_roundw
          case rel => exact ⟨7 + 1, by omega, by go_num, half_row hr hlt rfl, grown_set hg rfl _⟩
          case measure => simp [intOf] <;> omega
      · obtain rfl : k = 8 := by omega
        have m8 : Num wr w.heap.size 26 (X / 2) := num_of_row hr fun j hj => by rw [if_pos hj]
        have qr2 := qr1.grown hg (by simp; omega)
        have sg := hg.size
        have z1 := bb.size
        go_wp2_with (first | (refine wpList_load_num rfl _ (.tmp 2) rfl _ rfl _ _ _ m8 Try.underlying26 rfl size26 ?_) | (refine wpList_store_num rfl _ (.tmp 4) _ rfl _ rfl _ rfl _ rfl qr2 size26 ?_; intro w3 g3 m3))
        exact bodyPost_ret (results_num rfl rfl m3 Try.underlying26 rfl size26) rfl ⟨rfl, below_of_grown (below_of_grown bb hg (by omega) (by omega)) g3 (by omega) (by omega)⟩
end Go.Proofs.Ytcfobgimpflneaa
