/- What SrpWrong stands on, part 7. -/
import Derived.Laws.StructEq
import Derived.Great.BuildSlice
import Derived.Lib.SmallJoins
import Derived.Deep.RegionHeld3
import Derived.Deep.Upon
import Derived.Test.YtcfepoopkfhojaaGreatSrpWrongP1
import Derived.Test.YtcfepoopkfhojaaGreatSrpWrongP2
import Derived.Test.YtcfepoopkfhojaaGreatSrpWrongP3
import Derived.Test.YtcfepoopkfhojaaGreatSrpWrongP4
import Derived.Test.YtcfepoopkfhojaaGreatSrpWrongP5
import Derived.Test.YtcfepoopkfhojaaGreatSrpWrongP6
set_option maxRecDepth 100000
set_option maxHeartbeats 8000000
set_option linter.unusedVariables false
set_option linter.unusedSimpArgs false
/- sentinelref3: Eight, padded, Parts, Bytes: contracts. -/
namespace Go.Proofs.YtcfepoopkfhojaaGreat
open Go.ChangeShapes Go.WideShapes Go.ChangeAt Go.RowKit Go.Shelf
theorem eightL_take {n k : Nat} (hk : k < 8) : (z8a n).take (k + 1) = (z8a n).take k ++ [UInt8.ofNat (byt (n : Int) k).toNat] := by
 have h : k < (z8a n).length := by rw [ztb]; exact hk
 rw [List.take_succ_eq_append_getElem h]
 congr 2
 simp [z8a]
theorem byt_val (n : Int) (k : Nat) : (((UInt8.ofNat (byt n k).toNat).toNat : Nat) : Int) = byt n k := by
 have := byt_bd n k
 have e : (UInt8.ofNat (byt n k).toNat).toNat = (byt n k).toNat := by simp; omega
 rw [e, Int.toNat_of_nonneg this.1]
theorem zac {B : Nat} {w w' : World} {o : Obj} (h : Below B (w.alloc o) w') (hB : B ≤ w.heap.size) : Below B w w' := ((Below.refl B w).alloc hB o).trans h
theorem sreight_any (n : Nat) (hn : (n : Int) < 9223372036854775808) (w : World) :
  Calls Tryz.prog 96 #[.int .i64 (n : Int)] w fun e w' => ∃ v, e = .returned v ∧ Byt w' w.heap.size v (z8a n) ∧ Below w.heap.size w w' := by
 have ET := hid (fun k hk => @eightL_take n k hk)
 have BV := hid (fun k => byt_val (n : Int) k)
 have EL := hid (ztb n)
 have hn0 : (0 : Int) ≤ (n : Int) := Int.natCast_nonneg _
 obtain ⟨I, hI⟩ : ∃ I : Int, I = (n : Int) := ⟨_, rfl⟩
 rw [← hI] at hn hn0 BV ⊢
 go_enter Tryz.func96, Tryz.ntmps96
 go_wp2
 have HI := hid hI
 clear hI
 go_loopw [3, 4] (fun v i wr => ∃ k : Nat, k ≤ 8 ∧ i = .int .i64 k ∧ Byt wr w.heap.size v ((z8a n).take k) ∧ Below w.heap.size w wr) (fun _ i _ => 8 - (intOf i).toNat)
 case atStart => exact ⟨0, by omega, rfl, Byt.nil _ _, Below.refl _ _⟩
 case round =>
  obtain ⟨k, hk, rfl, hv, hB⟩ := hrel
  by_cases hlt : k < 8
  ·have et := ET.out k hlt
   have bvk := BV.out k
   have hle : ((z8a n).take k).length ≤ 8 := by rw [List.length_take, EL.out]; omega
   have hkk : k = 0 ∨ k = 1 ∨ k = 2 ∨ k = 3 ∨ k = 4 ∨ k = 5 ∨ k = 6 ∨ k = 7 := by omega
   obtain ⟨x, hx⟩ : ∃ x, x = UInt8.ofNat (byt I k).toNat := ⟨_, rfl⟩
   rw [← HI.out, ← hx] at et
   rw [← hx] at bvk
   clear hx hlt hk ET
   rcases hkk with rfl | rfl | rfl | rfl | rfl | rfl | rfl | rfl
   ·have hV : byt I 0 = I / 72057594037927936 := by unfold byt; simp; omega
    rw [hV] at bvk
    have hrd : Rd (wr.alloc (.cells #[Value.int .u8 (I / 72057594037927936)] 5)) (some ⟨wr.heap.size, 0, none⟩) [x] := by
     have := rd_one x wr
     rw [bvk] at this
     exact this
    have hz := hB.size
    clear hV bvk BV
    go_wp2_with (refine zia rfl (.tmp 9) (.tmp 17) rfl w.heap.size _ _ [x] rfl (hv.alloc _) _ 1 1 rfl rfl (fun h => by cases h) hrd (by simp <;> omega) (by simp; omega) ?_; intro v' w' h1 h2 h3)
    go_roundw
    case rel => exact ⟨1, by omega, by go_num, by rw [et]; exact h1, hB.trans (zac h2 hz)⟩
    case measure => simp [intOf]
   ·have hV : byt I 1 = I / 281474976710656 % 256 := by unfold byt; simp
    rw [hV] at bvk
    have hrd : Rd (wr.alloc (.cells #[Value.int .u8 (I / 281474976710656 % 256)] 5)) (some ⟨wr.heap.size, 0, none⟩) [x] := by
     have := rd_one x wr
     rw [bvk] at this
     exact this
    have hz := hB.size
    clear hV bvk BV
    go_wp2_with (refine zia rfl (.tmp 9) (.tmp 17) rfl w.heap.size _ _ [x] rfl (hv.alloc _) _ 1 1 rfl rfl (fun h => by cases h) hrd (by simp <;> omega) (by simp; omega) ?_; intro v' w' h1 h2 h3)
    go_roundw
    case rel => exact ⟨2, by omega, by go_num, by rw [et]; exact h1, hB.trans (zac h2 hz)⟩
    case measure => simp [intOf]
   ·have hV : byt I 2 = I / 1099511627776 % 256 := by unfold byt; simp
    rw [hV] at bvk
    have hrd : Rd (wr.alloc (.cells #[Value.int .u8 (I / 1099511627776 % 256)] 5)) (some ⟨wr.heap.size, 0, none⟩) [x] := by
     have := rd_one x wr
     rw [bvk] at this
     exact this
    have hz := hB.size
    clear hV bvk BV
    go_wp2_with (refine zia rfl (.tmp 9) (.tmp 17) rfl w.heap.size _ _ [x] rfl (hv.alloc _) _ 1 1 rfl rfl (fun h => by cases h) hrd (by simp <;> omega) (by simp; omega) ?_; intro v' w' h1 h2 h3)
    go_roundw
    case rel => exact ⟨3, by omega, by go_num, by rw [et]; exact h1, hB.trans (zac h2 hz)⟩
    case measure => simp [intOf]
   ·have hV : byt I 3 = I / 4294967296 % 256 := by unfold byt; simp
    rw [hV] at bvk
    have hrd : Rd (wr.alloc (.cells #[Value.int .u8 (I / 4294967296 % 256)] 5)) (some ⟨wr.heap.size, 0, none⟩) [x] := by
     have := rd_one x wr
     rw [bvk] at this
     exact this
    have hz := hB.size
    clear hV bvk BV
    go_wp2_with (refine zia rfl (.tmp 9) (.tmp 17) rfl w.heap.size _ _ [x] rfl (hv.alloc _) _ 1 1 rfl rfl (fun h => by cases h) hrd (by simp <;> omega) (by simp; omega) ?_; intro v' w' h1 h2 h3)
    go_roundw
    case rel => exact ⟨4, by omega, by go_num, by rw [et]; exact h1, hB.trans (zac h2 hz)⟩
    case measure => simp [intOf]
   ·have hV : byt I 4 = I / 16777216 % 256 := by unfold byt; simp
    rw [hV] at bvk
    have hrd : Rd (wr.alloc (.cells #[Value.int .u8 (I / 16777216 % 256)] 5)) (some ⟨wr.heap.size, 0, none⟩) [x] := by
     have := rd_one x wr
     rw [bvk] at this
     exact this
    have hz := hB.size
    clear hV bvk BV
    go_wp2_with (refine zia rfl (.tmp 9) (.tmp 17) rfl w.heap.size _ _ [x] rfl (hv.alloc _) _ 1 1 rfl rfl (fun h => by cases h) hrd (by simp <;> omega) (by simp; omega) ?_; intro v' w' h1 h2 h3)
    go_roundw
    case rel => exact ⟨5, by omega, by go_num, by rw [et]; exact h1, hB.trans (zac h2 hz)⟩
    case measure => simp [intOf]
   ·have hV : byt I 5 = I / 65536 % 256 := by unfold byt; simp
    rw [hV] at bvk
    have hrd : Rd (wr.alloc (.cells #[Value.int .u8 (I / 65536 % 256)] 5)) (some ⟨wr.heap.size, 0, none⟩) [x] := by
     have := rd_one x wr
     rw [bvk] at this
     exact this
    have hz := hB.size
    clear hV bvk BV
    go_wp2_with (refine zia rfl (.tmp 9) (.tmp 17) rfl w.heap.size _ _ [x] rfl (hv.alloc _) _ 1 1 rfl rfl (fun h => by cases h) hrd (by simp <;> omega) (by simp; omega) ?_; intro v' w' h1 h2 h3)
    go_roundw
    case rel => exact ⟨6, by omega, by go_num, by rw [et]; exact h1, hB.trans (zac h2 hz)⟩
    case measure => simp [intOf]
   ·have hV : byt I 6 = I / 256 % 256 := by unfold byt; simp
    rw [hV] at bvk
    have hrd : Rd (wr.alloc (.cells #[Value.int .u8 (I / 256 % 256)] 5)) (some ⟨wr.heap.size, 0, none⟩) [x] := by
     have := rd_one x wr
     rw [bvk] at this
     exact this
    have hz := hB.size
    clear hV bvk BV
    go_wp2_with (refine zia rfl (.tmp 9) (.tmp 17) rfl w.heap.size _ _ [x] rfl (hv.alloc _) _ 1 1 rfl rfl (fun h => by cases h) hrd (by simp <;> omega) (by simp; omega) ?_; intro v' w' h1 h2 h3)
    go_roundw
    case rel => exact ⟨7, by omega, by go_num, by rw [et]; exact h1, hB.trans (zac h2 hz)⟩
    case measure => simp [intOf]
   ·have hV : byt I 7 = I % 256 := by unfold byt; simp
    rw [hV] at bvk
    have hrd : Rd (wr.alloc (.cells #[Value.int .u8 (I % 256)] 5)) (some ⟨wr.heap.size, 0, none⟩) [x] := by
     have := rd_one x wr
     rw [bvk] at this
     exact this
    have hz := hB.size
    clear hV bvk BV
    go_wp2_with (refine zia rfl (.tmp 9) (.tmp 17) rfl w.heap.size _ _ [x] rfl (hv.alloc _) _ 1 1 rfl rfl (fun h => by cases h) hrd (by simp <;> omega) (by simp; omega) ?_; intro v' w' h1 h2 h3)
    go_roundw
    case rel => exact ⟨8, by omega, by go_num, by rw [et]; exact h1, hB.trans (zac h2 hz)⟩
    case measure => simp [intOf]
  ·obtain rfl : k = 8 := by omega
   have hv' : Byt wr w.heap.size u3 (z8a n) := by rw [List.take_of_length_le (Nat.le_of_eq EL.out)] at hv; exact hv
   go_wp2
   go_ret
   exact ⟨_, rfl, hv', hB⟩
theorem byt_empty (w : World) : Byt (w.alloc (.cells #[] 5)) w.heap.size (.slice (some ⟨w.heap.size, 0, none⟩) 0 0) [] :=
 ⟨rfl, .inr ⟨w.heap.size, 0, #[], rfl, Nat.le_refl _, heap_alloc_new w _, Nat.le_refl _, by unfold maxLen; omega, rfl, rfl⟩⟩
theorem padded_any (A : Option Addr) (l : List UInt8) (n c : Nat) (hn : l.length = n) (hA : A = none → c = 0) (hle : n ≤ 100000) (w : World) (hR : Rd w A l) :
  Calls Tryz.prog 95 #[.slice A n c] w fun e w' => ∃ v, e = .returned v ∧ Byt w' w.heap.size v (pad16 l) ∧ Below w.heap.size w w' := by
 have he := byt_empty w
 have hr := hR.step (zga w (.cells #[] 5))
 have HN := hid hn
 go_enter Tryz.func95, Tryz.ntmps95
 go_wp2_with (refine zia rfl (.tmp 4) (.tmp 5) rfl w.heap.size _ _ l rfl he A n c rfl hn hA hr (by rw [hn]; simp; omega) (by simp) ?_; intro v1 w1 h1 h2 h3)
 have B1 : Below w.heap.size w w1 := zac h2 (Nat.le_refl _)
 rw [List.nil_append] at h1
 clear he hr hn h2 h3
 obtain ⟨m, hm⟩ : ∃ m, m = (16 - l.length % 16) % 16 := ⟨_, rfl⟩
 have HM := hid hm
 clear hm
 go_loopw [3] (fun v wr => ∃ k : Nat, k ≤ m ∧ Byt wr w.heap.size v (l ++ List.replicate k 0) ∧ Below w.heap.size w wr) (fun v _ => 100016 + 100 - (match v with | .slice _ n _ => n | _ => 0))
 case atStart => exact ⟨0, by omega, by simpa using h1, B1⟩
 case round =>
  obtain ⟨k, hk, hv, hB⟩ := hrel
  clear h1 B1
  obtain ⟨A', c', rfl, hc1, hc2, hR', hl'⟩ := hv.slice
  have hlen : (l ++ List.replicate k (0 : UInt8)).length = n + k := by rw [List.length_append, List.length_replicate, HN.out]
  rw [hlen] at hc1 hv
  rw [hlen]
  have hz := hB.size
  have hm2 : (n + m) % 16 = 0 ∧ m < 16 := by have := HM.out; have := HN.out; omega
  unfold maxLen at hc2
  have hcn : c' ≤ 9223372036854775807 := by omega
  by_cases hlt : k < m
  ·have hmod : decide ((0 : Int) < ((n : Int) + (k : Int)) % 16) = true := by rw [decide_eq_true_iff]; omega
   have hrd := rd_one 0 wr
   go_wp2_with (refine zia rfl (.tmp 11) (.tmp 12) rfl w.heap.size _ _ [0] rfl (hv.alloc _) _ 1 1 rfl rfl (fun h => by cases h) hrd (by rw [hlen]; simp; omega) (by simp; omega) ?_; intro v' w' h1 h2 h3)
   have e1 : l ++ List.replicate k (0 : UInt8) ++ [0] = l ++ List.replicate (k + 1) 0 := by rw [List.append_assoc, List.replicate_succ']
   have hlen2 : (l ++ List.replicate (k + 1) (0 : UInt8)).length = n + k + 1 := by rw [List.length_append, List.length_replicate, HN.out]; omega
   rw [e1] at h1
   obtain ⟨A2, c2, rfl, hc3, hc4, R2, hl2⟩ := h1.slice
   rw [hlen2] at h1
   rw [hlen2]
   have hB2 := hB.trans (zac h2 hz)
   clear hc3 hc4 R2 hl2 h2 h3 hmod hlen hlen2 e1
   go_roundw
   case rel => exact ⟨k + 1, by omega, h1, hB2⟩
   case measure => simp; omega
  ·obtain rfl : k = m := by omega
   have hmod : decide ((0 : Int) < ((n : Int) + (k : Int)) % 16) = false := by rw [decide_eq_false_iff_not]; omega
   go_wp2
   go_ret
   refine ⟨_, rfl, ?_, hB⟩
   have e : pad16 l = l ++ List.replicate k 0 := by unfold pad16; rw [← HM.out]
   rw [e]; exact hv
end Go.Proofs.YtcfepoopkfhojaaGreat
namespace Go.Proofs.YtcfepoopkfhojaaGreat
open Go.ChangeShapes Go.WideShapes Go.ChangeAt Go.RowKit Go.Shelf
theorem or4 (a b0 b1 b2 b3 : Nat) (h0 : b0 < 256) (h1 : b1 < 256) (h2 : b2 < 256) (h3 : b3 < 256) :
  a ^^^ (((b0 ||| b1 * 256) ||| b2 * 65536) ||| b3 * 16777216) = (((a ^^^ b0) ^^^ b1 * 256) ^^^ b2 * 65536) ^^^ b3 * 16777216 := by
 apply Nat.eq_of_testBit_eq
 intro i
 have e1 : b1 * 256 = b1 <<< 8 := by rw [Nat.shiftLeft_eq]
 have e2 : b2 * 65536 = b2 <<< 16 := by rw [Nat.shiftLeft_eq]
 have e3 : b3 * 16777216 = b3 <<< 24 := by rw [Nat.shiftLeft_eq]
 rw [e1, e2, e3]
 simp only [Nat.testBit_xor, Nat.testBit_or, Nat.testBit_shiftLeft]
 have t0 : 8 ≤ i → b0.testBit i = false := fun h => Nat.testBit_lt_two_pow (Nat.lt_of_lt_of_le h0 (Nat.pow_le_pow_right (n := 2) (by decide) h))
 have t1 : 16 ≤ i → b1.testBit (i - 8) = false := fun h => Nat.testBit_lt_two_pow (Nat.lt_of_lt_of_le h1 (Nat.pow_le_pow_right (n := 2) (by decide) (by omega : 8 ≤ i - 8)))
 have t2 : 24 ≤ i → b2.testBit (i - 16) = false := fun h => Nat.testBit_lt_two_pow (Nat.lt_of_lt_of_le h2 (Nat.pow_le_pow_right (n := 2) (by decide) (by omega : 8 ≤ i - 16)))
 by_cases c1 : 8 ≤ i
 ·rw [t0 c1]
  by_cases c2 : 16 ≤ i
  ·rw [t1 c2]
   by_cases c3 : 24 ≤ i
   ·rw [t2 c3]; simp [c1, c2, c3]
   ·simp [c1, c2, c3]
  ·have c3 : ¬ 24 ≤ i := by omega
   simp [c1, c2, c3]
 ·have c2 : ¬ 16 ≤ i := by omega
  have c3 : ¬ 24 ≤ i := by omega
  simp [c1, c2, c3]
theorem xor4 {a b0 b1 b2 b3 : Int} (ha : 0 ≤ a ∧ a < 4294967296) (h0 : 0 ≤ b0 ∧ b0 < 256) (h1 : 0 ≤ b1 ∧ b1 < 256) (h2 : 0 ≤ b2 ∧ b2 < 256) (h3 : 0 ≤ b3 ∧ b3 < 256) :
  bits .xor .u32 a (bits .or .u32 (bits .or .u32 (bits .or .u32 b0 (b1 * 256)) (b2 * 65536)) (b3 * 16777216)) = xorW (xorW (xorW (xorW a b0) (b1 * 256)) (b2 * 65536)) (b3 * 16777216) := by
 obtain ⟨a, rfl⟩ := Int.eq_ofNat_of_zero_le ha.1
 obtain ⟨b0, rfl⟩ := Int.eq_ofNat_of_zero_le h0.1
 obtain ⟨b1, rfl⟩ := Int.eq_ofNat_of_zero_le h1.1
 obtain ⟨b2, rfl⟩ := Int.eq_ofNat_of_zero_le h2.1
 obtain ⟨b3, rfl⟩ := Int.eq_ofNat_of_zero_le h3.1
 have m1 : (b1 : Int) * 256 = ((b1 * 256 : Nat) : Int) := by rw [Int.natCast_mul]; rfl
 have m2 : (b2 : Int) * 65536 = ((b2 * 65536 : Nat) : Int) := by rw [Int.natCast_mul]; rfl
 have m3 : (b3 : Int) * 16777216 = ((b3 * 16777216 : Nat) : Int) := by rw [Int.natCast_mul]; rfl
 have L : ∀ x y : Nat, x < 4294967296 → y < 4294967296 → x ^^^ y < 4294967296 := fun x y hx hy => Nat.xor_lt_two_pow (n := 32) hx hy
 have O : ∀ x y : Nat, x < 4294967296 → y < 4294967296 → x ||| y < 4294967296 := fun x y hx hy => Nat.or_lt_two_pow (n := 32) hx hy
 have p0 : b0 < 4294967296 := by omega
 have p1 : b1 * 256 < 4294967296 := Nat.lt_of_le_of_lt (Nat.mul_le_mul_right 256 (show b1 ≤ 255 by omega)) (by decide)
 have p2 : b2 * 65536 < 4294967296 := Nat.lt_of_le_of_lt (Nat.mul_le_mul_right 65536 (show b2 ≤ 255 by omega)) (by decide)
 have p3 : b3 * 16777216 < 4294967296 := Nat.lt_of_le_of_lt (Nat.mul_le_mul_right 16777216 (show b3 ≤ 255 by omega)) (by decide)
 have pa : a < 4294967296 := by omega
 rw [m1, m2, m3, ← xor_fold, ← xor_fold, ← xor_fold, ← xor_fold, u32_or_nat _ _ p0 p1, u32_or_nat _ _ (O _ _ p0 p1) p2, u32_or_nat _ _ (O _ _ (O _ _ p0 p1) p2) p3, u32_xor_nat _ _ pa (O _ _ (O _ _ (O _ _ p0 p1) p2) p3),
  u32_xor_nat _ _ pa p0, u32_xor_nat _ _ (L _ _ pa p0) p1, u32_xor_nat _ _ (L _ _ (L _ _ pa p0) p1) p2, u32_xor_nat _ _ (L _ _ (L _ _ (L _ _ pa p0) p1) p2) p3, or4 a b0 b1 b2 b3 (by omega) (by omega) (by omega) (by omega)]
def W8.wset (s : W8) (q : Nat) (v : Int) : W8 := match q with
 | 0 => { s with x0 := v }
 | 1 => { s with x1 := v }
 | 2 => { s with x2 := v }
 | _ => { s with x3 := v }
theorem absN_four (z : Nat → Int) (s : W8) (n : Nat) : absN z s (n + 4) = ((((absN z s n).xat (n / 4) (mulF (n % 4) (z n))).xat ((n + 1) / 4) (mulF ((n + 1) % 4) (z (n + 1)))).xat ((n + 2) / 4) (mulF ((n + 2) % 4) (z (n + 2)))).xat ((n + 3) / 4) (mulF ((n + 3) % 4) (z (n + 3))) := rfl
theorem absN_word (z : Nat → Int) (s : W8) {q : Nat} (hq : q < 4) : absN z s (4 * q + 4) = (absN z s (4 * q)).wset q (xorW (xorW (xorW (xorW (wrd (absN z s (4 * q)) q) (z (4 * q))) (z (4 * q + 1) * 256)) (z (4 * q + 2) * 65536)) (z (4 * q + 3) * 16777216)) := by
 rw [absN_four]
 generalize absN z s (4 * q) = A
 have h : q = 0 ∨ q = 1 ∨ q = 2 ∨ q = 3 := by omega
 rcases h with rfl | rfl | rfl | rfl <;> rfl
theorem sumW_feed (S : W8) (b : List UInt8) : sumW (feed S b).1 (feed S b).2 = sumW S b := by
 unfold sumW pad16
 have hm := feed_mod S b
 have e : ((feed S b).2 ++ [128]).length % 16 = (b ++ [128]).length % 16 := by rw [List.length_append, List.length_append, hm]; simp
 rw [e, List.append_assoc, ← znc, ← List.append_assoc]
theorem pad16_append {P X : List UInt8} (h : P.length % 16 = 0) : pad16 (P ++ X) = P ++ pad16 X := by
 unfold pad16
 have : (P ++ X).length % 16 = X.length % 16 := by rw [List.length_append]; omega
 rw [this, List.append_assoc]
theorem raw_feed (key b : List UInt8) : mixW (feed zeroW (pad16 (pad16 (z8a key.length ++ key) ++ b ++ [128]))).1.one7 = sumW (initW key) b := by
 unfold sumW
 rw [List.append_assoc, pad16_append (pad16_mod _), znc, feed_full (pad16_mod _), List.nil_append]
 rfl
end Go.Proofs.YtcfepoopkfhojaaGreat
namespace Go.Proofs.YtcfepoopkfhojaaGreat
open Go.ChangeShapes Go.WideShapes Go.ChangeAt Go.RowKit Go.Shelf
theorem byI_drop (L : List UInt8) (k j : Nat) : byI (L.drop k) j = byI L (k + j) := by
 unfold byI; simp only [List.getD_eq_getElem?_getD, List.getElem?_drop]
theorem Byt.none0 {w : World} {base : Nat} {A : Option Addr} {n c : Nat} {l : List UInt8} (h : Byt w base (.slice A n c) l) : A = none → c = 0 := by
 rintro rfl
 rcases h.2 with ⟨e, _⟩ | ⟨g, cap, cur, e, _⟩
 ·injection e with e1 e2 e3
 ·injection e with e1 e2 e3; cases e1
theorem Byt.base {w : World} {b b' : Nat} {v : Value} {l : List UInt8} (h : Byt w b v l) (hb : b' ≤ b) : Byt w b' v l := by
 refine ⟨h.1, ?_⟩
 rcases h.2 with hn | ⟨g, c, cur, e, hg, rest⟩
 ·exact .inl hn
 ·exact .inr ⟨g, c, cur, e, by omega, rest⟩
theorem blk_setW {w : World} {g q : Nat} {t : TypeId} {A : W8} {V V' : Int} (hb : Blk w g t (arrW A)) (hq : q < 4) (hv : V = V') : Blk (w.setCell ⟨g, q, none⟩ (.int .u32 V)) g t (arrW (A.wset q V')) := by
 subst hv
 have h : q = 0 ∨ q = 1 ∨ q = 2 ∨ q = 3 := by omega
 rcases h with rfl | rfl | rfl | rfl <;> exact hb.set _ _ rfl
theorem rraw_any (A : Option Addr) (key : List UInt8) (n c : Nat) (hn : key.length = n) (hA : A = none → c = 0) (hnl : n ≤ 2000) (Bp : Option Addr) (b : List UInt8) (m d : Nat) (hm : b.length = m) (hBp : Bp = none → d = 0) (hml : m ≤ 5000) (w : World) (hR : Rd w A key) (hS : Rd w Bp b) :
  Calls Tryz.prog 64 #[.slice A n c, .slice Bp m d] w fun e w' => e = .returned (.agg (zi (outF (sumW (initW key) b)))) ∧ Below w.heap.size w w' := by
 have b0 := zga w (.cells #[Value.int .u8 0, .int .u8 0, .int .u8 0, .int .u8 0, .int .u8 0, .int .u8 0, .int .u8 0, .int .u8 0, .int .u8 0, .int .u8 0, .int .u8 0, .int .u8 0, .int .u8 0, .int .u8 0, .int .u8 0, .int .u8 0] 35)
 have z0 := Blk.new w 35 #[Value.int .u8 0, .int .u8 0, .int .u8 0, .int .u8 0, .int .u8 0, .int .u8 0, .int .u8 0, .int .u8 0, .int .u8 0, .int .u8 0, .int .u8 0, .int .u8 0, .int .u8 0, .int .u8 0, .int .u8 0, .int .u8 0]
 have R0 := hR.step b0
 have S0 := hS.step b0
 have HN := hid hn
 have HMm := hid hm
 have RF := hid (raw_feed key b)
 go_enter Tryz.func64, Tryz.ntmps64
 go_wp2_with fail
 obtain ⟨W, hW⟩ : ∃ W, W = w.alloc (.cells #[Value.int .u8 0, .int .u8 0, .int .u8 0, .int .u8 0, .int .u8 0, .int .u8 0, .int .u8 0, .int .u8 0, .int .u8 0, .int .u8 0, .int .u8 0, .int .u8 0, .int .u8 0, .int .u8 0, .int .u8 0, .int .u8 0] 35) := ⟨_, rfl⟩
 have hWs : W.heap.size = w.heap.size + 1 := by rw [hW]; simp
 rw [← hW] at b0 z0 R0 S0 ⊢
 clear hW hR hS
 refine (sreight_any n (by omega) _).mono ?_
 rintro e w1 ⟨v1, rfl, h1, b1⟩
 have z1 := z0.step b1
 have R1 := R0.step b1
 have C1 : Below W.heap.size W w1 := b1
 go_wp2_with (refine zia rfl (.tmp 14) (.tmp 15) rfl W.heap.size _ _ key rfl h1 A n c rfl hn hA R1 (by rw [ztb, hn]; omega) b1.size ?_; intro v2 w2 h2 k2 g2)
 have C2 : Below W.heap.size W w2 := C1.trans k2
 obtain ⟨A2, c2, rfl, hc2, hm2, R2, _⟩ := h2.slice
 have hl2 : (z8a n ++ key).length = 8 + n := by rw [List.length_append, ztb, hn]
 have nn2 := h2.none0
 rw [hl2]
 refine (padded_any A2 (z8a n ++ key) (8 + n) c2 hl2 nn2 (by omega) _ R2).mono ?_
 rintro e w3 ⟨v3, rfl, h3, b3⟩
 have C3 : Below W.heap.size W w3 := C2.trans (b3.mono C2.size)
 have h3' := h3.base C2.size
 have S3 := S0.below C3 (Nat.le_refl _)
 have hp3 : (pad16 (z8a n ++ key)).length ≤ 2100 := by unfold pad16; rw [List.length_append, hl2, List.length_replicate]; omega
 have hm3 := pad16_mod (z8a n ++ key)
 obtain ⟨P, hP⟩ : ∃ P, P = pad16 (z8a n ++ key) := ⟨_, rfl⟩
 rw [← hP] at h3' hp3 hm3
 have HP := hid hP
 have w3s := C3.size
 clear h1 h2 h3 k2 g2 R1 R2 b1 b3 z1 hc2 hm2 hl2 nn2 hP C1 C2
 go_wp2_with (first | (refine zia rfl (.tmp 18) (.tmp 19) rfl W.heap.size _ _ b rfl h3' Bp m d rfl hm hBp S3 (by rw [hm]; omega) w3s ?_; intro v4 w4 h4 k4 g4; have r128 := rd_one 128 w4; have h4' := h4.alloc (.cells #[Value.int .u8 128] 5); have w4s := Nat.le_trans w3s k4.size) | (refine zia rfl (.tmp 20) (.tmp 21) rfl W.heap.size _ _ [128] rfl h4' _ 1 1 rfl rfl (fun h => by cases h) r128 (by rw [List.length_append, hm]; simp; omega) (by simp; omega) ?_; intro v5 w5 h5 k5 g5))
 have C5 : Below W.heap.size W w5 := (C3.trans k4).trans (zac k5 w4s)
 obtain ⟨A5, c5, rfl, hc5, hm5, R5, _⟩ := h5.slice
 have hl5 : (P ++ b ++ [(128 : UInt8)]).length ≤ 7101 := by rw [List.length_append, List.length_append, hm]; simp; omega
 have nn5 := h5.none0
 obtain ⟨L5, hL5⟩ : ∃ L5, (P ++ b ++ [(128 : UInt8)]).length = L5 := ⟨_, rfl⟩
 rw [hL5] at hl5 ⊢
 refine (padded_any A5 _ L5 c5 hL5 nn5 (by omega) _ R5).mono ?_
 rintro e w6 ⟨v6, rfl, h6, b6⟩
 have C6 : Below W.heap.size W w6 := C5.trans (b6.mono C5.size)
 have z6 := z0.below C6 z0.lt
 have hN16 := pad16_mod (P ++ b ++ [128])
 have hNl : (pad16 (P ++ b ++ [128])).length ≤ 7200 := by unfold pad16; rw [List.length_append, hL5, List.length_replicate]; omega
 have RF2 : Hid (mixW (feed zeroW (pad16 (P ++ b ++ [128]))).1.one7 = sumW (initW key) b) := hid (by rw [HP.out, ← HN.out]; exact RF.out)
 obtain ⟨all, hall⟩ : ∃ all, all = pad16 (P ++ b ++ [128]) := ⟨_, rfl⟩
 rw [← hall] at h6 hN16 hNl RF2
 obtain ⟨A6, c6, rfl, hc6, hm6, R6, hlt6⟩ := h6.slice
 obtain ⟨N, hN⟩ : ∃ N, all.length = N := ⟨_, rfl⟩
 have HNN := hid hN
 rw [hN] at hN16 hNl hc6 ⊢
 have b0s := b0.size
 have B6 : Below w.heap.size w w6 := b0.trans (C6.mono b0s)
 have h6lt : ∀ k, Value.ownBlock (.slice A6 N c6) = some k → w.heap.size < k := fun k e => by
  have := (hlt6 k (by rw [hN]; exact e)).1
  have := C5.size; omega
 clear h3' h4 h4' h5 h6 k4 k5 g4 g5 r128 R5 C3 C5 b6 S3 S0 R0 hall nn5 hc5 hm5 hL5 hl5 HP RF hlt6 hN hp3 hm3 hm hn
 go_wp2_with fail
 obtain ⟨T, hT⟩ : ∃ T, T = feed zeroW all := ⟨_, rfl⟩
 have HT0 : Hid (T = feed zeroW (all.drop 0)) := hid (by rw [hT, List.drop_zero])
 rw [← hT] at RF2
 obtain ⟨g6, hg6⟩ : ∃ g6, g6 = w6.heap.size := ⟨_, rfl⟩
 have hg6w : w.heap.size < g6 := by rw [hg6]; have := C6.size; omega
 have q0 : Blk (w6.alloc (.cells #[Value.int .u32 0, .int .u32 0, .int .u32 0, .int .u32 0, .int .u32 0, .int .u32 0, .int .u32 0, .int .u32 0] 26)) g6 26 (arrW zeroW) := by rw [hg6]; exact Blk.new w6 _ _
 have z7 := z6.alloc (.cells #[Value.int .u32 0, .int .u32 0, .int .u32 0, .int .u32 0, .int .u32 0, .int .u32 0, .int .u32 0, .int .u32 0] 26)
 have B7 : Below w.heap.size w (w6.alloc (.cells #[Value.int .u32 0, .int .u32 0, .int .u32 0, .int .u32 0, .int .u32 0, .int .u32 0, .int .u32 0, .int .u32 0] 26)) := B6.alloc B6.size _
 have D7 : Below g6 w6 (w6.alloc (.cells #[Value.int .u32 0, .int .u32 0, .int .u32 0, .int .u32 0, .int .u32 0, .int .u32 0, .int .u32 0, .int .u32 0] 26)) := by rw [hg6]; exact zga _ _
 rw [← hg6]
 have HG6 := hid hg6
 clear hg6
 clear hT z6 B6
 generalize World.alloc _ _ = W7 at *
 go_loopw [7] (fun i wr => ∃ (k : Nat) (s : W8), k ≤ N ∧ k % 16 = 0 ∧ i = .int .i64 k ∧ s.ok ∧ Blk wr g6 26 (arrW s) ∧ Blk wr w.heap.size 35 #[Value.int .u8 0, .int .u8 0, .int .u8 0, .int .u8 0, .int .u8 0, .int .u8 0, .int .u8 0, .int .u8 0, .int .u8 0, .int .u8 0, .int .u8 0, .int .u8 0, .int .u8 0, .int .u8 0, .int .u8 0, .int .u8 0] ∧ Below w.heap.size w wr ∧ Below g6 w6 wr ∧ Hid (T = feed s (all.drop k))) (fun i _ => N - (intOf i).toNat)
 case atStart => exact ⟨0, zeroW, by omega, rfl, rfl, zeroW_ok, q0, z7, B7, D7, HT0⟩
 case round =>
  obtain ⟨k, s, hk, hk16, rfl, hok, hq, hz, hB, hD, hT⟩ := hrel
  clear q0 z7 B7 D7 HT0
  by_cases hlt : k < N
  ·obtain ⟨bA, oA, rfl, hbA, hcl⟩ := R6.at (by rw [HNN.out]; omega)
   have CL : Hid (∀ K, K < N → w6.cell? ⟨bA, oA + K, none⟩ = some (.int .u8 (byI all K))) := hid (fun K hK => by
    have hx := List.getElem?_eq_getElem (l := all) (i := K) (by rw [HNN.out]; exact hK)
    rw [hcl K _ hx, byI_get hx])
   have OKS := hid hok
   have HQ16 := hid hk16
   clear hcl hok hk16
   go_wp2_with fail
   go_loopw [8, 9] (fun i _u wr => ∃ q : Nat, q ≤ 4 ∧ i = .int .i64 q ∧ Blk wr g6 26 (arrW (absN (byI (all.drop k)) s (4 * q))) ∧ Blk wr w.heap.size 35 #[Value.int .u8 0, .int .u8 0, .int .u8 0, .int .u8 0, .int .u8 0, .int .u8 0, .int .u8 0, .int .u8 0, .int .u8 0, .int .u8 0, .int .u8 0, .int .u8 0, .int .u8 0, .int .u8 0, .int .u8 0, .int .u8 0] ∧ Below w.heap.size w wr ∧ Below g6 w6 wr) (fun i _ _ => 4 - (intOf i).toNat)
   case atStart => exact ⟨0, by omega, rfl, hq, hz, hB, hD⟩
   case round =>
    obtain ⟨q, hq4, rfl, hq2, hz2, hB2, hD2⟩ := hrel
    clear hq hz hB hD
    by_cases hlt4 : q < 4
    ·have CL2 : ∀ K, K < N → wr.cell? ⟨bA, oA + K, none⟩ = some (.int .u8 (byI all K)) := fun K hK => (hD2.cell (p := ⟨bA, oA + K, none⟩) (by simp only; rw [HG6.out]; exact hbA)).trans (CL.out K hK)
     obtain ⟨A, hA'⟩ : ∃ A, A = absN (byI (all.drop k)) s (4 * q) := ⟨_, rfl⟩
     have hAok : A.ok := by rw [hA']; exact ok_absN OKS.out _
     rw [← hA'] at hq2
     have hk16 := HQ16.out
     have aok : ∀ j, 0 ≤ wrd A j ∧ wrd A j < 4294967296 := fun j => by
      obtain ⟨a0, a1, a2, a3, -⟩ := hAok
      unfold wrd; split
      ·exact a0
      ·exact a1
      ·exact a2
      ·exact a3
     have hN7 : N ≤ 7200 := hNl
     have hqq : q = 0 ∨ q = 1 ∨ q = 2 ∨ q = 3 := by omega
     have hA := hA'
     clear hA' hlt4 hq4 hAok
     have hNk : k + 16 ≤ N := by omega
     rcases hqq with rfl | rfl | rfl | rfl
     ·have k1 : wr.cell? ⟨g6, 0, none⟩ = some (.int .u32 A.x0) := hq2.cell (k := 0) rfl
      have f1 := hq2.frozen 0
      have hK3 : k + 3 < N := by omega
      have y0 := CL2 k (by omega)
      have y1 := CL2 (k + 1) (by omega)
      have y2 := CL2 (k + 2) (by omega)
      have y3 := CL2 (k + 3) (by omega)
      have d0 := byI_bd all k
      have d1 := byI_bd all (k + 1)
      have d2 := byI_bd all (k + 2)
      have d3 := byI_bd all (k + 3)
      have ez : ∀ j, byI (all.drop k) (0 + j) = byI all (k + j) := fun j => by rw [byI_drop]; congr 1; omega
      have EZ : Hid (byI (all.drop k) 0 = byI all k ∧ byI (all.drop k) (0 + 1) = byI all (k + 1) ∧ byI (all.drop k) (0 + 2) = byI all (k + 2) ∧ byI (all.drop k) (0 + 3) = byI all (k + 3)) := hid ⟨ez 0, ez 1, ez 2, ez 3⟩
      have NW := hid (absN_word (byI (all.drop k)) s (q := 0) (by omega))
      have HA2 := hid hA
      clear ez hA
      generalize byI all k = B0 at *
      generalize byI all (k + 1) = B1 at *
      generalize byI all (k + 2) = B2 at *
      generalize byI all (k + 3) = B3 at *
      have hd := xor4 (aok 0) d0 d1 d2 d3
      obtain ⟨d00, d01⟩ := d0
      obtain ⟨d10, d11⟩ := d1
      obtain ⟨d20, d21⟩ := d2
      obtain ⟨d30, d31⟩ := d3
      have HD := hid hd
      have K0 : (0 : Int) ≤ (k : Int) := Int.natCast_nonneg _
      have KN : (k : Int) < (N : Int) := by omega
      have w1 := Go.IntWalk.i64_in ((k : Int) + 1) (by omega)
      have w2 := Go.IntWalk.i64_in ((k : Int) + 2) (by omega)
      have w3 := Go.IntWalk.i64_in ((k : Int) + 3) (by omega)
      have t1 : ((k : Int) + 1).toNat = k + 1 := by omega
      have t2 : ((k : Int) + 2).toNat = k + 2 := by omega
      have t3 : ((k : Int) + 3).toNat = k + 3 := by omega
      have p1 : (0 : Int) ≤ (k : Int) + 1 := by omega
      have p2 : (0 : Int) ≤ (k : Int) + 2 := by omega
      have p3 : (0 : Int) ≤ (k : Int) + 3 := by omega
      have l1 : (k : Int) + 1 < (N : Int) := by omega
      have l2 : (k : Int) + 2 < (N : Int) := by omega
      have l3 : (k : Int) + 3 < (N : Int) := by omega
      have c0 := Go.IntWalk.u32_in B0 (by omega)
      have c1 := Go.IntWalk.u32_in B1 (by omega)
      have c2 := Go.IntWalk.u32_in B2 (by omega)
      have c3 := Go.IntWalk.u32_in B3 (by omega)
      clear hd aok CL2
      go_wp2_with fail
      go_still_tail 34, (by kernel_rfl)
      change wpList _ _ _ _ _ (World.drew _)
      go_wp2
      go_roundw
      case rel =>
       refine ⟨1, by omega, by go_num, ?_, hz2.far _ (by simp; omega), (hB2.setCell (p := ⟨g6, 0, none⟩) (by simp only; omega) _).drew, (hD2.setCell (p := ⟨g6, 0, none⟩) (by simp only; omega) _).drew⟩
       have e1 : absN (byI (all.drop k)) s (4 * 1) = A.wset 0 (xorW (xorW (xorW (xorW (wrd A 0) B0) (B1 * 256)) (B2 * 65536)) (B3 * 16777216)) := by
        have := NW.out
        rw [← HA2.out] at this
        rw [show 4 * 1 = 4 * 0 + 4 from rfl, this]
        obtain ⟨e0, e1, e2, e3⟩ := EZ.out
        rw [show 4 * 0 = 0 from rfl, e0, e1, e2, e3]
       rw [e1]
       refine (blk_setW hq2 (by omega) ?_).drew
       rw [← HD.out]
       first | rfl | (rw [Int.emod_eq_of_lt (by omega) (by omega), Int.emod_eq_of_lt (by omega) (by omega), Int.emod_eq_of_lt (by omega) (by omega)]; rfl)
      case measure => simp [intOf]
     ·have k1 : wr.cell? ⟨g6, 1, none⟩ = some (.int .u32 A.x1) := hq2.cell (k := 1) rfl
      have f1 := hq2.frozen 1
      obtain ⟨K, hK⟩ : ∃ K, K = k + 4 := ⟨_, rfl⟩
      have hKK : (k : Int) + 4 = (K : Int) := by omega
      have hK3 : K + 3 < N := by omega
      have y0 := CL2 K (by omega)
      have y1 := CL2 (K + 1) (by omega)
      have y2 := CL2 (K + 2) (by omega)
      have y3 := CL2 (K + 3) (by omega)
      have d0 := byI_bd all K
      have d1 := byI_bd all (K + 1)
      have d2 := byI_bd all (K + 2)
      have d3 := byI_bd all (K + 3)
      have ez : ∀ j, byI (all.drop k) (4 + j) = byI all (K + j) := fun j => by rw [byI_drop, hK]; congr 1; omega
      have EZ : Hid (byI (all.drop k) 4 = byI all K ∧ byI (all.drop k) (4 + 1) = byI all (K + 1) ∧ byI (all.drop k) (4 + 2) = byI all (K + 2) ∧ byI (all.drop k) (4 + 3) = byI all (K + 3)) := hid ⟨ez 0, ez 1, ez 2, ez 3⟩
      have NW := hid (absN_word (byI (all.drop k)) s (q := 1) (by omega))
      have HA2 := hid hA
      clear ez hK hA
      generalize byI all K = B0 at *
      generalize byI all (K + 1) = B1 at *
      generalize byI all (K + 2) = B2 at *
      generalize byI all (K + 3) = B3 at *
      have hd := xor4 (aok 1) d0 d1 d2 d3
      obtain ⟨d00, d01⟩ := d0
      obtain ⟨d10, d11⟩ := d1
      obtain ⟨d20, d21⟩ := d2
      obtain ⟨d30, d31⟩ := d3
      have HD := hid hd
      have K0 : (0 : Int) ≤ (K : Int) := Int.natCast_nonneg _
      have KN : (K : Int) < (N : Int) := by omega
      have w1 := Go.IntWalk.i64_in ((K : Int) + 1) (by omega)
      have w2 := Go.IntWalk.i64_in ((K : Int) + 2) (by omega)
      have w3 := Go.IntWalk.i64_in ((K : Int) + 3) (by omega)
      have t1 : ((K : Int) + 1).toNat = K + 1 := by omega
      have t2 : ((K : Int) + 2).toNat = K + 2 := by omega
      have t3 : ((K : Int) + 3).toNat = K + 3 := by omega
      have p1 : (0 : Int) ≤ (K : Int) + 1 := by omega
      have p2 : (0 : Int) ≤ (K : Int) + 2 := by omega
      have p3 : (0 : Int) ≤ (K : Int) + 3 := by omega
      have l1 : (K : Int) + 1 < (N : Int) := by omega
      have l2 : (K : Int) + 2 < (N : Int) := by omega
      have l3 : (K : Int) + 3 < (N : Int) := by omega
      have c0 := Go.IntWalk.u32_in B0 (by omega)
      have c1 := Go.IntWalk.u32_in B1 (by omega)
      have c2 := Go.IntWalk.u32_in B2 (by omega)
      have c3 := Go.IntWalk.u32_in B3 (by omega)
      clear hd aok CL2
      go_wp2_with fail
      go_still_tail 34, (by kernel_rfl)
      change wpList _ _ _ _ _ (World.drew _)
      go_wp2
      go_roundw
      case rel =>
       refine ⟨2, by omega, by go_num, ?_, hz2.far _ (by simp; omega), (hB2.setCell (p := ⟨g6, 1, none⟩) (by simp only; omega) _).drew, (hD2.setCell (p := ⟨g6, 1, none⟩) (by simp only; omega) _).drew⟩
       have e1 : absN (byI (all.drop k)) s (4 * 2) = A.wset 1 (xorW (xorW (xorW (xorW (wrd A 1) B0) (B1 * 256)) (B2 * 65536)) (B3 * 16777216)) := by
        have := NW.out
        rw [← HA2.out] at this
        rw [show 4 * 2 = 4 * 1 + 4 from rfl, this]
        obtain ⟨e0, e1, e2, e3⟩ := EZ.out
        rw [show 4 * 1 = 4 from rfl, e0, e1, e2, e3]
       rw [e1]
       refine (blk_setW hq2 (by omega) ?_).drew
       rw [← HD.out]
       first | rfl | (rw [Int.emod_eq_of_lt (by omega) (by omega), Int.emod_eq_of_lt (by omega) (by omega), Int.emod_eq_of_lt (by omega) (by omega)]; rfl)
      case measure => simp [intOf]
     ·have k1 : wr.cell? ⟨g6, 2, none⟩ = some (.int .u32 A.x2) := hq2.cell (k := 2) rfl
      have f1 := hq2.frozen 2
      obtain ⟨K, hK⟩ : ∃ K, K = k + 8 := ⟨_, rfl⟩
      have hKK : (k : Int) + 8 = (K : Int) := by omega
      have hK3 : K + 3 < N := by omega
      have y0 := CL2 K (by omega)
      have y1 := CL2 (K + 1) (by omega)
      have y2 := CL2 (K + 2) (by omega)
      have y3 := CL2 (K + 3) (by omega)
      have d0 := byI_bd all K
      have d1 := byI_bd all (K + 1)
      have d2 := byI_bd all (K + 2)
      have d3 := byI_bd all (K + 3)
      have ez : ∀ j, byI (all.drop k) (8 + j) = byI all (K + j) := fun j => by rw [byI_drop, hK]; congr 1; omega
      have EZ : Hid (byI (all.drop k) 8 = byI all K ∧ byI (all.drop k) (8 + 1) = byI all (K + 1) ∧ byI (all.drop k) (8 + 2) = byI all (K + 2) ∧ byI (all.drop k) (8 + 3) = byI all (K + 3)) := hid ⟨ez 0, ez 1, ez 2, ez 3⟩
      have NW := hid (absN_word (byI (all.drop k)) s (q := 2) (by omega))
      have HA2 := hid hA
      clear ez hK hA
      generalize byI all K = B0 at *
      generalize byI all (K + 1) = B1 at *
      generalize byI all (K + 2) = B2 at *
      generalize byI all (K + 3) = B3 at *
      have hd := xor4 (aok 2) d0 d1 d2 d3
      obtain ⟨d00, d01⟩ := d0
      obtain ⟨d10, d11⟩ := d1
      obtain ⟨d20, d21⟩ := d2
      obtain ⟨d30, d31⟩ := d3
      have HD := hid hd
      have K0 : (0 : Int) ≤ (K : Int) := Int.natCast_nonneg _
      have KN : (K : Int) < (N : Int) := by omega
      have w1 := Go.IntWalk.i64_in ((K : Int) + 1) (by omega)
      have w2 := Go.IntWalk.i64_in ((K : Int) + 2) (by omega)
      have w3 := Go.IntWalk.i64_in ((K : Int) + 3) (by omega)
      have t1 : ((K : Int) + 1).toNat = K + 1 := by omega
      have t2 : ((K : Int) + 2).toNat = K + 2 := by omega
      have t3 : ((K : Int) + 3).toNat = K + 3 := by omega
      have p1 : (0 : Int) ≤ (K : Int) + 1 := by omega
      have p2 : (0 : Int) ≤ (K : Int) + 2 := by omega
      have p3 : (0 : Int) ≤ (K : Int) + 3 := by omega
      have l1 : (K : Int) + 1 < (N : Int) := by omega
      have l2 : (K : Int) + 2 < (N : Int) := by omega
      have l3 : (K : Int) + 3 < (N : Int) := by omega
      have c0 := Go.IntWalk.u32_in B0 (by omega)
      have c1 := Go.IntWalk.u32_in B1 (by omega)
      have c2 := Go.IntWalk.u32_in B2 (by omega)
      have c3 := Go.IntWalk.u32_in B3 (by omega)
      clear hd aok CL2
      go_wp2_with fail
      go_still_tail 34, (by kernel_rfl)
      change wpList _ _ _ _ _ (World.drew _)
      go_wp2
      go_roundw
      case rel =>
       refine ⟨3, by omega, by go_num, ?_, hz2.far _ (by simp; omega), (hB2.setCell (p := ⟨g6, 2, none⟩) (by simp only; omega) _).drew, (hD2.setCell (p := ⟨g6, 2, none⟩) (by simp only; omega) _).drew⟩
       have e1 : absN (byI (all.drop k)) s (4 * 3) = A.wset 2 (xorW (xorW (xorW (xorW (wrd A 2) B0) (B1 * 256)) (B2 * 65536)) (B3 * 16777216)) := by
        have := NW.out
        rw [← HA2.out] at this
        rw [show 4 * 3 = 4 * 2 + 4 from rfl, this]
        obtain ⟨e0, e1, e2, e3⟩ := EZ.out
        rw [show 4 * 2 = 8 from rfl, e0, e1, e2, e3]
       rw [e1]
       refine (blk_setW hq2 (by omega) ?_).drew
       rw [← HD.out]
       first | rfl | (rw [Int.emod_eq_of_lt (by omega) (by omega), Int.emod_eq_of_lt (by omega) (by omega), Int.emod_eq_of_lt (by omega) (by omega)]; rfl)
      case measure => simp [intOf]
     ·have k1 : wr.cell? ⟨g6, 3, none⟩ = some (.int .u32 A.x3) := hq2.cell (k := 3) rfl
      have f1 := hq2.frozen 3
      obtain ⟨K, hK⟩ : ∃ K, K = k + 12 := ⟨_, rfl⟩
      have hKK : (k : Int) + 12 = (K : Int) := by omega
      have hK3 : K + 3 < N := by omega
      have y0 := CL2 K (by omega)
      have y1 := CL2 (K + 1) (by omega)
      have y2 := CL2 (K + 2) (by omega)
      have y3 := CL2 (K + 3) (by omega)
      have d0 := byI_bd all K
      have d1 := byI_bd all (K + 1)
      have d2 := byI_bd all (K + 2)
      have d3 := byI_bd all (K + 3)
      have ez : ∀ j, byI (all.drop k) (12 + j) = byI all (K + j) := fun j => by rw [byI_drop, hK]; congr 1; omega
      have EZ : Hid (byI (all.drop k) 12 = byI all K ∧ byI (all.drop k) (12 + 1) = byI all (K + 1) ∧ byI (all.drop k) (12 + 2) = byI all (K + 2) ∧ byI (all.drop k) (12 + 3) = byI all (K + 3)) := hid ⟨ez 0, ez 1, ez 2, ez 3⟩
      have NW := hid (absN_word (byI (all.drop k)) s (q := 3) (by omega))
      have HA2 := hid hA
      clear ez hK hA
      generalize byI all K = B0 at *
      generalize byI all (K + 1) = B1 at *
      generalize byI all (K + 2) = B2 at *
      generalize byI all (K + 3) = B3 at *
      have hd := xor4 (aok 3) d0 d1 d2 d3
      obtain ⟨d00, d01⟩ := d0
      obtain ⟨d10, d11⟩ := d1
      obtain ⟨d20, d21⟩ := d2
      obtain ⟨d30, d31⟩ := d3
      have HD := hid hd
      have K0 : (0 : Int) ≤ (K : Int) := Int.natCast_nonneg _
      have KN : (K : Int) < (N : Int) := by omega
      have w1 := Go.IntWalk.i64_in ((K : Int) + 1) (by omega)
      have w2 := Go.IntWalk.i64_in ((K : Int) + 2) (by omega)
      have w3 := Go.IntWalk.i64_in ((K : Int) + 3) (by omega)
      have t1 : ((K : Int) + 1).toNat = K + 1 := by omega
      have t2 : ((K : Int) + 2).toNat = K + 2 := by omega
      have t3 : ((K : Int) + 3).toNat = K + 3 := by omega
      have p1 : (0 : Int) ≤ (K : Int) + 1 := by omega
      have p2 : (0 : Int) ≤ (K : Int) + 2 := by omega
      have p3 : (0 : Int) ≤ (K : Int) + 3 := by omega
      have l1 : (K : Int) + 1 < (N : Int) := by omega
      have l2 : (K : Int) + 2 < (N : Int) := by omega
      have l3 : (K : Int) + 3 < (N : Int) := by omega
      have c0 := Go.IntWalk.u32_in B0 (by omega)
      have c1 := Go.IntWalk.u32_in B1 (by omega)
      have c2 := Go.IntWalk.u32_in B2 (by omega)
      have c3 := Go.IntWalk.u32_in B3 (by omega)
      clear hd aok CL2
      go_wp2_with fail
      go_still_tail 34, (by kernel_rfl)
      change wpList _ _ _ _ _ (World.drew _)
      go_wp2
      go_roundw
      case rel =>
       refine ⟨4, by omega, by go_num, ?_, hz2.far _ (by simp; omega), (hB2.setCell (p := ⟨g6, 3, none⟩) (by simp only; omega) _).drew, (hD2.setCell (p := ⟨g6, 3, none⟩) (by simp only; omega) _).drew⟩
       have e1 : absN (byI (all.drop k)) s (4 * 4) = A.wset 3 (xorW (xorW (xorW (xorW (wrd A 3) B0) (B1 * 256)) (B2 * 65536)) (B3 * 16777216)) := by
        have := NW.out
        rw [← HA2.out] at this
        rw [show 4 * 4 = 4 * 3 + 4 from rfl, this]
        obtain ⟨e0, e1, e2, e3⟩ := EZ.out
        rw [show 4 * 3 = 12 from rfl, e0, e1, e2, e3]
       rw [e1]
       refine (blk_setW hq2 (by omega) ?_).drew
       rw [← HD.out]
       first | rfl | (rw [Int.emod_eq_of_lt (by omega) (by omega), Int.emod_eq_of_lt (by omega) (by omega), Int.emod_eq_of_lt (by omega) (by omega)]; rfl)
      case measure => simp [intOf]
    ·obtain rfl : q = 4 := by omega
     have ok16 := hid (ok_absN (z := byI (all.drop k)) OKS.out 16)
     go_wp2_with (refine zma rfl _ (.tmp 6) rfl _ rfl _ _ _ hq2 Tryz.underlying26 rfl (sizeW _) ?_)
     refine (rmix_any _ ok16.out _).mono ?_
     rintro e wm ⟨rfl, bm⟩
     have qm := hq2.step bm
     have zm := hz2.step bm
     have Bm := hB2.trans (bm.mono hB2.size)
     have Dm := hD2.trans (bm.mono (by have := hq2.lt; omega))
     clear hq2 hz2 hB2 hD2 bm
     go_wp2_with (refine zx rfl _ (.tmp 6) _ rfl _ rfl _ rfl (arrW_one _) _ qm rfl (sizeW _) ?_; intro wn gn qn)
     have zn := zm.grown gn (fun e => by cases e; omega)
     have Bn := zf Bm gn Bm.size (by omega)
     have Dn := zf Dm gn (by have := qm.lt; omega) (Nat.le_refl _)
     have HNk : Hid (k + 16 ≤ N ∧ (k + 16) % 16 = 0) := hid (by have := HQ16.out; omega)
     clear qm zm Bm Dm gn
     go_roundw
     case rel =>
      refine ⟨k + 16, takeW (byI (all.drop k)) s, HNk.out.1, HNk.out.2, by go_num, ok_takeW OKS.out, qn, zn, Bn, Dn, hid ?_⟩
      rw [hT.out, feed_ge (by rw [List.length_drop, HNN.out]; have := HNk.out.1; omega), List.drop_drop]
     case measure => simp [intOf]; omega
  ·obtain rfl : k = N := by omega
   have hTs : T = (s, []) := by rw [hT.out, List.drop_of_length_le (by rw [HNN.out]; exact Nat.le_refl _), feed_lt (by simp)]
   have HS : Hid (mixW s.one7 = sumW (initW key) b) := hid (by have := RF2.out; rw [hTs] at this; exact this)
   have ok7 := hid (ok_one7 hok)
   have c7 : wr.cell? ⟨g6, 7, none⟩ = some (.int .u32 s.x7) := hq.cell (k := 7) rfl
   have f7 := hq.frozen 7
   have q8 := hq.set 7 (.int .u32 (bits .xor .u32 s.x7 1)) (c' := arrW s.one7) (by rw [xor_fold]; rfl)
   have z8 := hz.far (a := ⟨g6, 7, none⟩) (.int .u32 (bits .xor .u32 s.x7 1)) (by simp only; omega)
   have B8 := hB.setCell (p := ⟨g6, 7, none⟩) (by simp only; omega) (.int .u32 (bits .xor .u32 s.x7 1))
   clear hTs hT RF2 hok hq hz hB hD hk16 R6 hlt
   go_wp2_with (refine zma rfl _ (.tmp 6) rfl _ rfl _ _ _ q8 Tryz.underlying26 rfl (sizeW _) ?_)
   generalize World.setCell _ _ _ = w8 at *
   refine (rmix_any _ ok7.out _).mono ?_
   rintro e w9 ⟨rfl, bM⟩
   rw [HS.out]
   obtain ⟨F, hF⟩ : ∃ F, F = sumW (initW key) b := ⟨_, rfl⟩
   have okS := hid (ok_sumW (initW_ok key) b)
   rw [← hF] at okS ⊢
   have HF := hid hF
   have q9 := q8.step bM
   have z9 := z8.step bM
   have B9 := B8.trans (bM.mono B8.size)
   clear hF q8 z8 B8 bM c7 f7
   go_wp2_with (refine zx rfl _ (.tmp 6) _ rfl _ rfl _ rfl (arrW_one _) _ q9 rfl (sizeW _) ?_; intro wa ga qa)
   have za := z9.grown ga (fun e => by cases e; omega)
   have Ba := zf B9 ga B9.size (by omega)
   have qb := qa.alloc (.cells #[Value.int .u8 0, .int .u8 0, .int .u8 0, .int .u8 0, .int .u8 0, .int .u8 0, .int .u8 0, .int .u8 0, .int .u8 0, .int .u8 0, .int .u8 0, .int .u8 0, .int .u8 0, .int .u8 0, .int .u8 0, .int .u8 0] 35)
   have zb := za.alloc (.cells #[Value.int .u8 0, .int .u8 0, .int .u8 0, .int .u8 0, .int .u8 0, .int .u8 0, .int .u8 0, .int .u8 0, .int .u8 0, .int .u8 0, .int .u8 0, .int .u8 0, .int .u8 0, .int .u8 0, .int .u8 0, .int .u8 0] 35)
   have n8 := Blk.new wa 35 #[Value.int .u8 0, .int .u8 0, .int .u8 0, .int .u8 0, .int .u8 0, .int .u8 0, .int .u8 0, .int .u8 0, .int .u8 0, .int .u8 0, .int .u8 0, .int .u8 0, .int .u8 0, .int .u8 0, .int .u8 0, .int .u8 0]
   have Bb := Ba.alloc Ba.size (.cells #[Value.int .u8 0, .int .u8 0, .int .u8 0, .int .u8 0, .int .u8 0, .int .u8 0, .int .u8 0, .int .u8 0, .int .u8 0, .int .u8 0, .int .u8 0, .int .u8 0, .int .u8 0, .int .u8 0, .int .u8 0, .int .u8 0] 35)
   replace n8 : Blk (wa.alloc (.cells #[Value.int .u8 0, .int .u8 0, .int .u8 0, .int .u8 0, .int .u8 0, .int .u8 0, .int .u8 0, .int .u8 0, .int .u8 0, .int .u8 0, .int .u8 0, .int .u8 0, .int .u8 0, .int .u8 0, .int .u8 0, .int .u8 0] 35)) wa.heap.size 35 (zi (partF F 0)) := by rw [← arr16_zero F]; exact n8
   obtain ⟨g, hg0⟩ : ∃ g, g = wa.heap.size := ⟨_, rfl⟩
   have hgl : g6 < g := by rw [hg0]; exact qa.lt
   rw [← hg0] at n8
   rw [← hg0]
   clear q9 z9 B9 ga qa za Ba hg0
   have OUT : Hid (∀ k, k < 16 → outF F k = wrd F (k / 4) / ((256 ^ (k % 4) : Nat) : Int) % 256) := hid (fun k _ => by unfold outF; rfl)
   obtain ⟨⟨x00, x01⟩, ⟨x10, x11⟩, ⟨x20, x21⟩, ⟨x30, x31⟩, -⟩ := okS.out
   generalize World.alloc _ _ = Wb at *
   go_loopw [11] (fun i wr => ∃ k : Nat, k ≤ 16 ∧ i = .int .i64 k ∧ Blk wr g6 26 (arrW F) ∧ Blk wr w.heap.size 35 #[Value.int .u8 0, .int .u8 0, .int .u8 0, .int .u8 0, .int .u8 0, .int .u8 0, .int .u8 0, .int .u8 0, .int .u8 0, .int .u8 0, .int .u8 0, .int .u8 0, .int .u8 0, .int .u8 0, .int .u8 0, .int .u8 0] ∧ Blk wr g 35 (zi (partF F k)) ∧ Below w.heap.size w wr) (fun i _ => 16 - (intOf i).toNat)
   case atStart => exact ⟨0, by omega, rfl, qb, zb, n8, Bb⟩
   case round =>
    obtain ⟨k, hk, rfl, hq, hz, hg, hB⟩ := hrel
    clear qb zb n8 Bb
    by_cases hlt : k < 16
    ·have hkk : k = 0 ∨ k = 1 ∨ k = 2 ∨ k = 3 ∨ k = 4 ∨ k = 5 ∨ k = 6 ∨ k = 7 ∨ k = 8 ∨ k = 9 ∨ k = 10 ∨ k = 11 ∨ k = 12 ∨ k = 13 ∨ k = 14 ∨ k = 15 := by omega
     clear hlt hk
     rcases hkk with rfl | rfl | rfl | rfl | rfl | rfl | rfl | rfl | rfl | rfl | rfl | rfl | rfl | rfl | rfl | rfl
     ·have k1 : wr.cell? ⟨g6, 0, none⟩ = some (.int .u32 F.x0) := hq.cell (k := 0) rfl
      have k2 : wr.cell? ⟨g, 0, none⟩ = some (.int .u8 0) := hg.cell (k := 0) rfl
      have f1 := hg.frozen 0
      go_wp2
      go_roundw
      case rel => exact ⟨1, by omega, by go_num, hq.far _ (by simp; omega), hz.far _ (by simp; omega), zna hg (by omega) (by rw [OUT.out 0 (by omega)]; simp [wrd] <;> omega), hB.setCell (by simp; omega) _⟩
      case measure => simp [intOf]
     ·have k1 : wr.cell? ⟨g6, 0, none⟩ = some (.int .u32 F.x0) := hq.cell (k := 0) rfl
      have k2 : wr.cell? ⟨g, 1, none⟩ = some (.int .u8 0) := hg.cell (k := 1) rfl
      have f1 := hg.frozen 1
      go_wp2
      go_roundw
      case rel => exact ⟨2, by omega, by go_num, hq.far _ (by simp; omega), hz.far _ (by simp; omega), zna hg (by omega) (by rw [OUT.out 1 (by omega)]; simp [wrd] <;> omega), hB.setCell (by simp; omega) _⟩
      case measure => simp [intOf]
     ·have k1 : wr.cell? ⟨g6, 0, none⟩ = some (.int .u32 F.x0) := hq.cell (k := 0) rfl
      have k2 : wr.cell? ⟨g, 2, none⟩ = some (.int .u8 0) := hg.cell (k := 2) rfl
      have f1 := hg.frozen 2
      go_wp2
      go_roundw
      case rel => exact ⟨3, by omega, by go_num, hq.far _ (by simp; omega), hz.far _ (by simp; omega), zna hg (by omega) (by rw [OUT.out 2 (by omega)]; simp [wrd] <;> omega), hB.setCell (by simp; omega) _⟩
      case measure => simp [intOf]
     ·have k1 : wr.cell? ⟨g6, 0, none⟩ = some (.int .u32 F.x0) := hq.cell (k := 0) rfl
      have k2 : wr.cell? ⟨g, 3, none⟩ = some (.int .u8 0) := hg.cell (k := 3) rfl
      have f1 := hg.frozen 3
      go_wp2
      go_roundw
      case rel => exact ⟨4, by omega, by go_num, hq.far _ (by simp; omega), hz.far _ (by simp; omega), zna hg (by omega) (by rw [OUT.out 3 (by omega)]; simp [wrd] <;> omega), hB.setCell (by simp; omega) _⟩
      case measure => simp [intOf]
     ·have k1 : wr.cell? ⟨g6, 1, none⟩ = some (.int .u32 F.x1) := hq.cell (k := 1) rfl
      have k2 : wr.cell? ⟨g, 4, none⟩ = some (.int .u8 0) := hg.cell (k := 4) rfl
      have f1 := hg.frozen 4
      go_wp2
      go_roundw
      case rel => exact ⟨5, by omega, by go_num, hq.far _ (by simp; omega), hz.far _ (by simp; omega), zna hg (by omega) (by rw [OUT.out 4 (by omega)]; simp [wrd] <;> omega), hB.setCell (by simp; omega) _⟩
      case measure => simp [intOf]
     ·have k1 : wr.cell? ⟨g6, 1, none⟩ = some (.int .u32 F.x1) := hq.cell (k := 1) rfl
      have k2 : wr.cell? ⟨g, 5, none⟩ = some (.int .u8 0) := hg.cell (k := 5) rfl
      have f1 := hg.frozen 5
      go_wp2
      go_roundw
      case rel => exact ⟨6, by omega, by go_num, hq.far _ (by simp; omega), hz.far _ (by simp; omega), zna hg (by omega) (by rw [OUT.out 5 (by omega)]; simp [wrd] <;> omega), hB.setCell (by simp; omega) _⟩
      case measure => simp [intOf]
     ·have k1 : wr.cell? ⟨g6, 1, none⟩ = some (.int .u32 F.x1) := hq.cell (k := 1) rfl
      have k2 : wr.cell? ⟨g, 6, none⟩ = some (.int .u8 0) := hg.cell (k := 6) rfl
      have f1 := hg.frozen 6
      go_wp2
      go_roundw
      case rel => exact ⟨7, by omega, by go_num, hq.far _ (by simp; omega), hz.far _ (by simp; omega), zna hg (by omega) (by rw [OUT.out 6 (by omega)]; simp [wrd] <;> omega), hB.setCell (by simp; omega) _⟩
      case measure => simp [intOf]
     ·have k1 : wr.cell? ⟨g6, 1, none⟩ = some (.int .u32 F.x1) := hq.cell (k := 1) rfl
      have k2 : wr.cell? ⟨g, 7, none⟩ = some (.int .u8 0) := hg.cell (k := 7) rfl
      have f1 := hg.frozen 7
      go_wp2
      go_roundw
      case rel => exact ⟨8, by omega, by go_num, hq.far _ (by simp; omega), hz.far _ (by simp; omega), zna hg (by omega) (by rw [OUT.out 7 (by omega)]; simp [wrd] <;> omega), hB.setCell (by simp; omega) _⟩
      case measure => simp [intOf]
     ·have k1 : wr.cell? ⟨g6, 2, none⟩ = some (.int .u32 F.x2) := hq.cell (k := 2) rfl
      have k2 : wr.cell? ⟨g, 8, none⟩ = some (.int .u8 0) := hg.cell (k := 8) rfl
      have f1 := hg.frozen 8
      go_wp2
      go_roundw
      case rel => exact ⟨9, by omega, by go_num, hq.far _ (by simp; omega), hz.far _ (by simp; omega), zna hg (by omega) (by rw [OUT.out 8 (by omega)]; simp [wrd] <;> omega), hB.setCell (by simp; omega) _⟩
      case measure => simp [intOf]
     ·have k1 : wr.cell? ⟨g6, 2, none⟩ = some (.int .u32 F.x2) := hq.cell (k := 2) rfl
      have k2 : wr.cell? ⟨g, 9, none⟩ = some (.int .u8 0) := hg.cell (k := 9) rfl
      have f1 := hg.frozen 9
      go_wp2
      go_roundw
      case rel => exact ⟨10, by omega, by go_num, hq.far _ (by simp; omega), hz.far _ (by simp; omega), zna hg (by omega) (by rw [OUT.out 9 (by omega)]; simp [wrd] <;> omega), hB.setCell (by simp; omega) _⟩
      case measure => simp [intOf]
     ·have k1 : wr.cell? ⟨g6, 2, none⟩ = some (.int .u32 F.x2) := hq.cell (k := 2) rfl
      have k2 : wr.cell? ⟨g, 10, none⟩ = some (.int .u8 0) := hg.cell (k := 10) rfl
      have f1 := hg.frozen 10
      go_wp2
      go_roundw
      case rel => exact ⟨11, by omega, by go_num, hq.far _ (by simp; omega), hz.far _ (by simp; omega), zna hg (by omega) (by rw [OUT.out 10 (by omega)]; simp [wrd] <;> omega), hB.setCell (by simp; omega) _⟩
      case measure => simp [intOf]
     ·have k1 : wr.cell? ⟨g6, 2, none⟩ = some (.int .u32 F.x2) := hq.cell (k := 2) rfl
      have k2 : wr.cell? ⟨g, 11, none⟩ = some (.int .u8 0) := hg.cell (k := 11) rfl
      have f1 := hg.frozen 11
      go_wp2
      go_roundw
      case rel => exact ⟨12, by omega, by go_num, hq.far _ (by simp; omega), hz.far _ (by simp; omega), zna hg (by omega) (by rw [OUT.out 11 (by omega)]; simp [wrd] <;> omega), hB.setCell (by simp; omega) _⟩
      case measure => simp [intOf]
     ·have k1 : wr.cell? ⟨g6, 3, none⟩ = some (.int .u32 F.x3) := hq.cell (k := 3) rfl
      have k2 : wr.cell? ⟨g, 12, none⟩ = some (.int .u8 0) := hg.cell (k := 12) rfl
      have f1 := hg.frozen 12
      go_wp2
      go_roundw
      case rel => exact ⟨13, by omega, by go_num, hq.far _ (by simp; omega), hz.far _ (by simp; omega), zna hg (by omega) (by rw [OUT.out 12 (by omega)]; simp [wrd] <;> omega), hB.setCell (by simp; omega) _⟩
      case measure => simp [intOf]
     ·have k1 : wr.cell? ⟨g6, 3, none⟩ = some (.int .u32 F.x3) := hq.cell (k := 3) rfl
      have k2 : wr.cell? ⟨g, 13, none⟩ = some (.int .u8 0) := hg.cell (k := 13) rfl
      have f1 := hg.frozen 13
      go_wp2
      go_roundw
      case rel => exact ⟨14, by omega, by go_num, hq.far _ (by simp; omega), hz.far _ (by simp; omega), zna hg (by omega) (by rw [OUT.out 13 (by omega)]; simp [wrd] <;> omega), hB.setCell (by simp; omega) _⟩
      case measure => simp [intOf]
     ·have k1 : wr.cell? ⟨g6, 3, none⟩ = some (.int .u32 F.x3) := hq.cell (k := 3) rfl
      have k2 : wr.cell? ⟨g, 14, none⟩ = some (.int .u8 0) := hg.cell (k := 14) rfl
      have f1 := hg.frozen 14
      go_wp2
      go_roundw
      case rel => exact ⟨15, by omega, by go_num, hq.far _ (by simp; omega), hz.far _ (by simp; omega), zna hg (by omega) (by rw [OUT.out 14 (by omega)]; simp [wrd] <;> omega), hB.setCell (by simp; omega) _⟩
      case measure => simp [intOf]
     ·have k1 : wr.cell? ⟨g6, 3, none⟩ = some (.int .u32 F.x3) := hq.cell (k := 3) rfl
      have k2 : wr.cell? ⟨g, 15, none⟩ = some (.int .u8 0) := hg.cell (k := 15) rfl
      have f1 := hg.frozen 15
      go_wp2
      go_roundw
      case rel => exact ⟨16, by omega, by go_num, hq.far _ (by simp; omega), hz.far _ (by simp; omega), zna hg (by omega) (by rw [OUT.out 15 (by omega)]; simp [wrd] <;> omega), hB.setCell (by simp; omega) _⟩
      case measure => simp [intOf]
    ·obtain rfl : k = 16 := by omega
     rw [arr16_full] at hg
     go_wp2_with (first | (refine zma rfl _ (.tmp 10) rfl _ rfl _ _ _ hg Tryz.underlying35 rfl zmb ?_) | (refine zx rfl _ (.tmp 4) _ rfl _ rfl _ rfl (zda _) _ hz rfl zmb ?_; intro v gv mv))
     exact bodyPost_ret (z5b rfl rfl mv Tryz.underlying35 rfl zmb) rfl ⟨by rw [HF.out], zf hB gv hB.size (by omega)⟩
end Go.Proofs.YtcfepoopkfhojaaGreat
/- sponge.Stream, slices.Clip. -/
namespace Go.Proofs.YtcfepoopkfhojaaGreat
open Go.ChangeShapes Go.WideShapes Go.ChangeAt Go.RowKit Go.Shelf
theorem add_zero' (a : Addr) : a.add 0 = a := by obtain ⟨b, o, s⟩ := a; simp [Addr.add]
theorem slice_sum (w : World) (g : Nat) : (Instr.sliceAt 35 (.pointer (some ⟨g, 0, none⟩)) none none none).run Tryz.prog w = .ok (.slice (some ⟨g, 0, none⟩) 16 16) w := by
 have hl : Tryz.prog.arrayLen 35 = 16 := by kernel_rfl
 have he : Tryz.prog.elem 35 = 5 := by kernel_rfl
 have hu : Tryz.prog.underlying 35 = some (.array (Tryz.prog.arrayLen 35) (Tryz.prog.elem 35)) := by rw [hl, he]; exact Tryz.underlying35
 rw [run_sliceAt_array_all w 35 ⟨g, 0, none⟩ hu, he, sizeOf_u8]
 simp only [Result.andThen_ok, slicedAt, hl]
 simp [add_zero']
def sumL (s : W8) : List UInt8 := (List.range 16).map fun j => UInt8.ofNat (outF s j).toNat
theorem sumL_len (s : W8) : (sumL s).length = 16 := by simp [sumL]
theorem sumL_val (s : W8) (j : Nat) : (((UInt8.ofNat (outF s j).toNat).toNat : Nat) : Int) = outF s j := by
 have := zzb s j
 have e : (UInt8.ofNat (outF s j).toNat).toNat = (outF s j).toNat := by simp; omega
 rw [e, Int.toNat_of_nonneg this.1]
theorem sumL_bvs (s : W8) : bvs (sumL s) = zi (outF s) := by
 unfold bvs sumL
 rw [List.map_map]
 have : (bv ∘ fun j => UInt8.ofNat (outF s j).toNat) = fun j => Value.int .u8 (outF s j) := by
  funext j
  simp only [Function.comp, bv, sumL_val]
 rw [this]
 rfl
theorem sum_rd {w : World} {g : Nat} {t : TypeId} {s : W8} (h : Blk w g t (zi (outF s))) : Rd w (some ⟨g, 0, none⟩) (sumL s) :=
 Bts.rd (t := t) (by unfold Bts; rw [sumL_bvs]; exact h)
theorem Rd.take {w : World} {A : Option Addr} {l : List UInt8} (h : Rd w A l) (k : Nat) : Rd w A (l.take k) := fun hp => by
 have hp' : 0 < l.length := by rw [List.length_take] at hp; omega
 obtain ⟨ad, e, hb, hc⟩ := h hp'
 refine ⟨ad, e, hb, fun j b hj => hc j b ?_⟩
 rw [List.getElem?_take] at hj
 split at hj
 ·exact hj
 ·cases hj
theorem prd_one {w : World} {A : Option Addr} {l : List UInt8} {n c : Nat} (hn : l.length = n) (h1 : n ≤ c) (h2 : c ≤ maxLen) (h3 : A = none → c = 0) (hR : Rd w A l) :
  PRd (w.alloc (.cells #[.slice A n c] 22)) (some ⟨w.heap.size, 0, none⟩) [l] := fun _ => by
 refine ⟨w.heap.size, 0, rfl, by simp, fun j l' hj => ?_⟩
 obtain rfl : j = 0 := by
  have := (List.getElem?_eq_some_iff.1 hj).1
  simp at this; omega
 obtain rfl : l = l' := Option.some.inj hj
 exact ⟨A, c, by rw [hn]; exact (Blk.new w 22 #[.slice A n c]).cell (k := 0) rfl, by rw [hn]; exact h1, h2, h3, hR.step (zga w _)⟩
end Go.Proofs.YtcfepoopkfhojaaGreat
namespace Go.Proofs.YtcfepoopkfhojaaGreat
open Go.ChangeShapes Go.WideShapes Go.ChangeAt Go.RowKit Go.Shelf
theorem isAgg_u8 (w : World) : (isAgg 5).run Tryz.prog w = .ok false w := by kernel_rfl
theorem eq_u8 (d : Nat) (x y : Int) (w : World) : (Op.equalIn (d + 1) 5 (.int .u8 x) (.int .u8 y)).run Tryz.prog w = .ok (x == y) w := run_equalIn_int w d 5 .u8 .u8 x y Tryz.underlying5
theorem eq16_same (y : Nat → Int) (w : World) : (Op.equalIn 10000 35 (.agg (zi y)) (.agg (zi y))).run Tryz.prog w = .ok true w := by
 rw [Op.equalIn]
 simp only [Sem.run_bind, run_underlying Tryz.underlying35, Result.andThen_ok, sizeOf_u8]
 simp only [Std.Legacy.Range.forIn_eq_forIn_range', Std.Legacy.Range.size, List.range']
 simp [part, isAgg_u8, zi, eq_u8]
section
variable {a : Act} {w : World} {o : Oper}
theorem run_eq16 (x y : Operand) (ho : o.op = .binOp .eql 35 x y 35) (z : Nat → Int) (hx : a.eval x = .agg (zi z)) (hy : a.eval y = .agg (zi z)) : (execOp a.eval o).run Tryz.prog w = .ok (.value (.bool true)) w := by
 unfold execOp
 simp only [ho, hx, hy]
 simp [go_sem, eq16_same]
theorem run_lit (zs : List UInt8) (hz : 0 < zs.length) (hs : zs.length ≤ 1000) (parts : Array (Nat × Operand)) (ho : o.op = .buildSlice 22 zs.length parts)
  (hf : Instr.fill (fun i => some (i * 1, 1)) ((Array.range (zs.length * 1)).map ((Value.int .u8 0).cells[· % (Value.int .u8 0).cells.size]!)) (parts.map fun (i, x) => (i, a.eval x)).toList = some (bvs zs)) :
  (execOp a.eval o).run Tryz.prog w = .ok (.value (.slice (some ⟨w.heap.size, 0, none⟩) zs.length zs.length)) (w.alloc (.cells (bvs zs) 5)) := by
 obtain ⟨i, h1, h2, h3, _⟩ := info_u8
 unfold execOp
 simp only [ho, Sem.run_bind, run_buildSlice w 22 5 zs.length _ (bvs zs) i (.int .u8 0) Tryz.underlying22 h1 h2 (by rw [h3]; omega) (by rw [h3]; omega) (by rw [h3]; exact hf), Result.andThen_ok, Sem.run_pure]
end
end Go.Proofs.YtcfepoopkfhojaaGreat
namespace Go.Proofs.YtcfepoopkfhojaaGreat
open Go.ChangeShapes Go.WideShapes Go.ChangeAt Go.RowKit Go.Shelf
theorem hop_lit {ops : Array Oper} {Q : Exit → Act → World → Prop} {a : Act} {w : World} {o : Oper} {B : Nat} (hw : Region.wanted o (yielded ops a.tmps) = true) (hB : B ≤ w.heap.size) (zs : List UInt8) (hz : 0 < zs.length) (hs : zs.length ≤ 1000) (parts : Array (Nat × Operand)) (ho : o.op = .buildSlice 22 zs.length parts)
  (hf : Instr.fill (fun i => some (i * 1, 1)) ((Array.range (zs.length * 1)).map ((Value.int .u8 0).cells[· % (Value.int .u8 0).cells.size]!)) (parts.map fun (i, x) => (i, a.eval x)).toList = some (bvs zs)) :
  if Region.wanted o (yielded ops a.tmps) = true then o.wp Tryz.prog a w (fun a' w' => ∃ v, a' = a.put o.dst v ∧ Kc B w w' ∧ (StK.lit B zs).F w' v) Q else (StK.lit B zs).F w undef :=
 hop_growK (F := (StK.lit B zs).F) hw _ (run_lit zs hz hs parts ho hf) (Kc.of_below hB (zga w _)) ⟨w.heap.size, (0, 0), rfl, hB, hs, heap_alloc_new w _⟩
theorem LitB.isB {B : Nat} {w : World} {l : List UInt8} {v : Value} (h : LitB B w l v) : IsB w l v := by
 obtain ⟨g, fr, h1, h2, h4, h3⟩ := h
 refine ⟨_, _, h1, Nat.le_refl _, by unfold maxLen; omega, (fun h => by cases h), fun hp => ⟨_, rfl, zyb h3, fun j b hj => ?_⟩⟩
 rw [zva, Nat.zero_add]
 simp only [World.cell?, h3]
 simp [bvs, hj]
theorem run_convB {B : Nat} {a : Act} {w : World} {o : Oper} (x : Operand) (ho : o.op = .convert 22 22 x) {l : List UInt8} (hx : LitB B w l (a.eval x)) : ∃ w', (execOp a.eval o).run Tryz.prog w = .ok (.value (a.eval x)) w' ∧ Kc B w w' ∧ LitB B w' l (a.eval x) := by
 obtain ⟨g, fr, h1, h2, h4, h3⟩ := hx
 have hsh : w.shape? g = some (5, (bvs l).size) := by unfold World.shape?; rw [h3]
 have hk : Kc B w (w.freeze ⟨g, (bvs l).size, none⟩ 1) := by
  refine ⟨⟨rfl, rfl, rfl, by simp [World.freeze], fun k hk => ?_⟩, fun g' cs t fr' hg => ?_⟩
  ·simp only [World.freeze, if_neg (by decide : ¬ (1 = 0)), Array.getElem?_modify]
   rw [if_neg (show ¬ g = k by omega)]
  ·simp only [World.freeze, if_neg (by decide : ¬ (1 = 0)), Array.getElem?_modify]
   by_cases e : g = g'
   ·subst e
    rw [if_pos rfl, hg]
    rw [h3] at hg
    injection hg with hg
    injection hg with _ ht _
    exact ⟨_, rfl, fun hn => absurd ht.symm hn⟩
   ·rw [if_neg e, hg]
    exact ⟨_, rfl, fun _ => rfl⟩
 refine ⟨w.freeze ⟨g, (bvs l).size, none⟩ 1, ?_, hk, ?_⟩
 ·rw [h1]
  refine run_cv' _ _ x ho h1 ?_
  simp [convert, run_underlying Tryz.underlying22, run_underlying Tryz.underlying5, markStringish, hsh]
 ·obtain ⟨fr', h3', _⟩ := hk.kept g _ _ _ h3
  exact ⟨g, fr', h1, h2, h4, h3'⟩
theorem zmc {ops : Array Oper} {Q : Exit → Act → World → Prop} {a : Act} {w : World} {o : Oper} {B : Nat} (hw : Region.wanted o (yielded ops a.tmps) = true) (x : Operand) (ho : o.op = .convert 22 22 x) {l : List UInt8} (hx : LitB B w l (a.eval x)) :
  if Region.wanted o (yielded ops a.tmps) = true then o.wp Tryz.prog a w (fun a' w' => ∃ v, a' = a.put o.dst v ∧ Kc B w w' ∧ (StK.lit B l).F w' v) Q else (StK.lit B l).F w undef := by
 obtain ⟨wc, h1, h2, h3⟩ := run_convB x ho hx
 exact hop_growK (F := (StK.lit B l).F) hw _ h1 h2 h3
end Go.Proofs.YtcfepoopkfhojaaGreat
namespace Go.Proofs.YtcfepoopkfhojaaGreat
open Go.ChangeShapes Go.WideShapes Go.ChangeAt Go.RowKit Go.Shelf
end Go.Proofs.YtcfepoopkfhojaaGreat
namespace Go.Proofs.YtcfepoopkfhojaaGreat
open Go.ChangeShapes Go.WideShapes Go.ChangeAt Go.RowKit Go.Shelf
theorem Byt.own {w : World} {base : Nat} {v : Value} {l : List UInt8} (h : Byt w base v l) (hl : 0 < l.length) :
  ∃ g c, v = .slice (some ⟨g, 0, none⟩) l.length c ∧ base ≤ g ∧ g < w.heap.size ∧ l.length ≤ c ∧ c ≤ maxLen ∧ (∀ k, w.frozen? ⟨g, k, none⟩ = false) ∧ (∀ j x, l[j]? = some x → w.cell? ⟨g, j, none⟩ = some (bv x)) := by
 have hlt := h.lt
 rcases h.2 with ⟨_, h0⟩ | ⟨g, c, cur, e, hb, hg, hn, hc, hs, ht⟩
 ·omega
 ·refine ⟨g, c, e, hb, zyb hg, hn, hc, fun k => by simp [World.frozen?, hg], fun j x hj => by have := h.cells (g := g) (by rw [e]; rfl) j (bv x) (by rw [List.getElem?_map, hj]; rfl); rwa [zva, Nat.zero_add] at this⟩
theorem Rd.isB {w : World} {A : Option Addr} {l : List UInt8} {n c : Nat} (h : Rd w A l) (hn : l.length = n) (hc : n ≤ c) (hm : c ≤ maxLen) (hA : A = none → c = 0) : IsB w l (.slice A n c) :=
 ⟨A, c, by rw [hn], by rw [hn]; exact hc, hm, hA, h⟩
end Go.Proofs.YtcfepoopkfhojaaGreat
namespace Go.Proofs.YtcfepoopkfhojaaGreat
open Go.ChangeShapes Go.WideShapes Go.ChangeAt Go.RowKit Go.Shelf
theorem step_append_byt {ops : Array Oper} {o : Oper} {a : Act} {w : World} {K : Act → World → Prop} {Q : Exit → Act → World → Prop} {E : Prop} (hgd : o.guard = none) (s x : Operand)
  (ho : o.op = .call { callee := .builtin .append, args := #[s, x], argTypes := #[22, 22] })
  (base : Nat) (v : Value) (l r : List UInt8) (hs : a.eval s = v) (hown : Byt w base v l) (A : Option Addr) (m c : Nat) (hx : a.eval x = .slice A m c) (hr : r.length = m) (hA : A = none → c = 0) (hR : Rd w A r)
  (hle : l.length + r.length ≤ 1000000) (hbase : base ≤ w.heap.size)
  (h : ∀ A2 c2 w', Byt w' base (.slice A2 (l.length + m) c2) (l ++ r) → Below base w w' → K (a.put o.dst (.slice A2 (l.length + m) c2)) w') :
  if Region.wanted o (yielded ops a.tmps) = true then Oper.wp Tryz.prog o a w K Q else E := by
 by_cases hm : 0 < m
 ·cases A with
  | none => obtain ⟨ad, e, _⟩ := hR (by omega); cases e
  | some ad => exact step_append_bytes hgd s x ho base v l r hs hown ad m c hx hr hm hR hle hbase fun g cap w' h1 h2 _ _ _ => h _ _ w' h1 h2
 ·obtain rfl : m = 0 := by omega
  obtain rfl : r = [] := List.eq_nil_of_length_eq_zero hr
  obtain ⟨i, hi1, hi2, hi3, hi4⟩ := info_u8
  obtain ⟨A2, c2, e2, h1, h2, _⟩ := id hown.slice
  subst e2
  have hw : Region.wanted o (yielded ops a.tmps) = true := by simp [Region.wanted, hgd]
  rw [if_pos hw]
  have hsrc : Go.Src Tryz.prog i.size 22 (.slice A 0 c) 0 [] w := by
   cases A with
   | none => exact Go.Src.ofNil w Tryz.underlying22 c
   | some ad => exact Go.Src.ofSlice w Tryz.underlying22 ad 0 c [] (by simp) (fun j u hu => by simp at hu) (fun u hu => by cases hu)
  have hrun := run_append_nothing (P := Tryz.prog) w 22 22 o.type 5 i Tryz.underlying22 hi1 A2 l.length c2 h1 (.slice A 0 c) hsrc
  unfold Oper.wp execOp
  simp only [ho, resolve, invoke, builtin, Sem.run_bind, Sem.run_pure, Result.andThen_ok, List.map_toArray, List.map_cons, List.map_nil, hs, hx, hrun]
  exact h A2 c2 w (by rw [List.append_nil]; exact hown) (Below.refl _ _)
theorem rparts_any (B : Option Addr) (L : List (List UInt8)) (n d : Nat) (hn : L.length = n) (hd : n ≤ d) (hnl : n ≤ 10) (hl : ∀ l ∈ L, l.length ≤ 2000) (w : World) (hP : PRd w B L) :
  Calls Tryz.prog 65 #[.slice B n d] w fun e w' => ∃ v, e = .returned v ∧ Byt w' w.heap.size v (cat L) ∧ (cat L).length ≤ 2008 * n ∧ Below w.heap.size w w' := by
 have HN := hid hn
 have HL := hid hl
 have CL : Hid (∀ k, (cat (L.take k)).length ≤ 2008 * k) := hid (fun k => by
  induction k with
  | zero => simp [cat]
  | succ k ih =>
   by_cases hk : k < L.length
   ·rw [List.take_succ_eq_append_getElem hk, cat_snoc, List.length_append, List.length_append, ztb]
    have := hl L[k] (List.getElem_mem hk)
    omega
   ·rw [List.take_of_length_le (by omega)]
    rw [List.take_of_length_le (by omega)] at ih
    omega)
 clear hn hl
 go_enter Tryz.func65, Tryz.ntmps65
 go_wp2
 go_loopw [3, 4] (fun v i wr => ∃ k : Nat, k ≤ n ∧ i = .int .i64 (k : Int) ∧ Byt wr w.heap.size v (cat (L.take k)) ∧ Below w.heap.size w wr) (fun _ i _ => 20 - (intOf i).toNat)
 case atStart => exact ⟨0, by omega, rfl, Byt.nil _ _, Below.refl _ _⟩
 case round =>
  obtain ⟨k, hk, rfl, hv, hB⟩ := hrel
  by_cases hlt : k < n
  ·obtain ⟨b, o, rfl, hb, hj⟩ := hP (by rw [HN.out]; omega)
   have hkL : k < L.length := by rw [HN.out]; exact hlt
   obtain ⟨A', c', hc, q1, q2, q3, q4⟩ := hj k L[k] (List.getElem?_eq_getElem hkL)
   have hsnoc : Hid (cat (L.take k) ++ z8a L[k].length ++ L[k] = cat (L.take (k + 1))) := hid (by rw [List.take_succ_eq_append_getElem hkL, cat_snoc])
   have hm := HL.out L[k] (List.getElem_mem hkL)
   have hcl := CL.out k
   obtain ⟨l, hl⟩ : ∃ l, l = L[k] := ⟨_, rfl⟩
   rw [← hl] at hc q1 q4 hsnoc hm
   obtain ⟨m, hml⟩ : ∃ m, l.length = m := ⟨_, rfl⟩
   rw [hml] at hc q1 hsnoc hm
   obtain ⟨C, hC⟩ : ∃ C, C = cat (L.take k) := ⟨_, rfl⟩
   rw [← hC] at hv hsnoc hcl
   have hz := hB.size
   have hcr := hB.cell (p := ⟨b, o + k, none⟩) hb
   rw [hc] at hcr
   have hml' := hid hml
   have hkn : (k : Int) < (n : Int) := by omega
   have hk0 : (0 : Int) ≤ (k : Int) := Int.natCast_nonneg _
   obtain ⟨A1, c1, rfl, p1, p2, p3, p4⟩ := hv.slice
   have hvn := hv
   obtain ⟨y, hy⟩ : ∃ y, C.length = y := ⟨_, rfl⟩
   rw [hy] at hv hcl p1 ⊢
   have hy' := hid hy
   clear hl hj hC hml hy hP hc p3 p4 hvn
   go_wp2_with fail
   go_region_held3 (fun w' => w'.cell? ⟨b, o + k, none⟩ = some (.slice A' m c')) (first | exact hcr | (rw [hb3.cell (p := ⟨b, o + k, none⟩) (by simp; omega)]; assumption) | (rw [hb2.cell (p := ⟨b, o + k, none⟩) (by simp; omega)]; assumption) | (rw [b1.cell (p := ⟨b, o + k, none⟩) (by simp; omega)]; assumption))
    (first
     | (refine (sreight_any m (by omega) _).mono ?_; rintro e w1 ⟨v1, rfl, h1, b1⟩; obtain ⟨A3, c3, rfl, s1, s2, s3, s4⟩ := h1.slice; have nn3 := h1.none0; have hv1 := (show Byt wr.drew _ _ _ from hv).step b1; have B1q : Below w.heap.size w w1 := hB.trans (((zta wr).mono hz).trans (b1.mono hz)); have z1 := B1q.size)
     | (refine step_append_byt (by rfl) (.tmp 11) (.tmp 17) (by rfl) w.heap.size _ C (z8a m) (by rfl) hv1 A3 _ c3 (by rfl) (by rfl) nn3 s3 (by rw [ztb, hy'.out]; omega) z1 ?_; intro A4 c4 w2 h2 hb2; have B2q := B1q.trans hb2; have z2 := B2q.size)
     | (refine step_append_byt (by rfl) (.tmp 18) (.tmp 22) (by rfl) w.heap.size _ (C ++ z8a m) l (by rfl) h2 A' m c' (by rfl) hml'.out q3 (q4.below B2q (Nat.le_refl _)) (by rw [List.length_append, ztb, hy'.out, hml'.out]; omega) z2 ?_; intro A5 c5 w3 h3 hb3; have B3q := B2q.trans hb3))
   rw [hsnoc.out, List.length_append] at h3
   clear hsnoc
   go_wp2
   go_roundw
   case rel => exact ⟨k + 1, by omega, by go_num, h3, B3q⟩
   case measure => simp [intOf]; omega
  ·obtain rfl : k = n := by omega
   have hcl := CL.out k
   rw [List.take_of_length_le (by rw [HN.out]; omega)] at hv hcl
   go_wp2
   go_ret
   exact ⟨_, rfl, hv, hcl, hB⟩
theorem rmac_any (A : Option Addr) (key : List UInt8) (n c : Nat) (hn : key.length = n) (hA : A = none → c = 0) (hnl : n ≤ 2000) (B : Option Addr) (L : List (List UInt8)) (k d : Nat) (hk : L.length = k) (hd : k ≤ d) (hkl : k ≤ 10) (hl : ∀ l ∈ L, l.length ≤ 2000) (hcl : (cat L).length ≤ 5000) (w : World) (hR : Rd w A key) (hP : PRd w B L) :
  Calls Tryz.prog 78 #[.slice A n c, .slice B k d] w fun e w' => e = .returned (.agg (zi (outF (macW key L)))) ∧ Below w.heap.size w w' := by
 have b0 := zga w (.cells #[Value.int .u8 0, .int .u8 0, .int .u8 0, .int .u8 0, .int .u8 0, .int .u8 0, .int .u8 0, .int .u8 0, .int .u8 0, .int .u8 0, .int .u8 0, .int .u8 0, .int .u8 0, .int .u8 0, .int .u8 0, .int .u8 0] 35)
 have z0 := Blk.new w 35 #[Value.int .u8 0, .int .u8 0, .int .u8 0, .int .u8 0, .int .u8 0, .int .u8 0, .int .u8 0, .int .u8 0, .int .u8 0, .int .u8 0, .int .u8 0, .int .u8 0, .int .u8 0, .int .u8 0, .int .u8 0, .int .u8 0]
 have P0 := hP.step b0
 have R0 := hR.step b0
 go_enter Tryz.func78, Tryz.ntmps78
 go_wp2_with fail
 refine (rparts_any B L k d hk hd hkl hl _ P0).mono ?_
 rintro e w1 ⟨v1, rfl, h1, _, b1⟩
 obtain ⟨A1, c1, rfl, q1, q2, q3, q4⟩ := h1.slice
 have nn1 := h1.none0
 have z1 := z0.step b1
 have R1 := R0.step b1
 have B1 := zt b0 b1
 clear h1 b1 z0 P0 R0 b0 hR hP
 go_wp2_with fail
 refine (rraw_any A key n c hn hA hnl A1 (cat L) _ c1 rfl nn1 hcl w1 R1 q3).mono ?_
 rintro e w2 ⟨rfl, b2⟩
 have z2 := z1.step b2
 have B2 := zt B1 b2
 obtain ⟨F, hF⟩ : ∃ F, F = sumW (initW key) (cat L) := ⟨_, rfl⟩
 have HF : Hid (macW key L = F) := hid (by unfold macW; rw [sumW_feed, hF])
 rw [← hF]
 clear hF z1 b2 B1 R1 q3
 go_wp2_with (refine zx rfl _ (.tmp 4) _ rfl _ rfl _ rfl (zda _) _ z2 rfl zmb ?_; intro w5 g5 c5)
 exact bodyPost_ret (z5b rfl rfl c5 Tryz.underlying35 rfl zmb) rfl ⟨by rw [HF.out], zf B2 g5 B2.size (Nat.le_refl _)⟩
theorem rof_any (B : Option Addr) (L : List (List UInt8)) (k d : Nat) (hk : L.length = k) (hd : k ≤ d) (hkl : k ≤ 10) (hl : ∀ l ∈ L, l.length ≤ 2000) (hcl : (cat L).length ≤ 5000) (w : World) (hP : PRd w B L) :
  Calls Tryz.prog 29 #[.slice B k d] w fun e w' => e = .returned (.agg (zi (outF (macW [] L)))) ∧ Below w.heap.size w w' := by
 have b0 := zga w (.cells #[Value.int .u8 0, .int .u8 0, .int .u8 0, .int .u8 0, .int .u8 0, .int .u8 0, .int .u8 0, .int .u8 0, .int .u8 0, .int .u8 0, .int .u8 0, .int .u8 0, .int .u8 0, .int .u8 0, .int .u8 0, .int .u8 0] 35)
 have z0 := Blk.new w 35 #[Value.int .u8 0, .int .u8 0, .int .u8 0, .int .u8 0, .int .u8 0, .int .u8 0, .int .u8 0, .int .u8 0, .int .u8 0, .int .u8 0, .int .u8 0, .int .u8 0, .int .u8 0, .int .u8 0, .int .u8 0, .int .u8 0]
 have P0 := hP.step b0
 go_enter Tryz.func29, Tryz.ntmps29
 go_wp2_with fail
 refine (rparts_any B L k d hk hd hkl hl _ P0).mono ?_
 rintro e w1 ⟨v1, rfl, h1, _, b1⟩
 obtain ⟨A1, c1, rfl, q1, q2, q3, q4⟩ := h1.slice
 have nn1 := h1.none0
 have z1 := z0.step b1
 have B1 := zt b0 b1
 clear h1 b1 z0 P0 b0 hP
 go_wp2_with fail
 refine (rraw_any none [] 0 0 rfl (fun _ => rfl) (by omega) A1 (cat L) _ c1 rfl nn1 hcl w1 (fun h => absurd h (by simp)) q3).mono ?_
 rintro e w2 ⟨rfl, b2⟩
 have z2 := z1.step b2
 have B2 := zt B1 b2
 obtain ⟨F, hF⟩ : ∃ F, F = sumW (initW []) (cat L) := ⟨_, rfl⟩
 have HF : Hid (macW [] L = F) := hid (by unfold macW; rw [sumW_feed, hF])
 rw [← hF]
 clear hF z1 b2 B1 q3
 go_wp2_with (refine zx rfl _ (.tmp 2) _ rfl _ rfl _ rfl (zda _) _ z2 rfl zmb ?_; intro w5 g5 c5)
 exact bodyPost_ret (z5b rfl rfl c5 Tryz.underlying35 rfl zmb) rfl ⟨by rw [HF.out], zf B2 g5 B2.size (Nat.le_refl _)⟩
end Go.Proofs.YtcfepoopkfhojaaGreat
/- Slices of bytes, rows of them, Sums: the operations of a drawn region; contracts said by what they hold. -/
namespace Go.Proofs.YtcfepoopkfhojaaGreat
open Go.ChangeShapes Go.WideShapes Go.ChangeAt Go.RowKit Go.Shelf
theorem infoSl : ∃ i, Tryz.prog.info? 22 = some i ∧ i.zero = some (zN) ∧ i.size = 1 := by
 have h0 : (Tryz.prog.info? 22).isSome = true := by kernel_rfl
 have h1 : (Tryz.prog.info? 22).map (·.size) = some 1 := by kernel_rfl
 have h2 : (Tryz.prog.info? 22).bind (·.zero) = some (zN) := by kernel_rfl
 cases h : Tryz.prog.info? 22 with
 | none => rw [h] at h0; cases h0
 | some i =>
  rw [h] at h1 h2
  exact ⟨i, rfl, h2, Option.some.inj h1⟩
def IsP (w : World) (L : List (List UInt8)) (v : Value) : Prop := ∃ A c, v = .slice A L.length c ∧ L.length ≤ c ∧ c ≤ maxLen ∧ PRd w A L
theorem IsP.step {w w' : World} {L : List (List UInt8)} {v : Value} (h : IsP w L v) (hb : Below w.heap.size w w') : IsP w' L v := by
 obtain ⟨A, c, h1, h2, h3, h4⟩ := h
 exact ⟨A, c, h1, h2, h3, h4.step hb⟩
theorem Kc.prd' {B : Nat} {w w' : World} {A : Option Addr} {L : List (List UInt8)} (k : Kc B w w') (h : PRd w A L) : PRd w' A L := fun hl => by
 obtain ⟨b, o, e, h1, h3⟩ := h hl
 refine ⟨b, o, e, Nat.lt_of_lt_of_le h1 k.below.size, fun j l hj => ?_⟩
 obtain ⟨A', c', q1, q2, q3, q4, q5⟩ := h3 j l hj
 exact ⟨A', c', k.isCells q1, q2, q3, q4, k.rd q5⟩
def StK.parts (L : List (List UInt8)) : StK := ⟨fun w v => IsP w L v, fun _ _ _ _ hb h => by
 obtain ⟨A, c, h1, h2, h3, h4⟩ := h
 exact ⟨A, c, h1, h2, h3, hb.prd' h4⟩⟩
theorem IsP.below {w w' : World} {L : List (List UInt8)} {v : Value} {N : Nat} (h : IsP w L v) (hb : Below N w w') (hN : w.heap.size ≤ N) : IsP w' L v := h.step (hb.mono hN)
theorem IsB.below {w w' : World} {l : List UInt8} {v : Value} {N : Nat} (h : IsB w l v) (hb : Below N w w') (hN : w.heap.size ≤ N) : IsB w' l v := h.step (hb.mono hN)
theorem Rd.isB' {w : World} {A : Option Addr} {l : List UInt8} {n c : Nat} (h : Rd w A l) (hn : l.length = n) (hc : n ≤ c) (hm : c ≤ maxLen) (hz : A = none → c = 0) : IsB w l (.slice A n c) := by
 subst hn
 exact ⟨A, c, rfl, hc, hm, hz, h⟩
theorem Byt.isB {w : World} {b : Nat} {v : Value} {l : List UInt8} (h : Byt w b v l) : IsB w l v := by
 obtain ⟨A, c, e, h1, h2, h3, _⟩ := id h.slice
 subst e
 exact ⟨A, c, rfl, h1, h2, h.none0, h3⟩
theorem IsB.nil (w : World) : IsB w [] (zN) := ⟨none, 0, rfl, Nat.le_refl _, by unfold maxLen; omega, fun _ => rfl, fun h => absurd h (by simp)⟩
theorem part_rd {w : World} {g : Nat} {c : Array Value} (hB : Blk w g 22 c) {L : List (List UInt8)} (hL : ∀ (j : Nat) (l : List UInt8), L[j]? = some l → ∃ v, c[j]? = some v ∧ IsB w l v) : PRd w (some ⟨g, 0, none⟩) L := fun _ =>
 ⟨g, 0, rfl, hB.lt, fun j l hj => by
  obtain ⟨v, hv, A, c', e, h1, h2, h3, h4⟩ := hL j l hj
  exact ⟨A, c', by rw [Nat.zero_add, ← e]; exact hB.cell hv, h1, h2, h3, h4⟩⟩
theorem isb1 {w : World} {l1 : List UInt8} {v1 : Value} (h1 : IsB w l1 v1) : ∀ (j : Nat) (l : List UInt8) (v : Value), [l1][j]? = some l → [v1][j]? = some v → IsB w l v
 | 0, l, v, hl, hv => by cases hl; cases hv; exact h1
 | j + 1, l, v, hl, hv => by cases hl
theorem isb2 {w : World} {l1 l2 : List UInt8} {v1 v2 : Value} (h1 : IsB w l1 v1) (h2 : IsB w l2 v2) : ∀ (j : Nat) (l : List UInt8) (v : Value), [l1, l2][j]? = some l → [v1, v2][j]? = some v → IsB w l v
 | 0, l, v, hl, hv => by cases hl; cases hv; exact h1
 | 1, l, v, hl, hv => by cases hl; cases hv; exact h2
 | j + 2, l, v, hl, hv => by cases hl
theorem isb3 {w : World} {l1 l2 l3 : List UInt8} {v1 v2 v3 : Value} (h1 : IsB w l1 v1) (h2 : IsB w l2 v2) (h3 : IsB w l3 v3) : ∀ (j : Nat) (l : List UInt8) (v : Value), [l1, l2, l3][j]? = some l → [v1, v2, v3][j]? = some v → IsB w l v
 | 0, l, v, hl, hv => by cases hl; cases hv; exact h1
 | 1, l, v, hl, hv => by cases hl; cases hv; exact h2
 | 2, l, v, hl, hv => by cases hl; cases hv; exact h3
 | j + 3, l, v, hl, hv => by cases hl
theorem new_parts {w : World} {vs : List Value} {L : List (List UInt8)} (hn : vs.length = L.length) (hm : L.length ≤ 1000) (h : ∀ (j : Nat) (l : List UInt8) (v : Value), L[j]? = some l → vs[j]? = some v → IsB w l v) : IsP (w.alloc (.cells vs.toArray 22)) L (.slice (some ⟨w.heap.size, 0, none⟩) L.length L.length) := by
 refine ⟨_, _, rfl, Nat.le_refl _, by unfold maxLen; omega, part_rd (Blk.new w 22 vs.toArray) fun j l hj => ?_⟩
 have hjl := (List.getElem?_eq_some_iff.1 hj).1
 have hv : vs[j]? = some (vs[j]'(by omega)) := List.getElem?_eq_getElem (by omega)
 exact ⟨vs[j]'(by omega), by rw [List.getElem?_toArray]; exact hv, (h j l _ hj hv).step (zga w _)⟩
section
variable {Q : Exit → Act → World → Prop} {a : Act} {w : World} {o : Oper} {B : Nat} {ops : Array Oper}
theorem hop_parts (hw : Region.wanted o (yielded ops a.tmps) = true) (hB : B ≤ w.heap.size) {n : Nat} {ps : Array (Nat × Operand)} (ho : o.op = .buildSlice 54 n ps) {vs : List Value} {L : List (List UInt8)} (hn : vs.length = n) (hL : L.length = n) (hm : n ≤ 1000) (hn0 : 0 < n)
  (hf : Instr.fill (fun i => some (i * 1, 1)) ((Array.range (n * 1)).map ((zN).cells[· % (zN).cells.size]!)) (ps.map fun (i, x) => (i, a.eval x)).toList = some vs.toArray)
  (h : ∀ (j : Nat) (l : List UInt8) (v : Value), L[j]? = some l → vs[j]? = some v → IsB w l v) :
  if Region.wanted o (yielded ops a.tmps) = true then o.wp Tryz.prog a w (fun a' w' => ∃ v, a' = a.put o.dst v ∧ Kc B w w' ∧ (StK.parts L).F w' v) Q else (StK.parts L).F w undef := by
 obtain ⟨i, i1, i2, i3⟩ := infoSl
 refine hop_growK (F := (StK.parts L).F) hw (.slice (some ⟨w.heap.size, 0, none⟩) L.length L.length) (w1 := w.alloc (.cells vs.toArray 22)) ?_ (Kc.of_below hB (zga w _)) (new_parts (by rw [hn, hL]) (by omega) h)
 unfold execOp
 simp only [ho, Sem.run_bind, run_buildSlice w 54 22 n _ vs.toArray i (zN) Tryz.underlying54 i1 i2 (by rw [i3]; omega) (by rw [i3]; omega) (by rw [i3]; exact hf), Result.andThen_ok, Sem.run_pure, hL]
theorem hop_parts1 (hw : Region.wanted o (yielded ops a.tmps) = true) (hB : B ≤ w.heap.size) (x1 : Operand) (ho : o.op = .buildSlice 54 1 #[(0, x1)]) {l1 : List UInt8} (h1 : IsB w l1 (a.eval x1)) :
  if Region.wanted o (yielded ops a.tmps) = true then o.wp Tryz.prog a w (fun a' w' => ∃ v, a' = a.put o.dst v ∧ Kc B w w' ∧ (StK.parts [l1]).F w' v) Q else (StK.parts [l1]).F w undef := by
 obtain ⟨A1, c1, e1, _⟩ := id h1
 refine hop_parts (n := 1) hw hB ho (vs := [a.eval x1]) (L := [l1]) rfl rfl (by decide) (by decide) ?_ (isb1 h1)
 simp only [List.map_toArray, List.map_cons, List.map_nil, e1]
 kernel_rfl
theorem hop_parts2 (hw : Region.wanted o (yielded ops a.tmps) = true) (hB : B ≤ w.heap.size) (x1 x2 : Operand) (ho : o.op = .buildSlice 54 2 #[(0, x1), (1, x2)]) {l1 l2 : List UInt8} (h1 : IsB w l1 (a.eval x1)) (h2 : IsB w l2 (a.eval x2)) :
  if Region.wanted o (yielded ops a.tmps) = true then o.wp Tryz.prog a w (fun a' w' => ∃ v, a' = a.put o.dst v ∧ Kc B w w' ∧ (StK.parts [l1, l2]).F w' v) Q else (StK.parts [l1, l2]).F w undef := by
 obtain ⟨A1, c1, e1, _⟩ := id h1
 obtain ⟨A2, c2, e2, _⟩ := id h2
 refine hop_parts (n := 2) hw hB ho (vs := [a.eval x1, a.eval x2]) (L := [l1, l2]) rfl rfl (by decide) (by decide) ?_ (isb2 h1 h2)
 simp only [List.map_toArray, List.map_cons, List.map_nil, e1, e2]
 kernel_rfl
theorem hop_parts3 (hw : Region.wanted o (yielded ops a.tmps) = true) (hB : B ≤ w.heap.size) (x1 x2 x3 : Operand) (ho : o.op = .buildSlice 54 3 #[(0, x1), (1, x2), (2, x3)]) {l1 l2 l3 : List UInt8} (h1 : IsB w l1 (a.eval x1)) (h2 : IsB w l2 (a.eval x2)) (h3 : IsB w l3 (a.eval x3)) :
  if Region.wanted o (yielded ops a.tmps) = true then o.wp Tryz.prog a w (fun a' w' => ∃ v, a' = a.put o.dst v ∧ Kc B w w' ∧ (StK.parts [l1, l2, l3]).F w' v) Q else (StK.parts [l1, l2, l3]).F w undef := by
 obtain ⟨A1, c1, e1, _⟩ := id h1
 obtain ⟨A2, c2, e2, _⟩ := id h2
 obtain ⟨A3, c3, e3, _⟩ := id h3
 refine hop_parts (n := 3) hw hB ho (vs := [a.eval x1, a.eval x2, a.eval x3]) (L := [l1, l2, l3]) rfl rfl (by decide) (by decide) ?_ (isb3 h1 h2 h3)
 simp only [List.map_toArray, List.map_cons, List.map_nil, e1, e2, e3]
 kernel_rfl
end
theorem mac_b {w : World} {v u : Value} {key : List UInt8} {L : List (List UInt8)} (hv : IsB w key v) (hu : IsP w L u) :
  Calls Tryz.prog 76 #[v, u] w fun e w' => e = .returned (.agg (zi (outF (macW key L)))) ∧ Below w.heap.size w w' := by
 obtain ⟨A, c, rfl, h1, h2, h3, h4⟩ := hv
 obtain ⟨B, d, rfl, k1, k2, k3⟩ := hu
 exact mac_any A key _ c rfl h1 h2 h3 B L _ d rfl k1 k2 w h4 k3
theorem of_b {w : World} {u : Value} {L : List (List UInt8)} (hu : IsP w L u) :
  Calls Tryz.prog 69 #[u] w fun e w' => e = .returned (.agg (zi (outF (macW [] L)))) ∧ Below w.heap.size w w' := by
 obtain ⟨B, d, rfl, k1, k2, k3⟩ := hu
 exact of_any B L _ d rfl k1 k2 w k3
end Go.Proofs.YtcfepoopkfhojaaGreat
namespace Go.Proofs.YtcfepoopkfhojaaGreat
open Go.ChangeShapes Go.WideShapes Go.ChangeAt Go.RowKit
theorem zu {o : Oper} {a : Act} {w : World} (h : o.op = .alloc 27) : (execOp a.eval o).run Tryz.prog w = .ok (.value (.pointer (some ⟨w.heap.size, 0, none⟩))) (w.alloc (.cells (numA 0) 27)) := by
 rw [← zeroA]
 unfold execOp
 simp only [h]
 kernel_rfl
theorem y_part8 {c : Array Value} {k n : Nat} (h0 : c[k + 0]? = some (numF n 0)) (h1 : c[k + 1]? = some (numF n 1)) (h2 : c[k + 2]? = some (numF n 2)) (h3 : c[k + 3]? = some (numF n 3)) (h4 : c[k + 4]? = some (numF n 4)) (h5 : c[k + 5]? = some (numF n 5)) (h6 : c[k + 6]? = some (numF n 6)) (h7 : c[k + 7]? = some (numF n 7)) :
  ∀ (j : Nat) (v : Value), (numA n)[j]? = some v → c[k + j]? = some v := fun j v h => by
 have hj := (Array.getElem?_eq_some_iff.1 h).1
 rw [zsc] at hj
 have : j = 0 ∨ j = 1 ∨ j = 2 ∨ j = 3 ∨ j = 4 ∨ j = 5 ∨ j = 6 ∨ j = 7 := by omega
 rcases this with rfl | rfl | rfl | rfl | rfl | rfl | rfl | rfl <;> (rw [← h]; first | exact h0 | exact h1 | exact h2 | exact h3 | exact h4 | exact h5 | exact h6 | exact h7)
theorem zlc {o : Oper} {a : Act} {w : World} (h : o.op = .build 27 #[]) : (execOp a.eval o).run Tryz.prog w = .ok (.value (numV 0)) w := by
 have e : (execOp a.eval o).run Tryz.prog w = .ok (.value (.agg #[Value.int .u32 0, .int .u32 0, .int .u32 0, .int .u32 0, .int .u32 0, .int .u32 0, .int .u32 0, .int .u32 0])) w := by
  unfold execOp
  simp only [h, List.map_toArray, List.map_nil]
  kernel_rfl
 rw [e, zeroA]
def notLate (L : List Oper) (m : Nat) (late : List Nat) (t : Tmp) : Bool := match zpb (L.take m) t with | some k => !late.contains k | none => true
def lateOp (L : List Oper) (m : Nat) (late : List Nat) (j : Nat) : Bool := match L[j]? with
 | some o => decide (j < m) && o.guard.isNone && o.dst.isSome && (match o.op with | .extract (.tmp t) _ => (zpb (L.take m) t).isSome && notLate L m late t | _ => false)
 | none => false
def storeOp (L : List Oper) (m : Nat) (late : List Nat) : Bool := match L[m]? with
 | some o => o.dst.isNone && (match o.op with | .store _ (.tmp x) (.tmp y) => notLate L m late x && notLate L m late y | _ => false)
 | none => false
def relOkL (L : List Oper) (m n : Nat) (late : List Nat) : Bool :=
 Region.noSelect L.toArray && backB L.toArray &&
 ((List.range m).all fun i => match (L.take m)[i]? with
  | none => true
  | some o => (match o.dst with
    | none => true
    | some d => decide (d < n) && zpb (L.take m) d == some i) &&
   (o.looksAt L.toArray).all fun t => match zpb (L.take m) t with
    | none => true
    | some j => o.after.any fun e => Region.binds .any e && e.on == j) &&
 ((L.drop m).all fun t => t.guard.isNone) && ((List.range L.length).all fun i => decide (i < m) || (List.range i).all fun j => Region.waitsFor .any L.toArray i j || (i == m && late.contains j)) &&
 (late.all fun j => lateOp L m late j) && storeOp L m late
theorem run_extL {P : Program} {a : Act} {w : World} {o : Oper} (x : Operand) (i : Nat) (ho : o.op = .extract x i) {vs : Array Value} (hx : a.eval x = .tuple vs) {v : Value} (hv : vs[i]? = some v) : (execOp a.eval o).run P w = .ok (.value v) w := by
 unfold execOp
 simp only [ho, hx]
 simp [Instr.extract, hv]
theorem wp_region_relL {P : Program} {id : Nat} {Q : Exit → Act → World → Prop} {a0 : Act} {W : World} {L : List Oper} (m n : Nat) (late : List Nat) (c : Nat → Value) (hn : a0.tmps.size = n) (hm : P.follows .mixedOrders = true) (hok : relOkL L m n late = true) (Y : Nat → World → Value → Prop)
  (hY : ∀ i w w' v, Kc W.heap.size w w' → Y i w v → Y i w' v) (hop : HopAllT P L m Q Y a0 W (L.take m) 0)
  (hlY : ∀ j ∈ late, ∀ w v, Y j w v ↔ v = c j)
  (hlS : ∀ j ∈ late, ∀ o t i k, L[j]? = some o → o.op = .extract (.tmp t) i → zpb (L.take m) t = some k → ∀ w v, Y k w v → ∃ vs, v = .tuple vs ∧ vs[i]? = some (c j))
  (hend : ∀ (p : Nat → Value) (w : World), Below W.heap.size W w → YAll Y p w (L.take m) 0 → ∀ om, L[m]? = some om → ∃ w', (execOp (zqb p (L.take m) 0 a0).eval om).run P w = .ok .skip w' ∧ wpList P L.toArray Q (L.drop (m + 1)) (zqb p (L.take m) 0 a0) w') : (Code.region id L.toArray true).wp P Q a0 W := by
 unfold relOkL at hok
 simp only [Bool.and_eq_true, List.all_eq_true, Option.isNone_iff_eq_none, Bool.or_eq_true, decide_eq_true_eq, beq_iff_eq, List.contains_iff_mem] at hok
 obtain ⟨⟨⟨⟨⟨⟨hsel, hE⟩, hall⟩, hT1⟩, hT2⟩, hL⟩, hSt⟩ := hok
 have htake : ∀ (i : Nat) (o : Oper), (L.take m)[i]? = some o → i < m ∧ L[i]? = some o := fun i o h => by
  rw [List.getElem?_take] at h
  split at h
  ·exact ⟨by assumption, h⟩
  ·cases h
 have hintake : ∀ (i : Nat) (o : Oper), i < m → L[i]? = some o → (L.take m)[i]? = some o := fun i o h1 h2 => by
  rw [List.getElem?_take, if_pos h1]; exact h2
 have hdst : ∀ (i : Nat) (o : Oper) (d : Tmp), (L.take m)[i]? = some o → o.dst = some d → d < n ∧ zpb (L.take m) d = some i := fun i o d ho hd => by
  have h1 := hall i (List.mem_range.2 (htake i o ho).1)
  simp only [ho, hd, Bool.and_eq_true, decide_eq_true_eq, beq_iff_eq] at h1
  exact h1.1
 have hread : ∀ (i : Nat) (o : Oper) (t : Tmp) (j : Nat), (L.take m)[i]? = some o → t ∈ o.looksAt L.toArray → zpb (L.take m) t = some j → ∃ e ∈ o.after, Region.binds .any e = true ∧ e.on = j := fun i o t j ho ht hj => by
  have h1 := hall i (List.mem_range.2 (htake i o ho).1)
  simp only [ho, Bool.and_eq_true, List.all_eq_true] at h1
  have h2 := h1.2 t ht
  simp only [hj, Array.any_eq_true, Bool.and_eq_true, beq_iff_eq] at h2
  obtain ⟨x, hx, hb, he⟩ := h2
  exact ⟨_, Array.getElem_mem hx, hb, he⟩
 have hdis : ∀ (i j : Nat) (oi oj : Oper) (d : Tmp), (L.take m)[i]? = some oi → (L.take m)[j]? = some oj → j ≠ i → oi.dst = some d → oj.dst ≠ some d := fun i j oi oj d hi hj hne hd e => by
  have h1 := (hdst i oi d hi hd).2
  have h2 := (hdst j oj d hj e).2
  rw [h1] at h2
  exact hne (Option.some.inj h2).symm
 -- the store
 obtain ⟨om, hom, hod, ty, sx, sy, hos, hx0, hy0⟩ : ∃ om, L[m]? = some om ∧ om.dst = none ∧ ∃ ty x y, om.op = .store ty (.tmp x) (.tmp y) ∧ notLate L m late x = true ∧ notLate L m late y = true := by
  unfold storeOp at hSt
  cases h : L[m]? with
  | none => rw [h] at hSt; cases hSt
  | some o =>
   rw [h] at hSt
   simp only [Bool.and_eq_true, Option.isNone_iff_eq_none] at hSt
   obtain ⟨h1, h2⟩ := hSt
   refine ⟨o, rfl, h1, ?_⟩
   split at h2
   ·rename_i ty x y e
    simp only [Bool.and_eq_true] at h2
    exact ⟨ty, x, y, e, h2.1, h2.2⟩
   ·cases h2
 have hml : m < L.length := (List.getElem?_eq_some_iff.1 hom).1
 -- late operations
 have hlate : ∀ j ∈ late, ∃ o d t i k, L[j]? = some o ∧ j < m ∧ o.guard = none ∧ o.dst = some d ∧ o.op = .extract (.tmp t) i ∧ zpb (L.take m) t = some k ∧ k ∉ late := by
  intro j hj
  have h := hL j hj
  unfold lateOp at h
  cases ho : L[j]? with
  | none => rw [ho] at h; cases h
  | some o =>
   rw [ho] at h
   simp only [Bool.and_eq_true, decide_eq_true_eq, Option.isNone_iff_eq_none] at h
   obtain ⟨⟨⟨h1, h2⟩, h3⟩, h4⟩ := h
   obtain ⟨d, hd⟩ := Option.isSome_iff_exists.1 h3
   split at h4
   ·rename_i t i e
    simp only [Bool.and_eq_true] at h4
    obtain ⟨k, hk⟩ := Option.isSome_iff_exists.1 h4.1
    have h5 := h4.2
    unfold notLate at h5
    rw [hk] at h5
    simp only [Bool.not_eq_true', ← Bool.not_eq_true, List.contains_iff_mem] at h5
    exact ⟨o, d, t, i, k, rfl, h1, h2, hd, e, hk, h5⟩
   ·cases h4
 have hnot : ∀ t, notLate L m late t = true → ∀ j, j ∈ late → ∀ oj, (L.take m)[j]? = some oj → oj.dst ≠ some t := by
  intro t ht j hj oj hoj e
  have h1 := (hdst j oj t hoj e).2
  unfold notLate at ht
  rw [h1] at ht
  simp only [Bool.not_eq_true', ← Bool.not_eq_true, List.contains_iff_mem] at ht
  exact ht hj
 -- what is ready at or behind the store
 have htail : ∀ (listed : Array Bool) (i : Nat), listed.size = L.toArray.size → i ∈ Region.ready .any L.toArray listed → m ≤ i → ∀ j, j < i → ¬ (i = m ∧ j ∈ late) → listed.getD j true = true := by
  intro listed i hs hi hmi j hj hnl
  obtain ⟨hiu, o, ho, hwait⟩ := mem_ready.1 hi
  have hil : i < L.length := by simpa using (Array.getElem?_eq_some_iff.1 ho).1
  have h3 := hT2 i (List.mem_range.2 hil)
  rcases h3 with h3 | h3
  ·omega
  have h4 := h3 j (List.mem_range.2 hj)
  rcases h4 with h4 | h4
  ·obtain ⟨o', ho', e, he, hb, hon⟩ := Region.waitsFor_spec h4
   have : o' = o := Option.some.inj (ho'.symm.trans ho)
   subst this
   have h5 := hwait e he hb
   rw [hon, ← getD_listed (by simp at hs; omega)] at h5
   exact h5
  ·exact absurd h4 hnl
 let A (listed : Array Bool) (a : Act) (w : World) : Prop := ((∀ j, m ≤ j → j < L.length → listed.getD j true = false) ∧ Below W.heap.size W w ∧ a.tmps.size = n ∧ a.defers = a0.defers ∧
  (∀ t : Tmp, (∀ (j : Nat) (oj : Oper), (L.take m)[j]? = some oj → listed.getD j true = true → oj.dst ≠ some t) → a.eval (.tmp t) = a0.eval (.tmp t)) ∧
  (∀ (j : Nat) (oj : Oper) (d : Tmp), (L.take m)[j]? = some oj → listed.getD j true = true → oj.dst = some d → Y j w (a.eval (.tmp d))))
 let B (listed : Array Bool) (a : Act) (w : World) : Prop := (∀ j, j < L.length → j ∉ late → (listed.getD j true = true ↔ j < m + 1)) ∧ ∃ full : Act, full.tmps.size = n ∧ a.tmps.size = n ∧ a.defers = full.defers ∧
  (∀ t : Tmp, (∀ (j : Nat) (oj : Oper), j ∈ late → (L.take m)[j]? = some oj → listed.getD j true = false → oj.dst ≠ some t) → a.eval (.tmp t) = full.eval (.tmp t)) ∧
  (∀ j ∈ late, ∀ o d, L[j]? = some o → o.dst = some d → full.eval (.tmp d) = c j) ∧
  (∀ j ∈ late, ∀ o t i, L[j]? = some o → o.op = .extract (.tmp t) i → ∃ vs, full.eval (.tmp t) = .tuple vs ∧ vs[i]? = some (c j)) ∧ wpList P L.toArray Q (L.drop (m + 1)) full w
 let C (listed : Array Bool) (a : Act) (w : World) : Prop := ∃ k, m + 1 ≤ k ∧ (∀ j, j < L.length → (listed.getD j true = true ↔ j < k)) ∧ wpList P L.toArray Q (L.drop k) a w
 have hBC : ∀ listed a w, B listed a w → (∀ j ∈ late, listed.getD j true = true) → C listed a w := by
  rintro listed a w ⟨h1, full, h2, h3, h4, h5, -, -, h8⟩ hl
  refine ⟨m + 1, Nat.le_refl _, fun j hj => ?_, ?_⟩
  ·by_cases hjl : j ∈ late
   ·obtain ⟨_, _, _, _, _, _, hjm, _⟩ := hlate j hjl
    exact ⟨fun _ => by omega, fun _ => hl j hjl⟩
   ·exact h1 j hj hjl
  ·have : a = full := act_ext (h3.trans h2.symm) h4 fun t _ => h5 t fun j oj hj _ hf _ => by rw [hl j hj] at hf; cases hf
   rw [this]; exact h8
 refine wp_region_inv hm (fun listed a w => A listed a w ∨ B listed a w ∨ C listed a w) ?_ ?_ ?_
 ·refine .inl ⟨fun j _ hj => by simp [hj], zta W, hn, rfl, fun _ _ => rfl, fun j oj d hj hl _ => ?_⟩
  have hjl := (List.getElem?_eq_some_iff.1 (htake j oj hj).2).1
  simp [hjl] at hl
 ·rintro listed a w i hs hinv hi
  obtain ⟨hiu, o, ho, hwait⟩ := mem_ready.1 hi
  have ho' : L[i]? = some o := by simpa using ho
  have hil := (List.getElem?_eq_some_iff.1 ho').1
  have hsl : listed.size = L.length := by simpa using hs
  have hset1 : (listed.setIfInBounds i true).getD i true = true := by rw [Array.getD_eq_getD_getElem?, Array.getElem?_setIfInBounds_self]; simp [hsl, hil]
  by_cases him : i < m
  ·rcases hinv with ⟨htl, hB, hz, hd, hbase, hYs⟩ | ⟨hlB, full, f1, f2, f3, f4, f5, f6, f7⟩ | ⟨k, hmk, hlk, _⟩
   ·have ht' := hintake i o him ho'
    have hh := hop_atT (L.take m) 0 hop i o ht'
    rw [Nat.zero_add] at hh
    have hslots : ∀ t ∈ o.looksAt L.toArray, SlotOk (L.take m) Y a0 a w t := fun t ht => by
     unfold SlotOk
     cases hj : zpb (L.take m) t with
     | none => exact hbase t fun j oj hoj _ => z0b hj j oj hoj
     | some j =>
      obtain ⟨oj, hoj, hdj⟩ := zjc hj
      obtain ⟨e, he, hb, hon⟩ := hread i o t j ht' ht hj
      have h1 := hwait e he hb
      rw [hon] at h1
      refine hYs j oj t hoj ?_ hdj
      have hjl : j < listed.size := by rw [hsl]; exact (List.getElem?_eq_some_iff.1 (htake j oj hoj).2).1
      simpa [hjl] using h1
    have hh := hh a w hB hslots
    have hset : ∀ (v : Value) (w' : World), Kc W.heap.size w w' → Y i w' v → ((∀ j, m ≤ j → j < L.length → (listed.setIfInBounds i true).getD j true = false) ∧ Below W.heap.size W w' ∧ (a.put o.dst v).tmps.size = n ∧ (a.put o.dst v).defers = a0.defers ∧
      (∀ t : Tmp, (∀ (j : Nat) (oj : Oper), (L.take m)[j]? = some oj → (listed.setIfInBounds i true).getD j true = true → oj.dst ≠ some t) → (a.put o.dst v).eval (.tmp t) = a0.eval (.tmp t)) ∧
      (∀ (j : Nat) (oj : Oper) (d : Tmp), (L.take m)[j]? = some oj → (listed.setIfInBounds i true).getD j true = true → oj.dst = some d → Y j w' ((a.put o.dst v).eval (.tmp d)))) := fun v w' hb hy => by
     refine ⟨fun j h1 h2 => by rw [getD_set_ne true (show i ≠ j by omega)]; exact htl j h1 h2, hB.trans hb.below, by rw [put_size]; exact hz, by rw [zpc]; exact hd, fun t ht => ?_, fun j oj d hoj hl hdj => ?_⟩
     ·rw [zib (ht i o ht' (hset1))]
      refine hbase t fun j oj hoj hl => ht j oj hoj ?_
      by_cases e : i = j
      ·subst e; rw [hl] at hiu; cases hiu
      ·rw [getD_set_ne true e]; exact hl
     ·by_cases e : i = j
      ·subst e
       obtain rfl : o = oj := Option.some.inj (ht'.symm.trans hoj)
       rw [hdj, z4b (by rw [hz]; exact (hdst i o d ht' hdj).1)]
       exact hy
      ·rw [zib (hdis j i oj o d hoj ht' e hdj)]
       rw [getD_set_ne true e] at hl
       exact hY j w w' _ hb (hYs j oj d hoj hl hdj)
    unfold wpOp
    simp only [ho]
    by_cases hw : Region.wanted o (yielded L.toArray a.tmps) = true
    ·rw [if_pos hw] at hh ⊢
     exact .inl (Oper.wp_mono (fun a' w' ⟨v, e, hb, hy⟩ => by rw [e]; exact .inl (hset v w' hb hy)) hh)
    ·rw [if_neg hw] at hh ⊢
     exact .inl (hset undef w (Kc.refl _ _) hh)
   ·-- a late extract, behind the store
    have hjl : i ∈ late := by
     apply Classical.byContradiction
     intro h
     have := (hlB i hil h).2 (by omega)
     rw [this] at hiu; cases hiu
    obtain ⟨o2, d, t, ix, k, ho2, _, hg, hdd, hop2, hk, hkl⟩ := hlate i hjl
    obtain rfl : o2 = o := Option.some.inj (ho2.symm.trans ho')
    obtain ⟨vs, hvs, hvc⟩ := f6 i hjl o2 t ix ho' hop2
    have hev : a.eval (.tmp t) = .tuple vs := by
     rw [f4 t (fun j oj hj hoj _ e => ?_)]
     ·exact hvs
     ·have := (hdst j oj t hoj e).2
      rw [hk] at this
      exact hkl (Option.some.inj this ▸ hj)
    have hrun := run_extL (P := P) (a := a) (w := w) (.tmp t) ix hop2 hev hvc
    have ht' := hintake i o2 him ho'
    unfold wpOp
    simp only [ho]
    rw [if_pos (by simp [Region.wanted, hg])]
    refine .inl ?_
    unfold Oper.wp
    rw [hrun]
    refine .inr (.inl ⟨fun j hj hjn => ?_, full, f1, by rw [put_size]; exact f2, by rw [zpc]; exact f3, fun t2 ht2 => ?_, f5, f6, f7⟩)
    ·by_cases e : i = j
     ·subst e; exact absurd hjl hjn
     ·rw [getD_set_ne true e]; exact hlB j hj hjn
    ·by_cases e : t2 = d
     ·subst e
      rw [hdd, z4b (by rw [f2]; exact (hdst i o2 t2 ht' hdd).1)]
      exact (f5 i hjl o2 t2 ho' hdd).symm
     ·rw [zib (by rw [hdd]; exact fun h => e (Option.some.inj h).symm)]
      refine f4 t2 fun j oj hj hoj hf => ?_
      by_cases e2 : i = j
      ·subst e2
       obtain rfl : o2 = oj := Option.some.inj (ht'.symm.trans hoj)
       rw [hdd]; exact fun h => e (Option.some.inj h).symm
      ·exact ht2 j oj hj hoj (by rw [getD_set_ne true e2]; exact hf)
   ·have := (hlk i hil).2 (by omega)
    rw [this] at hiu; cases hiu
  ·have hmi : m ≤ i := Nat.le_of_not_lt him
   have hahead := htail listed i hs hi hmi
   by_cases hime : i = m
   ·subst hime
    obtain rfl : om = o := Option.some.inj (hom.symm.trans ho')
    rcases hinv with ⟨htl, hB, hz, hd, hbase, hYs⟩ | ⟨hlB, _⟩ | ⟨k, hmk, hlk, _⟩
    ·have hahead' : ∀ j, j < i → j ∉ late → listed.getD j true = true := fun j h1 h2 => hahead j h1 (fun h => h2 h.2)
     let p : Nat → Value := fun j => if j ∈ late then c j else a.eval (match ((L.take i)[j]?).bind (·.dst) with | some d => .tmp d | none => .const undef)
     have hya : YAll Y p w (L.take i) 0 := yall_of (L.take i) 0 fun j oj hoj hdn => by
      rw [Nat.zero_add]
      by_cases hjl : j ∈ late
      ·simp only [p, if_pos hjl]; exact (hlY j hjl w _).2 rfl
      ·cases hdo : oj.dst with
       | none => exact absurd hdo hdn
       | some d =>
        simp only [p, if_neg hjl, hoj, hdo, Option.bind_some]
        exact hYs j oj d hoj (hahead' j (htake j oj hoj).1 hjl) hdo
     obtain ⟨w', hrun, hwp⟩ := hend p w hB hya om ho'
     obtain ⟨z1, z2⟩ := lay_size p (L.take i) 0 a0
     have hfe : ∀ (j : Nat) (oj : Oper) (d : Tmp), (L.take i)[j]? = some oj → oj.dst = some d → (zqb p (L.take i) 0 a0).eval (.tmp d) = p j := fun j oj d hoj hdo => by
      have := lay_at p (L.take i) 0 j a0 oj hoj hdo (by rw [hn]; exact (hdst j oj d hoj hdo).1) fun q oq hq hne => hdis j q oj oq d hoj hq hne hdo
      rwa [Nat.zero_add] at this
     have hagree : ∀ t : Tmp, (∀ (j : Nat) (oj : Oper), j ∈ late → (L.take i)[j]? = some oj → listed.getD j true = false → oj.dst ≠ some t) → a.eval (.tmp t) = (zqb p (L.take i) 0 a0).eval (.tmp t) := by
      intro t ht
      cases hj : zpb (L.take i) t with
      | none => rw [lay_base _ (L.take i) 0 a0 (z0b hj)]; exact hbase t fun j oj hoj _ => z0b hj j oj hoj
      | some j =>
       obtain ⟨oj, hoj, hdj⟩ := zjc hj
       rw [hfe j oj t hoj hdj]
       by_cases hjl : j ∈ late
       ·simp only [p, if_pos hjl]
        cases hlj : listed.getD j true with
        | false => exact absurd hdj (ht j oj hjl hoj hlj)
        | true => exact (hlY j hjl w _).1 (hYs j oj t hoj hlj hdj)
       ·simp only [p, if_neg hjl, hoj, hdj, Option.bind_some]
     have hex : (execOp a.eval om).run P w = .ok .skip w' := by
      rw [← hrun]
      unfold execOp
      simp only [hos]
      rw [hagree sx fun j oj hj hoj _ => hnot sx hx0 j hj oj hoj, hagree sy fun j oj hj hoj _ => hnot sy hy0 j hj oj hoj]
     unfold wpOp
     simp only [ho]
     have hg := hT1 om (by rw [List.drop_eq_getElem_cons hml]; rw [List.getElem?_eq_getElem hml] at ho'; rw [Option.some.inj ho']; exact List.mem_cons_self)
     rw [if_pos (by simp [Region.wanted, hg])]
     refine .inl ?_
     unfold Oper.wp
     rw [hex]
     refine .inr (.inl ⟨fun j hj hjn => ?_, _, z1.trans hn, by rw [put_size]; exact hz, by rw [zpc, hd, z2], fun t ht => ?_, fun j hj oj d hoj hdo => ?_, fun j hj oj t ix hoj hop2 => ?_, hwp⟩)
     ·by_cases hji : i = j
      ·subst hji; exact ⟨fun _ => by omega, fun _ => hset1⟩
      ·rw [getD_set_ne true hji]
       refine ⟨fun h => ?_, fun h => hahead' j (by omega) hjn⟩
       apply Classical.byContradiction
       intro h2
       rw [htl j (by omega) hj] at h; cases h
     ·rw [zib (by rw [hod]; exact fun h => by cases h)]
      refine hagree t fun j oj hj hoj hf => ht j oj hj hoj ?_
      rw [getD_set_ne true (by have := (htake j oj hoj).1; omega)]; exact hf
     ·obtain ⟨_, _, _, _, _, _, hjm, _⟩ := hlate j hj
      rw [hfe j oj d (hintake j oj hjm hoj) hdo]
      simp only [p, if_pos hj]
     ·obtain ⟨o3, _, t3, ix3, k, ho3, _, _, _, hop3, hk, hkl⟩ := hlate j hj
      obtain rfl : o3 = oj := Option.some.inj (ho3.symm.trans hoj)
      have e3 := hop3.symm.trans hop2
      injection e3 with e4 e5
      injection e4 with e6
      subst e6; subst e5
      obtain ⟨ok, hok2, hdk⟩ := zjc hk
      obtain ⟨vs, e1, e2⟩ := hlS j hj o3 t3 ix3 k hoj hop2 hk w _ (hYs k ok t3 hok2 (hahead' k (htake k ok hok2).1 hkl) hdk)
      refine ⟨vs, ?_, e2⟩
      rw [← hagree t3 fun q oq hq hoq _ => hnot t3 (by unfold notLate; rw [hk]; simp only [Bool.not_eq_true', ← Bool.not_eq_true, List.contains_iff_mem]; exact hkl) q hq oq hoq]
      exact e1
    ·have hmn : i ∉ late := fun h => by obtain ⟨_, _, _, _, _, _, hjm, _⟩ := hlate i h; omega
     have := (hlB i hil hmn).2 (by omega)
     rw [this] at hiu; cases hiu
    ·have := (hlk i hil).2 (by omega)
     rw [this] at hiu; cases hiu
   ·have hk : (∀ j, j < L.length → (listed.getD j true = true ↔ j < i)) ∧ wpList P L.toArray Q (L.drop i) a w := by
     have hall2 : ∀ j, j < i → listed.getD j true = true := fun j h1 => hahead j h1 (fun h => hime h.1)
     have hC : C listed a w := by
      rcases hinv with ⟨htl, _⟩ | hB | hC
      ·have h1 := hall2 m (by omega)
       rw [htl m (Nat.le_refl _) hml] at h1; cases h1
      ·refine hBC _ _ _ hB fun j hj => ?_
       obtain ⟨_, _, _, _, _, _, hjm, _⟩ := hlate j hj
       exact hall2 j (by omega)
      ·exact hC
     obtain ⟨k, hmk, hlk, hwp⟩ := hC
     obtain rfl : k = i := by
      refine Nat.le_antisymm (Nat.le_of_not_lt fun hlt => ?_) (Nat.le_of_not_lt fun hlt => ?_)
      ·have := (hlk i hil).2 hlt
       rw [this] at hiu; cases hiu
      ·have := (hlk k (by omega)).1 (hall2 k hlt)
       omega
     exact ⟨hlk, hwp⟩
    obtain ⟨hlk, hwp⟩ := hk
    have hdr : L.drop i = L[i] :: L.drop (i + 1) := List.drop_eq_getElem_cons hil
    have hoe : L[i] = o := by rw [List.getElem?_eq_getElem hil] at ho'; exact Option.some.inj ho'
    rw [hoe] at hdr
    have hg := hT1 o (by
     have h6 : L.drop i = (L.drop m).drop (i - m) := by rw [List.drop_drop]; congr 1; omega
     have h7 : o ∈ L.drop i := by rw [hdr]; exact List.mem_cons_self
     rw [h6] at h7
     exact List.mem_of_mem_drop h7)
    have hset : ∀ j, j < L.length → ((listed.setIfInBounds i true).getD j true = true ↔ j < i + 1) := by
     intro j hj
     by_cases hji : j = i
     ·subst hji; simp [hsl, hj]
     ·rw [getD_set_ne true (fun e => hji e.symm), hlk j hj]; omega
    rw [hdr] at hwp
    unfold wpList at hwp
    unfold wpOp
    simp only [ho]
    have hw' : ∀ g, Region.wanted o g = true := fun g => by simp [Region.wanted, hg]
    simp only [hw', if_true] at hwp ⊢
    exact hwp.imp (Oper.wp_mono fun a' w' h' => .inr (.inr ⟨i + 1, by omega, hset, h'⟩)) (fun h => h)
 ·rintro listed a w hs hinv hr
  have hsl : listed.size = L.length := by simpa using hs
  have hlisted : ∀ j, j < L.length → listed.getD j true = true := fun j hj => by
   cases h : listed.getD j true with
   | true => rfl
   | false => exact absurd hr (zcb hE hs j (by simpa using hj) h)
  have hC : C listed a w := by
   rcases hinv with ⟨htl, _⟩ | hB | hC
   ·have h1 := hlisted m hml
    rw [htl m (Nat.le_refl _) hml] at h1; cases h1
   ·refine hBC _ _ _ hB fun j hj => ?_
    obtain ⟨_, _, _, _, _, _, hjm, _⟩ := hlate j hj
    exact hlisted j (by omega)
   ·exact hC
  obtain ⟨k, h1, hlk, h2⟩ := hC
  have hk : L.length ≤ k := Nat.le_of_not_lt fun hlt => absurd ((hlk k hlt).1 (hlisted k hlt)) (Nat.lt_irrefl _)
  rw [List.drop_eq_nil_of_le hk] at h2
  exact h2
theorem wp_region_stL {P : Program} {id : Nat} {Q : Exit → Act → World → Prop} {a0 : Act} {W : World} {L : List Oper} (S : List StK) (m n e t i k : Nat) (vs : Array Value) (v : Value) (hn : a0.tmps.size = n) (hm : P.follows .mixedOrders = true) (hok : relOkL L m n [e] = true)
  (h1 : (L[e]?).map (·.op) = some (.extract (.tmp t) i)) (h2 : zpb (L.take m) t = some k) (h3 : ∀ w u, stYK S k w u → u = .tuple vs) (h4 : vs[i]? = some v) (h5 : ∀ w u, stYK S e w u ↔ u = v)
  {om : Oper} (h0 : L[m]? = some om) (hop : HopAllT P L m Q (stYK S) a0 W (L.take m) 0)
  (hend : ∀ (p : Nat → Value) (w : World), Below W.heap.size W w → YAll (stYK S) p w (L.take m) 0 → ∃ w', (execOp (zqb p (L.take m) 0 a0).eval om).run P w = .ok .skip w' ∧ wpList P L.toArray Q (L.drop (m + 1)) (zqb p (L.take m) 0 a0) w') : (Code.region id L.toArray true).wp P Q a0 W := by
 refine wp_region_relL m n [e] (fun _ => v) hn hm hok (stYK S) (fun i w w' v hb h => ((S[i]?).getD StK.any).h _ w w' v hb h) hop ?_ ?_ ?_
 ·intro j hj; obtain rfl := List.mem_singleton.1 hj; exact h5
 ·intro j hj o t2 i2 k2 ho hop2 hk w u hu
  obtain rfl := List.mem_singleton.1 hj
  rw [ho] at h1
  have e1 := (Option.some.inj h1)
  simp only at e1
  have e3 := e1.symm.trans hop2
  injection e3 with e4 e5
  injection e4 with e6
  subst e6; subst e5
  rw [h2] at hk
  obtain rfl := Option.some.inj hk
  exact ⟨vs, h3 w u hu, h4⟩
 ·intro p w hb hp om2 hom2
  obtain rfl := Option.some.inj (h0.symm.trans hom2)
  exact hend p w hb hp
end Go.Proofs.YtcfepoopkfhojaaGreat
namespace Go.Proofs.YtcfepoopkfhojaaGreat
open Go.ChangeShapes Go.WideShapes Go.ChangeAt Go.RowKit Go.Shelf
variable {ds : List Deferred}
section
variable {P : Program}
theorem relOkL_dst {L : List Oper} {m n : Nat} {late : List Nat} (hok : relOkL L m n late = true) : ∀ (i : Nat) (o : Oper) (d : Nat), (L.take m)[i]? = some o → o.dst = some d → d < n := by
 unfold relOkL at hok
 simp only [Bool.and_eq_true, List.all_eq_true] at hok
 obtain ⟨⟨⟨⟨⟨⟨-, -⟩, hall⟩, -⟩, -⟩, -⟩, -⟩ := hok
 intro i o d ho hd
 have hi : i < m := by
  rw [List.getElem?_take] at ho
  split at ho
  ·assumption
  ·cases ho
 have h1 := hall i (List.mem_range.2 hi)
 simp only [ho, hd, Bool.and_eq_true, decide_eq_true_eq] at h1
 exact h1.1.1
theorem region_fxL {id : Nat} {Q : Exit → Act → World → Prop} {a0 : Act} {W : World} {L : List Oper} {n : Nat} {V : List (Nat × Value)} (F : Fx n a0 V ds) (S : List StK) (m e t i k : Nat) (vs : Array Value) (v : Value) (hm : P.follows .mixedOrders = true) (hok : relOkL L m n [e] = true)
  (h1 : (L[e]?).map (·.op) = some (.extract (.tmp t) i)) (h2 : zpb (L.take m) t = some k) (h3 : ∀ w u, stYK S k w u → u = .tuple vs) (h4 : vs[i]? = some v) (h5 : ∀ w u, stYK S e w u ↔ u = v)
  {om : Oper} (h0 : L[m]? = some om) (hop : HopAllT P L m Q (stYK S) a0 W (L.take m) 0)
  (hend : ∀ (p : Nat → Value) (a : Act) (w : World), Kc W.heap.size W w → Fx n a (layV p (L.take m) 0 V) ds → YAll (stYK S) p w (L.take m) 0 → ∃ w', (execOp a.eval om).run P w = .ok .skip w' ∧ wpList P L.toArray Q (L.drop (m + 1)) a w') : (Code.region id L.toArray true).wp P Q a0 W :=
 wp_region_stL S m n e t i k vs v F.size hm hok h1 h2 h3 h4 h5 h0 hop fun p w hb hY => hend p _ w (Kc.of_below (Nat.le_refl _) hb) (F.lay p (L.take m) 0 a0 V (relOkL_dst hok)) hY
theorem st_ex {ops : Array Oper} {Q : Exit → Act → World → Prop} {a : Act} {w w0 : World} {rest : List Oper} {o : Oper} {G : Option Nat} {R : List (Nat × Res)} (M : Mx G w0 w R) {k g off : Nat} {t : TypeId} {c : Array Value} (hk : look R k = some (blkR g t c)) (ty : TypeId) (x y : Operand) (ho : o.op = .store ty x y) (hx : a.eval x = .pointer (some ⟨g, off, none⟩)) {v : Value} (hy : a.eval y = v)
  (s c' : Array Value) (hv : v.cells = s) (hos : off + s.size ≤ c.size) (h1 : s.all (·.oneCell') = true) (hc' : (c.toList.take off ++ s.toList ++ c.toList.drop (off + s.size)).toArray = c') (hi : (P.info? ty).map (·.size) = some s.size)
  (h : ∀ w', Mx G w0 w' ((k, blkR g t c') :: R) → wpList P ops Q rest a w') : ∃ w', (execOp a.eval o).run P w = .ok .skip w' ∧ wpList P ops Q rest a w' :=
 ⟨_, y_st ty x y ho hx hy (M.blk hk) s c' hv hos h1 hc' hi, h _ (M.put hk (zfb _ _ _) (setRow_heap w g c c' t (0, 0) (M.blk hk)))⟩
theorem relOkU_dst {L : List Oper} {m n : Nat} (hok : relOkU L m n = true) : ∀ (i : Nat) (o : Oper) (d : Nat), (L.take m)[i]? = some o → o.dst = some d → d < n := by
 unfold relOkU at hok
 simp only [Bool.and_eq_true, List.all_eq_true] at hok
 intro i o d ho hd
 have hi : i < m := by
  rw [List.getElem?_take] at ho
  split at ho
  ·assumption
  ·cases ho
 have hall := hok.2
 have h1 := hall i (List.mem_range.2 hi)
 simp only [ho, hd, Bool.and_eq_true, decide_eq_true_eq] at h1
 exact h1.1.1
theorem region_fxU {id : Nat} {Q : Exit → Act → World → Prop} {a0 : Act} {W : World} {L : List Oper} {n : Nat} {V : List (Nat × Value)} (F : Fx n a0 V ds) (S : List StK) (m : Nat) (hok : relOkU L m n = true) (hml : (decide (m ≤ L.length)) = true)
  (hop : HopAllT P L m Q (stYK S) a0 W (L.take m) 0)
  (hend : ∀ (p : Nat → Value) (a : Act) (w : World), Kc W.heap.size W w → Fx n a (layV p (L.take m) 0 V) ds → YAll (stYK S) p w (L.take m) 0 → wpList P L.toArray Q (L.drop m) a w) : (Code.region id L.toArray false).wp P Q a0 W :=
 wp_region_stU S m n F.size hok hml hop fun p w hb hY => hend p _ w (Kc.of_below (Nat.le_refl _) hb) (F.lay p (L.take m) 0 a0 V (relOkU_dst hok)) hY
end
end Go.Proofs.YtcfepoopkfhojaaGreat
/- sentinelref3: Bytes, Stretch, Stream; sponge.Stretch. -/
namespace Go.Proofs.YtcfepoopkfhojaaGreat
open Go.ChangeShapes Go.WideShapes Go.ChangeAt Go.RowKit Go.Shelf
theorem Byt.mono {w : World} {b b' : Nat} {v : Value} {l : List UInt8} (h : Byt w b v l) (hb : b' ≤ b) : Byt w b' v l := by
 refine ⟨h.1, ?_⟩
 rcases h.2 with hn | ⟨g, c, cur, e, hbg, rest⟩
 ·exact .inl hn
 ·exact .inr ⟨g, c, cur, e, Nat.le_trans hb hbg, rest⟩
def sumY (y : Nat → Int) : List UInt8 := (List.range 16).map fun j => UInt8.ofNat (y j).toNat
theorem zsb (y : Nat → Int) : (sumY y).length = 16 := by simp [sumY]
theorem sumY_val {z : Int} (h : 0 ≤ z ∧ z < 256) : (((UInt8.ofNat z.toNat).toNat : Nat) : Int) = z := by
 have e : (UInt8.ofNat z.toNat).toNat = z.toNat := by simp; omega
 rw [e, Int.toNat_of_nonneg h.1]
theorem sumY_take (y : Nat → Int) {k : Nat} (hk : k < 16) : (sumY y).take (k + 1) = (sumY y).take k ++ [UInt8.ofNat (y k).toNat] := by
 have h : k < (sumY y).length := by rw [zsb]; exact hk
 rw [List.take_succ_eq_append_getElem h]
 congr 2
 simp [sumY]
theorem sumY_bvs {y : Nat → Int} (hy : ∀ k, 0 ≤ y k ∧ y k < 256) : bvs (sumY y) = zi y := by
 unfold bvs sumY
 rw [List.map_map]
 have : (bv ∘ fun j => UInt8.ofNat (y j).toNat) = fun j => Value.int .u8 (y j) := by
  funext j
  simp only [Function.comp, bv, sumY_val (hy j)]
 rw [this]
 rfl
theorem arr16_at' (y : Nat → Int) {j : Nat} (hj : j < 16) : (zi y)[j]? = some (.int .u8 (y j)) := by
 have : j = 0 ∨ j = 1 ∨ j = 2 ∨ j = 3 ∨ j = 4 ∨ j = 5 ∨ j = 6 ∨ j = 7 ∨ j = 8 ∨ j = 9 ∨ j = 10 ∨ j = 11 ∨ j = 12 ∨ j = 13 ∨ j = 14 ∨ j = 15 := by omega
 rcases this with rfl | rfl | rfl | rfl | rfl | rfl | rfl | rfl | rfl | rfl | rfl | rfl | rfl | rfl | rfl | rfl <;> rfl
theorem arr16_put (y : Nat → Int) (v : Int) {k : Nat} (hk : k < 16) : (zi y).setIfInBounds k (.int .u8 v) = zi (fun j => if j = k then v else y j) := by
 have : k = 0 ∨ k = 1 ∨ k = 2 ∨ k = 3 ∨ k = 4 ∨ k = 5 ∨ k = 6 ∨ k = 7 ∨ k = 8 ∨ k = 9 ∨ k = 10 ∨ k = 11 ∨ k = 12 ∨ k = 13 ∨ k = 14 ∨ k = 15 := by omega
 rcases this with rfl | rfl | rfl | rfl | rfl | rfl | rfl | rfl | rfl | rfl | rfl | rfl | rfl | rfl | rfl | rfl <;> simp [zi]
theorem arr16_congr {y z : Nat → Int} (h : ∀ j, j < 16 → y j = z j) : zi y = zi z := by
 simp [zi, h 0, h 1, h 2, h 3, h 4, h 5, h 6, h 7, h 8, h 9, h 10, h 11, h 12, h 13, h 14, h 15]
theorem srbytes_any (y : Nat → Int) (hy : ∀ k, 0 ≤ y k ∧ y k < 256) (w : World) :
  Calls Tryz.prog 18 #[.agg (zi y)] w fun e w' => ∃ v, e = .returned v ∧ Byt w' w.heap.size v (sumY y) ∧ Below w.heap.size w w' := by
 have HT := hid (fun k (hk : k < 16) => sumY_take y hk)
 have HV := hid (fun k => sumY_val (hy k))
 have HL := hid (zsb y)
 have z0 := Blk.new w 35 (zi y)
 have b0 := zga w (.cells (zi y) 35)
 have s0 : (w.alloc (.cells (zi y) 35)).heap.size = w.heap.size + 1 := by simp
 go_enter Tryz.func18, Tryz.ntmps18
 go_wp2
 generalize World.alloc _ _ = W at *
 go_loopw [3, 4] (fun v i wr => ∃ k : Nat, k ≤ 16 ∧ i = .int .i64 k ∧ Byt wr (w.heap.size + 1) v ((sumY y).take k) ∧ Below (w.heap.size + 1) W wr) (fun _ i _ => 16 - (intOf i).toNat)
 case atStart => exact ⟨0, by omega, rfl, Byt.nil _ _, Below.refl _ _⟩
 case round =>
  obtain ⟨k, hk, rfl, hv, hB⟩ := hrel
  by_cases hlt : k < 16
  ·have et := HT.out k hlt
   have hvk := HV.out k
   have hle : ((sumY y).take k).length ≤ 16 := by rw [List.length_take, HL.out]; omega
   obtain ⟨x, hx⟩ : ∃ x, x = UInt8.ofNat (y k).toNat := ⟨_, rfl⟩
   rw [← hx] at et hvk
   have hrd : Rd (wr.alloc (.cells #[Value.int .u8 (y k)] 5)) (some ⟨wr.heap.size, 0, none⟩) [x] := by
    have := rd_one x wr
    rw [hvk] at this
    exact this
   have hz := hB.size
   have hck : wr.cell? ⟨w.heap.size, k, none⟩ = some (.int .u8 (y k)) := (Blk.cell (z0.below hB (by omega)) (arr16_at' y hlt))
   generalize y k = Y at *
   clear hx hvk HT HV z0
   go_wp2_with (refine zia rfl (.tmp 9) (.tmp 13) rfl (w.heap.size + 1) _ _ [x] rfl (hv.alloc _) _ 1 1 rfl rfl (fun h => by cases h) hrd (by simp <;> omega) (by simp; omega) ?_; intro v' w' h1 h2 h3)
   go_roundw
   case rel => exact ⟨k + 1, by omega, by go_num, by rw [et]; exact h1, hB.trans (zac h2 (by omega))⟩
   case measure => simp [intOf]; omega
  ·obtain rfl : k = 16 := by omega
   rw [List.take_of_length_le (by rw [HL.out]; omega)] at hv
   go_wp2
   go_ret
   exact ⟨_, rfl, hv.mono (by omega), b0.trans (hB.mono (by omega))⟩
def xorB (a b : Int) : Int := bits .xor .u8 a b
theorem xorB_bd (a b : Int) : 0 ≤ xorB a b ∧ xorB a b < 256 := by
 have := wrap_within .u8 (bits .xor .u8 a b)
 unfold xorB bits
 rw [IntKind.wrap_u8]
 omega
def strU (p s : List UInt8) : Nat → W8
 | 0 => macW p [s]
 | k + 1 => macW p [sumL (strU p s k)]
def strA (p s : List UInt8) : Nat → Nat → Int
 | 0, j => outF (strU p s 0) j
 | k + 1, j => xorB (strA p s k j) (outF (strU p s (k + 1)) j)
theorem strA_bd (p s : List UInt8) : ∀ k j, 0 ≤ strA p s k j ∧ strA p s k j < 256
 | 0, j => zzb _ _
 | k + 1, j => xorB_bd _ _
def midA (a b : Nat → Int) (k j : Nat) : Int := if j < k then xorB (a j) (b j) else a j
theorem midA_set (a b : Nat → Int) {k : Nat} (hk : k < 16) : (zi (midA a b k)).setIfInBounds k (.int .u8 (xorB (a k) (b k))) = zi (midA a b (k + 1)) := by
 rw [arr16_put _ _ hk]
 refine arr16_congr fun j _ => ?_
 unfold midA
 by_cases e : j = k
 ·subst e; rw [if_pos rfl, if_pos (by omega)]
 ·rw [if_neg e]
  by_cases h : j < k
  ·rw [if_pos h, if_pos (by omega)]
  ·rw [if_neg h, if_neg (by omega)]
theorem midA_zero (a b : Nat → Int) : zi a = zi (midA a b 0) := arr16_congr fun j _ => by unfold midA; rw [if_neg (by omega)]
theorem midA_full (a b : Nat → Int) : zi (midA a b 16) = zi (fun j => xorB (a j) (b j)) := arr16_congr fun j hj => by unfold midA; rw [if_pos hj]
attribute [irreducible] xorB
end Go.Proofs.YtcfepoopkfhojaaGreat
namespace Go.Proofs.YtcfepoopkfhojaaGreat
def NoDiv (n : Int) : Prop := ∀ d : Int, 2 ≤ d → d * d ≤ n → n % d ≠ 0
open Classical in
noncomputable def primeB (n : Int) : Bool := decide (2 ≤ n ∧ n < 2147483648 ∧ NoDiv n)
open Classical in
theorem primeB_yes {n : Int} (h0 : 2 ≤ n) (h1 : n < 2147483648) (h : NoDiv n) : primeB n = true := by unfold primeB; exact decide_eq_true ⟨h0, h1, h⟩
open Classical in
theorem primeB_no {n : Int} (h : ¬ (2 ≤ n ∧ n < 2147483648 ∧ NoDiv n)) : primeB n = false := by unfold primeB; exact decide_eq_false h
def okN (n D : Nat) : Nat → Bool
 | 0 => true
 | f + 1 => (n % (D - f) != 0) && okN n D f
theorem okN_spec {n D : Nat} : ∀ f, okN n D f = true → ∀ d, D - f < d → d ≤ D → n % d ≠ 0
 | 0, _, d, h1, h2 => by omega
 | f + 1, h, d, h1, h2 => by
  unfold okN at h
  simp only [Bool.and_eq_true, bne_iff_ne, ne_eq] at h
  by_cases e : d = D - f
  ·rw [e]; exact h.1
  ·exact okN_spec f h.2 d (by omega) h2
theorem okN_bad {n D : Nat} : ∀ f, okN n D f = false → ∃ d, D - f < d ∧ d ≤ D ∧ n % d = 0 ∨ ∃ g, g < f ∧ n % (D - g) = 0
 | 0, h => by cases h
 | f + 1, h => by
  unfold okN at h
  by_cases e : n % (D - f) = 0
  ·exact ⟨0, .inr ⟨f, by omega, e⟩⟩
  ·have h2 : okN n D f = false := by simpa [e] using h
   obtain ⟨d, h3 | ⟨g, h4, h5⟩⟩ := okN_bad f h2
   ·exact ⟨d, .inl ⟨by omega, h3.2.1, h3.2.2⟩⟩
   ·exact ⟨0, .inr ⟨g, by omega, h5⟩⟩
def primeF (n D : Nat) : Bool := okN n D (D - 1)
theorem primeF_yes {n D : Nat} (h2 : 2 ≤ n) (hn : n < 2147483648) (hD : n < (D + 1) * (D + 1)) (h : primeF n D = true) : primeB (n : Int) = true := by
 refine primeB_yes (by omega) (by omega) fun d h1 h3 => ?_
 obtain ⟨e, rfl⟩ := Int.eq_ofNat_of_zero_le (show 0 ≤ d by omega)
 have h3' : e * e ≤ n := by exact_mod_cast h3
 have he : e ≤ D := by
  refine Nat.le_of_lt_succ (Nat.lt_of_not_le fun hle => ?_)
  have : (D + 1) * (D + 1) ≤ e * e := Nat.mul_le_mul hle hle
  omega
 have := okN_spec _ h e (by omega) he
 intro h4
 exact this (by exact_mod_cast h4)
theorem primeF_no {n d : Nat} (h2 : 2 ≤ d) (hd : d * d ≤ n) (h : n % d = 0) : primeB (n : Int) = false := by
 refine primeB_no fun ⟨_, _, hp⟩ => hp (d : Int) (by omega) (by exact_mod_cast hd) (by exact_mod_cast h)
def compF (n D : Nat) : Bool := !(okN n D (D - 1))
theorem compF_no {n D : Nat} (hD : D * D ≤ n) (h : compF n D = true) : primeB (n : Int) = false := by
 unfold compF at h
 have h1 : okN n D (D - 1) = false := by simpa using h
 obtain ⟨d, h3 | ⟨g, h4, h5⟩⟩ := okN_bad _ h1
 ·have : d * d ≤ D * D := Nat.mul_le_mul h3.2.1 h3.2.1
  exact primeF_no (by omega) (by omega) h3.2.2
 ·have : (D - g) * (D - g) ≤ D * D := Nat.mul_le_mul (by omega) (by omega)
  exact primeF_no (d := D - g) (by omega) (by omega) h5
end Go.Proofs.YtcfepoopkfhojaaGreat
namespace Go.Proofs.YtcfepoopkfhojaaGreat
open Go.ChangeShapes Go.WideShapes Go.ChangeAt Go.RowKit
theorem sq_le {D : Int} (h : 2 ≤ D) : D ≤ D * D := by
 have := Int.mul_le_mul_of_nonneg_left (show (1 : Int) ≤ D by omega) (show (0 : Int) ≤ D by omega)
 omega
theorem sq_bd {D n : Int} (h : 2 ≤ D) (hs : (D - 1) * (D - 1) ≤ n) (hn : n < 2147483648) : 0 ≤ D * D ∧ D * D < 1099511627776 ∧ D ≤ 46342 := by
 have h3 : D ≤ 46342 := by
  refine Int.le_of_not_gt fun hgt => ?_
  have := Int.mul_le_mul (show (46342 : Int) ≤ D - 1 by omega) (show (46342 : Int) ≤ D - 1 by omega) (by omega) (show (0 : Int) ≤ D - 1 by omega)
  omega
 have h4 := Int.mul_le_mul h3 h3 (show (0 : Int) ≤ D by omega) (by omega)
 have h5 := Int.mul_nonneg (show (0 : Int) ≤ D by omega) (show (0 : Int) ≤ D by omega)
 exact ⟨h5, by omega, h3⟩
theorem rprime_any (n : Int) (h0 : -9223372036854775808 ≤ n) (h1 : n < 9223372036854775808) (w : World) :
  Calls Tryz.prog 66 #[.int .i64 n] w fun e w' => e = .returned (.bool (primeB n)) ∧ w = w' := by
 obtain ⟨V, hV⟩ : ∃ V, Hid (primeB n = V) := ⟨_, hid rfl⟩
 rw [hV.out]
 by_cases ha : n < 2
 ·obtain rfl : V = false := by rw [← hV.out]; exact primeB_no (by omega)
  go_enter Tryz.func66, Tryz.ntmps66
  go_wp2
  go_ret
  exact ⟨rfl, rfl⟩
 by_cases hb : n < 2147483648
 ·have h2 : 2 ≤ n := by omega
  clear h0 h1 ha
  go_enter Tryz.func66, Tryz.ntmps66
  go_wp2_with fail
  go_loopw [3] (fun d wr => ∃ D : Int, 2 ≤ D ∧ Hid ((D - 1) * (D - 1) ≤ n) ∧ d = .int .i64 D ∧ Hid (∀ e : Int, 2 ≤ e → e < D → n % e ≠ 0) ∧ w = wr) (fun d _ => (n + 2 - intOf d).toNat)
  case atStart => exact ⟨2, by omega, hid (by omega), rfl, hid (fun e g1 g2 => absurd g2 (by omega)), rfl⟩
  case round =>
   obtain ⟨D, hD, hs, rfl, hn, rfl⟩ := hrel
   obtain ⟨q0, q1, q2⟩ := sq_bd hD hs.out hb
   obtain ⟨s, hsq⟩ : ∃ s, Hid (D * D = s) := ⟨_, hid rfl⟩
   rw [hsq.out] at q0 q1
   have hds : D * D = s := hsq.out
   have hz : (D == 0) = false := by rw [beq_eq_false_iff_ne]; omega
   by_cases hle : s ≤ n
   ·have hlt : D < n + 2 := by have := sq_le hD; have := hsq.out; omega
    obtain ⟨R, hR⟩ : ∃ R, Hid (n % D = R) := ⟨_, hid rfl⟩
    have ht : n.tmod D = R := by rw [Int.tmod_eq_emod_of_nonneg (by omega)]; exact hR.out
    by_cases hr : R = 0
    ·subst hr
     obtain rfl : V = false := by rw [← hV.out]; exact primeB_no (fun h => h.2.2 D hD (by rw [hsq.out]; exact hle) hR.out)
     go_wp2_with fail
     go_ret
     exact ⟨rfl, rfl⟩
    ·have hr' : (R == 0) = false := beq_eq_false_iff_ne.2 hr
     go_wp2_with fail
     go_roundw
     case rel => exact ⟨D + 1, by omega, hid (by rw [Int.add_sub_cancel, hsq.out]; exact hle), by go_num, hid (fun e g1 g2 => by
      by_cases e1 : e = D
      ·subst e1; rw [hR.out]; exact hr
      ·exact hn.out e g1 (by omega)), (by first | rfl | trivial)⟩
     case measure => simp [intOf] <;> omega
   ·obtain rfl : V = true := by
     rw [← hV.out]
     refine primeB_yes h2 hb fun d g1 g2 => hn.out d g1 (Int.lt_of_not_ge fun hge => ?_)
     have := Int.mul_le_mul hge hge (show (0 : Int) ≤ D by omega) (show (0 : Int) ≤ d by omega)
     have := hsq.out
     omega
    go_wp2_with fail
    go_ret
    exact ⟨rfl, rfl⟩
 ·obtain rfl : V = false := by rw [← hV.out]; exact primeB_no (by omega)
  go_enter Tryz.func66, Tryz.ntmps66
  go_wp2
  go_ret
  exact ⟨rfl, rfl⟩
end Go.Proofs.YtcfepoopkfhojaaGreat
