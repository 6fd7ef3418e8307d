/- sentinelref3: Eight, padded, Parts, Bytes: contracts. -/
import Derived.Test.YtgccbfkofkohpaaGaSf
namespace Go.Proofs.Ytgccbfkofkohpaa
set_option linter.unusedVariables false
set_option maxRecDepth 20000
set_option linter.unusedSimpArgs false
open Go.ChangeShapes Go.WideShapes Go.ChangeAt Go.RowKit Go.Shelf

theorem eightL_take {n k : Nat} (hk : k < 8) : (eightL n).take (k + 1) = (eightL n).take k ++ [UInt8.ofNat (byt (n : Int) k).toNat] := by
  have h : k < (eightL n).length := by rw [eightL_len]; exact hk
  rw [List.take_succ_eq_append_getElem h]
  congr 2
  simp [eightL]
theorem byt_val (n : Int) (k : Nat) : (((UInt8.ofNat (byt n k).toNat).toNat : Nat) : Int) = byt n k := by
  have := byt_bd n k
  have e : (UInt8.ofNat (byt n k).toNat).toNat = (byt n k).toNat := by simp; omega
  rw [e, Int.toNat_of_nonneg this.1]
theorem step_app3 {B : Nat} {w w' : World} {o : Obj} (h : Below B (w.alloc o) w') (hB : B ≤ w.heap.size) : Below B w w' := ((Below.refl B w).alloc hB o).trans h
set_option maxHeartbeats 4000000 in
set_option maxRecDepth 100000 in
theorem reight_any (n : Nat) (hn : (n : Int) < 9223372036854775808) (w : World) :
    Calls Try.prog 65 #[.int .i64 (n : Int)] w fun e w' => ∃ v, e = .returned v ∧ Byt w' w.heap.size v (eightL n) ∧ Below w.heap.size w w' := by
  have ET := hid (fun k hk => @eightL_take n k hk)
  have BV := hid (fun k => byt_val (n : Int) k)
  have EL := hid (eightL_len n)
  have hn0 : (0 : Int) ≤ (n : Int) := Int.natCast_nonneg _
  obtain ⟨I, hI⟩ : ∃ I : Int, I = (n : Int) := ⟨_, rfl⟩
  rw [← hI] at hn hn0 BV ⊢
  go_enter Try.func65, Try.ntmps65
  go_wp2
  have HI := hid hI
  clear hI
  go_loopw [3, 4] (fun v i wr => ∃ k : Nat, k ≤ 8 ∧ i = .int .i64 k ∧ Byt wr w.heap.size v ((eightL n).take k) ∧ Below w.heap.size w wr) (fun _ i _ => 8 - (intOf i).toNat)
  case atStart => exact ⟨0, by omega, rfl, Byt.nil _ _, Below.refl _ _⟩
  case round =>
    obtain ⟨k, hk, rfl, hv, hB⟩ := hrel
    by_cases hlt : k < 8
    · have et := ET.out k hlt
      have bvk := BV.out k
      have hle : ((eightL n).take k).length ≤ 8 := by rw [List.length_take, EL.out]; omega
      have hkk : k = 0 ∨ k = 1 ∨ k = 2 ∨ k = 3 ∨ k = 4 ∨ k = 5 ∨ k = 6 ∨ k = 7 := by omega
      obtain ⟨x, hx⟩ : ∃ x, x = UInt8.ofNat (byt I k).toNat := ⟨_, rfl⟩
      rw [← HI.out, ← hx] at et
      rw [← hx] at bvk
      clear hx hlt hk ET
      rcases hkk with rfl | rfl | rfl | rfl | rfl | rfl | rfl | rfl
      · have hV : byt I 0 = I / 72057594037927936 := by unfold byt; simp; omega
        rw [hV] at bvk
        have hrd : Rd (wr.alloc (.cells #[Value.int .u8 (I / 72057594037927936)] 5)) (some ⟨wr.heap.size, 0, none⟩) [x] := by
          have := rd_one x wr
          rw [bvk] at this
          exact this
        have hz := hB.size
        clear hV bvk BV
        go_wp2_with (refine wpList_append_bytes rfl (.tmp 9) (.tmp 17) rfl w.heap.size _ _ [x] rfl (hv.alloc _) _ 1 1 rfl rfl (fun h => by cases h) hrd (by simp <;> omega) (by simp; omega) ?_; intro v' w' h1 h2 h3)
        go_roundw
        case rel => exact ⟨1, by omega, by go_num, by rw [et]; exact h1, hB.trans (step_app3 h2 hz)⟩
        case measure => simp [intOf]
      · have hV : byt I 1 = I / 281474976710656 % 256 := by unfold byt; simp
        rw [hV] at bvk
        have hrd : Rd (wr.alloc (.cells #[Value.int .u8 (I / 281474976710656 % 256)] 5)) (some ⟨wr.heap.size, 0, none⟩) [x] := by
          have := rd_one x wr
          rw [bvk] at this
          exact this
        have hz := hB.size
        clear hV bvk BV
        go_wp2_with (refine wpList_append_bytes rfl (.tmp 9) (.tmp 17) rfl w.heap.size _ _ [x] rfl (hv.alloc _) _ 1 1 rfl rfl (fun h => by cases h) hrd (by simp <;> omega) (by simp; omega) ?_; intro v' w' h1 h2 h3)
        go_roundw
        case rel => exact ⟨2, by omega, by go_num, by rw [et]; exact h1, hB.trans (step_app3 h2 hz)⟩
        case measure => simp [intOf]
      · have hV : byt I 2 = I / 1099511627776 % 256 := by unfold byt; simp
        rw [hV] at bvk
        have hrd : Rd (wr.alloc (.cells #[Value.int .u8 (I / 1099511627776 % 256)] 5)) (some ⟨wr.heap.size, 0, none⟩) [x] := by
          have := rd_one x wr
          rw [bvk] at this
          exact this
        have hz := hB.size
        clear hV bvk BV
        go_wp2_with (refine wpList_append_bytes rfl (.tmp 9) (.tmp 17) rfl w.heap.size _ _ [x] rfl (hv.alloc _) _ 1 1 rfl rfl (fun h => by cases h) hrd (by simp <;> omega) (by simp; omega) ?_; intro v' w' h1 h2 h3)
        go_roundw
        case rel => exact ⟨3, by omega, by go_num, by rw [et]; exact h1, hB.trans (step_app3 h2 hz)⟩
        case measure => simp [intOf]
      · have hV : byt I 3 = I / 4294967296 % 256 := by unfold byt; simp
        rw [hV] at bvk
        have hrd : Rd (wr.alloc (.cells #[Value.int .u8 (I / 4294967296 % 256)] 5)) (some ⟨wr.heap.size, 0, none⟩) [x] := by
          have := rd_one x wr
          rw [bvk] at this
          exact this
        have hz := hB.size
        clear hV bvk BV
        go_wp2_with (refine wpList_append_bytes rfl (.tmp 9) (.tmp 17) rfl w.heap.size _ _ [x] rfl (hv.alloc _) _ 1 1 rfl rfl (fun h => by cases h) hrd (by simp <;> omega) (by simp; omega) ?_; intro v' w' h1 h2 h3)
        go_roundw
        case rel => exact ⟨4, by omega, by go_num, by rw [et]; exact h1, hB.trans (step_app3 h2 hz)⟩
        case measure => simp [intOf]
      · have hV : byt I 4 = I / 16777216 % 256 := by unfold byt; simp
        rw [hV] at bvk
        have hrd : Rd (wr.alloc (.cells #[Value.int .u8 (I / 16777216 % 256)] 5)) (some ⟨wr.heap.size, 0, none⟩) [x] := by
          have := rd_one x wr
          rw [bvk] at this
          exact this
        have hz := hB.size
        clear hV bvk BV
        go_wp2_with (refine wpList_append_bytes rfl (.tmp 9) (.tmp 17) rfl w.heap.size _ _ [x] rfl (hv.alloc _) _ 1 1 rfl rfl (fun h => by cases h) hrd (by simp <;> omega) (by simp; omega) ?_; intro v' w' h1 h2 h3)
        go_roundw
        case rel => exact ⟨5, by omega, by go_num, by rw [et]; exact h1, hB.trans (step_app3 h2 hz)⟩
        case measure => simp [intOf]
      · have hV : byt I 5 = I / 65536 % 256 := by unfold byt; simp
        rw [hV] at bvk
        have hrd : Rd (wr.alloc (.cells #[Value.int .u8 (I / 65536 % 256)] 5)) (some ⟨wr.heap.size, 0, none⟩) [x] := by
          have := rd_one x wr
          rw [bvk] at this
          exact this
        have hz := hB.size
        clear hV bvk BV
        go_wp2_with (refine wpList_append_bytes rfl (.tmp 9) (.tmp 17) rfl w.heap.size _ _ [x] rfl (hv.alloc _) _ 1 1 rfl rfl (fun h => by cases h) hrd (by simp <;> omega) (by simp; omega) ?_; intro v' w' h1 h2 h3)
        go_roundw
        case rel => exact ⟨6, by omega, by go_num, by rw [et]; exact h1, hB.trans (step_app3 h2 hz)⟩
        case measure => simp [intOf]
      · have hV : byt I 6 = I / 256 % 256 := by unfold byt; simp
        rw [hV] at bvk
        have hrd : Rd (wr.alloc (.cells #[Value.int .u8 (I / 256 % 256)] 5)) (some ⟨wr.heap.size, 0, none⟩) [x] := by
          have := rd_one x wr
          rw [bvk] at this
          exact this
        have hz := hB.size
        clear hV bvk BV
        go_wp2_with (refine wpList_append_bytes rfl (.tmp 9) (.tmp 17) rfl w.heap.size _ _ [x] rfl (hv.alloc _) _ 1 1 rfl rfl (fun h => by cases h) hrd (by simp <;> omega) (by simp; omega) ?_; intro v' w' h1 h2 h3)
        go_roundw
        case rel => exact ⟨7, by omega, by go_num, by rw [et]; exact h1, hB.trans (step_app3 h2 hz)⟩
        case measure => simp [intOf]
      · have hV : byt I 7 = I % 256 := by unfold byt; simp
        rw [hV] at bvk
        have hrd : Rd (wr.alloc (.cells #[Value.int .u8 (I % 256)] 5)) (some ⟨wr.heap.size, 0, none⟩) [x] := by
          have := rd_one x wr
          rw [bvk] at this
          exact this
        have hz := hB.size
        clear hV bvk BV
        go_wp2_with (refine wpList_append_bytes rfl (.tmp 9) (.tmp 17) rfl w.heap.size _ _ [x] rfl (hv.alloc _) _ 1 1 rfl rfl (fun h => by cases h) hrd (by simp <;> omega) (by simp; omega) ?_; intro v' w' h1 h2 h3)
        go_roundw
        case rel => exact ⟨8, by omega, by go_num, by rw [et]; exact h1, hB.trans (step_app3 h2 hz)⟩
        case measure => simp [intOf]
    · obtain rfl : k = 8 := by omega
      have hv' : Byt wr w.heap.size u3 (eightL n) := by rw [List.take_of_length_le (Nat.le_of_eq EL.out)] at hv; exact hv
      go_wp2
      go_ret
      exact ⟨_, rfl, hv', hB⟩

theorem byt_empty (w : World) : Byt (w.alloc (.cells #[] 5)) w.heap.size (.slice (some ⟨w.heap.size, 0, none⟩) 0 0) [] :=
  ⟨rfl, .inr ⟨w.heap.size, 0, #[], rfl, Nat.le_refl _, heap_alloc_new w _, Nat.le_refl _, by unfold maxLen; omega, rfl, rfl⟩⟩
set_option maxHeartbeats 4000000 in
set_option maxRecDepth 100000 in
theorem padded_any (A : Option Addr) (l : List UInt8) (n c : Nat) (hn : l.length = n) (hA : A = none → c = 0) (hle : n ≤ 100000) (w : World) (hR : Rd w A l) :
    Calls Try.prog 95 #[.slice A n c] w fun e w' => ∃ v, e = .returned v ∧ Byt w' w.heap.size v (pad16 l) ∧ Below w.heap.size w w' := by
  have he := byt_empty w
  have hr := hR.step (step_alloc w (.cells #[] 5))
  have HN := hid hn
  go_enter Try.func95, Try.ntmps95
  go_wp2_with (refine wpList_append_bytes rfl (.tmp 4) (.tmp 5) rfl w.heap.size _ _ l rfl he A n c rfl hn hA hr (by rw [hn]; simp; omega) (by simp) ?_; intro v1 w1 h1 h2 h3)
  have B1 : Below w.heap.size w w1 := step_app3 h2 (Nat.le_refl _)
  rw [List.nil_append] at h1
  clear he hr hn h2 h3
  obtain ⟨m, hm⟩ : ∃ m, m = (16 - l.length % 16) % 16 := ⟨_, rfl⟩
  have HM := hid hm
  clear hm
  go_loopw [3] (fun v wr => ∃ k : Nat, k ≤ m ∧ Byt wr w.heap.size v (l ++ List.replicate k 0) ∧ Below w.heap.size w wr) (fun v _ => 100016 + 100 - (match v with | .slice _ n _ => n | _ => 0))
  case atStart => exact ⟨0, by omega, by simpa using h1, B1⟩
  case round =>
    obtain ⟨k, hk, hv, hB⟩ := hrel
    clear h1 B1
    obtain ⟨A', c', rfl, hc1, hc2, hR', hl'⟩ := hv.slice
    have hlen : (l ++ List.replicate k (0 : UInt8)).length = n + k := by rw [List.length_append, List.length_replicate, HN.out]
    rw [hlen] at hc1 hv
    rw [hlen]
    have hz := hB.size
    have hm2 : (n + m) % 16 = 0 ∧ m < 16 := by have := HM.out; have := HN.out; omega
    unfold maxLen at hc2
    have hcn : c' ≤ 9223372036854775807 := by omega
    by_cases hlt : k < m
    · have hmod : decide ((0 : Int) < ((n : Int) + (k : Int)) % 16) = true := by rw [decide_eq_true_iff]; omega
      have hrd := rd_one 0 wr
      go_wp2_with (refine wpList_append_bytes rfl (.tmp 11) (.tmp 12) rfl w.heap.size _ _ [0] rfl (hv.alloc _) _ 1 1 rfl rfl (fun h => by cases h) hrd (by rw [hlen]; simp; omega) (by simp; omega) ?_; intro v' w' h1 h2 h3)
      have e1 : l ++ List.replicate k (0 : UInt8) ++ [0] = l ++ List.replicate (k + 1) 0 := by rw [List.append_assoc, List.replicate_succ']
      have hlen2 : (l ++ List.replicate (k + 1) (0 : UInt8)).length = n + k + 1 := by rw [List.length_append, List.length_replicate, HN.out]; omega
      rw [e1] at h1
      obtain ⟨A2, c2, rfl, hc3, hc4, R2, hl2⟩ := h1.slice
      rw [hlen2] at h1
      rw [hlen2]
      have hB2 := hB.trans (step_app3 h2 hz)
      clear hc3 hc4 R2 hl2 h2 h3 hmod hlen hlen2 e1
      go_roundw
      case rel => exact ⟨k + 1, by omega, h1, hB2⟩
      case measure => simp; omega
    · obtain rfl : k = m := by omega
      have hmod : decide ((0 : Int) < ((n : Int) + (k : Int)) % 16) = false := by rw [decide_eq_false_iff_not]; omega
      go_wp2
      go_ret
      refine ⟨_, rfl, ?_, hB⟩
      have e : pad16 l = l ++ List.replicate k 0 := by unfold pad16; rw [← HM.out]
      rw [e]; exact hv

theorem wpList_append_byt {ops : Array Oper} {rest : List Oper} {o : Oper} {a : Act} {w : World} {Q : Exit → Act → World → Prop} (hgd : o.guard = none) (s x : Operand)
    (ho : o.op = .call { callee := .builtin .append, args := #[s, x], argTypes := #[43, 43] })
    (base base2 : Nat) (v u : Value) (l r : List UInt8) (hs : a.eval s = v) (hown : Byt w base v l) (hx : a.eval x = u) (hu : Byt w base2 u r)
    (hle : l.length + r.length ≤ 1000000) (hbase : base ≤ w.heap.size)
    (h : ∀ v' w', Byt w' base v' (l ++ r) → Below base w w' → w.grownBy w' v.ownBlock → wpList Try.prog ops Q rest (a.put o.dst v') w') : wpList Try.prog ops Q (o :: rest) a w := by
  obtain ⟨A, c, rfl, h1, h2, hR, h3⟩ := hu.slice
  have hc : A = none → c = 0 := by
    rintro rfl
    rcases hu.2 with ⟨e, _⟩ | ⟨g, cap, cur, e, _⟩
    · injection e with e1 e2 e3
    · injection e with e1 e2 e3; cases e1
  exact wpList_append_bytes hgd s x ho base v l r hs hown A r.length c hx rfl hc hR hle hbase h
end Go.Proofs.Ytgccbfkofkohpaa
namespace Go.Proofs.Ytgccbfkofkohpaa
set_option linter.unusedVariables false
set_option maxRecDepth 20000
set_option linter.unusedSimpArgs false
open Go.ChangeShapes Go.WideShapes Go.ChangeAt Go.RowKit Go.Shelf

/-- Four bytes laid into a word. -/
theorem or4 (a b0 b1 b2 b3 : Nat) (h0 : b0 < 256) (h1 : b1 < 256) (h2 : b2 < 256) (h3 : b3 < 256) :
    a ^^^ (((b0 ||| b1 * 256) ||| b2 * 65536) ||| b3 * 16777216) = (((a ^^^ b0) ^^^ b1 * 256) ^^^ b2 * 65536) ^^^ b3 * 16777216 := by
  apply Nat.eq_of_testBit_eq
  intro i
  have e1 : b1 * 256 = b1 <<< 8 := by rw [Nat.shiftLeft_eq]
  have e2 : b2 * 65536 = b2 <<< 16 := by rw [Nat.shiftLeft_eq]
  have e3 : b3 * 16777216 = b3 <<< 24 := by rw [Nat.shiftLeft_eq]
  rw [e1, e2, e3]
  simp only [Nat.testBit_xor, Nat.testBit_or, Nat.testBit_shiftLeft]
  have t0 : 8 ≤ i → b0.testBit i = false := fun h => Nat.testBit_lt_two_pow (Nat.lt_of_lt_of_le h0 (Nat.pow_le_pow_right (n := 2) (by decide) h))
  have t1 : 16 ≤ i → b1.testBit (i - 8) = false := fun h => Nat.testBit_lt_two_pow (Nat.lt_of_lt_of_le h1 (Nat.pow_le_pow_right (n := 2) (by decide) (by omega : 8 ≤ i - 8)))
  have t2 : 24 ≤ i → b2.testBit (i - 16) = false := fun h => Nat.testBit_lt_two_pow (Nat.lt_of_lt_of_le h2 (Nat.pow_le_pow_right (n := 2) (by decide) (by omega : 8 ≤ i - 16)))
  by_cases c1 : 8 ≤ i
  · rw [t0 c1]
    by_cases c2 : 16 ≤ i
    · rw [t1 c2]
      by_cases c3 : 24 ≤ i
      · rw [t2 c3]; simp [c1, c2, c3]
      · simp [c1, c2, c3]
    · have c3 : ¬ 24 ≤ i := by omega
      simp [c1, c2, c3]
  · have c2 : ¬ 16 ≤ i := by omega
    have c3 : ¬ 24 ≤ i := by omega
    simp [c1, c2, c3]
theorem xor4 {a b0 b1 b2 b3 : Int} (ha : 0 ≤ a ∧ a < 4294967296) (h0 : 0 ≤ b0 ∧ b0 < 256) (h1 : 0 ≤ b1 ∧ b1 < 256) (h2 : 0 ≤ b2 ∧ b2 < 256) (h3 : 0 ≤ b3 ∧ b3 < 256) :
    bits .xor .u32 a (bits .or .u32 (bits .or .u32 (bits .or .u32 b0 (b1 * 256)) (b2 * 65536)) (b3 * 16777216)) = xorW (xorW (xorW (xorW a b0) (b1 * 256)) (b2 * 65536)) (b3 * 16777216) := by
  obtain ⟨a, rfl⟩ := Int.eq_ofNat_of_zero_le ha.1
  obtain ⟨b0, rfl⟩ := Int.eq_ofNat_of_zero_le h0.1
  obtain ⟨b1, rfl⟩ := Int.eq_ofNat_of_zero_le h1.1
  obtain ⟨b2, rfl⟩ := Int.eq_ofNat_of_zero_le h2.1
  obtain ⟨b3, rfl⟩ := Int.eq_ofNat_of_zero_le h3.1
  have m1 : (b1 : Int) * 256 = ((b1 * 256 : Nat) : Int) := by rw [Int.natCast_mul]; rfl
  have m2 : (b2 : Int) * 65536 = ((b2 * 65536 : Nat) : Int) := by rw [Int.natCast_mul]; rfl
  have m3 : (b3 : Int) * 16777216 = ((b3 * 16777216 : Nat) : Int) := by rw [Int.natCast_mul]; rfl
  have L : ∀ x y : Nat, x < 4294967296 → y < 4294967296 → x ^^^ y < 4294967296 := fun x y hx hy => Nat.xor_lt_two_pow (n := 32) hx hy
  have O : ∀ x y : Nat, x < 4294967296 → y < 4294967296 → x ||| y < 4294967296 := fun x y hx hy => Nat.or_lt_two_pow (n := 32) hx hy
  have p0 : b0 < 4294967296 := by omega
  have p1 : b1 * 256 < 4294967296 := Nat.lt_of_le_of_lt (Nat.mul_le_mul_right 256 (show b1 ≤ 255 by omega)) (by decide)
  have p2 : b2 * 65536 < 4294967296 := Nat.lt_of_le_of_lt (Nat.mul_le_mul_right 65536 (show b2 ≤ 255 by omega)) (by decide)
  have p3 : b3 * 16777216 < 4294967296 := Nat.lt_of_le_of_lt (Nat.mul_le_mul_right 16777216 (show b3 ≤ 255 by omega)) (by decide)
  have pa : a < 4294967296 := by omega
  rw [m1, m2, m3, ← xor_fold, ← xor_fold, ← xor_fold, ← xor_fold, u32_or_nat _ _ p0 p1, u32_or_nat _ _ (O _ _ p0 p1) p2, u32_or_nat _ _ (O _ _ (O _ _ p0 p1) p2) p3, u32_xor_nat _ _ pa (O _ _ (O _ _ (O _ _ p0 p1) p2) p3),
    u32_xor_nat _ _ pa p0, u32_xor_nat _ _ (L _ _ pa p0) p1, u32_xor_nat _ _ (L _ _ (L _ _ pa p0) p1) p2, u32_xor_nat _ _ (L _ _ (L _ _ (L _ _ pa p0) p1) p2) p3, or4 a b0 b1 b2 b3 (by omega) (by omega) (by omega) (by omega)]
def W8.wset (s : W8) (q : Nat) (v : Int) : W8 := match q with
  | 0 => { s with x0 := v }
  | 1 => { s with x1 := v }
  | 2 => { s with x2 := v }
  | _ => { s with x3 := v }
theorem absN_four (z : Nat → Int) (s : W8) (n : Nat) : absN z s (n + 4) = ((((absN z s n).xat (n / 4) (mulF (n % 4) (z n))).xat ((n + 1) / 4) (mulF ((n + 1) % 4) (z (n + 1)))).xat ((n + 2) / 4) (mulF ((n + 2) % 4) (z (n + 2)))).xat ((n + 3) / 4) (mulF ((n + 3) % 4) (z (n + 3))) := rfl
theorem absN_word (z : Nat → Int) (s : W8) {q : Nat} (hq : q < 4) : absN z s (4 * q + 4) = (absN z s (4 * q)).wset q (xorW (xorW (xorW (xorW (wrd (absN z s (4 * q)) q) (z (4 * q))) (z (4 * q + 1) * 256)) (z (4 * q + 2) * 65536)) (z (4 * q + 3) * 16777216)) := by
  rw [absN_four]
  generalize absN z s (4 * q) = A
  have h : q = 0 ∨ q = 1 ∨ q = 2 ∨ q = 3 := by omega
  rcases h with rfl | rfl | rfl | rfl <;> rfl
theorem sumW_feed (S : W8) (b : List UInt8) : sumW (feed S b).1 (feed S b).2 = sumW S b := by
  unfold sumW pad16
  have hm := feed_mod S b
  have e : ((feed S b).2 ++ [128]).length % 16 = (b ++ [128]).length % 16 := by rw [List.length_append, List.length_append, hm]; simp
  rw [e, List.append_assoc, ← feed_append, ← List.append_assoc]
theorem pad16_append {P X : List UInt8} (h : P.length % 16 = 0) : pad16 (P ++ X) = P ++ pad16 X := by
  unfold pad16
  have : (P ++ X).length % 16 = X.length % 16 := by rw [List.length_append]; omega
  rw [this, List.append_assoc]
theorem raw_feed (key b : List UInt8) : mixW (feed zeroW (pad16 (pad16 (eightL key.length ++ key) ++ b ++ [128]))).1.one7 = sumW (initW key) b := by
  unfold sumW
  rw [List.append_assoc, pad16_append (pad16_mod _), feed_append, feed_full (pad16_mod _), List.nil_append]
  rfl
theorem size8' : (Try.prog.info? 25).map (·.size) = some 8 := size8
end Go.Proofs.Ytgccbfkofkohpaa
namespace Go.Proofs.Ytgccbfkofkohpaa
set_option linter.unusedVariables false
set_option maxRecDepth 20000
set_option linter.unusedSimpArgs false
open Go.ChangeShapes Go.WideShapes Go.ChangeAt Go.RowKit Go.Shelf

theorem byI_drop (L : List UInt8) (k j : Nat) : byI (L.drop k) j = byI L (k + j) := by
  unfold byI; simp only [List.getD_eq_getElem?_getD, List.getElem?_drop]
theorem Byt.none0 {w : World} {base : Nat} {A : Option Addr} {n c : Nat} {l : List UInt8} (h : Byt w base (.slice A n c) l) : A = none → c = 0 := by
  rintro rfl
  rcases h.2 with ⟨e, _⟩ | ⟨g, cap, cur, e, _⟩
  · injection e with e1 e2 e3
  · injection e with e1 e2 e3; cases e1
theorem Byt.base {w : World} {b b' : Nat} {v : Value} {l : List UInt8} (h : Byt w b v l) (hb : b' ≤ b) : Byt w b' v l := by
  refine ⟨h.1, ?_⟩
  rcases h.2 with hn | ⟨g, c, cur, e, hg, rest⟩
  · exact .inl hn
  · exact .inr ⟨g, c, cur, e, by omega, rest⟩
theorem blk_setW {w : World} {g q : Nat} {t : TypeId} {A : W8} {V V' : Int} (hb : Blk w g t (arrW A)) (hq : q < 4) (hv : V = V') : Blk (w.setCell ⟨g, q, none⟩ (.int .u32 V)) g t (arrW (A.wset q V')) := by
  subst hv
  have h : q = 0 ∨ q = 1 ∨ q = 2 ∨ q = 3 := by omega
  rcases h with rfl | rfl | rfl | rfl <;> exact hb.set _ _ rfl
set_option maxHeartbeats 32000000 in
set_option maxRecDepth 100000 in
theorem rraw_any (A : Option Addr) (key : List UInt8) (n c : Nat) (hn : key.length = n) (hA : A = none → c = 0) (hnl : n ≤ 2000) (Bp : Option Addr) (b : List UInt8) (m d : Nat) (hm : b.length = m) (hBp : Bp = none → d = 0) (hml : m ≤ 5000) (w : World) (hR : Rd w A key) (hS : Rd w Bp b) :
    Calls Try.prog 71 #[.slice A n c, .slice Bp m d] w fun e w' => e = .returned (.agg (arr16 (outF (sumW (initW key) b)))) ∧ Below w.heap.size w w' := by
  have b0 := step_alloc w (.cells #[Value.int .u8 0, .int .u8 0, .int .u8 0, .int .u8 0, .int .u8 0, .int .u8 0, .int .u8 0, .int .u8 0, .int .u8 0, .int .u8 0, .int .u8 0, .int .u8 0, .int .u8 0, .int .u8 0, .int .u8 0, .int .u8 0] 61)
  have z0 := Blk.new w 61 #[Value.int .u8 0, .int .u8 0, .int .u8 0, .int .u8 0, .int .u8 0, .int .u8 0, .int .u8 0, .int .u8 0, .int .u8 0, .int .u8 0, .int .u8 0, .int .u8 0, .int .u8 0, .int .u8 0, .int .u8 0, .int .u8 0]
  have R0 := hR.step b0
  have S0 := hS.step b0
  have HN := hid hn
  have HMm := hid hm
  have RF := hid (raw_feed key b)
  go_enter Try.func71, Try.ntmps71
  go_wp2_with fail
  obtain ⟨W, hW⟩ : ∃ W, W = w.alloc (.cells #[Value.int .u8 0, .int .u8 0, .int .u8 0, .int .u8 0, .int .u8 0, .int .u8 0, .int .u8 0, .int .u8 0, .int .u8 0, .int .u8 0, .int .u8 0, .int .u8 0, .int .u8 0, .int .u8 0, .int .u8 0, .int .u8 0] 61) := ⟨_, rfl⟩
  have hWs : W.heap.size = w.heap.size + 1 := by rw [hW]; simp
  rw [← hW] at b0 z0 R0 S0 ⊢
  clear hW hR hS
  refine (reight_any n (by omega) _).mono ?_
  rintro e w1 ⟨v1, rfl, h1, b1⟩
  have z1 := z0.step b1
  have R1 := R0.step b1
  have C1 : Below W.heap.size W w1 := b1
  go_wp2_with (refine wpList_append_bytes rfl (.tmp 14) (.tmp 15) rfl W.heap.size _ _ key rfl h1 A n c rfl hn hA R1 (by rw [eightL_len, hn]; omega) b1.size ?_; intro v2 w2 h2 k2 g2)
  have C2 : Below W.heap.size W w2 := C1.trans k2
  obtain ⟨A2, c2, rfl, hc2, hm2, R2, _⟩ := h2.slice
  have hl2 : (eightL n ++ key).length = 8 + n := by rw [List.length_append, eightL_len, hn]
  have nn2 := h2.none0
  rw [hl2]
  refine (padded_any A2 (eightL n ++ key) (8 + n) c2 hl2 nn2 (by omega) _ R2).mono ?_
  rintro e w3 ⟨v3, rfl, h3, b3⟩
  have C3 : Below W.heap.size W w3 := C2.trans (b3.mono C2.size)
  have h3' := h3.base C2.size
  have S3 := S0.below C3 (Nat.le_refl _)
  have hp3 : (pad16 (eightL n ++ key)).length ≤ 2100 := by unfold pad16; rw [List.length_append, hl2, List.length_replicate]; omega
  have hm3 := pad16_mod (eightL n ++ key)
  obtain ⟨P, hP⟩ : ∃ P, P = pad16 (eightL n ++ key) := ⟨_, rfl⟩
  rw [← hP] at h3' hp3 hm3
  have HP := hid hP
  have w3s := C3.size
  clear h1 h2 h3 k2 g2 R1 R2 b1 b3 z1 hc2 hm2 hl2 nn2 hP C1 C2
  go_wp2_with (first | (refine wpList_append_bytes rfl (.tmp 18) (.tmp 19) rfl W.heap.size _ _ b rfl h3' Bp m d rfl hm hBp S3 (by rw [hm]; omega) w3s ?_; intro v4 w4 h4 k4 g4; have r128 := rd_one 128 w4; have h4' := h4.alloc (.cells #[Value.int .u8 128] 5); have w4s := Nat.le_trans w3s k4.size) | (refine wpList_append_bytes rfl (.tmp 20) (.tmp 21) rfl W.heap.size _ _ [128] rfl h4' _ 1 1 rfl rfl (fun h => by cases h) r128 (by rw [List.length_append, hm]; simp; omega) (by simp; omega) ?_; intro v5 w5 h5 k5 g5))
  have C5 : Below W.heap.size W w5 := (C3.trans k4).trans (step_app3 k5 w4s)
  obtain ⟨A5, c5, rfl, hc5, hm5, R5, _⟩ := h5.slice
  have hl5 : (P ++ b ++ [(128 : UInt8)]).length ≤ 7101 := by rw [List.length_append, List.length_append, hm]; simp; omega
  have nn5 := h5.none0
  obtain ⟨L5, hL5⟩ : ∃ L5, (P ++ b ++ [(128 : UInt8)]).length = L5 := ⟨_, rfl⟩
  rw [hL5] at hl5 ⊢
  refine (padded_any A5 _ L5 c5 hL5 nn5 (by omega) _ R5).mono ?_
  rintro e w6 ⟨v6, rfl, h6, b6⟩
  have C6 : Below W.heap.size W w6 := C5.trans (b6.mono C5.size)
  have z6 := z0.below C6 z0.lt
  have hN16 := pad16_mod (P ++ b ++ [128])
  have hNl : (pad16 (P ++ b ++ [128])).length ≤ 7200 := by unfold pad16; rw [List.length_append, hL5, List.length_replicate]; omega
  have RF2 : Hid (mixW (feed zeroW (pad16 (P ++ b ++ [128]))).1.one7 = sumW (initW key) b) := hid (by rw [HP.out, ← HN.out]; exact RF.out)
  obtain ⟨all, hall⟩ : ∃ all, all = pad16 (P ++ b ++ [128]) := ⟨_, rfl⟩
  rw [← hall] at h6 hN16 hNl RF2
  obtain ⟨A6, c6, rfl, hc6, hm6, R6, hlt6⟩ := h6.slice
  obtain ⟨N, hN⟩ : ∃ N, all.length = N := ⟨_, rfl⟩
  have HNN := hid hN
  rw [hN] at hN16 hNl hc6 ⊢
  have b0s := b0.size
  have B6 : Below w.heap.size w w6 := b0.trans (C6.mono b0s)
  have h6lt : ∀ k, Value.ownBlock (.slice A6 N c6) = some k → w.heap.size < k := fun k e => by
    have := (hlt6 k (by rw [hN]; exact e)).1
    have := C5.size; omega
  clear h3' h4 h4' h5 h6 k4 k5 g4 g5 r128 R5 C3 C5 b6 S3 S0 R0 hall nn5 hc5 hm5 hL5 hl5 HP RF hlt6 hN hp3 hm3 hm hn
  go_wp2_with fail
  obtain ⟨T, hT⟩ : ∃ T, T = feed zeroW all := ⟨_, rfl⟩
  have HT0 : Hid (T = feed zeroW (all.drop 0)) := hid (by rw [hT, List.drop_zero])
  rw [← hT] at RF2
  obtain ⟨g6, hg6⟩ : ∃ g6, g6 = w6.heap.size := ⟨_, rfl⟩
  have hg6w : w.heap.size < g6 := by rw [hg6]; have := C6.size; omega
  have q0 : Blk (w6.alloc (.cells #[Value.int .u32 0, .int .u32 0, .int .u32 0, .int .u32 0, .int .u32 0, .int .u32 0, .int .u32 0, .int .u32 0] 25)) g6 25 (arrW zeroW) := by rw [hg6]; exact Blk.new w6 _ _
  have z7 := z6.alloc (.cells #[Value.int .u32 0, .int .u32 0, .int .u32 0, .int .u32 0, .int .u32 0, .int .u32 0, .int .u32 0, .int .u32 0] 25)
  have B7 : Below w.heap.size w (w6.alloc (.cells #[Value.int .u32 0, .int .u32 0, .int .u32 0, .int .u32 0, .int .u32 0, .int .u32 0, .int .u32 0, .int .u32 0] 25)) := B6.alloc B6.size _
  have D7 : Below g6 w6 (w6.alloc (.cells #[Value.int .u32 0, .int .u32 0, .int .u32 0, .int .u32 0, .int .u32 0, .int .u32 0, .int .u32 0, .int .u32 0] 25)) := by rw [hg6]; exact step_alloc _ _
  rw [← hg6]
  have HG6 := hid hg6
  clear hg6
  clear hT z6 B6
  generalize World.alloc _ _ = W7 at *
  go_loopw [7] (fun i wr => ∃ (k : Nat) (s : W8), k ≤ N ∧ k % 16 = 0 ∧ i = .int .i64 k ∧ s.ok ∧ Blk wr g6 25 (arrW s) ∧ Blk wr w.heap.size 61 #[Value.int .u8 0, .int .u8 0, .int .u8 0, .int .u8 0, .int .u8 0, .int .u8 0, .int .u8 0, .int .u8 0, .int .u8 0, .int .u8 0, .int .u8 0, .int .u8 0, .int .u8 0, .int .u8 0, .int .u8 0, .int .u8 0] ∧ Below w.heap.size w wr ∧ Below g6 w6 wr ∧ Hid (T = feed s (all.drop k))) (fun i _ => N - (intOf i).toNat)
  case atStart => exact ⟨0, zeroW, by omega, rfl, rfl, zeroW_ok, q0, z7, B7, D7, HT0⟩
  case round =>
    obtain ⟨k, s, hk, hk16, rfl, hok, hq, hz, hB, hD, hT⟩ := hrel
    clear q0 z7 B7 D7 HT0
    by_cases hlt : k < N
    · obtain ⟨bA, oA, rfl, hbA, hcl⟩ := R6.at (by rw [HNN.out]; omega)
      have CL : Hid (∀ K, K < N → w6.cell? ⟨bA, oA + K, none⟩ = some (.int .u8 (byI all K))) := hid (fun K hK => by
        have hx := List.getElem?_eq_getElem (l := all) (i := K) (by rw [HNN.out]; exact hK)
        rw [hcl K _ hx, byI_get hx])
      have OKS := hid hok
      have HQ16 := hid hk16
      clear hcl hok hk16
      go_wp2_with fail
      go_loopw [8, 9] (fun i _u wr => ∃ q : Nat, q ≤ 4 ∧ i = .int .i64 q ∧ Blk wr g6 25 (arrW (absN (byI (all.drop k)) s (4 * q))) ∧ Blk wr w.heap.size 61 #[Value.int .u8 0, .int .u8 0, .int .u8 0, .int .u8 0, .int .u8 0, .int .u8 0, .int .u8 0, .int .u8 0, .int .u8 0, .int .u8 0, .int .u8 0, .int .u8 0, .int .u8 0, .int .u8 0, .int .u8 0, .int .u8 0] ∧ Below w.heap.size w wr ∧ Below g6 w6 wr) (fun i _ _ => 4 - (intOf i).toNat)
      case atStart => exact ⟨0, by omega, rfl, hq, hz, hB, hD⟩
      case round =>
        obtain ⟨q, hq4, rfl, hq2, hz2, hB2, hD2⟩ := hrel
        clear hq hz hB hD
        by_cases hlt4 : q < 4
        · have CL2 : ∀ K, K < N → wr.cell? ⟨bA, oA + K, none⟩ = some (.int .u8 (byI all K)) := fun K hK => (hD2.cell (p := ⟨bA, oA + K, none⟩) (by simp only; rw [HG6.out]; exact hbA)).trans (CL.out K hK)
          obtain ⟨A, hA'⟩ : ∃ A, A = absN (byI (all.drop k)) s (4 * q) := ⟨_, rfl⟩
          have hAok : A.ok := by rw [hA']; exact ok_absN OKS.out _
          rw [← hA'] at hq2
          have hk16 := HQ16.out
          have aok : ∀ j, 0 ≤ wrd A j ∧ wrd A j < 4294967296 := fun j => by
            obtain ⟨a0, a1, a2, a3, -⟩ := hAok
            unfold wrd; split
            · exact a0
            · exact a1
            · exact a2
            · exact a3
          have hN7 : N ≤ 7200 := hNl
          have hqq : q = 0 ∨ q = 1 ∨ q = 2 ∨ q = 3 := by omega
          have hA := hA'
          clear hA' hlt4 hq4 hAok
          have hNk : k + 16 ≤ N := by omega
          rcases hqq with rfl | rfl | rfl | rfl
          · have k1 : wr.cell? ⟨g6, 0, none⟩ = some (.int .u32 A.x0) := hq2.cell (k := 0) rfl
            have f1 := hq2.frozen 0
            have hK3 : k + 3 < N := by omega
            have y0 := CL2 k (by omega)
            have y1 := CL2 (k + 1) (by omega)
            have y2 := CL2 (k + 2) (by omega)
            have y3 := CL2 (k + 3) (by omega)
            have d0 := byI_bd all k
            have d1 := byI_bd all (k + 1)
            have d2 := byI_bd all (k + 2)
            have d3 := byI_bd all (k + 3)
            have ez : ∀ j, byI (all.drop k) (0 + j) = byI all (k + j) := fun j => by rw [byI_drop]; congr 1; omega
            have EZ : Hid (byI (all.drop k) 0 = byI all k ∧ byI (all.drop k) (0 + 1) = byI all (k + 1) ∧ byI (all.drop k) (0 + 2) = byI all (k + 2) ∧ byI (all.drop k) (0 + 3) = byI all (k + 3)) := hid ⟨ez 0, ez 1, ez 2, ez 3⟩
            have NW := hid (absN_word (byI (all.drop k)) s (q := 0) (by omega))
            have HA2 := hid hA
            clear ez hA
            generalize byI all k = B0 at *
            generalize byI all (k + 1) = B1 at *
            generalize byI all (k + 2) = B2 at *
            generalize byI all (k + 3) = B3 at *
            have hd := xor4 (aok 0) d0 d1 d2 d3
            obtain ⟨d00, d01⟩ := d0
            obtain ⟨d10, d11⟩ := d1
            obtain ⟨d20, d21⟩ := d2
            obtain ⟨d30, d31⟩ := d3
            have HD := hid hd
            have K0 : (0 : Int) ≤ (k : Int) := Int.natCast_nonneg _
            have KN : (k : Int) < (N : Int) := by omega
            have w1 := Go.IntWalk.i64_in ((k : Int) + 1) (by omega)
            have w2 := Go.IntWalk.i64_in ((k : Int) + 2) (by omega)
            have w3 := Go.IntWalk.i64_in ((k : Int) + 3) (by omega)
            have t1 : ((k : Int) + 1).toNat = k + 1 := by omega
            have t2 : ((k : Int) + 2).toNat = k + 2 := by omega
            have t3 : ((k : Int) + 3).toNat = k + 3 := by omega
            have p1 : (0 : Int) ≤ (k : Int) + 1 := by omega
            have p2 : (0 : Int) ≤ (k : Int) + 2 := by omega
            have p3 : (0 : Int) ≤ (k : Int) + 3 := by omega
            have l1 : (k : Int) + 1 < (N : Int) := by omega
            have l2 : (k : Int) + 2 < (N : Int) := by omega
            have l3 : (k : Int) + 3 < (N : Int) := by omega
            have c0 := Go.IntWalk.u32_in B0 (by omega)
            have c1 := Go.IntWalk.u32_in B1 (by omega)
            have c2 := Go.IntWalk.u32_in B2 (by omega)
            have c3 := Go.IntWalk.u32_in B3 (by omega)
            clear hd aok CL2
            go_wp2_with fail
            go_still_tail 34, (by kernel_rfl)
            change wpList _ _ _ _ _ (World.drew _)
            go_wp2
            go_roundw
            case rel =>
              refine ⟨1, by omega, by go_num, ?_, hz2.far _ (by simp; omega), (hB2.setCell (p := ⟨g6, 0, none⟩) (by simp only; omega) _).drew, (hD2.setCell (p := ⟨g6, 0, none⟩) (by simp only; omega) _).drew⟩
              have e1 : absN (byI (all.drop k)) s (4 * 1) = A.wset 0 (xorW (xorW (xorW (xorW (wrd A 0) B0) (B1 * 256)) (B2 * 65536)) (B3 * 16777216)) := by
                have := NW.out
                rw [← HA2.out] at this
                rw [show 4 * 1 = 4 * 0 + 4 from rfl, this]
                obtain ⟨e0, e1, e2, e3⟩ := EZ.out
                rw [show 4 * 0 = 0 from rfl, e0, e1, e2, e3]
              rw [e1]
              refine (blk_setW hq2 (by omega) ?_).drew
              rw [← HD.out]
              first | rfl | (rw [Int.emod_eq_of_lt (by omega) (by omega), Int.emod_eq_of_lt (by omega) (by omega), Int.emod_eq_of_lt (by omega) (by omega)]; rfl)
            case measure => simp [intOf]
          · have k1 : wr.cell? ⟨g6, 1, none⟩ = some (.int .u32 A.x1) := hq2.cell (k := 1) rfl
            have f1 := hq2.frozen 1
            obtain ⟨K, hK⟩ : ∃ K, K = k + 4 := ⟨_, rfl⟩
            have hKK : (k : Int) + 4 = (K : Int) := by omega
            have hK3 : K + 3 < N := by omega
            have y0 := CL2 K (by omega)
            have y1 := CL2 (K + 1) (by omega)
            have y2 := CL2 (K + 2) (by omega)
            have y3 := CL2 (K + 3) (by omega)
            have d0 := byI_bd all K
            have d1 := byI_bd all (K + 1)
            have d2 := byI_bd all (K + 2)
            have d3 := byI_bd all (K + 3)
            have ez : ∀ j, byI (all.drop k) (4 + j) = byI all (K + j) := fun j => by rw [byI_drop, hK]; congr 1; omega
            have EZ : Hid (byI (all.drop k) 4 = byI all K ∧ byI (all.drop k) (4 + 1) = byI all (K + 1) ∧ byI (all.drop k) (4 + 2) = byI all (K + 2) ∧ byI (all.drop k) (4 + 3) = byI all (K + 3)) := hid ⟨ez 0, ez 1, ez 2, ez 3⟩
            have NW := hid (absN_word (byI (all.drop k)) s (q := 1) (by omega))
            have HA2 := hid hA
            clear ez hK hA
            generalize byI all K = B0 at *
            generalize byI all (K + 1) = B1 at *
            generalize byI all (K + 2) = B2 at *
            generalize byI all (K + 3) = B3 at *
            have hd := xor4 (aok 1) d0 d1 d2 d3
            obtain ⟨d00, d01⟩ := d0
            obtain ⟨d10, d11⟩ := d1
            obtain ⟨d20, d21⟩ := d2
            obtain ⟨d30, d31⟩ := d3
            have HD := hid hd
            have K0 : (0 : Int) ≤ (K : Int) := Int.natCast_nonneg _
            have KN : (K : Int) < (N : Int) := by omega
            have w1 := Go.IntWalk.i64_in ((K : Int) + 1) (by omega)
            have w2 := Go.IntWalk.i64_in ((K : Int) + 2) (by omega)
            have w3 := Go.IntWalk.i64_in ((K : Int) + 3) (by omega)
            have t1 : ((K : Int) + 1).toNat = K + 1 := by omega
            have t2 : ((K : Int) + 2).toNat = K + 2 := by omega
            have t3 : ((K : Int) + 3).toNat = K + 3 := by omega
            have p1 : (0 : Int) ≤ (K : Int) + 1 := by omega
            have p2 : (0 : Int) ≤ (K : Int) + 2 := by omega
            have p3 : (0 : Int) ≤ (K : Int) + 3 := by omega
            have l1 : (K : Int) + 1 < (N : Int) := by omega
            have l2 : (K : Int) + 2 < (N : Int) := by omega
            have l3 : (K : Int) + 3 < (N : Int) := by omega
            have c0 := Go.IntWalk.u32_in B0 (by omega)
            have c1 := Go.IntWalk.u32_in B1 (by omega)
            have c2 := Go.IntWalk.u32_in B2 (by omega)
            have c3 := Go.IntWalk.u32_in B3 (by omega)
            clear hd aok CL2
            go_wp2_with fail
            go_still_tail 34, (by kernel_rfl)
            change wpList _ _ _ _ _ (World.drew _)
            go_wp2
            go_roundw
            case rel =>
              refine ⟨2, by omega, by go_num, ?_, hz2.far _ (by simp; omega), (hB2.setCell (p := ⟨g6, 1, none⟩) (by simp only; omega) _).drew, (hD2.setCell (p := ⟨g6, 1, none⟩) (by simp only; omega) _).drew⟩
              have e1 : absN (byI (all.drop k)) s (4 * 2) = A.wset 1 (xorW (xorW (xorW (xorW (wrd A 1) B0) (B1 * 256)) (B2 * 65536)) (B3 * 16777216)) := by
                have := NW.out
                rw [← HA2.out] at this
                rw [show 4 * 2 = 4 * 1 + 4 from rfl, this]
                obtain ⟨e0, e1, e2, e3⟩ := EZ.out
                rw [show 4 * 1 = 4 from rfl, e0, e1, e2, e3]
              rw [e1]
              refine (blk_setW hq2 (by omega) ?_).drew
              rw [← HD.out]
              first | rfl | (rw [Int.emod_eq_of_lt (by omega) (by omega), Int.emod_eq_of_lt (by omega) (by omega), Int.emod_eq_of_lt (by omega) (by omega)]; rfl)
            case measure => simp [intOf]
          · have k1 : wr.cell? ⟨g6, 2, none⟩ = some (.int .u32 A.x2) := hq2.cell (k := 2) rfl
            have f1 := hq2.frozen 2
            obtain ⟨K, hK⟩ : ∃ K, K = k + 8 := ⟨_, rfl⟩
            have hKK : (k : Int) + 8 = (K : Int) := by omega
            have hK3 : K + 3 < N := by omega
            have y0 := CL2 K (by omega)
            have y1 := CL2 (K + 1) (by omega)
            have y2 := CL2 (K + 2) (by omega)
            have y3 := CL2 (K + 3) (by omega)
            have d0 := byI_bd all K
            have d1 := byI_bd all (K + 1)
            have d2 := byI_bd all (K + 2)
            have d3 := byI_bd all (K + 3)
            have ez : ∀ j, byI (all.drop k) (8 + j) = byI all (K + j) := fun j => by rw [byI_drop, hK]; congr 1; omega
            have EZ : Hid (byI (all.drop k) 8 = byI all K ∧ byI (all.drop k) (8 + 1) = byI all (K + 1) ∧ byI (all.drop k) (8 + 2) = byI all (K + 2) ∧ byI (all.drop k) (8 + 3) = byI all (K + 3)) := hid ⟨ez 0, ez 1, ez 2, ez 3⟩
            have NW := hid (absN_word (byI (all.drop k)) s (q := 2) (by omega))
            have HA2 := hid hA
            clear ez hK hA
            generalize byI all K = B0 at *
            generalize byI all (K + 1) = B1 at *
            generalize byI all (K + 2) = B2 at *
            generalize byI all (K + 3) = B3 at *
            have hd := xor4 (aok 2) d0 d1 d2 d3
            obtain ⟨d00, d01⟩ := d0
            obtain ⟨d10, d11⟩ := d1
            obtain ⟨d20, d21⟩ := d2
            obtain ⟨d30, d31⟩ := d3
            have HD := hid hd
            have K0 : (0 : Int) ≤ (K : Int) := Int.natCast_nonneg _
            have KN : (K : Int) < (N : Int) := by omega
            have w1 := Go.IntWalk.i64_in ((K : Int) + 1) (by omega)
            have w2 := Go.IntWalk.i64_in ((K : Int) + 2) (by omega)
            have w3 := Go.IntWalk.i64_in ((K : Int) + 3) (by omega)
            have t1 : ((K : Int) + 1).toNat = K + 1 := by omega
            have t2 : ((K : Int) + 2).toNat = K + 2 := by omega
            have t3 : ((K : Int) + 3).toNat = K + 3 := by omega
            have p1 : (0 : Int) ≤ (K : Int) + 1 := by omega
            have p2 : (0 : Int) ≤ (K : Int) + 2 := by omega
            have p3 : (0 : Int) ≤ (K : Int) + 3 := by omega
            have l1 : (K : Int) + 1 < (N : Int) := by omega
            have l2 : (K : Int) + 2 < (N : Int) := by omega
            have l3 : (K : Int) + 3 < (N : Int) := by omega
            have c0 := Go.IntWalk.u32_in B0 (by omega)
            have c1 := Go.IntWalk.u32_in B1 (by omega)
            have c2 := Go.IntWalk.u32_in B2 (by omega)
            have c3 := Go.IntWalk.u32_in B3 (by omega)
            clear hd aok CL2
            go_wp2_with fail
            go_still_tail 34, (by kernel_rfl)
            change wpList _ _ _ _ _ (World.drew _)
            go_wp2
            go_roundw
            case rel =>
              refine ⟨3, by omega, by go_num, ?_, hz2.far _ (by simp; omega), (hB2.setCell (p := ⟨g6, 2, none⟩) (by simp only; omega) _).drew, (hD2.setCell (p := ⟨g6, 2, none⟩) (by simp only; omega) _).drew⟩
              have e1 : absN (byI (all.drop k)) s (4 * 3) = A.wset 2 (xorW (xorW (xorW (xorW (wrd A 2) B0) (B1 * 256)) (B2 * 65536)) (B3 * 16777216)) := by
                have := NW.out
                rw [← HA2.out] at this
                rw [show 4 * 3 = 4 * 2 + 4 from rfl, this]
                obtain ⟨e0, e1, e2, e3⟩ := EZ.out
                rw [show 4 * 2 = 8 from rfl, e0, e1, e2, e3]
              rw [e1]
              refine (blk_setW hq2 (by omega) ?_).drew
              rw [← HD.out]
              first | rfl | (rw [Int.emod_eq_of_lt (by omega) (by omega), Int.emod_eq_of_lt (by omega) (by omega), Int.emod_eq_of_lt (by omega) (by omega)]; rfl)
            case measure => simp [intOf]
          · have k1 : wr.cell? ⟨g6, 3, none⟩ = some (.int .u32 A.x3) := hq2.cell (k := 3) rfl
            have f1 := hq2.frozen 3
            obtain ⟨K, hK⟩ : ∃ K, K = k + 12 := ⟨_, rfl⟩
            have hKK : (k : Int) + 12 = (K : Int) := by omega
            have hK3 : K + 3 < N := by omega
            have y0 := CL2 K (by omega)
            have y1 := CL2 (K + 1) (by omega)
            have y2 := CL2 (K + 2) (by omega)
            have y3 := CL2 (K + 3) (by omega)
            have d0 := byI_bd all K
            have d1 := byI_bd all (K + 1)
            have d2 := byI_bd all (K + 2)
            have d3 := byI_bd all (K + 3)
            have ez : ∀ j, byI (all.drop k) (12 + j) = byI all (K + j) := fun j => by rw [byI_drop, hK]; congr 1; omega
            have EZ : Hid (byI (all.drop k) 12 = byI all K ∧ byI (all.drop k) (12 + 1) = byI all (K + 1) ∧ byI (all.drop k) (12 + 2) = byI all (K + 2) ∧ byI (all.drop k) (12 + 3) = byI all (K + 3)) := hid ⟨ez 0, ez 1, ez 2, ez 3⟩
            have NW := hid (absN_word (byI (all.drop k)) s (q := 3) (by omega))
            have HA2 := hid hA
            clear ez hK hA
            generalize byI all K = B0 at *
            generalize byI all (K + 1) = B1 at *
            generalize byI all (K + 2) = B2 at *
            generalize byI all (K + 3) = B3 at *
            have hd := xor4 (aok 3) d0 d1 d2 d3
            obtain ⟨d00, d01⟩ := d0
            obtain ⟨d10, d11⟩ := d1
            obtain ⟨d20, d21⟩ := d2
            obtain ⟨d30, d31⟩ := d3
            have HD := hid hd
            have K0 : (0 : Int) ≤ (K : Int) := Int.natCast_nonneg _
            have KN : (K : Int) < (N : Int) := by omega
            have w1 := Go.IntWalk.i64_in ((K : Int) + 1) (by omega)
            have w2 := Go.IntWalk.i64_in ((K : Int) + 2) (by omega)
            have w3 := Go.IntWalk.i64_in ((K : Int) + 3) (by omega)
            have t1 : ((K : Int) + 1).toNat = K + 1 := by omega
            have t2 : ((K : Int) + 2).toNat = K + 2 := by omega
            have t3 : ((K : Int) + 3).toNat = K + 3 := by omega
            have p1 : (0 : Int) ≤ (K : Int) + 1 := by omega
            have p2 : (0 : Int) ≤ (K : Int) + 2 := by omega
            have p3 : (0 : Int) ≤ (K : Int) + 3 := by omega
            have l1 : (K : Int) + 1 < (N : Int) := by omega
            have l2 : (K : Int) + 2 < (N : Int) := by omega
            have l3 : (K : Int) + 3 < (N : Int) := by omega
            have c0 := Go.IntWalk.u32_in B0 (by omega)
            have c1 := Go.IntWalk.u32_in B1 (by omega)
            have c2 := Go.IntWalk.u32_in B2 (by omega)
            have c3 := Go.IntWalk.u32_in B3 (by omega)
            clear hd aok CL2
            go_wp2_with fail
            go_still_tail 34, (by kernel_rfl)
            change wpList _ _ _ _ _ (World.drew _)
            go_wp2
            go_roundw
            case rel =>
              refine ⟨4, by omega, by go_num, ?_, hz2.far _ (by simp; omega), (hB2.setCell (p := ⟨g6, 3, none⟩) (by simp only; omega) _).drew, (hD2.setCell (p := ⟨g6, 3, none⟩) (by simp only; omega) _).drew⟩
              have e1 : absN (byI (all.drop k)) s (4 * 4) = A.wset 3 (xorW (xorW (xorW (xorW (wrd A 3) B0) (B1 * 256)) (B2 * 65536)) (B3 * 16777216)) := by
                have := NW.out
                rw [← HA2.out] at this
                rw [show 4 * 4 = 4 * 3 + 4 from rfl, this]
                obtain ⟨e0, e1, e2, e3⟩ := EZ.out
                rw [show 4 * 3 = 12 from rfl, e0, e1, e2, e3]
              rw [e1]
              refine (blk_setW hq2 (by omega) ?_).drew
              rw [← HD.out]
              first | rfl | (rw [Int.emod_eq_of_lt (by omega) (by omega), Int.emod_eq_of_lt (by omega) (by omega), Int.emod_eq_of_lt (by omega) (by omega)]; rfl)
            case measure => simp [intOf]
        · obtain rfl : q = 4 := by omega
          have ok16 := hid (ok_absN (z := byI (all.drop k)) OKS.out 16)
          go_wp2_with (refine wpList_load_blk rfl _ (.tmp 6) rfl _ rfl _ _ _ hq2 Try.underlying25 rfl (sizeW _) ?_)
          refine (rmix_any _ ok16.out _).mono ?_
          rintro e wm ⟨rfl, bm⟩
          have qm := hq2.step bm
          have zm := hz2.step bm
          have Bm := hB2.trans (bm.mono hB2.size)
          have Dm := hD2.trans (bm.mono (by have := hq2.lt; omega))
          clear hq2 hz2 hB2 hD2 bm
          go_wp2_with (refine wpList_store_blk rfl _ (.tmp 6) _ rfl _ rfl _ rfl (arrW_one _) _ qm rfl (sizeW _) ?_; intro wn gn qn)
          have zn := zm.grown gn (fun e => by cases e; omega)
          have Bn := below_of_grown Bm gn Bm.size (by omega)
          have Dn := below_of_grown Dm gn (by have := qm.lt; omega) (Nat.le_refl _)
          have HNk : Hid (k + 16 ≤ N ∧ (k + 16) % 16 = 0) := hid (by have := HQ16.out; omega)
          clear qm zm Bm Dm gn
          go_roundw
          case rel =>
            refine ⟨k + 16, takeW (byI (all.drop k)) s, HNk.out.1, HNk.out.2, by go_num, ok_takeW OKS.out, qn, zn, Bn, Dn, hid ?_⟩
            rw [hT.out, feed_ge (by rw [List.length_drop, HNN.out]; have := HNk.out.1; omega), List.drop_drop]
          case measure => simp [intOf]; omega
    · obtain rfl : k = N := by omega
      have hTs : T = (s, []) := by rw [hT.out, List.drop_of_length_le (by rw [HNN.out]; exact Nat.le_refl _), feed_lt (by simp)]
      have HS : Hid (mixW s.one7 = sumW (initW key) b) := hid (by have := RF2.out; rw [hTs] at this; exact this)
      have ok7 := hid (ok_one7 hok)
      have c7 : wr.cell? ⟨g6, 7, none⟩ = some (.int .u32 s.x7) := hq.cell (k := 7) rfl
      have f7 := hq.frozen 7
      have q8 := hq.set 7 (.int .u32 (bits .xor .u32 s.x7 1)) (c' := arrW s.one7) (by rw [xor_fold]; rfl)
      have z8 := hz.far (a := ⟨g6, 7, none⟩) (.int .u32 (bits .xor .u32 s.x7 1)) (by simp only; omega)
      have B8 := hB.setCell (p := ⟨g6, 7, none⟩) (by simp only; omega) (.int .u32 (bits .xor .u32 s.x7 1))
      clear hTs hT RF2 hok hq hz hB hD hk16 R6 hlt
      go_wp2_with (refine wpList_load_blk rfl _ (.tmp 6) rfl _ rfl _ _ _ q8 Try.underlying25 rfl (sizeW _) ?_)
      generalize World.setCell _ _ _ = w8 at *
      refine (rmix_any _ ok7.out _).mono ?_
      rintro e w9 ⟨rfl, bM⟩
      rw [HS.out]
      obtain ⟨F, hF⟩ : ∃ F, F = sumW (initW key) b := ⟨_, rfl⟩
      have okS := hid (ok_sumW (initW_ok key) b)
      rw [← hF] at okS ⊢
      have HF := hid hF
      have q9 := q8.step bM
      have z9 := z8.step bM
      have B9 := B8.trans (bM.mono B8.size)
      clear hF q8 z8 B8 bM c7 f7
      go_wp2_with (refine wpList_store_blk rfl _ (.tmp 6) _ rfl _ rfl _ rfl (arrW_one _) _ q9 rfl (sizeW _) ?_; intro wa ga qa)
      have za := z9.grown ga (fun e => by cases e; omega)
      have Ba := below_of_grown B9 ga B9.size (by omega)
      have qb := qa.alloc (.cells #[Value.int .u8 0, .int .u8 0, .int .u8 0, .int .u8 0, .int .u8 0, .int .u8 0, .int .u8 0, .int .u8 0, .int .u8 0, .int .u8 0, .int .u8 0, .int .u8 0, .int .u8 0, .int .u8 0, .int .u8 0, .int .u8 0] 61)
      have zb := za.alloc (.cells #[Value.int .u8 0, .int .u8 0, .int .u8 0, .int .u8 0, .int .u8 0, .int .u8 0, .int .u8 0, .int .u8 0, .int .u8 0, .int .u8 0, .int .u8 0, .int .u8 0, .int .u8 0, .int .u8 0, .int .u8 0, .int .u8 0] 61)
      have n8 := Blk.new wa 61 #[Value.int .u8 0, .int .u8 0, .int .u8 0, .int .u8 0, .int .u8 0, .int .u8 0, .int .u8 0, .int .u8 0, .int .u8 0, .int .u8 0, .int .u8 0, .int .u8 0, .int .u8 0, .int .u8 0, .int .u8 0, .int .u8 0]
      have Bb := Ba.alloc Ba.size (.cells #[Value.int .u8 0, .int .u8 0, .int .u8 0, .int .u8 0, .int .u8 0, .int .u8 0, .int .u8 0, .int .u8 0, .int .u8 0, .int .u8 0, .int .u8 0, .int .u8 0, .int .u8 0, .int .u8 0, .int .u8 0, .int .u8 0] 61)
      replace n8 : Blk (wa.alloc (.cells #[Value.int .u8 0, .int .u8 0, .int .u8 0, .int .u8 0, .int .u8 0, .int .u8 0, .int .u8 0, .int .u8 0, .int .u8 0, .int .u8 0, .int .u8 0, .int .u8 0, .int .u8 0, .int .u8 0, .int .u8 0, .int .u8 0] 61)) wa.heap.size 61 (arr16 (partF F 0)) := by rw [← arr16_zero F]; exact n8
      obtain ⟨g, hg0⟩ : ∃ g, g = wa.heap.size := ⟨_, rfl⟩
      have hgl : g6 < g := by rw [hg0]; exact qa.lt
      rw [← hg0] at n8
      rw [← hg0]
      clear q9 z9 B9 ga qa za Ba hg0
      have OUT : Hid (∀ k, k < 16 → outF F k = wrd F (k / 4) / ((256 ^ (k % 4) : Nat) : Int) % 256) := hid (fun k _ => by unfold outF; rfl)
      obtain ⟨⟨x00, x01⟩, ⟨x10, x11⟩, ⟨x20, x21⟩, ⟨x30, x31⟩, -⟩ := okS.out
      generalize World.alloc _ _ = Wb at *
      go_loopw [11] (fun i wr => ∃ k : Nat, k ≤ 16 ∧ i = .int .i64 k ∧ Blk wr g6 25 (arrW F) ∧ Blk wr w.heap.size 61 #[Value.int .u8 0, .int .u8 0, .int .u8 0, .int .u8 0, .int .u8 0, .int .u8 0, .int .u8 0, .int .u8 0, .int .u8 0, .int .u8 0, .int .u8 0, .int .u8 0, .int .u8 0, .int .u8 0, .int .u8 0, .int .u8 0] ∧ Blk wr g 61 (arr16 (partF F k)) ∧ Below w.heap.size w wr) (fun i _ => 16 - (intOf i).toNat)
      case atStart => exact ⟨0, by omega, rfl, qb, zb, n8, Bb⟩
      case round =>
        obtain ⟨k, hk, rfl, hq, hz, hg, hB⟩ := hrel
        clear qb zb n8 Bb
        by_cases hlt : k < 16
        · have hkk : k = 0 ∨ k = 1 ∨ k = 2 ∨ k = 3 ∨ k = 4 ∨ k = 5 ∨ k = 6 ∨ k = 7 ∨ k = 8 ∨ k = 9 ∨ k = 10 ∨ k = 11 ∨ k = 12 ∨ k = 13 ∨ k = 14 ∨ k = 15 := by omega
          clear hlt hk
          rcases hkk with rfl | rfl | rfl | rfl | rfl | rfl | rfl | rfl | rfl | rfl | rfl | rfl | rfl | rfl | rfl | rfl
          · have k1 : wr.cell? ⟨g6, 0, none⟩ = some (.int .u32 F.x0) := hq.cell (k := 0) rfl
            have k2 : wr.cell? ⟨g, 0, none⟩ = some (.int .u8 0) := hg.cell (k := 0) rfl
            have f1 := hg.frozen 0
            go_wp2
            go_roundw
            case rel => exact ⟨1, by omega, by go_num, hq.far _ (by simp; omega), hz.far _ (by simp; omega), blk_set16 hg (by omega) (by rw [OUT.out 0 (by omega)]; simp [wrd] <;> omega), hB.setCell (by simp; omega) _⟩
            case measure => simp [intOf]
          · have k1 : wr.cell? ⟨g6, 0, none⟩ = some (.int .u32 F.x0) := hq.cell (k := 0) rfl
            have k2 : wr.cell? ⟨g, 1, none⟩ = some (.int .u8 0) := hg.cell (k := 1) rfl
            have f1 := hg.frozen 1
            go_wp2
            go_roundw
            case rel => exact ⟨2, by omega, by go_num, hq.far _ (by simp; omega), hz.far _ (by simp; omega), blk_set16 hg (by omega) (by rw [OUT.out 1 (by omega)]; simp [wrd] <;> omega), hB.setCell (by simp; omega) _⟩
            case measure => simp [intOf]
          · have k1 : wr.cell? ⟨g6, 0, none⟩ = some (.int .u32 F.x0) := hq.cell (k := 0) rfl
            have k2 : wr.cell? ⟨g, 2, none⟩ = some (.int .u8 0) := hg.cell (k := 2) rfl
            have f1 := hg.frozen 2
            go_wp2
            go_roundw
            case rel => exact ⟨3, by omega, by go_num, hq.far _ (by simp; omega), hz.far _ (by simp; omega), blk_set16 hg (by omega) (by rw [OUT.out 2 (by omega)]; simp [wrd] <;> omega), hB.setCell (by simp; omega) _⟩
            case measure => simp [intOf]
          · have k1 : wr.cell? ⟨g6, 0, none⟩ = some (.int .u32 F.x0) := hq.cell (k := 0) rfl
            have k2 : wr.cell? ⟨g, 3, none⟩ = some (.int .u8 0) := hg.cell (k := 3) rfl
            have f1 := hg.frozen 3
            go_wp2
            go_roundw
            case rel => exact ⟨4, by omega, by go_num, hq.far _ (by simp; omega), hz.far _ (by simp; omega), blk_set16 hg (by omega) (by rw [OUT.out 3 (by omega)]; simp [wrd] <;> omega), hB.setCell (by simp; omega) _⟩
            case measure => simp [intOf]
          · have k1 : wr.cell? ⟨g6, 1, none⟩ = some (.int .u32 F.x1) := hq.cell (k := 1) rfl
            have k2 : wr.cell? ⟨g, 4, none⟩ = some (.int .u8 0) := hg.cell (k := 4) rfl
            have f1 := hg.frozen 4
            go_wp2
            go_roundw
            case rel => exact ⟨5, by omega, by go_num, hq.far _ (by simp; omega), hz.far _ (by simp; omega), blk_set16 hg (by omega) (by rw [OUT.out 4 (by omega)]; simp [wrd] <;> omega), hB.setCell (by simp; omega) _⟩
            case measure => simp [intOf]
          · have k1 : wr.cell? ⟨g6, 1, none⟩ = some (.int .u32 F.x1) := hq.cell (k := 1) rfl
            have k2 : wr.cell? ⟨g, 5, none⟩ = some (.int .u8 0) := hg.cell (k := 5) rfl
            have f1 := hg.frozen 5
            go_wp2
            go_roundw
            case rel => exact ⟨6, by omega, by go_num, hq.far _ (by simp; omega), hz.far _ (by simp; omega), blk_set16 hg (by omega) (by rw [OUT.out 5 (by omega)]; simp [wrd] <;> omega), hB.setCell (by simp; omega) _⟩
            case measure => simp [intOf]
          · have k1 : wr.cell? ⟨g6, 1, none⟩ = some (.int .u32 F.x1) := hq.cell (k := 1) rfl
            have k2 : wr.cell? ⟨g, 6, none⟩ = some (.int .u8 0) := hg.cell (k := 6) rfl
            have f1 := hg.frozen 6
            go_wp2
            go_roundw
            case rel => exact ⟨7, by omega, by go_num, hq.far _ (by simp; omega), hz.far _ (by simp; omega), blk_set16 hg (by omega) (by rw [OUT.out 6 (by omega)]; simp [wrd] <;> omega), hB.setCell (by simp; omega) _⟩
            case measure => simp [intOf]
          · have k1 : wr.cell? ⟨g6, 1, none⟩ = some (.int .u32 F.x1) := hq.cell (k := 1) rfl
            have k2 : wr.cell? ⟨g, 7, none⟩ = some (.int .u8 0) := hg.cell (k := 7) rfl
            have f1 := hg.frozen 7
            go_wp2
            go_roundw
            case rel => exact ⟨8, by omega, by go_num, hq.far _ (by simp; omega), hz.far _ (by simp; omega), blk_set16 hg (by omega) (by rw [OUT.out 7 (by omega)]; simp [wrd] <;> omega), hB.setCell (by simp; omega) _⟩
            case measure => simp [intOf]
          · have k1 : wr.cell? ⟨g6, 2, none⟩ = some (.int .u32 F.x2) := hq.cell (k := 2) rfl
            have k2 : wr.cell? ⟨g, 8, none⟩ = some (.int .u8 0) := hg.cell (k := 8) rfl
            have f1 := hg.frozen 8
            go_wp2
            go_roundw
            case rel => exact ⟨9, by omega, by go_num, hq.far _ (by simp; omega), hz.far _ (by simp; omega), blk_set16 hg (by omega) (by rw [OUT.out 8 (by omega)]; simp [wrd] <;> omega), hB.setCell (by simp; omega) _⟩
            case measure => simp [intOf]
          · have k1 : wr.cell? ⟨g6, 2, none⟩ = some (.int .u32 F.x2) := hq.cell (k := 2) rfl
            have k2 : wr.cell? ⟨g, 9, none⟩ = some (.int .u8 0) := hg.cell (k := 9) rfl
            have f1 := hg.frozen 9
            go_wp2
            go_roundw
            case rel => exact ⟨10, by omega, by go_num, hq.far _ (by simp; omega), hz.far _ (by simp; omega), blk_set16 hg (by omega) (by rw [OUT.out 9 (by omega)]; simp [wrd] <;> omega), hB.setCell (by simp; omega) _⟩
            case measure => simp [intOf]
          · have k1 : wr.cell? ⟨g6, 2, none⟩ = some (.int .u32 F.x2) := hq.cell (k := 2) rfl
            have k2 : wr.cell? ⟨g, 10, none⟩ = some (.int .u8 0) := hg.cell (k := 10) rfl
            have f1 := hg.frozen 10
            go_wp2
            go_roundw
            case rel => exact ⟨11, by omega, by go_num, hq.far _ (by simp; omega), hz.far _ (by simp; omega), blk_set16 hg (by omega) (by rw [OUT.out 10 (by omega)]; simp [wrd] <;> omega), hB.setCell (by simp; omega) _⟩
            case measure => simp [intOf]
          · have k1 : wr.cell? ⟨g6, 2, none⟩ = some (.int .u32 F.x2) := hq.cell (k := 2) rfl
            have k2 : wr.cell? ⟨g, 11, none⟩ = some (.int .u8 0) := hg.cell (k := 11) rfl
            have f1 := hg.frozen 11
            go_wp2
            go_roundw
            case rel => exact ⟨12, by omega, by go_num, hq.far _ (by simp; omega), hz.far _ (by simp; omega), blk_set16 hg (by omega) (by rw [OUT.out 11 (by omega)]; simp [wrd] <;> omega), hB.setCell (by simp; omega) _⟩
            case measure => simp [intOf]
          · have k1 : wr.cell? ⟨g6, 3, none⟩ = some (.int .u32 F.x3) := hq.cell (k := 3) rfl
            have k2 : wr.cell? ⟨g, 12, none⟩ = some (.int .u8 0) := hg.cell (k := 12) rfl
            have f1 := hg.frozen 12
            go_wp2
            go_roundw
            case rel => exact ⟨13, by omega, by go_num, hq.far _ (by simp; omega), hz.far _ (by simp; omega), blk_set16 hg (by omega) (by rw [OUT.out 12 (by omega)]; simp [wrd] <;> omega), hB.setCell (by simp; omega) _⟩
            case measure => simp [intOf]
          · have k1 : wr.cell? ⟨g6, 3, none⟩ = some (.int .u32 F.x3) := hq.cell (k := 3) rfl
            have k2 : wr.cell? ⟨g, 13, none⟩ = some (.int .u8 0) := hg.cell (k := 13) rfl
            have f1 := hg.frozen 13
            go_wp2
            go_roundw
            case rel => exact ⟨14, by omega, by go_num, hq.far _ (by simp; omega), hz.far _ (by simp; omega), blk_set16 hg (by omega) (by rw [OUT.out 13 (by omega)]; simp [wrd] <;> omega), hB.setCell (by simp; omega) _⟩
            case measure => simp [intOf]
          · have k1 : wr.cell? ⟨g6, 3, none⟩ = some (.int .u32 F.x3) := hq.cell (k := 3) rfl
            have k2 : wr.cell? ⟨g, 14, none⟩ = some (.int .u8 0) := hg.cell (k := 14) rfl
            have f1 := hg.frozen 14
            go_wp2
            go_roundw
            case rel => exact ⟨15, by omega, by go_num, hq.far _ (by simp; omega), hz.far _ (by simp; omega), blk_set16 hg (by omega) (by rw [OUT.out 14 (by omega)]; simp [wrd] <;> omega), hB.setCell (by simp; omega) _⟩
            case measure => simp [intOf]
          · have k1 : wr.cell? ⟨g6, 3, none⟩ = some (.int .u32 F.x3) := hq.cell (k := 3) rfl
            have k2 : wr.cell? ⟨g, 15, none⟩ = some (.int .u8 0) := hg.cell (k := 15) rfl
            have f1 := hg.frozen 15
            go_wp2
            go_roundw
            case rel => exact ⟨16, by omega, by go_num, hq.far _ (by simp; omega), hz.far _ (by simp; omega), blk_set16 hg (by omega) (by rw [OUT.out 15 (by omega)]; simp [wrd] <;> omega), hB.setCell (by simp; omega) _⟩
            case measure => simp [intOf]
        · obtain rfl : k = 16 := by omega
          rw [arr16_full] at hg
          go_wp2_with (first | (refine wpList_load_blk rfl _ (.tmp 10) rfl _ rfl _ _ _ hg Try.underlying61 rfl size35 ?_) | (refine wpList_store_blk rfl _ (.tmp 4) _ rfl _ rfl _ rfl (arr16_one _) _ hz rfl size35 ?_; intro v gv mv))
          exact bodyPost_ret (results_blk rfl rfl mv Try.underlying61 rfl size35) rfl ⟨by rw [HF.out], below_of_grown hB gv hB.size (by omega)⟩
end Go.Proofs.Ytgccbfkofkohpaa
