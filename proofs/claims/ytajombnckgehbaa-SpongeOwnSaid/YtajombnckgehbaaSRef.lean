/- sentinelref3: Eight, padded, Parts, Bytes: contracts. -/
import Derived.Test.YtajombnckgehbaaSMac
namespace Go.Proofs.Ytajombnckgehbaa
set_option linter.unusedVariables false
set_option linter.unusedSimpArgs false
open Go.ChangeShapes Go.WideShapes Go.ChangeAt Go.RowKit Go.Shelf

theorem eightL_take {n k : Nat} (hk : k < 8) : (eightL n).take (k + 1) = (eightL n).take k ++ [UInt8.ofNat (byt (n : Int) k).toNat] := by
  have h : k < (eightL n).length := by rw [eightL_len]; exact hk
  rw [List.take_succ_eq_append_getElem h]
  congr 2
  simp [eightL]
theorem byt_val (n : Int) (k : Nat) : (((UInt8.ofNat (byt n k).toNat).toNat : Nat) : Int) = byt n k := by
  have := byt_bd n k
  have e : (UInt8.ofNat (byt n k).toNat).toNat = (byt n k).toNat := by simp; omega
  rw [e, Int.toNat_of_nonneg this.1]
theorem step_app3 {B : Nat} {w w' : World} {o : Obj} (h : Below B (w.alloc o) w') (hB : B ≤ w.heap.size) : Below B w w' := ((Below.refl B w).alloc hB o).trans h
set_option maxHeartbeats 4000000 in
set_option maxRecDepth 100000 in
theorem reight_any (n : Nat) (hn : (n : Int) < 9223372036854775808) (w : World) :
    Calls Try.prog 33 #[.int .i64 (n : Int)] w fun e w' => ∃ v, e = .returned v ∧ Byt w' w.heap.size v (eightL n) ∧ Below w.heap.size w w' := by
  have ET := hid (fun k hk => @eightL_take n k hk)
  have BV := hid (fun k => byt_val (n : Int) k)
  have EL := hid (eightL_len n)
  have hn0 : (0 : Int) ≤ (n : Int) := Int.natCast_nonneg _
  obtain ⟨I, hI⟩ : ∃ I : Int, I = (n : Int) := ⟨_, rfl⟩
  rw [← hI] at hn hn0 BV ⊢
  go_enter Try.func33, Try.ntmps33
  go_wp2
  have HI := hid hI
  clear hI
  go_loopw [3, 4] (fun v i wr => ∃ k : Nat, k ≤ 8 ∧ i = .int .i64 k ∧ Byt wr w.heap.size v ((eightL n).take k) ∧ Below w.heap.size w wr) (fun _ i _ => 8 - (intOf i).toNat)
  case atStart => exact ⟨0, by omega, rfl, Byt.nil _ _, Below.refl _ _⟩
  case round =>
    obtain ⟨k, hk, rfl, hv, hB⟩ := hrel
    by_cases hlt : k < 8
    · have et := ET.out k hlt
      have bvk := BV.out k
      have hle : ((eightL n).take k).length ≤ 8 := by rw [List.length_take, EL.out]; omega
      have hkk : k = 0 ∨ k = 1 ∨ k = 2 ∨ k = 3 ∨ k = 4 ∨ k = 5 ∨ k = 6 ∨ k = 7 := by omega
      obtain ⟨x, hx⟩ : ∃ x, x = UInt8.ofNat (byt I k).toNat := ⟨_, rfl⟩
      rw [← HI.out, ← hx] at et
      rw [← hx] at bvk
      clear hx hlt hk ET
      rcases hkk with rfl | rfl | rfl | rfl | rfl | rfl | rfl | rfl
      · have hV : byt I 0 = I / 72057594037927936 := by unfold byt; simp; omega
        rw [hV] at bvk
        have hrd : Rd (wr.alloc (.cells #[Value.int .u8 (I / 72057594037927936)] 5)) (some ⟨wr.heap.size, 0, none⟩) [x] := by
          have := rd_one x wr
          rw [bvk] at this
          exact this
        have hz := hB.size
        clear hV bvk BV
        go_wp2_with (refine wpList_append_bytes rfl (.tmp 9) (.tmp 17) rfl w.heap.size _ _ [x] rfl (hv.alloc _) _ 1 1 rfl rfl (fun h => by cases h) hrd (by simp <;> omega) (by simp; omega) ?_; intro v' w' h1 h2 h3)
        go_roundw
        case rel => exact ⟨1, by omega, by go_num, by rw [et]; exact h1, hB.trans (step_app3 h2 hz)⟩
        case measure => simp [intOf]
      · have hV : byt I 1 = I / 281474976710656 % 256 := by unfold byt; simp
        rw [hV] at bvk
        have hrd : Rd (wr.alloc (.cells #[Value.int .u8 (I / 281474976710656 % 256)] 5)) (some ⟨wr.heap.size, 0, none⟩) [x] := by
          have := rd_one x wr
          rw [bvk] at this
          exact this
        have hz := hB.size
        clear hV bvk BV
        go_wp2_with (refine wpList_append_bytes rfl (.tmp 9) (.tmp 17) rfl w.heap.size _ _ [x] rfl (hv.alloc _) _ 1 1 rfl rfl (fun h => by cases h) hrd (by simp <;> omega) (by simp; omega) ?_; intro v' w' h1 h2 h3)
        go_roundw
        case rel => exact ⟨2, by omega, by go_num, by rw [et]; exact h1, hB.trans (step_app3 h2 hz)⟩
        case measure => simp [intOf]
      · have hV : byt I 2 = I / 1099511627776 % 256 := by unfold byt; simp
        rw [hV] at bvk
        have hrd : Rd (wr.alloc (.cells #[Value.int .u8 (I / 1099511627776 % 256)] 5)) (some ⟨wr.heap.size, 0, none⟩) [x] := by
          have := rd_one x wr
          rw [bvk] at this
          exact this
        have hz := hB.size
        clear hV bvk BV
        go_wp2_with (refine wpList_append_bytes rfl (.tmp 9) (.tmp 17) rfl w.heap.size _ _ [x] rfl (hv.alloc _) _ 1 1 rfl rfl (fun h => by cases h) hrd (by simp <;> omega) (by simp; omega) ?_; intro v' w' h1 h2 h3)
        go_roundw
        case rel => exact ⟨3, by omega, by go_num, by rw [et]; exact h1, hB.trans (step_app3 h2 hz)⟩
        case measure => simp [intOf]
      · have hV : byt I 3 = I / 4294967296 % 256 := by unfold byt; simp
        rw [hV] at bvk
        have hrd : Rd (wr.alloc (.cells #[Value.int .u8 (I / 4294967296 % 256)] 5)) (some ⟨wr.heap.size, 0, none⟩) [x] := by
          have := rd_one x wr
          rw [bvk] at this
          exact this
        have hz := hB.size
        clear hV bvk BV
        go_wp2_with (refine wpList_append_bytes rfl (.tmp 9) (.tmp 17) rfl w.heap.size _ _ [x] rfl (hv.alloc _) _ 1 1 rfl rfl (fun h => by cases h) hrd (by simp <;> omega) (by simp; omega) ?_; intro v' w' h1 h2 h3)
        go_roundw
        case rel => exact ⟨4, by omega, by go_num, by rw [et]; exact h1, hB.trans (step_app3 h2 hz)⟩
        case measure => simp [intOf]
      · have hV : byt I 4 = I / 16777216 % 256 := by unfold byt; simp
        rw [hV] at bvk
        have hrd : Rd (wr.alloc (.cells #[Value.int .u8 (I / 16777216 % 256)] 5)) (some ⟨wr.heap.size, 0, none⟩) [x] := by
          have := rd_one x wr
          rw [bvk] at this
          exact this
        have hz := hB.size
        clear hV bvk BV
        go_wp2_with (refine wpList_append_bytes rfl (.tmp 9) (.tmp 17) rfl w.heap.size _ _ [x] rfl (hv.alloc _) _ 1 1 rfl rfl (fun h => by cases h) hrd (by simp <;> omega) (by simp; omega) ?_; intro v' w' h1 h2 h3)
        go_roundw
        case rel => exact ⟨5, by omega, by go_num, by rw [et]; exact h1, hB.trans (step_app3 h2 hz)⟩
        case measure => simp [intOf]
      · have hV : byt I 5 = I / 65536 % 256 := by unfold byt; simp
        rw [hV] at bvk
        have hrd : Rd (wr.alloc (.cells #[Value.int .u8 (I / 65536 % 256)] 5)) (some ⟨wr.heap.size, 0, none⟩) [x] := by
          have := rd_one x wr
          rw [bvk] at this
          exact this
        have hz := hB.size
        clear hV bvk BV
        go_wp2_with (refine wpList_append_bytes rfl (.tmp 9) (.tmp 17) rfl w.heap.size _ _ [x] rfl (hv.alloc _) _ 1 1 rfl rfl (fun h => by cases h) hrd (by simp <;> omega) (by simp; omega) ?_; intro v' w' h1 h2 h3)
        go_roundw
        case rel => exact ⟨6, by omega, by go_num, by rw [et]; exact h1, hB.trans (step_app3 h2 hz)⟩
        case measure => simp [intOf]
      · have hV : byt I 6 = I / 256 % 256 := by unfold byt; simp
        rw [hV] at bvk
        have hrd : Rd (wr.alloc (.cells #[Value.int .u8 (I / 256 % 256)] 5)) (some ⟨wr.heap.size, 0, none⟩) [x] := by
          have := rd_one x wr
          rw [bvk] at this
          exact this
        have hz := hB.size
        clear hV bvk BV
        go_wp2_with (refine wpList_append_bytes rfl (.tmp 9) (.tmp 17) rfl w.heap.size _ _ [x] rfl (hv.alloc _) _ 1 1 rfl rfl (fun h => by cases h) hrd (by simp <;> omega) (by simp; omega) ?_; intro v' w' h1 h2 h3)
        go_roundw
        case rel => exact ⟨7, by omega, by go_num, by rw [et]; exact h1, hB.trans (step_app3 h2 hz)⟩
        case measure => simp [intOf]
      · have hV : byt I 7 = I % 256 := by unfold byt; simp
        rw [hV] at bvk
        have hrd : Rd (wr.alloc (.cells #[Value.int .u8 (I % 256)] 5)) (some ⟨wr.heap.size, 0, none⟩) [x] := by
          have := rd_one x wr
          rw [bvk] at this
          exact this
        have hz := hB.size
        clear hV bvk BV
        go_wp2_with (refine wpList_append_bytes rfl (.tmp 9) (.tmp 17) rfl w.heap.size _ _ [x] rfl (hv.alloc _) _ 1 1 rfl rfl (fun h => by cases h) hrd (by simp <;> omega) (by simp; omega) ?_; intro v' w' h1 h2 h3)
        go_roundw
        case rel => exact ⟨8, by omega, by go_num, by rw [et]; exact h1, hB.trans (step_app3 h2 hz)⟩
        case measure => simp [intOf]
    · obtain rfl : k = 8 := by omega
      have hv' : Byt wr w.heap.size u3 (eightL n) := by rw [List.take_of_length_le (Nat.le_of_eq EL.out)] at hv; exact hv
      go_wp2
      go_ret
      exact ⟨_, rfl, hv', hB⟩

theorem byt_empty (w : World) : Byt (w.alloc (.cells #[] 5)) w.heap.size (.slice (some ⟨w.heap.size, 0, none⟩) 0 0) [] :=
  ⟨rfl, .inr ⟨w.heap.size, 0, #[], rfl, Nat.le_refl _, heap_alloc_new w _, Nat.le_refl _, by unfold maxLen; omega, rfl, rfl⟩⟩
set_option maxHeartbeats 4000000 in
set_option maxRecDepth 100000 in
theorem padded_any (A : Option Addr) (l : List UInt8) (n c : Nat) (hn : l.length = n) (hA : A = none → c = 0) (hle : n ≤ 100000) (w : World) (hR : Rd w A l) :
    Calls Try.prog 42 #[.slice A n c] w fun e w' => ∃ v, e = .returned v ∧ Byt w' w.heap.size v (pad16 l) ∧ Below w.heap.size w w' := by
  have he := byt_empty w
  have hr := hR.step (step_alloc w (.cells #[] 5))
  have HN := hid hn
  go_enter Try.func42, Try.ntmps42
  go_wp2_with (refine wpList_append_bytes rfl (.tmp 4) (.tmp 5) rfl w.heap.size _ _ l rfl he A n c rfl hn hA hr (by rw [hn]; simp; omega) (by simp) ?_; intro v1 w1 h1 h2 h3)
  have B1 : Below w.heap.size w w1 := step_app3 h2 (Nat.le_refl _)
  rw [List.nil_append] at h1
  clear he hr hn h2 h3
  obtain ⟨m, hm⟩ : ∃ m, m = (16 - l.length % 16) % 16 := ⟨_, rfl⟩
  have HM := hid hm
  clear hm
  go_loopw [3] (fun v wr => ∃ k : Nat, k ≤ m ∧ Byt wr w.heap.size v (l ++ List.replicate k 0) ∧ Below w.heap.size w wr) (fun v _ => 100016 + 100 - (match v with | .slice _ n _ => n | _ => 0))
  case atStart => exact ⟨0, by omega, by simpa using h1, B1⟩
  case round =>
    obtain ⟨k, hk, hv, hB⟩ := hrel
    clear h1 B1
    obtain ⟨A', c', rfl, hc1, hc2, hR', hl'⟩ := hv.slice
    have hlen : (l ++ List.replicate k (0 : UInt8)).length = n + k := by rw [List.length_append, List.length_replicate, HN.out]
    rw [hlen] at hc1 hv
    rw [hlen]
    have hz := hB.size
    have hm2 : (n + m) % 16 = 0 ∧ m < 16 := by have := HM.out; have := HN.out; omega
    unfold maxLen at hc2
    have hcn : c' ≤ 9223372036854775807 := by omega
    by_cases hlt : k < m
    · have hmod : decide ((0 : Int) < ((n : Int) + (k : Int)) % 16) = true := by rw [decide_eq_true_iff]; omega
      have hrd := rd_one 0 wr
      go_wp2_with (refine wpList_append_bytes rfl (.tmp 11) (.tmp 12) rfl w.heap.size _ _ [0] rfl (hv.alloc _) _ 1 1 rfl rfl (fun h => by cases h) hrd (by rw [hlen]; simp; omega) (by simp; omega) ?_; intro v' w' h1 h2 h3)
      have e1 : l ++ List.replicate k (0 : UInt8) ++ [0] = l ++ List.replicate (k + 1) 0 := by rw [List.append_assoc, List.replicate_succ']
      have hlen2 : (l ++ List.replicate (k + 1) (0 : UInt8)).length = n + k + 1 := by rw [List.length_append, List.length_replicate, HN.out]; omega
      rw [e1] at h1
      obtain ⟨A2, c2, rfl, hc3, hc4, R2, hl2⟩ := h1.slice
      rw [hlen2] at h1
      rw [hlen2]
      have hB2 := hB.trans (step_app3 h2 hz)
      clear hc3 hc4 R2 hl2 h2 h3 hmod hlen hlen2 e1
      go_roundw
      case rel => exact ⟨k + 1, by omega, h1, hB2⟩
      case measure => simp; omega
    · obtain rfl : k = m := by omega
      have hmod : decide ((0 : Int) < ((n : Int) + (k : Int)) % 16) = false := by rw [decide_eq_false_iff_not]; omega
      go_wp2
      go_ret
      refine ⟨_, rfl, ?_, hB⟩
      have e : pad16 l = l ++ List.replicate k 0 := by unfold pad16; rw [← HM.out]
      rw [e]; exact hv

theorem wpList_append_byt {ops : Array Oper} {rest : List Oper} {o : Oper} {a : Act} {w : World} {Q : Exit → Act → World → Prop} (hgd : o.guard = none) (s x : Operand)
    (ho : o.op = .call { callee := .builtin .append, args := #[s, x], argTypes := #[29, 29] })
    (base base2 : Nat) (v u : Value) (l r : List UInt8) (hs : a.eval s = v) (hown : Byt w base v l) (hx : a.eval x = u) (hu : Byt w base2 u r)
    (hle : l.length + r.length ≤ 1000000) (hbase : base ≤ w.heap.size)
    (h : ∀ v' w', Byt w' base v' (l ++ r) → Below base w w' → w.grownBy w' v.ownBlock → wpList Try.prog ops Q rest (a.put o.dst v') w') : wpList Try.prog ops Q (o :: rest) a w := by
  obtain ⟨A, c, rfl, h1, h2, hR, h3⟩ := hu.slice
  have hc : A = none → c = 0 := by
    rintro rfl
    rcases hu.2 with ⟨e, _⟩ | ⟨g, cap, cur, e, _⟩
    · injection e with e1 e2 e3
    · injection e with e1 e2 e3; cases e1
  exact wpList_append_bytes hgd s x ho base v l r hs hown A r.length c hx rfl hc hR hle hbase h
end Go.Proofs.Ytajombnckgehbaa
