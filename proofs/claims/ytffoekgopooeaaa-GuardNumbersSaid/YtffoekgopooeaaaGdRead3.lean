/- guard and the reference: names, numbers of any bytes. -/
import Derived.Test.YtffoekgopooeaaaGdEq
namespace Go.Proofs.Ytffoekgopooeaaa
set_option linter.unusedVariables false
set_option linter.unusedSimpArgs false
open Go.ChangeShapes Go.WideShapes Go.ChangeAt Go.RowKit Go.Shelf
/-- Is this byte one of a name? -/
def NmB (s : ByteArray) (k : Nat) : Prop := ∃ h : k < s.size, 33 ≤ ((s[k]'h).toNat : Int) ∧ ((s[k]'h).toNat : Int) ≤ 126
set_option maxRecDepth 100000 in
set_option maxHeartbeats 4000000 in
theorem isname_no (s : ByteArray) (hs : s.size ≤ 1000) (hn : ¬ NameOk s) (w : World) :
    Calls Try.prog 55 #[.string s] w fun e w' => e = .returned (.bool false) ∧ Below w.heap.size w w' := by
  by_cases h0 : s.size = 0
  · have d1 : ((s.size : Int) == 0) = true := beq_iff_eq.2 (by omega)
    have hn := hid hn
    go_enter Try.func55, Try.ntmps55
    go_wp2
    go_ret
    exact ⟨rfl, Below.refl _ _⟩
  have d1 : ((s.size : Int) == 0) = false := beq_eq_false_iff_ne.2 (by omega)
  by_cases h16 : 16 < s.size
  · have d2 : (16 : Int) < (s.size : Int) := by omega
    have hn := hid hn
    have h0 := hid h0
    go_enter Try.func55, Try.ntmps55
    go_wp2
    go_ret
    exact ⟨rfl, Below.refl _ _⟩
  have d2 : ¬ (16 : Int) < (s.size : Int) := by omega
  have H3 : Hid (∃ k, k < s.size ∧ ¬ NmB s k) := hid (by
    refine Classical.byContradiction fun h => hn ⟨by omega, by omega, fun i hi => ?_⟩
    have : NmB s i := Classical.byContradiction fun h2 => h ⟨i, hi, h2⟩
    exact this.2)
  have h0 := hid h0
  clear hn
  go_enter Try.func55, Try.ntmps55
  go_wp2
  go_loopw [14] (fun i wr => ∃ k : Nat, k ≤ s.size ∧ i = .int .i64 (k : Int) ∧ Hid (∀ j, j < k → NmB s j) ∧ ∃ d, wr = w.drewN d) (fun i _ => 20 - (intOf i).toNat)
  case atStart => exact ⟨0, by omega, rfl, hid (fun j hj => by omega), 0, rfl⟩
  case round =>
    obtain ⟨k, hk, rfl, HJ, d, rfl⟩ := hrel
    by_cases hlt : k < s.size
    · have q3 : (s[k]'hlt).toNat < 256 := (s[k]'hlt).toNat_lt
      by_cases hok : NmB s k
      · obtain ⟨_, q1, q2⟩ := id hok
        have HK := hid hok
        clear hok
        go_wp2
        go_roundw
        case rel => exact ⟨k + 1, by omega, by go_num, hid (fun j hj => by rcases Nat.lt_succ_iff_lt_or_eq.1 hj with h | rfl; exact HJ.out j h; exact HK.out), _, rfl⟩
        case measure => simp [intOf]; omega
      · have hc : ((s[k]'hlt).toNat : Int) < 33 ∨ (33 ≤ ((s[k]'hlt).toNat : Int) ∧ 126 < ((s[k]'hlt).toNat : Int)) := by
          have : ¬ (33 ≤ ((s[k]'hlt).toNat : Int) ∧ ((s[k]'hlt).toNat : Int) ≤ 126) := fun h => hok ⟨hlt, h⟩
          omega
        clear hok
        rcases hc with q1 | ⟨q1, q2⟩
        all_goals
          go_wp2
          go_ret
          exact ⟨rfl, below_drewN (Below.refl _ _) _⟩
    · exfalso
      obtain ⟨i, hi, h⟩ := H3.out
      exact h (HJ.out i (by omega))
set_option maxRecDepth 100000 in
set_option maxHeartbeats 4000000 in
theorem rname_ok (s : ByteArray) (hs : NameOk s) (w : World) :
    Calls Try.prog 34 #[.string s] w fun e w' => e = .returned (.bool true) ∧ Below w.heap.size w w' := by
  obtain ⟨h1, h2, h3⟩ := hs
  have H3 := hid h3
  clear h3
  go_enter Try.func34, Try.ntmps34
  go_wp2
  go_loopw [3] (fun i wr => ∃ k : Nat, k ≤ s.size ∧ i = .int .i64 (k : Int) ∧ ∃ d, wr = w.drewN d) (fun i _ => 20 - (intOf i).toNat)
  case atStart => exact ⟨0, by omega, rfl, 0, rfl⟩
  case round =>
    obtain ⟨k, hk, rfl, d, rfl⟩ := hrel
    by_cases hlt : k < s.size
    · obtain ⟨q1, q2⟩ := H3.out k hlt
      have q3 : (s[k]'hlt).toNat < 256 := (s[k]'hlt).toNat_lt
      go_wp2
      go_roundw
      case rel => exact ⟨k + 1, by omega, by go_num, _, rfl⟩
      case measure => simp [intOf]; omega
    · obtain rfl : k = s.size := by omega
      have d0 : (0 : Int) < (s.size : Int) := by omega
      have d2 : (s.size : Int) ≤ (16 : Int) := by omega
      go_wp2
      go_ret
      exact ⟨rfl, below_drewN (Below.refl _ _) _⟩
set_option maxRecDepth 100000 in
set_option maxHeartbeats 4000000 in
theorem rname_no (s : ByteArray) (hs : s.size ≤ 1000) (hn : ¬ NameOk s) (w : World) :
    Calls Try.prog 34 #[.string s] w fun e w' => e = .returned (.bool false) ∧ Below w.heap.size w w' := by
  have hn := hid hn
  go_enter Try.func34, Try.ntmps34
  go_wp2
  go_loopw [3] (fun i wr => ∃ k : Nat, k ≤ s.size ∧ i = .int .i64 (k : Int) ∧ Hid (∀ j, j < k → NmB s j) ∧ ∃ d, wr = w.drewN d) (fun i _ => 1001 - (intOf i).toNat)
  case atStart => exact ⟨0, by omega, rfl, hid (fun j hj => by omega), 0, rfl⟩
  case round =>
    obtain ⟨k, hk, rfl, HJ, d, rfl⟩ := hrel
    by_cases hlt : k < s.size
    · have q3 : (s[k]'hlt).toNat < 256 := (s[k]'hlt).toNat_lt
      by_cases hok : NmB s k
      · obtain ⟨_, q1, q2⟩ := id hok
        have HK := hid hok
        clear hok
        go_wp2
        go_roundw
        case rel => exact ⟨k + 1, by omega, by go_num, hid (fun j hj => by rcases Nat.lt_succ_iff_lt_or_eq.1 hj with h | rfl; exact HJ.out j h; exact HK.out), _, rfl⟩
        case measure => simp [intOf]; omega
      · have hc : ((s[k]'hlt).toNat : Int) < 33 ∨ (33 ≤ ((s[k]'hlt).toNat : Int) ∧ 126 < ((s[k]'hlt).toNat : Int)) := by
          have : ¬ (33 ≤ ((s[k]'hlt).toNat : Int) ∧ ((s[k]'hlt).toNat : Int) ≤ 126) := fun h => hok ⟨hlt, h⟩
          omega
        clear hok
        rcases hc with q1 | ⟨q1, q2⟩
        all_goals
          go_wp2
          go_ret
          exact ⟨rfl, below_drewN (Below.refl _ _) _⟩
    · obtain rfl : k = s.size := by omega
      have hc : s.size = 0 ∨ (0 < s.size ∧ 16 < s.size) := by
        rcases Nat.eq_zero_or_pos s.size with h | h
        · exact .inl h
        · refine .inr ⟨h, Nat.lt_of_not_le fun h2 => hn.out ⟨h, h2, fun i hi => (HJ.out i hi).2⟩⟩
      rcases hc with h0 | ⟨h0, h1⟩
      · have d0 : ¬ (0 : Int) < (s.size : Int) := by omega
        go_wp2
        go_ret
        exact ⟨rfl, below_drewN (Below.refl _ _) _⟩
      · have d0 : (0 : Int) < (s.size : Int) := by omega
        have d2 : ¬ (s.size : Int) ≤ (16 : Int) := by omega
        go_wp2
        go_ret
        exact ⟨rfl, below_drewN (Below.refl _ _) _⟩
theorem eight_of (c : List UInt8) (hc : c.length = 8) (h0 : ∀ x, c[0]? = some x → (x.toNat : Int) ≤ 127) : ∃ m : Nat, (m : Int) < 9223372036854775808 ∧ c = eightL m := by
  match c, hc with
  | [x0, x1, x2, x3, x4, x5, x6, x7], _ =>
    have l0 := x0.toNat_lt
    have l1 := x1.toNat_lt
    have l2 := x2.toNat_lt
    have l3 := x3.toNat_lt
    have l4 := x4.toNat_lt
    have l5 := x5.toNat_lt
    have l6 := x6.toNat_lt
    have l7 := x7.toNat_lt
    have g0 := h0 x0 rfl
    obtain ⟨m, hm⟩ : ∃ m : Nat, m = x0.toNat * 72057594037927936 + x1.toNat * 281474976710656 + x2.toNat * 1099511627776 + x3.toNat * 4294967296 + x4.toNat * 16777216 + x5.toNat * 65536 + x6.toNat * 256 + x7.toNat := ⟨_, rfl⟩
    refine ⟨m, by omega, ?_⟩
    have e : ∀ (x : UInt8) (z : Int), z = (x.toNat : Int) → UInt8.ofNat z.toNat = x := fun x z h => by
      rw [h, Int.toNat_natCast]; exact UInt8.ofNat_toNat
    unfold eightL
    simp only [List.range, List.range.loop, List.map_cons, List.map_nil]
    rw [e x0 (byt (m : Int) 0) (by unfold byt; simp; omega), e x1 (byt (m : Int) 1) (by unfold byt; simp; omega), e x2 (byt (m : Int) 2) (by unfold byt; simp; omega), e x3 (byt (m : Int) 3) (by unfold byt; simp; omega), e x4 (byt (m : Int) 4) (by unfold byt; simp; omega), e x5 (byt (m : Int) 5) (by unfold byt; simp; omega), e x6 (byt (m : Int) 6) (by unfold byt; simp; omega), e x7 (byt (m : Int) 7) (by unfold byt; simp; omega)]
set_option maxRecDepth 100000 in
set_option maxHeartbeats 4000000 in
theorem number_no (c : List UInt8) (hc : c.length = 8) (x : UInt8) (h0 : c[0]? = some x) (hx : 127 < (x.toNat : Int)) (v : Value) (w : World) (hv : IsB w c v) :
    Calls Try.prog 42 #[v] w fun e w' => e = .returned (.tuple #[.int .i64 0, .bool false]) ∧ Below w.heap.size w w' := by
  obtain ⟨A, n, e, h1, h2, h3, h4⟩ := hv
  rw [hc] at e h1
  subst e
  obtain ⟨b, o, rfl, hb, hk⟩ := h4.at (by rw [hc]; omega)
  have k0 := hk 0 x h0
  rw [Nat.add_zero] at k0
  have hx8 := x.toNat_lt
  obtain ⟨X, hX⟩ : ∃ X : Int, (x.toNat : Int) = X := ⟨_, rfl⟩
  rw [hX] at k0 hx
  have hx8 : X < 256 := by omega
  clear hX hk h4 h3 hc h0
  go_enter Try.func42, Try.ntmps42
  go_wp2
  go_ret2
  exact ⟨rfl, Below.refl _ _⟩
end Go.Proofs.Ytffoekgopooeaaa
