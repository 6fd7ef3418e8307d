/- The reference's number, of any bytes. -/
import Derived.Test.YtffoekgopooeaaaGdInj
import Derived.Laws.BitsLemmas
namespace Go.Proofs.Ytffoekgopooeaaa
set_option linter.unusedVariables false
set_option linter.unusedSimpArgs false
open Go.ChangeShapes Go.WideShapes Go.ChangeAt Go.RowKit Go.Shelf
def preN (R : List UInt8) (k : Nat) : Nat := (R.take k).foldl (fun a x => a * 256 + x.toNat) 0
theorem preN_succ {R : List UInt8} {k : Nat} {x : UInt8} (h : R[k]? = some x) : preN R (k + 1) = preN R k * 256 + x.toNat := by
  obtain ⟨hk, hx⟩ := List.getElem?_eq_some_iff.1 h
  unfold preN
  rw [List.take_succ_eq_append_getElem hk, List.foldl_append, hx]
  rfl
theorem preN_lt (R : List UInt8) : ∀ k, k ≤ R.length → preN R k < 256 ^ k
  | 0, _ => by simp [preN]
  | k + 1, h => by
    have ih := preN_lt R k (by omega)
    rw [preN_succ (List.getElem?_eq_getElem (by omega)), Nat.pow_succ]
    have := (R[k]'(by omega)).toNat_lt
    omega
theorem preN_ge {R : List UInt8} {x : UInt8} (h : R[0]? = some x) (hx : 127 < x.toNat) : ∀ k, k < R.length → 128 * 256 ^ k ≤ preN R (k + 1)
  | 0, hk => by rw [preN_succ h]; simp [preN]; omega
  | k + 1, hk => by
    have ih := preN_ge h hx k (by omega)
    rw [preN_succ (List.getElem?_eq_getElem hk), Nat.pow_succ]
    omega
theorem or_neg (p c : Nat) (h0 : 36028797018963968 ≤ p) (h1 : p < 72057594037927936) (h3 : c < 256) : bits .or .i64 ((p : Int) * 256 - 18446744073709551616) (c : Int) = ((p * 256 + c : Nat) : Int) - 18446744073709551616 := by
  have e : BitVec.ofInt 64 ((p : Int) * 256 - 18446744073709551616) = BitVec.ofNat 64 (p * 256) := by
    apply BitVec.eq_of_toNat_eq
    rw [BitVec.toNat_ofInt, BitVec.toNat_ofNat]
    omega
  have e2 : BitVec.ofInt 64 (c : Int) = BitVec.ofNat 64 c := by rw [BitVec.ofInt_natCast]
  have hj := nat_join 8 (p * 256) c (by omega) (by omega)
  have hc : c % 2 ^ 64 = c := Nat.mod_eq_of_lt (by omega)
  have hp : (p * 256) % 2 ^ 64 = p * 256 := Nat.mod_eq_of_lt (by omega)
  unfold bits
  show IntKind.i64.wrap (((BitVec.ofInt 64 ((p : Int) * 256 - 18446744073709551616) ||| BitVec.ofInt 64 (c : Int)).toNat : Nat) : Int) = _
  rw [e, e2, BitVec.toNat_or, BitVec.toNat_ofNat, BitVec.toNat_ofNat]
  rw [hc, hp, hj, IntKind.wrap_i64]
  omega
theorem or_pos (p c : Nat) (h1 : p < 36028797018963968) (h3 : c < 256) : bits .or .i64 ((p : Int) * 256) (c : Int) = ((p * 256 + c : Nat) : Int) := or_i64' p c h1 h3
set_option maxRecDepth 100000 in
set_option maxHeartbeats 4000000 in
theorem rnumber_ok (m : Nat) (hm : (m : Int) < 9223372036854775808) (R : List UInt8) (v : Value) (w : World) (hv : IsB w (eightL m ++ R) v) :
    Calls Try.prog 47 #[v] w fun e w' => e = .returned (.int .i64 (m : Int)) ∧ Below w.heap.size w w' := by
  obtain ⟨A, c, e, h1, h2, h3, h4⟩ := hv
  subst e
  have hl : 8 ≤ (eightL m ++ R).length := by rw [List.length_append, eightL_len]; omega
  obtain ⟨b, o, rfl, hb, hc⟩ := h4.at (by omega)
  obtain ⟨p0, p8, pk⟩ := up_pack hm
  have HC : Hid (∀ k x, (eightL m)[k]? = some x → w.cell? ⟨b, o + k, none⟩ = some (.int .u8 (x.toNat : Int))) := hid (fun k x h => hc k x (by
    have hk := (List.getElem?_eq_some_iff.1 h).1
    rw [List.getElem?_append_left hk]; exact h))
  obtain ⟨N, hN⟩ : ∃ N, (eightL m ++ R).length = N := ⟨_, rfl⟩
  rw [hN] at hl h1 ⊢
  have PK := hid pk
  have P8 := hid p8
  have P0 := hid p0
  clear hc pk p8 p0 hm h4 h3 hN
  go_enter Try.func47, Try.ntmps47
  go_wp2
  go_loopw [3, 4] (fun n i wr => ∃ k : Nat, k ≤ 8 ∧ i = .int .i64 (k : Int) ∧ n = .int .i64 (upI m k) ∧ wr = w) (fun _ i _ => 8 - (intOf i).toNat)
  case atStart => exact ⟨0, by omega, rfl, by rw [P0.out], rfl⟩
  case round =>
    obtain ⟨k, hk, rfl, rfl, rfl⟩ := hrel
    by_cases hlt : k < 8
    · obtain ⟨x, c1, r1, r2, r3, r4, r5, r6, r7, _⟩ := PK.out k hlt
      have kc := HC.out k x r1
      rw [r2] at kc
      have hkN : k < N := by omega
      clear r1 r2 HC PK
      go_wp2
      go_roundw
      case rel => exact ⟨k + 1, by omega, by go_num, rfl, trivial⟩
      case measure => simp [intOf]; omega
    · obtain rfl : k = 8 := by omega
      rw [P8.out]
      go_wp2
      go_ret
      exact ⟨rfl, Below.refl _ _⟩
def stZ (R : List UInt8) (z : Int) (k : Nat) : Int := if k < 8 then (preN R k : Int) else z
set_option maxRecDepth 100000 in
set_option maxHeartbeats 4000000 in
theorem rnumber_no (R : List UInt8) (hR : 8 ≤ R.length) (x : UInt8) (hx0 : R[0]? = some x) (hx : 127 < (x.toNat : Int)) : ∃ z : Int, z < 0 ∧ -9223372036854775808 ≤ z ∧ Hid (∀ (v : Value) (w : World) (hv : IsB w R v),
    Calls Try.prog 47 #[v] w fun e w' => e = .returned (.int .i64 z) ∧ Below w.heap.size w w') := by
  have b0 : preN R 0 = 0 := by simp [preN]
  have g7 := preN_ge hx0 (by omega) 6 (by omega)
  have l7 := preN_lt R 7 (by omega)
  simp only [Nat.reduceAdd] at g7
  have g7' : 36028797018963968 ≤ preN R 7 := by simpa using g7
  have l7' : preN R 7 < 72057594037927936 := by simpa using l7
  obtain ⟨y, hy⟩ : ∃ y, R[7]? = some y := ⟨_, List.getElem?_eq_getElem (by omega)⟩
  have hy8 := y.toNat_lt
  refine ⟨((preN R 7 * 256 + y.toNat : Nat) : Int) - 18446744073709551616, by omega, by omega, hid fun v w hv => ?_⟩
  obtain ⟨z, hz⟩ : ∃ z : Int, ((preN R 7 * 256 + y.toNat : Nat) : Int) - 18446744073709551616 = z := ⟨_, rfl⟩
  rw [hz]
  obtain ⟨A, c, e, h1, h2, h3, h4⟩ := hv
  subst e
  obtain ⟨b, o, rfl, hb, hc⟩ := h4.at (by omega)
  have HS : Hid (∀ k, k < 7 → ∃ c : Int, w.cell? ⟨b, o + k, none⟩ = some (.int .u8 c) ∧ 0 ≤ c ∧ c < 256 ∧ 0 ≤ stZ R z k ∧ stZ R z k < 36028797018963968 ∧ bits .or .i64 (stZ R z k * 256) c = stZ R z (k + 1)) := hid (fun k hk => by
    obtain ⟨u, hu⟩ : ∃ u, R[k]? = some u := ⟨_, List.getElem?_eq_getElem (by omega)⟩
    have hu8 := u.toNat_lt
    have hl := preN_lt R k (by omega)
    have hp : preN R k < 36028797018963968 := by
      have hkk : k = 0 ∨ k = 1 ∨ k = 2 ∨ k = 3 ∨ k = 4 ∨ k = 5 ∨ k = 6 := by omega
      rcases hkk with rfl | rfl | rfl | rfl | rfl | rfl | rfl <;> simp at hl <;> omega
    have e1 : stZ R z k = (preN R k : Int) := by unfold stZ; rw [if_pos (by omega)]
    have e2 : stZ R z (k + 1) = (preN R (k + 1) : Int) := by unfold stZ; rw [if_pos (by omega)]
    refine ⟨_, hc k u hu, by omega, by omega, by rw [e1]; omega, by rw [e1]; omega, ?_⟩
    rw [e1, e2, or_pos _ _ hp hu8, preN_succ hu])
  obtain ⟨P7, hP7⟩ : ∃ P : Int, stZ R z 7 = P := ⟨_, rfl⟩
  have e7 : P7 = (preN R 7 : Int) := by rw [← hP7]; unfold stZ; rw [if_pos (by omega)]
  obtain ⟨Y, hY⟩ : ∃ Y : Int, P7 * 256 - 18446744073709551616 = Y := ⟨_, rfl⟩
  obtain ⟨yc, hyc⟩ : ∃ yc : Int, (y.toNat : Int) = yc := ⟨_, rfl⟩
  have HY : Hid (wrap64 (P7 * 256) = Y) := hid (by rw [← hY]; simp only [wrap64]; omega)
  have HO : Hid (bits .or .i64 Y yc = z) := hid (by rw [← hY, e7, ← hyc, or_neg _ _ g7' l7' hy8, hz])
  have HP : Hid (0 ≤ P7 ∧ P7 < 72057594037927936 ∧ 0 ≤ yc ∧ yc < 256) := hid (by omega)
  have H7 := hid hP7
  have k7 := hc 7 y hy
  rw [hyc] at k7
  obtain ⟨N, hN⟩ : ∃ N, R.length = N := ⟨_, rfl⟩
  rw [hN] at h1 hR ⊢
  have H0 : Hid (stZ R z 0 = 0) := hid (by unfold stZ; rw [if_pos (by omega), b0]; rfl)
  have H8 : Hid (stZ R z 8 = z) := hid (by unfold stZ; rw [if_neg (by omega)])
  clear hz hc g7 l7 g7' l7' hy hy8 b0 hP7 e7 hY hyc h4 h3 hN hx hx0
  go_enter Try.func47, Try.ntmps47
  go_wp2
  go_loopw [3, 4] (fun n i wr => ∃ k : Nat, k ≤ 8 ∧ i = .int .i64 (k : Int) ∧ n = .int .i64 (stZ R z k) ∧ wr = w) (fun _ i _ => 8 - (intOf i).toNat)
  case atStart => exact ⟨0, by omega, rfl, by rw [H0.out], rfl⟩
  case round =>
    obtain ⟨k, hk, rfl, rfl, rfl⟩ := hrel
    by_cases hlt : k < 7
    · obtain ⟨c1, kc, r3, r4, r5, r6, r7⟩ := HS.out k hlt
      have hkN : k < N := by omega
      clear HS k7
      go_wp2
      go_roundw
      case rel => exact ⟨k + 1, by omega, by go_num, rfl, trivial⟩
      case measure => simp [intOf]; omega
    · by_cases h7 : k = 7
      · subst h7
        have hkN : 7 < N := by omega
        have hw := HY.out
        have ho := HO.out
        obtain ⟨p1, p2, p3, p4⟩ := HP.out
        rw [H7.out]
        clear HS
        go_wp2
        go_roundw
        case rel => exact ⟨8, by omega, by go_num, by rw [H8.out], trivial⟩
        case measure => simp [intOf]
      · obtain rfl : k = 8 := by omega
        rw [H8.out]
        go_wp2
        go_ret
        exact ⟨rfl, Below.refl _ _⟩
end Go.Proofs.Ytffoekgopooeaaa
