/- sentinellaw1.LimbBytes: the walk. -/
import Derived.Test.YteihojjciklfoaaKnown
import Derived.Test.YteihojjciklfoaaRead
import Derived.Test.YteihojjciklfoaaApp
import Derived.Test.YteihojjciklfoaaNews
import Derived.Test.YteihojjciklfoaaEqn
namespace Go.Proofs.Yteihojjciklfoaa
set_option linter.unusedVariables false
set_option linter.unusedSimpArgs false
open Go.ChangeShapes Go.WideShapes Go.ChangeAt Go.RowKit
attribute [local go_sem] eqn_same
/-- What the first p bytes of K's say. -/
def partK (K p : Nat) : Nat := readN ((bytesN K).take p)
def partI (K p : Nat) : Int := (partK K p : Int)
theorem partK_eq {K : Nat} (hK : K < 1152921504606846976) {p : Nat} (hp : p ≤ 32) : partK K p = K / 256 ^ (32 - p) := by
  unfold partK
  rw [read_take K p hp]
  refine Nat.mod_eq_of_lt ?_
  rw [Nat.div_lt_iff_lt_mul (Nat.pow_pos (by decide)), ← Nat.pow_add, show p + (32 - p) = 32 by omega]
  exact Nat.lt_trans hK (by decide +kernel)
theorem partK_succ {K p : Nat} (hp : p < 32) : partK K (p + 1) = partK K p * 256 + (byteN K p).toNat := by
  unfold partK
  have hl : p < (bytesN K).length := by rw [bytesN_length]; exact hp
  rw [List.take_succ_eq_append_getElem hl, readN_snoc]
  have e : (bytesN K)[p] = byteN K p := by simp [bytesN]
  rw [e]
theorem or_i64 (p c : Nat) (h1 : p < 4503599627370496) (h3 : c < 256) : bits .or .i64 ((p : Int) * 256) (c : Int) = ((p * 256 + c : Nat) : Int) := by
  rw [show (p : Int) * 256 = ((p * 256 : Nat) : Int) by omega, (bits_nat .i64 63 (by decide) (fun n h0 h1 => Go.IntWalk.i64_in n (by omega)) (p * 256) c (by omega) (by omega)).2, nat_join 8 (p * 256) c (by omega) (by omega)]
theorem by_pack {K : Nat} (hK : K < 1152921504606846976) : RunsTo 29 #[.int .i64 (K : Int)] (numV K) ∧ 0 = partI K 0 ∧ partI K 32 = (K : Int) ∧
    ∀ p, p < 32 → ∃ c : Int, 0 ≤ c ∧ c < 256 ∧ c = ((byteN K p).toNat : Int) ∧ 0 ≤ partI K p ∧ partI K p < 4503599627370496 ∧ bits BinOp.or IntKind.i64 (partI K p * 256) c = partI K (p + 1) ∧ (p < 24 → c = 0) := by
  have h0 : partK K 0 = 0 := by unfold partK; rfl
  unfold partI
  refine ⟨fun w => ?_, by rw [h0]; rfl, ?_, fun p hp => ?_⟩
  · have h := from_any (K : Int) (by omega) (by omega) w
    rwa [Int.toNat_natCast] at h
  · rw [partK_eq hK (Nat.le_refl _)]; simp
  · have hb := (byteN K p).toNat_lt
    have hs := @partK_succ K p hp
    have h1 : partK K (p + 1) ≤ K := by rw [partK_eq hK (by omega)]; exact Nat.div_le_self _ _
    refine ⟨_, Int.natCast_nonneg _, by omega, rfl, Int.natCast_nonneg _, by omega, ?_, fun h24 => ?_⟩
    · rw [or_i64 _ _ (by omega) (by omega), hs]
    · have : K / 256 ^ (31 - p) = 0 := by
        apply Nat.div_eq_of_lt
        have : 256 ^ 8 ≤ 256 ^ (31 - p) := Nat.pow_le_pow_right (by decide) (by omega)
        have e : (256 : Nat) ^ 8 = 18446744073709551616 := by decide
        omega
      rw [byteN_toNat, this]; rfl
attribute [irreducible] partK partI
theorem make_zeros (n : Nat) (hn : n ≤ 1000) (w : World) : (Instr.makeSlice 39 (.int .i64 (n : Int)) (.int .i64 (n : Int))).run Try.prog w = .ok (.slice (some ⟨w.heap.size, 0, none⟩) n n) (w.alloc (.cells (madeCells #[.int .u8 0] n) 5)) := by
  obtain ⟨i, h1, h2, h3, h4⟩ := info_u8
  exact run_make_row 39 5 i (.int .u8 0) Try.underlying39 h1 h2 h3 rfl .i64 .i64 n (by rw [h4]; omega) (by omega) w
theorem byt_zeros (n : Nat) (hn : n ≤ 1000) (w : World) : Byt (w.alloc (.cells (madeCells #[.int .u8 0] n) 5)) w.heap.size (.slice (some ⟨w.heap.size, 0, none⟩) n n) (List.replicate n 0) := by
  obtain ⟨c, hb, hs, hc⟩ := World.rowIs_made w (.int .u8 0) n 5
  refine ⟨by simp, .inr ⟨w.heap.size, n, c, by rw [List.length_replicate], Nat.le_refl _, hb, by rw [List.length_replicate]; exact Nat.le_refl _, by unfold maxLen; omega, by omega, ?_⟩⟩
  apply List.ext_getElem?
  intro i
  rw [List.length_replicate, Nat.mul_one, List.getElem?_take, List.map_replicate]
  by_cases hi : i < n
  · rw [if_pos hi, List.getElem?_replicate, if_pos hi]
    have := hc i hi
    rw [← Array.getElem?_toList] at this
    exact this
  · rw [if_neg hi, List.getElem?_replicate, if_neg hi]
theorem step_app {w w' : World} {o : Obj} (h : Below w.heap.size (w.alloc o) w') : Below w.heap.size w w' := (step_alloc w o).trans h
theorem read_zeros {A : Option Addr} {l : List UInt8} {z n c : Nat} {w : World} (HLN : Hid ((List.replicate z (0 : UInt8) ++ l).length = z + n)) (HZ : Hid (readN (List.replicate z 0 ++ l) = readN l)) (hc : z + n ≤ c) (hm : c ≤ maxLen) (hs : z + n ≤ 32) (hR : Rd w A (List.replicate z (0 : UInt8) ++ l)) :
    Calls Try.prog 34 #[.slice A (z + n) c] w fun e w' => e = .returned (.tuple #[numV (readN l), .bool true]) ∧ Below w.heap.size w w' := by
  have h := read_any A _ (z + n) c HLN.out hs hc hm w hR
  rwa [HZ.out] at h
theorem read_nil (w : World) : Calls Try.prog 34 #[.slice none 0 0] w fun e w' => e = .returned (.tuple #[numV 0, .bool true]) ∧ Below w.heap.size w w' :=
  read_any none [] 0 0 rfl (by omega) (by omega) (by unfold maxLen; omega) w (fun h => absurd h (by simp))
set_option maxRecDepth 100000 in
set_option maxHeartbeats 20000000 in
theorem LimbBytes_walk (a0 : Int) (hk0 : -9223372036854775808 ≤ a0) (hl0 : a0 < 9223372036854775808)
    (a1 : Int) (hk1 : -9223372036854775808 ≤ a1) (hl1 : a1 < 9223372036854775808)
    (A2 : Option Addr) (n2 cap2 : Nat) (l2 : List UInt8) (hn2 : l2.length = n2) (hc2 : n2 ≤ cap2) (hm2 : cap2 ≤ maxLen) (hz2 : A2 = none → cap2 = 0) (w : World) (hr2 : Rd w A2 l2) :
    Calls Try.prog 12 #[.int .i64 a0, .int .i64 a1, .slice A2 n2 cap2] w fun e w' => e = .returned (.bool true) ∧ Below w.heap.size w w' := by
  have ng := noGuard
  go_enter Try.func12, Try.ntmps12
  unfold maxLen at hm2
  obtain ⟨K, hK, hK2⟩ : ∃ K : Nat, a0 % 1152921504606846976 = (K : Int) ∧ K < 1152921504606846976 := ⟨(a0 % 1152921504606846976).toNat, by omega, by omega⟩
  have HK := hid hK
  have KP := hid (by_pack hK2)
  clear hK hK2
  go_wp2_with (fail)
  refine (known_any _).mono ?_
  rintro e w1 ⟨rfl, bw1⟩
  have r2_1 := hr2.step bw1
  have c_1 := bw1
  clear hr2 bw1
  by_cases hlong : 20 < n2
  · go_wp2
    go_ret
    exact ⟨rfl, c_1⟩
  go_wp2_with (fail)
  refine (within_any a0 1152921504606846976 (by omega) (by omega) hk0 hl0 _).mono ?_
  rintro e w2 ⟨rfl, rfl⟩
  rw [HK.out]
  clear HK
  have fr := KP.out.1
  have MK := hid KP.out.2
  clear KP
  go_wp2_with (fail)
  refine (fr _).mono ?_
  rintro e w3 ⟨rfl, bw3⟩
  have r2_2 := r2_1.step bw3
  have c_2 := step_trans c_1 bw3
  clear r2_1 c_1 bw3
  go_wp2_with (fail)
  clear fr
  refine (bytes_any _ _).mono ?_
  rintro e w4 ⟨g, rfl, hg, tB, bw4⟩
  have r2_3 := r2_2.step bw4
  have c_3 := step_trans c_2 bw4
  clear r2_2 c_2 bw4
  have lB := tB.lt
  go_wp2
  go_loopw [9, 10] (fun m i wr => ∃ p : Nat, p ≤ 32 ∧ i = .int .i64 p ∧ m = .int .i64 (partI K p) ∧ w4 = wr) (fun _ i _ => 32 - (intOf i).toNat)
  case atStart => exact ⟨0, by omega, rfl, by rw [← MK.out.1], rfl⟩
  case round =>
    obtain ⟨p, hp, rfl, rfl, rfl⟩ := hrel
    by_cases hlt : p < 32
    · obtain ⟨c, hc1, hc2, hc3, hq0, hq1, hor, h24⟩ := MK.out.2.2 p hlt
      have hcell : w4.cell? ⟨g, p, none⟩ = some (.int .u8 c) := by rw [hc3]; exact tB.cell (bytesN_get K hlt)
      clear hc3
      by_cases hlt24 : p < 24
      · obtain rfl := h24 hlt24
        go_wp2
        go_roundw
        case rel => exact ⟨p + 1, by omega, by go_num, rfl, trivial⟩
        case measure => simp [intOf] <;> omega
      · clear h24
        go_wp2
        go_roundw
        case rel => exact ⟨p + 1, by omega, by go_num, rfl, trivial⟩
        case measure => simp [intOf] <;> omega
    · obtain rfl : p = 32 := by omega
      rw [MK.out.2.1]
      clear MK
      go_wp2_with (fail)
      refine (read_any _ l2 n2 cap2 hn2 (by omega) hc2 (by unfold maxLen; omega) _ r2_3).mono ?_
      rintro e w5 ⟨rfl, bw5⟩
      have r2_4 := r2_3.step bw5
      have c_4 := step_trans c_3 bw5
      clear r2_3 c_3 bw5
      go_wp2_with (first | (refine wpList_store_num rfl _ (.tmp 11) _ rfl _ rfl _ rfl _ rfl (heap_alloc_new _ _) size26 ?_; intro w6 gw6 mw6; have b_1 := step_new gw6; have r2_5 := r2_4.step b_1; have c_5 := step_trans c_4 b_1; clear r2_4 c_4 b_1 gw6) | (refine wpList_load_num rfl _ (.tmp 11) rfl _ rfl _ _ _ mw6 Try.underlying26 rfl size26 ?_))
      refine (within_any a1 12 (by omega) (by omega) hk1 hl1 _).mono ?_
      rintro e w7 ⟨rfl, rfl⟩
      obtain ⟨z, hz, hz12⟩ : ∃ z : Nat, a1 % 12 = (z : Int) ∧ z < 12 := ⟨(a1 % 12).toNat, by omega, by omega⟩
      rw [hz]
      clear hz
      have hmk := make_zeros z (by omega)
      have r7 := r2_5.step (step_alloc w6 (.cells (madeCells #[.int .u8 0] z) 5))
      have hb7 := byt_zeros z (by omega) w6
      have hln : (List.replicate z (0 : UInt8) ++ l2).length = z + n2 := by rw [List.length_append, List.length_replicate, hn2]
      have HZ := hid (readN_zeros z l2)
      have e0 := fun w => eqn_zero w
      go_wp2_with (refine wpList_append_bytes rfl (.tmp 59) (.tmp 60) rfl w6.heap.size _ _ l2 rfl hb7 A2 n2 cap2 rfl hn2 hz2 r7 (by rw [List.length_replicate]; omega) (by simp) ?_; intro v7 w7 h71 h72 h73; obtain ⟨A7, c7, e7, c71, c72, R7, _⟩ := h71.slice; rw [hln] at e7 c71; subst e7; have b7 := step_app h72)
      have r2_6 := r2_5.step b7
      have x_1 := mw6.step b7
      have c_6 := step_trans c_5 b7
      clear r2_5 mw6 c_5 b7
      clear hb7 h71 h72 h73 r7
      have HLN := hid hln
      clear hln
      refine (read_zeros (HLN := HLN) (HZ := HZ) c71 c72 (by omega) R7).mono ?_
      rintro e w8 ⟨rfl, bw8⟩
      have r2_7 := r2_6.step bw8
      have x_2 := x_1.step bw8
      have c_7 := step_trans c_6 bw8
      clear r2_6 x_1 c_6 bw8
      go_wp2_with (first | (refine wpList_store_num rfl _ (.tmp 13) _ rfl _ rfl _ rfl _ rfl (heap_alloc_new _ _) size26 ?_; intro w9 gw9 mw9; have b_2 := step_new gw9; have r2_8 := r2_7.step b_2; have x_3 := x_2.step b_2; have c_8 := step_trans c_7 b_2; clear r2_7 x_2 c_7 b_2 gw9) | (refine wpList_load_num rfl _ (.tmp 11) rfl _ rfl _ _ _ x_3 Try.underlying26 rfl size26 ?_) | (refine wpList_load_num rfl _ (.tmp 13) rfl _ rfl _ _ _ mw9 Try.underlying26 rfl size26 ?_))
      refine (read_nil _).mono ?_
      rintro e w10 ⟨rfl, bw10⟩
      have r2_9 := r2_8.step bw10
      have x_4 := x_3.step bw10
      have y_1 := mw9.step bw10
      have c_9 := step_trans c_8 bw10
      clear r2_8 x_3 mw9 c_8 bw10
      go_wp2_with (first | (refine wpList_store_num rfl _ (.tmp 15) _ rfl _ rfl _ rfl _ rfl (heap_alloc_new _ _) size26 ?_; intro w11 gw11 mw11; have b_3 := step_new gw11; have r2_10 := r2_9.step b_3; have x_5 := x_4.step b_3; have y_2 := y_1.step b_3; have c_10 := step_trans c_9 b_3; clear r2_9 x_4 y_1 c_9 b_3 gw11) | (refine wpList_load_num rfl _ (.tmp 11) rfl _ rfl _ _ _ x_5 Try.underlying26 rfl size26 ?_) | (refine wpList_load_num rfl _ (.tmp 13) rfl _ rfl _ _ _ y_2 Try.underlying26 rfl size26 ?_) | (refine wpList_load_num rfl _ (.tmp 15) rfl _ rfl _ _ _ mw11 Try.underlying26 rfl size26 ?_))
      go_ret
      exact ⟨rfl, c_10⟩
end Go.Proofs.Yteihojjciklfoaa
