/- limb.place, limb.Bytes, limb.Read: contracts. -/
import Derived.Test.YteihojjciklfoaaMore
import Derived.Test.YteihojjciklfoaaByte
import Derived.Laws.CopyOwn
namespace Go.Proofs.Yteihojjciklfoaa
set_option linter.unusedVariables false
set_option linter.unusedSimpArgs false
open Go.ChangeShapes Go.WideShapes Go.ChangeAt Go.RowKit

theorem ret_slice {A : Option Addr} {l l' c c' : Nat} (h : l = l') (h' : c = c') : Ending.returned (.slice A l c) = Ending.returned (.slice A l' c') := by rw [h, h']
set_option maxHeartbeats 400000 in
theorem place_any (b n cap : Nat) (i : Int) (h0 : 0 ≤ i) (hi : 4 * i.toNat + 4 ≤ n) (hn : n ≤ cap) (hcap : cap ≤ maxLen) (w : World) :
    Calls Try.prog 51 #[.slice (some ⟨b, 0, none⟩) n cap, .int .i64 i] w fun e w' => e = .returned (.slice (some ⟨b, n - 4 * i.toNat - 4, none⟩) 4 4) ∧ w = w' := by
  obtain ⟨i, rfl⟩ := Int.eq_ofNat_of_zero_le h0
  rw [Int.toNat_natCast] at *
  unfold maxLen at hcap
  have H4 : Hid (n - 4 * i - (n - 4 * i - 4) = 4) := hid (by omega)
  go_enter Try.func51, Try.ntmps51
  go_wp2
  go_ret
  exact ⟨ret_slice H4.out H4.out, rfl⟩

theorem isAgg_u32 (w : World) : (isAgg 24).run Try.prog w = .ok false w := by kernel_rfl
theorem sizeOf_u32 (w : World) : (sizeOf 24).run Try.prog w = .ok 1 w := by kernel_rfl
theorem underlying_num : Try.prog.underlying 26 = some (.array 8 24) := by kernel_rfl
theorem index_num (a k : Nat) (hk : k < 8) (w : World) : (Instr.index 26 (.agg (numA a)) (.int .i64 (k : Int))).run Try.prog w = .ok (.int .u32 (digI a k)) w := by
  have h1 : (k : Int) < 8 := by omega
  simp [Instr.index, asIntOf, run_underlying underlying_num, part, isAgg_u32, sizeOf_u32, numA_get a hk, numF, h1]
  omega
theorem make_bytes32 (w : World) : (Instr.makeSlice 39 (.int .i64 32) (.int .i64 32)).run Try.prog w = .ok (.slice (some ⟨w.heap.size, 0, none⟩) 32 32) (w.alloc (.cells (madeCells #[.int .u8 0] 32) 5)) := by kernel_rfl
/-- The row of a's bytes, as far as m of them are written. -/
def partB (a m p : Nat) : Value := if 31 - p < m then bv (byteN a p) else .int .u8 0
theorem partB_full (a : Nat) {j : Nat} {b : UInt8} (h : (bytesN a)[j]? = some b) : partB a 32 j = bv b := by
  have hj : j < (bytesN a).length := (List.getElem?_eq_some_iff.1 h).1
  rw [bytesN_length] at hj
  have e : (bytesN a)[j]? = some (byteN a j) := by simp [bytesN, hj]
  rw [e] at h
  injection h with h
  unfold partB
  rw [if_pos (by omega), h]
/-- The byte that is stored. -/
theorem dig_bytev (a k j : Nat) (hk : k < 8) (hj : j < 4) : Value.int .u8 (digI a k / (256 ^ j : Nat) % 256) = bv (byteN a (31 - (4 * k + j))) := by
  unfold bv digI
  rw [byteN_toNat, show 31 - (31 - (4 * k + j)) = 4 * k + j by omega, ← dig_byte a k j hj]
  simp
theorem partB_step {w : World} {g t a m : Nat} {v : Value} (h : w.rowIs g t 32 (partB a m)) (hm : m < 32) (hv : v = bv (byteN a (31 - m))) : (w.setCell ⟨g, 31 - m, none⟩ v).rowIs g t 32 (partB a (m + 1)) := by
  refine (h.set (31 - m) v).congr fun j hj => ?_
  by_cases e : j = 31 - m
  · rw [if_pos e, hv, partB, if_pos (by omega), e]
  · rw [if_neg e]
    unfold partB
    by_cases h1 : 31 - j < m
    · rw [if_pos h1, if_pos (by omega)]
    · rw [if_neg h1, if_neg (by omega)]
set_option maxHeartbeats 4000000 in
theorem bytes_any (a : Nat) (w : World) :
    Calls Try.prog 33 #[numV a] w fun e w' => ∃ g, e = .returned (.slice (some ⟨g, 0, none⟩) 32 32) ∧ w.heap.size ≤ g ∧ Bts w' g 5 (bytesN a) ∧ Below w.heap.size w w' := by
  have hmk := make_bytes32
  go_enter Try.func33, Try.ntmps33
  go_wp2_with (refine wpList_load_num rfl _ _ rfl _ rfl _ _ _ ((Num.new _ _ _).alloc _) Try.underlying26 rfl size26 ?_)
  clear hmk
  have g1 := World.rowIs_made (w.alloc (.cells (numA a) 26)) (.int .u8 0) 32 5
  rw [World.size_alloc] at g1
  have gb : Below w.heap.size w ((w.alloc (.cells (numA a) 26)).alloc (.cells (madeCells #[.int .u8 0] 32) 5)) := ((Below.refl _ _).alloc (Nat.le_refl _) _).alloc (by simp) _
  generalize hW : World.alloc _ _ = W at *
  clear hW
  have g2 : W.rowIs (w.heap.size + 1) 5 32 (partB a 0) := g1
  clear g1
  go_loopw [10] (fun i wr => ∃ k : Nat, k ≤ 8 ∧ i = .int .i64 k ∧ wr.rowIs (w.heap.size + 1) 5 32 (partB a (4 * k)) ∧ Below w.heap.size w wr) (fun i _ => 8 - (intOf i).toNat)
  case atStart => exact ⟨0, by omega, rfl, g2, gb⟩
  case round =>
    obtain ⟨k, hk, rfl, hr, hb⟩ := hrel
    clear g2 gb
    by_cases hlt : k < 8
    · have hix := fun w => index_num a k hlt w
      have hd1 := digI_ge a k
      have hd2 := digI_lt a k
      go_wp2_with (go_at_call 51; refine (place_any _ _ _ _ (by omega) (by omega) (by omega) (by unfold maxLen; omega) _).mono ?_; rintro e w' ⟨rfl, rfl⟩)
      obtain ⟨wo, rfl⟩ : ∃ wo : World, wo = wr := ⟨_, rfl⟩
      clear hix
      go_loopw [19] (fun i wr => ∃ j : Nat, j ≤ 4 ∧ i = .int .i64 j ∧ wr.rowIs (w.heap.size + 1) 5 32 (partB a (4 * k + j)) ∧ Below w.heap.size w wr) (fun i _ => 4 - (intOf i).toNat)
      case atStart => exact ⟨0, by omega, rfl, hr, hb⟩
      case round =>
        obtain ⟨j, hj, rfl, hr', hb'⟩ := hrel
        clear hr hb
        have hjj : j = 0 ∨ j = 1 ∨ j = 2 ∨ j = 3 ∨ j = 4 := by omega
        rcases hjj with rfl | rfl | rfl | rfl | rfl
        · have hz := hr'.frozen (32 - 4 * k - 4 + 3)
          have hc := hr'.cell (i := 32 - 4 * k - 4 + 3) (by omega)
          have ho : 31 - (4 * k + 0) = 32 - 4 * k - 4 + 3 := by omega
          have hn : Hid ((wr.setCell ⟨w.heap.size + 1, 32 - 4 * k - 4 + 3, none⟩ (.int .u8 (digI a k % 256))).rowIs (w.heap.size + 1) 5 32 (partB a (4 * k + 1))) := by
            rw [← ho]; exact partB_step hr' (by omega) (by rw [← dig_bytev a k 0 hlt (by omega)]; simp)
          clear ho
          go_wp2
          go_roundw
          case rel => exact ⟨1, by omega, rfl, hn.out, hb'.setCell (by simp) _⟩
          case measure => simp [intOf] <;> omega
        · have hz := hr'.frozen (32 - 4 * k - 4 + 2)
          have hc := hr'.cell (i := 32 - 4 * k - 4 + 2) (by omega)
          have ho : 31 - (4 * k + 1) = 32 - 4 * k - 4 + 2 := by omega
          have hn : Hid ((wr.setCell ⟨w.heap.size + 1, 32 - 4 * k - 4 + 2, none⟩ (.int .u8 (digI a k / 256 % 256))).rowIs (w.heap.size + 1) 5 32 (partB a (4 * k + 2))) := by
            rw [← ho]; exact partB_step hr' (by omega) (by rw [← dig_bytev a k 1 hlt (by omega)]; simp)
          clear ho
          go_wp2
          go_roundw
          case rel => exact ⟨2, by omega, rfl, hn.out, hb'.setCell (by simp) _⟩
          case measure => simp [intOf] <;> omega
        · have hz := hr'.frozen (32 - 4 * k - 4 + 1)
          have hc := hr'.cell (i := 32 - 4 * k - 4 + 1) (by omega)
          have ho : 31 - (4 * k + 2) = 32 - 4 * k - 4 + 1 := by omega
          have hn : Hid ((wr.setCell ⟨w.heap.size + 1, 32 - 4 * k - 4 + 1, none⟩ (.int .u8 (digI a k / 65536 % 256))).rowIs (w.heap.size + 1) 5 32 (partB a (4 * k + 3))) := by
            rw [← ho]; exact partB_step hr' (by omega) (by rw [← dig_bytev a k 2 hlt (by omega)]; simp)
          clear ho
          go_wp2
          go_roundw
          case rel => exact ⟨3, by omega, rfl, hn.out, hb'.setCell (by simp) _⟩
          case measure => simp [intOf] <;> omega
        · have hz := hr'.frozen (32 - 4 * k - 4)
          have hc := hr'.cell (i := 32 - 4 * k - 4) (by omega)
          have ho : 31 - (4 * k + 3) = 32 - 4 * k - 4 := by omega
          have hn : Hid ((wr.setCell ⟨w.heap.size + 1, 32 - 4 * k - 4, none⟩ (.int .u8 (digI a k / 16777216))).rowIs (w.heap.size + 1) 5 32 (partB a (4 * k + 4))) := by
            rw [← ho]; exact partB_step hr' (by omega) (by rw [← dig_bytev a k 3 hlt (by omega)]; congr 1; simp; omega)
          clear ho
          go_wp2
          go_roundw
          case rel => exact ⟨4, by omega, rfl, hn.out, hb'.setCell (by simp) _⟩
          case measure => simp [intOf] <;> omega
        · clear hd1 hd2
          go_wp2
          go_roundw
          case rel => exact ⟨k + 1, by omega, by go_num, by rw [Nat.mul_add]; exact hr', hb'⟩
          case measure => simp [intOf] <;> omega
    · obtain rfl : k = 8 := by omega
      go_wp2
      go_ret
      exact ⟨_, rfl, by omega, bts_of_row hr (bytesN_length a) (fun j b h => partB_full a h), hb⟩
end Go.Proofs.Yteihojjciklfoaa
