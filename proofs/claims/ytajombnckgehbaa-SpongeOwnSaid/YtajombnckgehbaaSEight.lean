/- words.Eight: a number in eight bytes. -/
import Derived.Test.YtajombnckgehbaaSTake
namespace Go.Proofs.Ytajombnckgehbaa
set_option linter.unusedVariables false
set_option linter.unusedSimpArgs false
open Go.ChangeShapes Go.WideShapes Go.ChangeAt Go.RowKit

/-- Byte j of eight. -/
def byt (n : Int) (j : Nat) : Int := n / 256 ^ (7 - j) % 256
theorem byt_bd (n : Int) (j : Nat) : 0 ≤ byt n j ∧ byt n j < 256 := by unfold byt; omega
theorem make8 (w : World) : (Instr.makeSlice 29 (.int .i64 8) (.int .i64 8)).run Try.prog w = .ok (.slice (some ⟨w.heap.size, 0, none⟩) 8 8) (w.alloc (.cells (madeCells #[.int .u8 0] 8) 5)) := by kernel_rfl
set_option maxHeartbeats 4000000 in
set_option maxRecDepth 100000 in
theorem eight_any (n : Int) (h0 : 0 ≤ n) (h1 : n < 9223372036854775808) (w : World) :
    Calls Try.prog 44 #[.int .i64 n] w fun e w' => e = .returned (.slice (some ⟨w.heap.size, 0, none⟩) 8 8) ∧ Below w.heap.size w w' ∧ w'.rowIs w.heap.size 5 8 (fun j => .int .u8 (byt n j)) := by
  have hm := make8
  have r0 := World.rowIs_made w (.int .u8 0) 8 5
  have gb := step_alloc w (.cells (madeCells #[.int .u8 0] 8) 5)
  go_enter Try.func44, Try.ntmps44
  go_wp2
  clear hm
  generalize World.alloc _ _ = W at *
  go_loopw [8] (fun i wr => ∃ k : Nat, k ≤ 8 ∧ i = .int .i64 k ∧ wr.rowIs w.heap.size 5 8 (fun j => if 8 - k ≤ j then .int .u8 (byt n j) else .int .u8 0) ∧ Below w.heap.size w wr) (fun i _ => 8 - (intOf i).toNat)
  case atStart => exact ⟨0, by omega, rfl, r0.congr fun j hj => by rw [if_neg (by omega)], gb⟩
  case round =>
    obtain ⟨k, hk, rfl, hr, hB⟩ := hrel
    clear r0 gb
    by_cases hlt : k < 8
    · have hkk : k = 0 ∨ k = 1 ∨ k = 2 ∨ k = 3 ∨ k = 4 ∨ k = 5 ∨ k = 6 ∨ k = 7 := by omega
      clear hlt hk
      rcases hkk with rfl | rfl | rfl | rfl | rfl | rfl | rfl | rfl
      · have c1 := hr.cell (i := 7) (by omega)
        have c2 := hr.frozen 7
        have e : n % 256 = byt n 7 := by unfold byt; simp
        go_wp2
        go_roundw
        case rel =>
          refine ⟨1, by omega, rfl, (hr.set 7 _).congr fun j hj => ?_, hB.setCell (p := ⟨w.heap.size, 7, none⟩) (Nat.le_refl _) _⟩
          by_cases ej : j = 7
          · subst ej; rw [if_pos rfl, if_pos (by omega)]
          · rw [if_neg ej]
            by_cases h9 : 8 - 0 ≤ j
            · rw [if_pos h9, if_pos (by omega)]
            · rw [if_neg h9, if_neg (by omega)]
        case measure => simp [intOf]
      · have c1 := hr.cell (i := 6) (by omega)
        have c2 := hr.frozen 6
        have e : n / 256 % 256 = byt n 6 := by unfold byt; rfl
        go_wp2
        go_roundw
        case rel =>
          refine ⟨2, by omega, rfl, (hr.set 6 _).congr fun j hj => ?_, hB.setCell (p := ⟨w.heap.size, 6, none⟩) (Nat.le_refl _) _⟩
          by_cases ej : j = 6
          · subst ej; rw [if_pos rfl, if_pos (by omega)]
          · rw [if_neg ej]
            by_cases h9 : 8 - 1 ≤ j
            · rw [if_pos h9, if_pos (by omega)]
            · rw [if_neg h9, if_neg (by omega)]
        case measure => simp [intOf]
      · have c1 := hr.cell (i := 5) (by omega)
        have c2 := hr.frozen 5
        have e : n / 65536 % 256 = byt n 5 := by unfold byt; rfl
        go_wp2
        go_roundw
        case rel =>
          refine ⟨3, by omega, rfl, (hr.set 5 _).congr fun j hj => ?_, hB.setCell (p := ⟨w.heap.size, 5, none⟩) (Nat.le_refl _) _⟩
          by_cases ej : j = 5
          · subst ej; rw [if_pos rfl, if_pos (by omega)]
          · rw [if_neg ej]
            by_cases h9 : 8 - 2 ≤ j
            · rw [if_pos h9, if_pos (by omega)]
            · rw [if_neg h9, if_neg (by omega)]
        case measure => simp [intOf]
      · have c1 := hr.cell (i := 4) (by omega)
        have c2 := hr.frozen 4
        have e : n / 16777216 % 256 = byt n 4 := by unfold byt; rfl
        go_wp2
        go_roundw
        case rel =>
          refine ⟨4, by omega, rfl, (hr.set 4 _).congr fun j hj => ?_, hB.setCell (p := ⟨w.heap.size, 4, none⟩) (Nat.le_refl _) _⟩
          by_cases ej : j = 4
          · subst ej; rw [if_pos rfl, if_pos (by omega)]
          · rw [if_neg ej]
            by_cases h9 : 8 - 3 ≤ j
            · rw [if_pos h9, if_pos (by omega)]
            · rw [if_neg h9, if_neg (by omega)]
        case measure => simp [intOf]
      · have c1 := hr.cell (i := 3) (by omega)
        have c2 := hr.frozen 3
        have e : n / 4294967296 % 256 = byt n 3 := by unfold byt; rfl
        go_wp2
        go_roundw
        case rel =>
          refine ⟨5, by omega, rfl, (hr.set 3 _).congr fun j hj => ?_, hB.setCell (p := ⟨w.heap.size, 3, none⟩) (Nat.le_refl _) _⟩
          by_cases ej : j = 3
          · subst ej; rw [if_pos rfl, if_pos (by omega)]
          · rw [if_neg ej]
            by_cases h9 : 8 - 4 ≤ j
            · rw [if_pos h9, if_pos (by omega)]
            · rw [if_neg h9, if_neg (by omega)]
        case measure => simp [intOf]
      · have c1 := hr.cell (i := 2) (by omega)
        have c2 := hr.frozen 2
        have e : n / 1099511627776 % 256 = byt n 2 := by unfold byt; rfl
        go_wp2
        go_roundw
        case rel =>
          refine ⟨6, by omega, rfl, (hr.set 2 _).congr fun j hj => ?_, hB.setCell (p := ⟨w.heap.size, 2, none⟩) (Nat.le_refl _) _⟩
          by_cases ej : j = 2
          · subst ej; rw [if_pos rfl, if_pos (by omega)]
          · rw [if_neg ej]
            by_cases h9 : 8 - 5 ≤ j
            · rw [if_pos h9, if_pos (by omega)]
            · rw [if_neg h9, if_neg (by omega)]
        case measure => simp [intOf]
      · have c1 := hr.cell (i := 1) (by omega)
        have c2 := hr.frozen 1
        have e : n / 281474976710656 % 256 = byt n 1 := by unfold byt; rfl
        go_wp2
        go_roundw
        case rel =>
          refine ⟨7, by omega, rfl, (hr.set 1 _).congr fun j hj => ?_, hB.setCell (p := ⟨w.heap.size, 1, none⟩) (Nat.le_refl _) _⟩
          by_cases ej : j = 1
          · subst ej; rw [if_pos rfl, if_pos (by omega)]
          · rw [if_neg ej]
            by_cases h9 : 8 - 6 ≤ j
            · rw [if_pos h9, if_pos (by omega)]
            · rw [if_neg h9, if_neg (by omega)]
        case measure => simp [intOf]
      · have c1 := hr.cell (i := 0) (by omega)
        have c2 := hr.frozen 0
        have e : n / 72057594037927936 = byt n 0 := by unfold byt; rw [show (256 : Int) ^ (7 - 0) = 72057594037927936 by decide]; omega
        go_wp2
        go_roundw
        case rel =>
          refine ⟨8, by omega, rfl, (hr.set 0 _).congr fun j hj => ?_, hB.setCell (p := ⟨w.heap.size, 0, none⟩) (Nat.le_refl _) _⟩
          by_cases ej : j = 0
          · subst ej; rw [if_pos rfl, if_pos (by omega)]
          · rw [if_neg ej]
            by_cases h9 : 8 - 7 ≤ j
            · rw [if_pos h9, if_pos (by omega)]
            · rw [if_neg h9, if_neg (by omega)]
        case measure => simp [intOf]
    · obtain rfl : k = 8 := by omega
      go_wp2
      go_ret
      exact ⟨rfl, hB, hr.congr fun j hj => by rw [if_pos (by omega)]⟩
end Go.Proofs.Ytajombnckgehbaa
