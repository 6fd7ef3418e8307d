/- sentinelref3: Bytes, Stretch, Stream; sponge.Stretch. -/
import Derived.Test.YtgccbfkofkohpaaGaSh
namespace Go.Proofs.Ytgccbfkofkohpaa
set_option linter.unusedVariables false
set_option maxRecDepth 20000
set_option linter.unusedSimpArgs false
open Go.ChangeShapes Go.WideShapes Go.ChangeAt Go.RowKit Go.Shelf

theorem Byt.mono {w : World} {b b' : Nat} {v : Value} {l : List UInt8} (h : Byt w b v l) (hb : b' ≤ b) : Byt w b' v l := by
  refine ⟨h.1, ?_⟩
  rcases h.2 with hn | ⟨g, c, cur, e, hbg, rest⟩
  · exact .inl hn
  · exact .inr ⟨g, c, cur, e, Nat.le_trans hb hbg, rest⟩
/-- The bytes of a row of sixteen. -/
def sumY (y : Nat → Int) : List UInt8 := (List.range 16).map fun j => UInt8.ofNat (y j).toNat
theorem sumY_len (y : Nat → Int) : (sumY y).length = 16 := by simp [sumY]
theorem sumL_eq (s : W8) : sumL s = sumY (outF s) := rfl
theorem sumY_val {z : Int} (h : 0 ≤ z ∧ z < 256) : (((UInt8.ofNat z.toNat).toNat : Nat) : Int) = z := by
  have e : (UInt8.ofNat z.toNat).toNat = z.toNat := by simp; omega
  rw [e, Int.toNat_of_nonneg h.1]
theorem sumY_take (y : Nat → Int) {k : Nat} (hk : k < 16) : (sumY y).take (k + 1) = (sumY y).take k ++ [UInt8.ofNat (y k).toNat] := by
  have h : k < (sumY y).length := by rw [sumY_len]; exact hk
  rw [List.take_succ_eq_append_getElem h]
  congr 2
  simp [sumY]
theorem sumY_bvs {y : Nat → Int} (hy : ∀ k, 0 ≤ y k ∧ y k < 256) : bvs (sumY y) = arr16 y := by
  unfold bvs sumY
  rw [List.map_map]
  have : (bv ∘ fun j => UInt8.ofNat (y j).toNat) = fun j => Value.int .u8 (y j) := by
    funext j
    simp only [Function.comp, bv, sumY_val (hy j)]
  rw [this]
  rfl
theorem sumY_rd {w : World} {g : Nat} {t : TypeId} {y : Nat → Int} (hy : ∀ k, 0 ≤ y k ∧ y k < 256) (h : Blk w g t (arr16 y)) : Rd w (some ⟨g, 0, none⟩) (sumY y) :=
  Bts.rd (t := t) (by unfold Bts; rw [sumY_bvs hy]; exact h)
theorem arr16_at' (y : Nat → Int) {j : Nat} (hj : j < 16) : (arr16 y)[j]? = some (.int .u8 (y j)) := by
  have : j = 0 ∨ j = 1 ∨ j = 2 ∨ j = 3 ∨ j = 4 ∨ j = 5 ∨ j = 6 ∨ j = 7 ∨ j = 8 ∨ j = 9 ∨ j = 10 ∨ j = 11 ∨ j = 12 ∨ j = 13 ∨ j = 14 ∨ j = 15 := by omega
  rcases this with rfl | rfl | rfl | rfl | rfl | rfl | rfl | rfl | rfl | rfl | rfl | rfl | rfl | rfl | rfl | rfl <;> rfl
theorem arr16_put (y : Nat → Int) (v : Int) {k : Nat} (hk : k < 16) : (arr16 y).setIfInBounds k (.int .u8 v) = arr16 (fun j => if j = k then v else y j) := by
  have : k = 0 ∨ k = 1 ∨ k = 2 ∨ k = 3 ∨ k = 4 ∨ k = 5 ∨ k = 6 ∨ k = 7 ∨ k = 8 ∨ k = 9 ∨ k = 10 ∨ k = 11 ∨ k = 12 ∨ k = 13 ∨ k = 14 ∨ k = 15 := by omega
  rcases this with rfl | rfl | rfl | rfl | rfl | rfl | rfl | rfl | rfl | rfl | rfl | rfl | rfl | rfl | rfl | rfl <;> simp [arr16]
theorem arr16_congr {y z : Nat → Int} (h : ∀ j, j < 16 → y j = z j) : arr16 y = arr16 z := by
  simp [arr16, h 0, h 1, h 2, h 3, h 4, h 5, h 6, h 7, h 8, h 9, h 10, h 11, h 12, h 13, h 14, h 15]
set_option maxHeartbeats 4000000 in
theorem rbytes_any (y : Nat → Int) (hy : ∀ k, 0 ≤ y k ∧ y k < 256) (w : World) :
    Calls Try.prog 41 #[.agg (arr16 y)] w fun e w' => ∃ v, e = .returned v ∧ Byt w' w.heap.size v (sumY y) ∧ Below w.heap.size w w' := by
  have HT := hid (fun k (hk : k < 16) => sumY_take y hk)
  have HV := hid (fun k => sumY_val (hy k))
  have HL := hid (sumY_len y)
  have z0 := Blk.new w 61 (arr16 y)
  have b0 := step_alloc w (.cells (arr16 y) 61)
  have s0 : (w.alloc (.cells (arr16 y) 61)).heap.size = w.heap.size + 1 := by simp
  go_enter Try.func41, Try.ntmps41
  go_wp2
  generalize World.alloc _ _ = W at *
  go_loopw [3, 4] (fun v i wr => ∃ k : Nat, k ≤ 16 ∧ i = .int .i64 k ∧ Byt wr (w.heap.size + 1) v ((sumY y).take k) ∧ Below (w.heap.size + 1) W wr) (fun _ i _ => 16 - (intOf i).toNat)
  case atStart => exact ⟨0, by omega, rfl, Byt.nil _ _, Below.refl _ _⟩
  case round =>
    obtain ⟨k, hk, rfl, hv, hB⟩ := hrel
    by_cases hlt : k < 16
    · have et := HT.out k hlt
      have hvk := HV.out k
      have hle : ((sumY y).take k).length ≤ 16 := by rw [List.length_take, HL.out]; omega
      obtain ⟨x, hx⟩ : ∃ x, x = UInt8.ofNat (y k).toNat := ⟨_, rfl⟩
      rw [← hx] at et hvk
      have hrd : Rd (wr.alloc (.cells #[Value.int .u8 (y k)] 5)) (some ⟨wr.heap.size, 0, none⟩) [x] := by
        have := rd_one x wr
        rw [hvk] at this
        exact this
      have hz := hB.size
      have hck : wr.cell? ⟨w.heap.size, k, none⟩ = some (.int .u8 (y k)) := (Blk.cell (z0.below hB (by omega)) (arr16_at' y hlt))
      generalize y k = Y at *
      clear hx hvk HT HV z0
      go_wp2_with (refine wpList_append_bytes rfl (.tmp 9) (.tmp 13) rfl (w.heap.size + 1) _ _ [x] rfl (hv.alloc _) _ 1 1 rfl rfl (fun h => by cases h) hrd (by simp <;> omega) (by simp; omega) ?_; intro v' w' h1 h2 h3)
      go_roundw
      case rel => exact ⟨k + 1, by omega, by go_num, by rw [et]; exact h1, hB.trans (step_app3 h2 (by omega))⟩
      case measure => simp [intOf]; omega
    · obtain rfl : k = 16 := by omega
      rw [List.take_of_length_le (by rw [HL.out]; omega)] at hv
      go_wp2
      go_ret
      exact ⟨_, rfl, hv.mono (by omega), b0.trans (hB.mono (by omega))⟩
/-- Byte by byte. -/
def xorB (a b : Int) : Int := bits .xor .u8 a b
theorem xorB_bd (a b : Int) : 0 ≤ xorB a b ∧ xorB a b < 256 := by
  have := wrap_within .u8 (bits .xor .u8 a b)
  unfold xorB bits
  rw [IntKind.wrap_u8]
  omega
/-- The sums of a stretching, one behind the other; all of them, byte by byte. -/
def strU (p s : List UInt8) : Nat → W8
  | 0 => macW p [s]
  | k + 1 => macW p [sumL (strU p s k)]
def strA (p s : List UInt8) : Nat → Nat → Int
  | 0, j => outF (strU p s 0) j
  | k + 1, j => xorB (strA p s k j) (outF (strU p s (k + 1)) j)
theorem strA_bd (p s : List UInt8) : ∀ k j, 0 ≤ strA p s k j ∧ strA p s k j < 256
  | 0, j => outF_bd _ _
  | k + 1, j => xorB_bd _ _
/-- On the way from one to the next. -/
def midA (a b : Nat → Int) (k j : Nat) : Int := if j < k then xorB (a j) (b j) else a j
theorem midA_set (a b : Nat → Int) {k : Nat} (hk : k < 16) : (arr16 (midA a b k)).setIfInBounds k (.int .u8 (xorB (a k) (b k))) = arr16 (midA a b (k + 1)) := by
  rw [arr16_put _ _ hk]
  refine arr16_congr fun j _ => ?_
  unfold midA
  by_cases e : j = k
  · subst e; rw [if_pos rfl, if_pos (by omega)]
  · rw [if_neg e]
    by_cases h : j < k
    · rw [if_pos h, if_pos (by omega)]
    · rw [if_neg h, if_neg (by omega)]
theorem midA_zero (a b : Nat → Int) : arr16 a = arr16 (midA a b 0) := arr16_congr fun j _ => by unfold midA; rw [if_neg (by omega)]
theorem midA_full (a b : Nat → Int) : arr16 (midA a b 16) = arr16 (fun j => xorB (a j) (b j)) := arr16_congr fun j hj => by unfold midA; rw [if_pos hj]
attribute [irreducible] xorB
end Go.Proofs.Ytgccbfkofkohpaa
