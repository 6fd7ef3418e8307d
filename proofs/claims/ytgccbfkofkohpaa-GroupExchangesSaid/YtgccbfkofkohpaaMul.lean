/- limb.Mul: contract. -/
import Derived.Test.YtgccbfkofkohpaaGaKn
import Derived.Laws.CopyRow
namespace Go.Proofs.Ytgccbfkofkohpaa
set_option linter.unusedVariables false
set_option maxRecDepth 20000
set_option linter.unusedSimpArgs false
open Go.ChangeShapes Go.WideShapes Go.ChangeAt Go.RowKit

/-! The digits of a product's row. -/
def cyM (d : Int) (x y : Nat → Int) : Nat → Int
  | 0 => 0
  | k + 1 => (cyM d x y k + (d * y k + x k)) / 4294967296
def zM (d : Int) (x y : Nat → Int) (k : Nat) : Int := (cyM d x y k + (d * y k + x k)) % 4294967296
theorem zM_bd (d : Int) (x y : Nat → Int) (k : Nat) : 0 ≤ zM d x y k ∧ zM d x y k < 4294967296 := by unfold zM; omega
theorem prod_bd {d y : Int} (hd : 0 ≤ d ∧ d < 4294967296) (hy : 0 ≤ y ∧ y < 4294967296) : 0 ≤ d * y ∧ d * y ≤ 18446744065119617025 := by
  have h1 : 0 ≤ d * y := Int.mul_nonneg hd.1 hy.1
  have h2 : d * y ≤ 4294967295 * y := Int.mul_le_mul_of_nonneg_right (by omega) hy.1
  omega
theorem cyM_bd {d : Int} {x y : Nat → Int} (hd : 0 ≤ d ∧ d < 4294967296) (hx : ∀ k, 0 ≤ x k ∧ x k < 4294967296) (hy : ∀ k, 0 ≤ y k ∧ y k < 4294967296) : ∀ k, 0 ≤ cyM d x y k ∧ cyM d x y k < 4294967296
  | 0 => by simp [cyM]
  | k + 1 => by
    have h1 := cyM_bd hd hx hy k
    have h2 := hx k
    have h3 := prod_bd hd (hy k)
    simp only [cyM]; omega
theorem valM (d : Int) (x y : Nat → Int) : ∀ m, valI (zM d x y) m + cyM d x y m * 4294967296 ^ m = valI x m + d * valI y m
  | 0 => by simp [valI, cyM]
  | m + 1 => by
    have ih := valM d x y m
    have e : zM d x y m + cyM d x y (m + 1) * 4294967296 = cyM d x y m + (d * y m + x m) := by simp only [zM, cyM]; omega
    simp only [valI, Int.pow_succ]
    generalize (4294967296 : Int) ^ m = P at *
    grind
theorem valI_split (f : Nat → Int) (p : Nat) : ∀ q, valI f (p + q) = valI f p + 4294967296 ^ p * valI (fun j => f (p + j)) q
  | 0 => by simp [valI]
  | q + 1 => by
    have ih := valI_split f p q
    rw [← Nat.add_assoc, valI, ih, valI, Int.pow_add]
    grind
theorem valI_zero {f : Nat → Int} {m : Nat} (h : ∀ k, k < m → f k = 0) : valI f m = 0 := by
  induction m with
  | zero => rfl
  | succ m ih => rw [valI, ih fun k hk => h k (by omega), h m (by omega)]; simp

set_option maxHeartbeats 400000 in
theorem times_any (d : Int) (w : World) :
    Calls Try.prog 81 #[.int .u32 d] w fun e w' => e = .returned (.func (.func 98) #[] #[.pointer (some ⟨w.heap.size, 0, none⟩)]) ∧ w.alloc (.cells #[.int .u32 d] 24) = w' := by
  go_enter Try.func81, Try.ntmps81
  go_wp2
  go_ret
  exact ⟨rfl, rfl⟩
set_option maxHeartbeats 400000 in
theorem times1_any (d x y c : Int) (hd : 0 ≤ d ∧ d < 4294967296) (hx : 0 ≤ x ∧ x < 4294967296) (hy : 0 ≤ y ∧ y < 4294967296) (hc : 0 ≤ c ∧ c < 4294967296) (p : Addr) (w : World) (hp : w.cell? p = some (.int .u32 d)) :
    Calls Try.prog 98 #[.int .u32 x, .int .u32 y, .int .u64 c, .pointer (some p)] w fun e w' => e = .returned (.tuple #[.int .u32 ((c + (d * y + x)) % 4294967296), .int .u64 ((c + (d * y + x)) / 4294967296)]) ∧ w = w' := by
  obtain ⟨h1, h2⟩ := prod_bd hd hy
  obtain ⟨hd0, hd1⟩ := hd
  obtain ⟨hx0, hx1⟩ := hx
  obtain ⟨hy0, hy1⟩ := hy
  obtain ⟨hc0, hc1⟩ := hc
  go_enter Try.func98, Try.ntmps98
  go_wp2
  go_ret2
  exact ⟨rfl, rfl⟩
set_option maxHeartbeats 400000 in
theorem along_mul (b o n cap b2 o2 m cap2 N : Nat) (T : TypeId) (f : Nat → Value) (x y : Nat → Int) (d : Int) (p : Addr) (w : World)
   (hm : m ≤ n) (hn : n ≤ maxLen) (hN : o + n ≤ N) (hb : w.rowIs b T N f) (hf : ∀ k, k < m → f (o + k) = .int .u32 (x k))
   (hy : ∀ k, k < m → w.cell? ⟨b2, o2 + k, none⟩ = some (.int .u32 (y k))) (hne : b2 ≠ b) (hb2 : b2 < w.heap.size) (hp : w.cell? p = some (.int .u32 d)) (hpb : p.block ≠ b)
   (bx : ∀ k, 0 ≤ x k ∧ x k < 4294967296) (by_ : ∀ k, 0 ≤ y k ∧ y k < 4294967296) (hd : 0 ≤ d ∧ d < 4294967296) :
    Calls Try.prog 80 #[.slice (some ⟨b, o, none⟩) n cap, .slice (some ⟨b2, o2, none⟩) m cap2, .int .u64 0, .func (.func 98) #[] #[.pointer (some p)]] w fun e w' =>
      e = .returned (.int .u64 (cyM d x y m)) ∧ w.grownBy w' (some b) ∧ w'.rowIs b T N (fun j => if o ≤ j ∧ j < o + m then .int .u32 (zM d x y (j - o)) else f j) := by
  unfold maxLen at hn
  go_enter Try.func80, Try.ntmps80
  go_wp2
  go_loopw [2, 13] (fun v i wr => ∃ k : Nat, k ≤ m ∧ i = .int .i64 k ∧ v = .int .u64 (cyM d x y k) ∧ w.grownBy wr (some b) ∧ wr.rowIs b T N (fun j => if o ≤ j ∧ j < o + k then .int .u32 (zM d x y (j - o)) else f j)) (fun _ i _ => m - (intOf i).toNat)
  case atStart => exact ⟨0, Nat.zero_le _, rfl, rfl, World.grownBy.refl _ _, hb.congr (fun i _ => by rw [if_neg (by omega)])⟩
  case round =>
    obtain ⟨k, hk, rfl, rfl, hg, hr⟩ := hrel
    have hcy := cyM_bd hd bx by_ k
    have c1 : k < m → wr.cell? ⟨b2, o2 + k, none⟩ = some (.int .u32 (y k)) := fun h => hg.cell (hy k h) (fun e => hne (by simpa using e))
    have c2 : k < m → wr.cell? ⟨b, o + k, none⟩ = some (.int .u32 (x k)) := fun h => by rw [hr.cell (by omega), if_neg (by omega), hf k h]
    have c3 : wr.frozen? ⟨b, o + k, none⟩ = false := hr.frozen _
    have c4 := hg.cell hp (fun e => hpb (by simpa using e))
    have hxk := bx k
    have hyk := by_ k
    have HX := hid hxk
    have HY := hid hyk
    have HC := hid hcy
    have HD := hid hd
    clear hf hy bx by_ hxk hyk hcy hd
    go_wp2_with (go_at_call 98; refine (times1_any d _ _ _ HD.out HX.out HY.out HC.out p _ c4).mono ?_; rintro e w' ⟨rfl, rfl⟩)
    · go_roundw
      case rel =>
        refine ⟨k + 1, by omega, by go_num, ?_, grown_set hg rfl _, (hr.set (o + k) _).congr fun j hj => ?_⟩
        · rfl
        · by_cases e : j = o + k
          · subst e
            rw [if_pos rfl, if_pos (by omega), Nat.add_sub_cancel_left, zM]
          · rw [if_neg e]
            by_cases h1 : o ≤ j ∧ j < o + k
            · rw [if_pos h1, if_pos (by omega)]
            · rw [if_neg h1, if_neg (by omega)]
      case measure => simp [intOf]; omega
    · have : k = m := by omega
      subst this
      go_ret
      exact ⟨rfl, hg, hr⟩

/-! The number that stands in the row after k rounds. -/
def rowN (a b k : Nat) : Nat := a % 4294967296 ^ k * b
theorem rowN_lt {a b k : Nat} (hb : b < 4294967296 ^ 8) : rowN a b k < 4294967296 ^ (k + 8) := by
  unfold rowN
  rw [Nat.pow_add]
  have h1 : a % 4294967296 ^ k < 4294967296 ^ k := Nat.mod_lt _ (pow_pos' k)
  exact Nat.mul_lt_mul'' h1 hb
/-- The row behind round k. -/
def nextZ (a b k j : Nat) : Int :=
  if k ≤ j ∧ j < k + 8 then zM (digI a k) (fun i => digI (rowN a b k) (k + i)) (digI b) (j - k)
  else if j = k + 8 then cyM (digI a k) (fun i => digI (rowN a b k) (k + i)) (digI b) 8 else digI (rowN a b k) j
theorem digI_high {n m k : Nat} (h : n < 4294967296 ^ m) (hk : m ≤ k) : digI n k = 0 := by unfold digI; rw [dig_of_lt h hk]; rfl
theorem mul_step {a b k : Nat} (hb : b < 4294967296 ^ 8) (hk : k < 8) : ∀ j, j < 16 → nextZ a b k j = digI (rowN a b (k + 1)) j := by
  have hN := rowN_lt (a := a) (b := b) (k := k) hb
  have hdb : ∀ n j, 0 ≤ digI n j ∧ digI n j < 4294967296 := fun n j => ⟨digI_ge _ _, digI_lt _ _⟩
  have hcb := cyM_bd (d := digI a k) (x := fun i => digI (rowN a b k) (k + i)) (y := digI b) (hdb _ _) (fun i => hdb _ _) (fun i => hdb _ _) 8
  have hz := valM (digI a k) (fun i => digI (rowN a b k) (k + i)) (digI b) 8
  have hbd : ∀ j, j < 16 → 0 ≤ nextZ a b k j ∧ nextZ a b k j < 4294967296 := fun j _ => by
    unfold nextZ
    split
    · exact zM_bd _ _ _ _
    · split
      · exact hcb
      · exact hdb _ _
  have hlt : rowN a b (k + 1) < 4294967296 ^ 16 := Nat.lt_of_lt_of_le (rowN_lt hb) (Nat.pow_le_pow_right (by decide) (by omega))
  refine digI_of hbd hlt ?_
  obtain ⟨r, hr⟩ : ∃ r, 7 - k = r := ⟨_, rfl⟩
  have e16 : 16 = k + (8 + (1 + r)) := by omega
  -- the new row
  have n1 : valI (nextZ a b k) k = valI (digI (rowN a b k)) k := valI_congr fun j hj => by unfold nextZ; rw [if_neg (by omega), if_neg (by omega)]
  have n2 : valI (fun j => nextZ a b k (k + j)) 8 = valI (zM (digI a k) (fun i => digI (rowN a b k) (k + i)) (digI b)) 8 := valI_congr fun j hj => by
    unfold nextZ; rw [if_pos (by omega), Nat.add_sub_cancel_left]
  have n3 : valI (fun j => nextZ a b k (k + (8 + j))) (1 + r) = cyM (digI a k) (fun i => digI (rowN a b k) (k + i)) (digI b) 8 := by
    rw [valI_split]
    have : valI (fun j => nextZ a b k (k + (8 + (1 + j)))) r = 0 := valI_zero fun j hj => by
      unfold nextZ; rw [if_neg (by omega), if_neg (by omega)]; exact digI_high hN (by omega)
    rw [this]
    simp only [valI]
    unfold nextZ; rw [if_neg (by omega), if_pos (by omega)]; simp
  have n4 : valI (nextZ a b k) 16 = valI (digI (rowN a b k)) k + 4294967296 ^ k * (valI (zM (digI a k) (fun i => digI (rowN a b k) (k + i)) (digI b)) 8 + 4294967296 ^ 8 * cyM (digI a k) (fun i => digI (rowN a b k) (k + i)) (digI b) 8) := by
    rw [e16, valI_split, valI_split, n1, n2, n3]
  -- the old one
  have o3 : valI (fun j => digI (rowN a b k) (k + (8 + j))) (1 + r) = 0 := valI_zero fun j hj => digI_high hN (by omega)
  have o4 : valI (digI (rowN a b k)) 16 = valI (digI (rowN a b k)) k + 4294967296 ^ k * (valI (fun i => digI (rowN a b k) (k + i)) 8 + 4294967296 ^ 8 * 0) := by
    rw [e16, valI_split, valI_split, o3]
  have o5 : valI (digI (rowN a b k)) 16 = (rowN a b k : Int) := by
    rw [valI_dig, Nat.mod_eq_of_lt (Nat.lt_of_lt_of_le hN (Nat.pow_le_pow_right (by decide) (by omega)))]
  have o6 : valI (digI b) 8 = (b : Int) := by rw [valI_dig, Nat.mod_eq_of_lt hb]
  have hs : ((rowN a b (k + 1) : Nat) : Int) = (rowN a b k : Int) + 4294967296 ^ k * (digI a k * b) := by
    unfold rowN digI
    rw [Nat.pow_succ, Nat.mod_mul]
    unfold dig
    simp only [Int.natCast_mul, Int.natCast_add, Int.natCast_pow]
    generalize ((a % 4294967296 ^ k : Nat) : Int) = u
    generalize ((a / 4294967296 ^ k % 4294967296 : Nat) : Int) = v
    have : (((4294967296 : Nat) : Int) ^ k) = 4294967296 ^ k := rfl
    rw [this]
    grind
  rw [n4, hs, ← o5, o4]
  rw [o6] at hz
  generalize (4294967296 : Int) ^ k = P
  grind
theorem rowN_zero (a b : Nat) : rowN a b 0 = 0 := by unfold rowN; simp [Nat.mod_one]
theorem rowN_full {a : Nat} (b : Nat) (ha : a < 4294967296 ^ 8) : rowN a b 8 = a * b := by unfold rowN; rw [Nat.mod_eq_of_lt ha]
theorem digI_zeroN (j : Nat) : digI 0 j = 0 := digI_high (m := 0) (by omega) (by omega)

theorem underlying_16 : Try.prog.underlying 85 = some (.array 16 24) := by kernel_rfl
theorem slice_window (g k : Nat) (hk : k < 8) (w : World) : (Instr.sliceAt 85 (.pointer (some ⟨g, 0, none⟩)) (some (.int .i64 (k : Int))) (some (.int .i64 ((k : Int) + 8))) (some (.int .i64 ((k : Int) + 8)))).run Try.prog w = .ok (.slice (some ⟨g, k, none⟩) 8 8) w := by
  have hl : Try.prog.arrayLen 85 = 16 := by kernel_rfl
  have he : Try.prog.elem 85 = 24 := by kernel_rfl
  have hu : Try.prog.underlying 85 = some (.array (Try.prog.arrayLen 85) (Try.prog.elem 85)) := by rw [hl, he]; exact underlying_16
  rw [run_sliceAt_array_lhm w 85 ⟨g, 0, none⟩ hu .i64 .i64 .i64 k (k + 8) (k + 8) (by omega) (by omega) (by omega) (by rw [hl]; omega), he, sizeOf_u32]
  have e1 : ((k : Int) + 8).toNat = k + 8 := by omega
  simp only [Result.andThen_ok, slicedAt, e1, Int.toNat_natCast, addr_add]
  rw [if_neg (by omega)]
  have e2 : k + 8 - k = 8 := by omega
  rw [e2]
  simp
theorem size_u32 : (Try.prog.info? 24).map (·.size) = some 1 := by kernel_rfl
theorem dig_shift (n o k : Nat) : digI (n / 4294967296 ^ o) k = digI n (o + k) := by
  unfold digI dig
  rw [Nat.div_div_eq_div_mul, ← Nat.pow_add]
theorem copy_num (W : World) (g b4 n0 N o scap : Nat) (ho : o + 8 ≤ 16) (hb : Num W b4 26 n0) (hr : W.rowIs g 85 16 (numF N)) :
    ∃ w2, (Builtin.copy_ #[98, 98] 3 #[.slice (some ⟨b4, 0, none⟩) 8 8, .slice (some ⟨g, o, none⟩) 8 scap]).run Try.prog W = .ok (.int .i64 8) w2 ∧ Num w2 b4 26 (N / 4294967296 ^ o) ∧ W.grownBy w2 (some b4) := by
  have hrun := run_copy_row (P := Try.prog) W 98 98 3 24 b4 0 8 8 ⟨g, o, none⟩ 8 scap (numA n0) 26 (numA (N / 4294967296 ^ o)).toList Try.underlying98 size_u32 hb rfl
    (fun j v hj => by
      have hj8 : j < 8 := by
        have := (List.getElem?_eq_some_iff.1 hj).1
        exact this
      rw [addr_add, hr.cell (by omega)]
      rw [← hj, Array.getElem?_toList, numA_get _ hj8]
      unfold numF
      rw [dig_shift]) (Nat.le_refl _) (fun v hv => by
      have := numA_one (N / 4294967296 ^ o)
      rw [Array.all_eq_true'] at this
      exact this v (Array.mem_toList_iff.1 hv))
  refine ⟨_, hrun, ?_, grown_setRow _ _ _⟩
  have e : ((numA n0).toList.take 0 ++ (numA (N / 4294967296 ^ o)).toList ++ (numA n0).toList.drop (0 + (numA (N / 4294967296 ^ o)).toList.length)).toArray = numA (N / 4294967296 ^ o) := rfl
  rw [e]
  exact num_setRow _ hb
theorem grown_trans' {a b c : World} {row : Option Nat} (h : a.grownBy b row) (k : b.grownBy c row) : a.grownBy c row :=
  ⟨k.os.trans h.os, k.tape.trans h.tape, k.output.trans h.output, Nat.le_trans h.size k.size, fun i hi hn => (k.block i (Nat.lt_of_lt_of_le hi h.size) hn).trans (h.block i hi hn)⟩
theorem grown_alloc' {a b : World} {row : Option Nat} (h : a.grownBy b row) (o : Obj) : a.grownBy ((b.alloc o).drew) row :=
  ⟨h.os, h.tape, h.output, by simp; have := h.size; omega, fun i hi hn => (Below.heap_alloc b o i (Nat.lt_of_lt_of_le hi h.size)).trans (h.block i hi hn)⟩
theorem zero16 (w : World) : (w.alloc (.cells #[Value.int .u32 0, .int .u32 0, .int .u32 0, .int .u32 0, .int .u32 0, .int .u32 0, .int .u32 0, .int .u32 0, .int .u32 0, .int .u32 0, .int .u32 0, .int .u32 0, .int .u32 0, .int .u32 0, .int .u32 0, .int .u32 0] 85)).rowIs w.heap.size 85 16 (numF 0) := by
  refine World.rowIs_alloc w #[Value.int .u32 0, .int .u32 0, .int .u32 0, .int .u32 0, .int .u32 0, .int .u32 0, .int .u32 0, .int .u32 0, .int .u32 0, .int .u32 0, .int .u32 0, .int .u32 0, .int .u32 0, .int .u32 0, .int .u32 0, .int .u32 0] 85 (numF 0) fun i hi => ?_
  have e : numF 0 i = .int .u32 0 := by unfold numF; rw [digI_zeroN]
  rw [e]
  have hi' : i < 16 := hi
  have : i = 0 ∨ i = 1 ∨ i = 2 ∨ i = 3 ∨ i = 4 ∨ i = 5 ∨ i = 6 ∨ i = 7 ∨ i = 8 ∨ i = 9 ∨ i = 10 ∨ i = 11 ∨ i = 12 ∨ i = 13 ∨ i = 14 ∨ i = 15 := by omega
  rcases this with rfl | rfl | rfl | rfl | rfl | rfl | rfl | rfl | rfl | rfl | rfl | rfl | rfl | rfl | rfl | rfl <;> rfl
set_option maxHeartbeats 4000000 in
theorem mul_any (a b : Nat) (ha : a < 4294967296 ^ 8) (hb : b < 4294967296 ^ 8) (w : World) :
    Calls Try.prog 53 #[numV a, numV b] w fun e w' => e = .returned (.tuple #[numV (a * b % 4294967296 ^ 8), numV (a * b / 4294967296 ^ 8)]) ∧ Below w.heap.size w w' := by
  have g0 : Num (((((w.alloc (.cells (numA a) 26)).alloc (.cells (numA b) 26)).alloc (.cells #[Value.int .u32 0, .int .u32 0, .int .u32 0, .int .u32 0, .int .u32 0, .int .u32 0, .int .u32 0, .int .u32 0] 26)).alloc (.cells #[Value.int .u32 0, .int .u32 0, .int .u32 0, .int .u32 0, .int .u32 0, .int .u32 0, .int .u32 0, .int .u32 0] 26)).alloc (.cells #[Value.int .u32 0, .int .u32 0, .int .u32 0, .int .u32 0, .int .u32 0, .int .u32 0, .int .u32 0, .int .u32 0, .int .u32 0, .int .u32 0, .int .u32 0, .int .u32 0, .int .u32 0, .int .u32 0, .int .u32 0, .int .u32 0] 85)) w.heap.size 26 a := ((((Num.new w 26 a).alloc _).alloc _).alloc _).alloc _
  have g1 : Num (((((w.alloc (.cells (numA a) 26)).alloc (.cells (numA b) 26)).alloc (.cells #[Value.int .u32 0, .int .u32 0, .int .u32 0, .int .u32 0, .int .u32 0, .int .u32 0, .int .u32 0, .int .u32 0] 26)).alloc (.cells #[Value.int .u32 0, .int .u32 0, .int .u32 0, .int .u32 0, .int .u32 0, .int .u32 0, .int .u32 0, .int .u32 0] 26)).alloc (.cells #[Value.int .u32 0, .int .u32 0, .int .u32 0, .int .u32 0, .int .u32 0, .int .u32 0, .int .u32 0, .int .u32 0, .int .u32 0, .int .u32 0, .int .u32 0, .int .u32 0, .int .u32 0, .int .u32 0, .int .u32 0, .int .u32 0] 85)) (w.heap.size + 1) 26 b := by
    have := (((Num.new (w.alloc (.cells (numA a) 26)) 26 b).alloc (.cells #[Value.int .u32 0, .int .u32 0, .int .u32 0, .int .u32 0, .int .u32 0, .int .u32 0, .int .u32 0, .int .u32 0] 26)).alloc (.cells #[Value.int .u32 0, .int .u32 0, .int .u32 0, .int .u32 0, .int .u32 0, .int .u32 0, .int .u32 0, .int .u32 0] 26)).alloc (.cells #[Value.int .u32 0, .int .u32 0, .int .u32 0, .int .u32 0, .int .u32 0, .int .u32 0, .int .u32 0, .int .u32 0, .int .u32 0, .int .u32 0, .int .u32 0, .int .u32 0, .int .u32 0, .int .u32 0, .int .u32 0, .int .u32 0] 85)
    rw [World.size_alloc] at this; exact this
  have g2 : Num (((((w.alloc (.cells (numA a) 26)).alloc (.cells (numA b) 26)).alloc (.cells #[Value.int .u32 0, .int .u32 0, .int .u32 0, .int .u32 0, .int .u32 0, .int .u32 0, .int .u32 0, .int .u32 0] 26)).alloc (.cells #[Value.int .u32 0, .int .u32 0, .int .u32 0, .int .u32 0, .int .u32 0, .int .u32 0, .int .u32 0, .int .u32 0] 26)).alloc (.cells #[Value.int .u32 0, .int .u32 0, .int .u32 0, .int .u32 0, .int .u32 0, .int .u32 0, .int .u32 0, .int .u32 0, .int .u32 0, .int .u32 0, .int .u32 0, .int .u32 0, .int .u32 0, .int .u32 0, .int .u32 0, .int .u32 0] 85)) (w.heap.size + 1 + 1) 26 0 := by
    have := ((Num.new ((w.alloc (.cells (numA a) 26)).alloc (.cells (numA b) 26)) 26 0).alloc (.cells #[Value.int .u32 0, .int .u32 0, .int .u32 0, .int .u32 0, .int .u32 0, .int .u32 0, .int .u32 0, .int .u32 0] 26)).alloc (.cells #[Value.int .u32 0, .int .u32 0, .int .u32 0, .int .u32 0, .int .u32 0, .int .u32 0, .int .u32 0, .int .u32 0, .int .u32 0, .int .u32 0, .int .u32 0, .int .u32 0, .int .u32 0, .int .u32 0, .int .u32 0, .int .u32 0] 85)
    rw [← zeroA, World.size_alloc, World.size_alloc] at this; exact this
  have g3 : Num (((((w.alloc (.cells (numA a) 26)).alloc (.cells (numA b) 26)).alloc (.cells #[Value.int .u32 0, .int .u32 0, .int .u32 0, .int .u32 0, .int .u32 0, .int .u32 0, .int .u32 0, .int .u32 0] 26)).alloc (.cells #[Value.int .u32 0, .int .u32 0, .int .u32 0, .int .u32 0, .int .u32 0, .int .u32 0, .int .u32 0, .int .u32 0] 26)).alloc (.cells #[Value.int .u32 0, .int .u32 0, .int .u32 0, .int .u32 0, .int .u32 0, .int .u32 0, .int .u32 0, .int .u32 0, .int .u32 0, .int .u32 0, .int .u32 0, .int .u32 0, .int .u32 0, .int .u32 0, .int .u32 0, .int .u32 0] 85)) (w.heap.size + 1 + 1 + 1) 26 0 := by
    have := (Num.new (((w.alloc (.cells (numA a) 26)).alloc (.cells (numA b) 26)).alloc (.cells #[Value.int .u32 0, .int .u32 0, .int .u32 0, .int .u32 0, .int .u32 0, .int .u32 0, .int .u32 0, .int .u32 0] 26)) 26 0).alloc (.cells #[Value.int .u32 0, .int .u32 0, .int .u32 0, .int .u32 0, .int .u32 0, .int .u32 0, .int .u32 0, .int .u32 0, .int .u32 0, .int .u32 0, .int .u32 0, .int .u32 0, .int .u32 0, .int .u32 0, .int .u32 0, .int .u32 0] 85)
    rw [← zeroA, World.size_alloc, World.size_alloc, World.size_alloc] at this; exact this
  have g4 : (((((w.alloc (.cells (numA a) 26)).alloc (.cells (numA b) 26)).alloc (.cells #[Value.int .u32 0, .int .u32 0, .int .u32 0, .int .u32 0, .int .u32 0, .int .u32 0, .int .u32 0, .int .u32 0] 26)).alloc (.cells #[Value.int .u32 0, .int .u32 0, .int .u32 0, .int .u32 0, .int .u32 0, .int .u32 0, .int .u32 0, .int .u32 0] 26)).alloc (.cells #[Value.int .u32 0, .int .u32 0, .int .u32 0, .int .u32 0, .int .u32 0, .int .u32 0, .int .u32 0, .int .u32 0, .int .u32 0, .int .u32 0, .int .u32 0, .int .u32 0, .int .u32 0, .int .u32 0, .int .u32 0, .int .u32 0] 85)).rowIs (w.heap.size + 1 + 1 + 1 + 1) 85 16 (numF (rowN a b 0)) := by
    have := zero16 ((((w.alloc (.cells (numA a) 26)).alloc (.cells (numA b) 26)).alloc (.cells #[Value.int .u32 0, .int .u32 0, .int .u32 0, .int .u32 0, .int .u32 0, .int .u32 0, .int .u32 0, .int .u32 0] 26)).alloc (.cells #[Value.int .u32 0, .int .u32 0, .int .u32 0, .int .u32 0, .int .u32 0, .int .u32 0, .int .u32 0, .int .u32 0] 26))
    rw [World.size_alloc, World.size_alloc, World.size_alloc, World.size_alloc] at this; rw [rowN_zero]; exact this
  have gb : Below w.heap.size w (((((w.alloc (.cells (numA a) 26)).alloc (.cells (numA b) 26)).alloc (.cells #[Value.int .u32 0, .int .u32 0, .int .u32 0, .int .u32 0, .int .u32 0, .int .u32 0, .int .u32 0, .int .u32 0] 26)).alloc (.cells #[Value.int .u32 0, .int .u32 0, .int .u32 0, .int .u32 0, .int .u32 0, .int .u32 0, .int .u32 0, .int .u32 0] 26)).alloc (.cells #[Value.int .u32 0, .int .u32 0, .int .u32 0, .int .u32 0, .int .u32 0, .int .u32 0, .int .u32 0, .int .u32 0, .int .u32 0, .int .u32 0, .int .u32 0, .int .u32 0, .int .u32 0, .int .u32 0, .int .u32 0, .int .u32 0] 85)) := (((((Below.refl _ _).alloc (Nat.le_refl _) _).alloc (by simp) _).alloc (by simp; omega) _).alloc (by simp; omega) _).alloc (by simp; omega) _
  have gs : w.heap.size + 4 < (((((w.alloc (.cells (numA a) 26)).alloc (.cells (numA b) 26)).alloc (.cells #[Value.int .u32 0, .int .u32 0, .int .u32 0, .int .u32 0, .int .u32 0, .int .u32 0, .int .u32 0, .int .u32 0] 26)).alloc (.cells #[Value.int .u32 0, .int .u32 0, .int .u32 0, .int .u32 0, .int .u32 0, .int .u32 0, .int .u32 0, .int .u32 0] 26)).alloc (.cells #[Value.int .u32 0, .int .u32 0, .int .u32 0, .int .u32 0, .int .u32 0, .int .u32 0, .int .u32 0, .int .u32 0, .int .u32 0, .int .u32 0, .int .u32 0, .int .u32 0, .int .u32 0, .int .u32 0, .int .u32 0, .int .u32 0] 85)).heap.size := by simp
  go_enter Try.func53, Try.ntmps53
  go_wp2_with (refine wpList_load_num rfl _ _ rfl _ rfl _ _ _ g0 Try.underlying26 rfl size26 ?_)
  generalize hW : World.alloc _ _ = W at *
  clear hW
  go_loopw [11] (fun i wr => ∃ k : Nat, k ≤ 8 ∧ i = .int .i64 k ∧ wr.rowIs (w.heap.size + 1 + 1 + 1 + 1) 85 16 (numF (rowN a b k)) ∧ W.grownBy wr (some (w.heap.size + 1 + 1 + 1 + 1))) (fun i _ => 8 - (intOf i).toNat)
  case atStart => exact ⟨0, by omega, rfl, g4, World.grownBy.refl _ _⟩
  case round =>
    obtain ⟨k, hk, rfl, hr, hg⟩ := hrel
    clear g4
    by_cases hlt : k < 8
    · have hix := fun w => index_num a k hlt w
      have ms := hid (mul_step (a := a) hb hlt)
      have h1 := g1.grown hg (by simp <;> omega)
      have sg := hg.size
      have hd1 : 0 ≤ digI a k ∧ digI a k < 4294967296 := ⟨digI_ge _ _, digI_lt _ _⟩
      have HD := hid hd1
      have hkk : (k : Int) ≤ 7 := by omega
      clear hd1
      have hsl := fun w' => slice_window (w.heap.size + 1 + 1 + 1 + 1) k hlt w'
      go_wp2_with fail
      clear hix
      have r2 := hr.drew.alloc (.cells #[.int .u32 (digI a k)] 24)
      have h2 := (h1.drew).alloc (.cells #[.int .u32 (digI a k)] 24)
      have c2 : (wr.drew.alloc (.cells #[.int .u32 (digI a k)] 24)).cell? ⟨wr.heap.size, 0, none⟩ = some (.int .u32 (digI a k)) := World.cell?_alloc_new wr.drew _ _ 0
      have hs2 : w.heap.size + 1 < (wr.drew.alloc (.cells #[.int .u32 (digI a k)] 24)).heap.size := by simp; omega
      have hcb := cyM_bd (d := digI a k) (x := fun i => digI (rowN a b k) (k + i)) (y := digI b) HD.out (fun i => ⟨digI_ge _ _, digI_lt _ _⟩) (fun i => ⟨digI_ge _ _, digI_lt _ _⟩) 8
      obtain ⟨C, hC⟩ : ∃ C, cyM (digI a k) (fun i => digI (rowN a b k) (k + i)) (digI b) 8 = C := ⟨_, rfl⟩
      rw [hC] at hcb
      obtain ⟨hcb0, hcb1⟩ := hcb
      have HCC := hid hC
      clear hC
      have r3 : ((wr.alloc (.cells #[.int .u32 (digI a k)] 24)).drew).rowIs (w.heap.size + 1 + 1 + 1 + 1) 85 16 (numF (rowN a b k)) := hr.alloc _
      have c3 : ((wr.alloc (.cells #[.int .u32 (digI a k)] 24)).drew).cell? ⟨wr.heap.size, 0, none⟩ = some (.int .u32 (digI a k)) := World.cell?_alloc_new wr _ _ 0
      have h3 : Num ((wr.alloc (.cells #[.int .u32 (digI a k)] 24)).drew) (w.heap.size + 1) 26 b := h1.alloc _
      have hs3 : w.heap.size + 1 < ((wr.alloc (.cells #[.int .u32 (digI a k)] 24)).drew).heap.size := by simp; omega
      have hng : wr.heap.size ≠ w.heap.size + 1 + 1 + 1 + 1 := by omega
      clear r2 c2 h2 hs2
      go_region_with (first | (go_at_call 81; refine (times_any _ _).mono ?_; rintro e w1 ⟨rfl, rfl⟩) | (go_at_call 80; refine (along_mul (w.heap.size + 1 + 1 + 1 + 1) k 8 8 (w.heap.size + 1) 0 8 8 16 85 (numF (rowN a b k)) (fun i => digI (rowN a b k) (k + i)) (digI b) (digI a k) ⟨wr.heap.size, 0, none⟩ _ (by omega) (by unfold maxLen; omega) (by omega) r3 (fun i _ => rfl) (fun i hi => by rw [Nat.zero_add]; exact h3.cell hi) (by omega) hs3 c3 hng (fun i => ⟨digI_ge _ _, digI_lt _ _⟩) (fun i => ⟨digI_ge _ _, digI_lt _ _⟩) HD.out).mono ?_; rw [HCC.out]; rintro e w1 ⟨rfl, hgA, hrA⟩; have hzA := hrA.frozen (k + 8); have hcA := hrA.cell (i := k + 8) (by omega); rw [if_neg (by omega)] at hcA; unfold numF at hcA))
      go_wp2
      go_roundw
      case rel =>
        refine ⟨k + 1, by omega, by go_num, (hrA.set (k + 8) _).congr fun j hj => ?_, ?_⟩
        · have e := ms.out j hj
          unfold numF
          rw [← e]
          unfold nextZ
          by_cases h8 : j = k + 8
          · rw [if_pos h8, if_neg (by omega), if_pos h8, HCC.out]
          · rw [if_neg h8]
            by_cases h9 : k ≤ j ∧ j < k + 8
            · rw [if_pos h9, if_pos h9]
            · rw [if_neg h9, if_neg h9, if_neg h8]
        · exact grown_set (grown_trans' (grown_alloc' hg _) hgA) rfl _
      case measure => simp [intOf] <;> omega
    · obtain rfl : k = 8 := by omega
      have hrN : wr.rowIs (w.heap.size + 1 + 1 + 1 + 1) 85 16 (numF (a * b)) := by rw [← rowN_full b ha]; exact hr
      have k2 := g2.grown hg (by simp <;> omega)
      have k3 := g3.grown hg (by simp <;> omega)
      have bb := below_of_grown gb hg (by omega) (by omega)
      have sg := hg.size
      go_wp2_with fail
      go_still_tail 2, (by kernel_rfl)
      change wpList _ _ _ _ _ (World.drew _)
      go_wp2_with fail
      obtain ⟨u1, e1, q2, qg⟩ := copy_num wr.drew _ _ 0 (a * b) 0 16 (by omega) k2 hrN
      rw [e1]
      clear e1
      have q3 := k3.drew.grown qg (by simp <;> omega)
      have rN : u1.rowIs (w.heap.size + 1 + 1 + 1 + 1) 85 16 (numF (a * b)) := World.rowIs.of_block (w := wr.drew) hrN (qg.block _ (by simp; omega) (by simp <;> omega))
      have bq := below_of_grown bb.drew qg (by simp; omega) (by omega)
      have sq := qg.size
      simp only [World.size_drew] at sq
      go_wp2_with fail
      go_still_tail 2, (by kernel_rfl)
      change wpList _ _ _ _ _ (World.drew _)
      go_wp2_with fail
      obtain ⟨u2, e2, p3, pg⟩ := copy_num u1.drew _ _ 0 (a * b) 8 8 (by omega) q3 rN
      rw [e2]
      clear e2
      have p2 := q2.drew.grown pg (by simp <;> omega)
      have bp := below_of_grown bq.drew pg (by simp; omega) (by omega)
      have sp := pg.size
      simp only [World.size_drew] at sp
      go_wp2_with (first | (refine wpList_load_num rfl _ (.tmp 4) rfl _ rfl _ _ _ p2 Try.underlying26 rfl size26 ?_) | (refine wpList_load_num rfl _ (.tmp 5) rfl _ rfl _ _ _ p3 Try.underlying26 rfl size26 ?_) | (refine wpList_store_num rfl _ (.tmp 4) _ rfl _ rfl _ rfl _ rfl p2 size26 ?_; intro v1 vg1 vm1; have p3' := p3.grown vg1 (by simp <;> omega)) | (refine wpList_store_num rfl _ (.tmp 5) _ rfl _ rfl _ rfl _ rfl p3' size26 ?_; intro v2 vg2 vm2))
      have r2 := vm1.grown vg2 (by simp <;> omega)
      have sv := vg1.size
      have z1 : numA (a * b / 4294967296 ^ 0) = numA (a * b % 4294967296 ^ 8) := by rw [Nat.pow_zero, Nat.div_one, numA_mod]
      have z2 : numV (a * b % 4294967296 ^ 8) = numV (a * b / 4294967296 ^ 0) := congrArg Value.agg z1.symm
      rw [z2]
      exact bodyPost_ret (results_num2 rfl rfl r2 rfl vm2 Try.underlying26 rfl size26) rfl ⟨rfl, below_of_grown (below_of_grown bp vg1 (by omega) (by omega)) vg2 (by omega) (by omega)⟩
end Go.Proofs.Ytgccbfkofkohpaa
