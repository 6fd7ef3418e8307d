/- Plain facts on bytes: numbers as 32 bytes, the highest first; rows of bytes in memory. -/
import Derived.Test.YteihojjciklfoaaNum
namespace Go.Proofs.Yteihojjciklfoaa
set_option linter.unusedVariables false
set_option linter.unusedSimpArgs false
open Go.RowKit

/-- A byte as a value. -/
def bv (b : UInt8) : Value := .int .u8 (b.toNat : Int)
def bvs (l : List UInt8) : Array Value := (l.map bv).toArray
/-- Byte p of n's 32. -/
def byteN (n p : Nat) : UInt8 := UInt8.ofNat (n / 256 ^ (31 - p) % 256)
def bytesN (n : Nat) : List UInt8 := (List.range 32).map (byteN n)
def readN (l : List UInt8) : Nat := l.foldl (fun n b => n * 256 + b.toNat) 0
theorem bytesN_length (n : Nat) : (bytesN n).length = 32 := by simp [bytesN]
theorem bytesN_get (n : Nat) {p : Nat} (h : p < 32) : (bytesN n)[p]? = some (byteN n p) := by simp [bytesN, h]
theorem byteN_toNat (n p : Nat) : (byteN n p).toNat = n / 256 ^ (31 - p) % 256 := by simp [byteN]
theorem foldl_read (l : List UInt8) (s : Nat) : l.foldl (fun n b => n * 256 + b.toNat) s = s * 256 ^ l.length + readN l := by
  induction l generalizing s with
  | nil => simp [readN]
  | cons b l ih =>
    simp only [List.foldl_cons, readN, List.length_cons]
    rw [ih, ih (0 * 256 + b.toNat)]
    rw [Nat.pow_succ]
    grind
theorem readN_append (l r : List UInt8) : readN (l ++ r) = readN l * 256 ^ r.length + readN r := by
  unfold readN; rw [List.foldl_append, foldl_read]; rfl
theorem readN_lt (l : List UInt8) : readN l < 256 ^ l.length := by
  induction l with
  | nil => simp [readN]
  | cons b l ih =>
    have h : readN (b :: l) = b.toNat * 256 ^ l.length + readN l := by
      simp only [readN, List.foldl_cons]; rw [foldl_read]; simp [readN]
    have hb : b.toNat ≤ 255 := by have := b.toNat_lt; omega
    have := Nat.mul_le_mul_right (256 ^ l.length) hb
    rw [h, List.length_cons, Nat.pow_succ]; omega
theorem readN_snoc (l : List UInt8) (b : UInt8) : readN (l ++ [b]) = readN l * 256 + b.toNat := by
  rw [readN_append]; simp [readN]
theorem readN_zeros (n : Nat) (l : List UInt8) : readN (List.replicate n 0 ++ l) = readN l := by
  rw [readN_append]
  have : readN (List.replicate n 0) = 0 := by
    induction n with
    | zero => rfl
    | succ n ih => rw [List.replicate_succ', readN_snoc, ih]; rfl
  rw [this]; omega
theorem read_take (n : Nat) : ∀ k, k ≤ 32 → readN ((bytesN n).take k) = n / 256 ^ (32 - k) % 256 ^ k
  | 0, _ => by simp [readN, Nat.mod_one]
  | k + 1, h => by
    have hl : k < (bytesN n).length := by rw [bytesN_length]; omega
    rw [List.take_succ_eq_append_getElem hl, readN_snoc, read_take n k (by omega)]
    have e : (bytesN n)[k] = byteN n k := by simp [bytesN]
    rw [e, byteN_toNat]
    have e1 : 256 ^ (32 - k) = 256 ^ (32 - (k + 1)) * 256 := by rw [← Nat.pow_succ]; congr 1; omega
    have e2 : 31 - k = 32 - (k + 1) := by omega
    rw [e1, ← Nat.div_div_eq_div_mul, e2]
    generalize n / 256 ^ (32 - (k + 1)) = x
    have h1 : x % 256 ^ (k + 1) = x % 256 + 256 * (x / 256 % 256 ^ k) := by rw [Nat.pow_succ, Nat.mul_comm, Nat.mod_mul]
    omega
theorem read_bytes (n : Nat) (h : n < 4294967296 ^ 8) : readN (bytesN n) = n := by
  have := read_take n 32 (by omega)
  rw [List.take_of_length_le (Nat.le_of_eq (bytesN_length n))] at this
  rw [this]
  have e : (256 : Nat) ^ 32 = 4294967296 ^ 8 := by decide
  simp only [Nat.sub_self, Nat.pow_zero, Nat.div_one]
  rw [e, Nat.mod_eq_of_lt h]
theorem readN_cons (b : UInt8) (l : List UInt8) : readN (b :: l) = b.toNat * 256 ^ l.length + readN l := by
  simp only [readN, List.foldl_cons]; rw [foldl_read]; simp [readN]
theorem readN_inj : ∀ (l r : List UInt8), l.length = r.length → readN l = readN r → l = r
  | [], [], _, _ => rfl
  | b :: l, c :: r, hl, h => by
    have hl' : l.length = r.length := by simpa using hl
    rw [readN_cons, readN_cons, hl'] at h
    have h1 := readN_lt l
    have h2 := readN_lt r
    rw [hl'] at h1
    have hp : 0 < 256 ^ r.length := Nat.pow_pos (by decide)
    have e1 : (b.toNat * 256 ^ r.length + readN l) / 256 ^ r.length = b.toNat := by rw [Nat.mul_comm, Nat.mul_add_div hp, Nat.div_eq_of_lt h1]; rfl
    have e2 : (c.toNat * 256 ^ r.length + readN r) / 256 ^ r.length = c.toNat := by rw [Nat.mul_comm, Nat.mul_add_div hp, Nat.div_eq_of_lt h2]; rfl
    have e3 : b.toNat = c.toNat := by rw [← e1, h, e2]
    have e4 : b = c := UInt8.toNat_inj.1 e3
    subst e4
    rw [readN_inj l r hl' (by omega)]
/-- Up to 32 bytes, noughts ahead. -/
def padL (l : List UInt8) : List UInt8 := List.replicate (32 - l.length) 0 ++ l
theorem padL_length {l : List UInt8} (h : l.length ≤ 32) : (padL l).length = 32 := by simp [padL]; omega
theorem bytesN_read {l : List UInt8} (h : l.length ≤ 32) : bytesN (readN l) = padL l := by
  have hp := padL_length h
  have h1 : readN l < 4294967296 ^ 8 := by
    have := readN_lt (padL l)
    rw [hp] at this
    have e : (256 : Nat) ^ 32 = 4294967296 ^ 8 := by decide
    rw [← e]
    have e2 : readN (padL l) = readN l := readN_zeros _ _
    omega
  refine readN_inj _ _ (by rw [bytesN_length, hp]) ?_
  rw [read_bytes _ h1]
  exact (readN_zeros _ _).symm
theorem readN_lt_num {l : List UInt8} (h : l.length ≤ 32) : readN l < 4294967296 ^ 8 := by
  have := readN_lt l
  have e : (256 : Nat) ^ 32 = 4294967296 ^ 8 := by decide
  rw [← e]
  exact Nat.lt_of_lt_of_le this (Nat.pow_le_pow_right (by decide) h)
/-- The first j of the four bytes of digit k. -/
def headB (n k : Nat) : Nat → Nat
  | 0 => 0
  | j + 1 => headB n k j * 256 + (byteN n (32 - 4 * k - 4 + j)).toNat
theorem headB_lt (n k : Nat) : ∀ j, headB n k j < 256 ^ j
  | 0 => by simp [headB]
  | j + 1 => by
    have := headB_lt n k j
    have hb := (byteN n (32 - 4 * k - 4 + j)).toNat_lt
    rw [headB, Nat.pow_succ]; omega
/-- Byte j of digit k is byte 4k+j from below. -/
theorem dig_byte (n k j : Nat) (hj : j < 4) : dig n k / 256 ^ j % 256 = n / 256 ^ (4 * k + j) % 256 := by
  have e : (4294967296 : Nat) ^ k = 256 ^ (4 * k) := by rw [Nat.pow_mul]
  unfold dig
  rw [e, Nat.pow_add, ← Nat.div_div_eq_div_mul]
  generalize n / 256 ^ (4 * k) = x
  have : j = 0 ∨ j = 1 ∨ j = 2 ∨ j = 3 := by omega
  rcases this with rfl | rfl | rfl | rfl <;> simp <;> omega
/-- Digit k is four bytes. -/
theorem dig_read (n k : Nat) (hk : k < 8) : dig n k = readN [byteN n (28 - 4 * k), byteN n (29 - 4 * k), byteN n (30 - 4 * k), byteN n (31 - 4 * k)] := by
  have h0 := dig_byte n k 0 (by omega)
  have h1 := dig_byte n k 1 (by omega)
  have h2 := dig_byte n k 2 (by omega)
  have h3 := dig_byte n k 3 (by omega)
  simp only [readN, List.foldl_cons, List.foldl_nil, byteN_toNat]
  rw [show 31 - (28 - 4 * k) = 4 * k + 3 by omega, show 31 - (29 - 4 * k) = 4 * k + 2 by omega, show 31 - (30 - 4 * k) = 4 * k + 1 by omega, show 31 - (31 - 4 * k) = 4 * k + 0 by omega, ← h0, ← h1, ← h2, ← h3]
  have := dig_lt n k
  simp; omega

theorem headB_all (n k : Nat) (hk : k < 8) : headB n k 4 = dig n k := by
  rw [dig_read n k hk]
  simp only [headB, readN, List.foldl_cons, List.foldl_nil]
  rw [show 32 - 4 * k - 4 + 0 = 28 - 4 * k by omega, show 32 - 4 * k - 4 + 1 = 29 - 4 * k by omega, show 32 - 4 * k - 4 + 2 = 30 - 4 * k by omega, show 32 - 4 * k - 4 + 3 = 31 - 4 * k by omega]

/-- A block that holds a row of bytes. -/
def Bts (w : World) (g : Nat) (t : TypeId) (l : List UInt8) : Prop := w.heap[g]? = some (.cells (bvs l) t (0, 0))
section
variable {w w' : World} {g : Nat} {t : TypeId} {l : List UInt8}
theorem Bts.lt (h : Bts w g t l) : g < w.heap.size := by
  obtain ⟨hlt, _⟩ := Array.getElem?_eq_some_iff.1 h
  exact hlt
theorem Bts.cell (h : Bts w g t l) {k : Nat} {b : UInt8} (hk : l[k]? = some b) : w.cell? ⟨g, k, none⟩ = some (.int .u8 (b.toNat : Int)) := by
  unfold Bts at h
  simp [World.cell?, h, bvs, hk, bv]
theorem Bts.frozen (h : Bts w g t l) (k : Nat) : w.frozen? ⟨g, k, none⟩ = false := by
  unfold Bts at h
  simp [World.frozen?, h]
theorem Bts.below {B : Nat} (h : Bts w g t l) (hb : Below B w w') (hl : g < B) : Bts w' g t l := (hb.block g hl).trans h
theorem Bts.alloc (h : Bts w g t l) (o : Obj) : Bts (w.alloc o) g t l := (Below.heap_alloc w o g h.lt).trans h
theorem Bts.drewN (h : Bts w g t l) (k : Nat) : Bts (w.drewN k) g t l := h
theorem Bts.drew (h : Bts w g t l) : Bts w.drew g t l := h
theorem Bts.far (h : Bts w g t l) {a : Addr} (ha : g ≠ a.block) (v : Value) : Bts (w.setCell a v) g t l := (Below.heap_setCell w a v g ha).trans h
theorem bts_of_row {f : Nat → Value} {n : Nat} (h : w.rowIs g t n f) (hn : l.length = n) (e : ∀ j b, l[j]? = some b → f j = bv b) : Bts w g t l := by
  obtain ⟨c, hb, hs, hc⟩ := h
  have : c = bvs l := by
    apply Array.ext_getElem?
    intro i
    by_cases hi : i < n
    · have hl : i < l.length := by omega
      rw [hc i hi, e i l[i] (List.getElem?_eq_getElem hl)]
      simp [bvs, hl]
    · rw [Array.getElem?_eq_none (by omega), Array.getElem?_eq_none (by simp [bvs]; omega)]
  unfold Bts
  rw [hb, this]
theorem Bts.row (h : Bts w g t l) : w.rowIs g t l.length (fun j => bv (l.getD j 0)) :=
  ⟨bvs l, h, by simp [bvs], fun i hi => by simp [bvs, hi]⟩
end
/-- What a slice of bytes reads as, wherever it lies. -/
def Rd (w : World) (A : Option Addr) (l : List UInt8) : Prop :=
  0 < l.length → ∃ ad, A = some ad ∧ ad.block < w.heap.size ∧ ∀ j b, l[j]? = some b → w.cell? (ad.add j) = some (bv b)
theorem addr_add (g o j : Nat) : (⟨g, o, none⟩ : Addr).add j = ⟨g, o + j, none⟩ := by unfold Addr.add; split <;> simp_all
theorem Bts.rd {w : World} {g : Nat} {t : TypeId} {l : List UInt8} (h : Bts w g t l) : Rd w (some ⟨g, 0, none⟩) l :=
  fun _ => ⟨_, rfl, h.lt, fun j b hj => by rw [addr_add, Nat.zero_add]; exact h.cell hj⟩
theorem Rd.below {w w' : World} {A : Option Addr} {l : List UInt8} (h : Rd w A l) {B : Nat} (hb : Below B w w') (hB : w.heap.size ≤ B) : Rd w' A l :=
  fun hl => by
    obtain ⟨ad, e, h1, h2⟩ := h hl
    have hs : ∀ j, (ad.add j).block = ad.block := fun j => by unfold Addr.add; split <;> rfl
    exact ⟨ad, e, Nat.lt_of_lt_of_le h1 hb.size, fun j b hj => by rw [hb.cell (by rw [hs]; omega)]; exact h2 j b hj⟩
end Go.Proofs.Yteihojjciklfoaa
