/- What WireStreams stands on, part 8. -/
import Derived.Test.YtlbkogdmojlpmaaWireStreamsP1
import Derived.Test.YtlbkogdmojlpmaaWireStreamsP2
import Derived.Test.YtlbkogdmojlpmaaWireStreamsP3
import Derived.Test.YtlbkogdmojlpmaaWireStreamsP4
import Derived.Test.YtlbkogdmojlpmaaWireStreamsP5
import Derived.Test.YtlbkogdmojlpmaaWireStreamsP6
import Derived.Test.YtlbkogdmojlpmaaWireStreamsP7
set_option maxRecDepth 100000
set_option maxHeartbeats 8000000
set_option linter.unusedVariables false
set_option linter.unusedSimpArgs false
namespace Go.Proofs.Ytlbkogdmojlpmaa
open Go.ChangeShapes Go.WideShapes Go.ChangeAt Go.RowKit
section
theorem orB (a b : Nat) (ha : a < 2 ^ 62) (hb : b < 2 ^ 62) : bits .or .u64 (a : Int) (b : Int) = ((a ||| b : Nat) : Int) :=
  (bits_nat .u64 62 (by decide) (fun n h0 h1 => by rw [IntKind.wrap_u64]; omega) a b ha hb).2
theorem orI (a b : Nat) (ha : a < 2 ^ 62) (hb : b < 2 ^ 62) : bits .or .i64 (a : Int) (b : Int) = ((a ||| b : Nat) : Int) :=
  (bits_nat .i64 62 (by decide) (fun n h0 h1 => by rw [IntKind.wrap_i64]; omega) a b ha hb).2
theorem andI (a b : Nat) (ha : a < 2 ^ 62) (hb : b < 2 ^ 62) : bits .and .i64 (a : Int) (b : Int) = ((a &&& b : Nat) : Int) :=
  (bits_nat .i64 62 (by decide) (fun n h0 h1 => by rw [IntKind.wrap_i64]; omega) a b ha hb).1
def thN (f : Nat → Bool) : Nat → Nat
  | 0 => 0
  | k + 1 => if f k = true then thN f k ||| 2 ^ k else thN f k
theorem thN_lt (f : Nat → Bool) : ∀ k, thN f k < 2 ^ k
  | 0 => by simp [thN]
  | k + 1 => by
    have h := thN_lt f k
    have h2 : 2 ^ k < 2 ^ (k + 1) := Nat.pow_lt_pow_right (by omega) (by omega)
    unfold thN
    split
    · exact Nat.or_lt_two_pow (Nat.lt_trans h h2) h2
    · exact Nat.lt_trans h h2
theorem thN_bit (f : Nat → Bool) (j : Nat) : ∀ k, (thN f k).testBit j = (decide (j < k) && f j)
  | 0 => by simp [thN]
  | k + 1 => by
    have h := thN_bit f j k
    unfold thN
    by_cases hf : f k = true
    · rw [if_pos hf, Nat.testBit_or, h, Nat.testBit_two_pow]
      by_cases e : k = j
      · subst e; simp [hf]
      · have : (decide (j < k + 1)) = decide (j < k) := by by_cases h : j < k <;> simp [h] <;> omega
        simp [e, this]
    · rw [if_neg hf, h]
      by_cases e : k = j
      · subst e; simp [hf]
      · have : (decide (j < k + 1)) = decide (j < k) := by by_cases h : j < k <;> simp [h] <;> omega
        rw [this]
def zza (m : MsgN) (k : Nat) : Bool := !(zu m k).isEmpty
theorem flagB_t {m : MsgN} {k : Nat} : zza m k = true ↔ zu m k ≠ [] := by simp [zza]
theorem flagB_f {m : MsgN} {k : Nat} : zza m k = false ↔ zu m k = [] := by simp [zza]
def hasR (m : MsgN) : Nat := thN (zza m) 12
theorem orF_one {k : Nat} (h : k < 12) : orF [k] = ((2 ^ k : Nat) : Int) := by
  have : k = 0 ∨ k = 1 ∨ k = 2 ∨ k = 3 ∨ k = 4 ∨ k = 5 ∨ k = 6 ∨ k = 7 ∨ k = 8 ∨ k = 9 ∨ k = 10 ∨ k = 11 := by omega
  rcases this with rfl | rfl | rfl | rfl | rfl | rfl | rfl | rfl | rfl | rfl | rfl | rfl <;> decide
theorem hasN_th (m : MsgN) : ∀ k, k ≤ 12 → hasN m k = ((thN (zza m) k : Nat) : Int)
  | 0, _ => rfl
  | k + 1, h => by
    have e := hasN_th m k (by omega)
    unfold hasN thN
    by_cases hk : zu m k = []
    · rw [if_pos hk, if_neg (by rw [flagB_t]; exact fun h => h hk), e]
    · rw [if_neg hk, if_pos (flagB_t.2 hk), e, orF_one (by omega), orB]
      · exact Nat.lt_of_lt_of_le (thN_lt _ _) (Nat.pow_le_pow_right (by omega) (by omega))
      · exact Nat.pow_lt_pow_right (by omega) (by omega)
def zla (m : MsgN) : Int := if m.k = 1 then (if m.p = 2 then 30 else 14) else if m.k = 2 then (if m.p = 2 then 90 else 50) else if m.k = 3 then 128 else if m.k = 4 then (if 0 < (m.l7.length : Int) then 384 else 256) else if m.k = 5 then 2048 else if m.k = 6 then 518 else if m.k = 7 then 0 else if m.k = 8 ∨ m.k = 12 then 1280 else if m.k = 9 ∨ m.k = 10 then 256 else if m.k = 11 then 770 else -1
theorem has4 : ∀ n, n < 4096 → ((n ||| 128 = 384) ↔ n = (if n.testBit 7 = true then 384 else 256)) := by decide +kernel
theorem wantR_is (m : MsgN) : (wantOk m.k m.p && decide (hasB m = wantN m.k m.p)) = decide ((hasR m : Int) = zla m) := by
  have hl : hasR m < 4096 := thN_lt _ 12
  have h12 : hasN m 12 = (hasR m : Int) := hasN_th m 12 (by omega)
  have hb7 : (hasR m).testBit 7 = decide (0 < (m.l7.length : Int)) := by
    rw [hasR, thN_bit]
    have : zu m 7 = m.l7 := rfl
    simp only [show (7 : Nat) < 12 by decide, decide_true, Bool.true_and, zza, this]
    cases m.l7 <;> simp
  unfold wantOk wantN hasB zla wantL
  rw [h12]
  by_cases h4 : m.k = 4
  · simp only [h4, if_true, show ¬ (4 : Int) = 1 by decide, show ¬ (4 : Int) = 2 by decide, show ¬ (4 : Int) = 3 by decide, if_false, Option.isSome_some, Bool.true_and]
    rw [orF_one (by omega), orB _ _ (by omega) (by decide), show orF [8, 7] = ((384 : Nat) : Int) by decide]
    have := has4 _ hl
    rw [hb7] at this
    simp only [decide_eq_true_eq] at this
    rw [show ((2 : Nat) ^ 7) = 128 from rfl]
    by_cases h7 : 0 < (m.l7.length : Int)
    · rw [if_pos h7] at this ⊢
      apply decide_eq_decide.2; omega
    · rw [if_neg h7] at this ⊢
      apply decide_eq_decide.2; omega
  · rw [if_neg h4]
    by_cases h1 : m.k = 1
    · by_cases hp : m.p = 2
      · simp [h1, hp, show orF [1, 2, 3, 4] = 30 by decide]
      · simp [h1, hp, show orF [1, 2, 3] = 14 by decide]
    by_cases h2 : m.k = 2
    · by_cases hp : m.p = 2
      · simp [h2, hp, show orF [1, 3, 4, 6] = 90 by decide]
      · simp [h2, hp, show orF [1, 4, 5] = 50 by decide]
    by_cases h3 : m.k = 3
    · simp [h3, show orF [7] = 128 by decide]
    by_cases h5 : m.k = 5
    · simp [h5, show orF [11] = 2048 by decide]
    by_cases h6 : m.k = 6
    · simp [h6, show orF [1, 2, 9] = 518 by decide]
    by_cases h7 : m.k = 7
    · simp [h7, show orF [] = 0 by decide]
    by_cases h8 : m.k = 8
    · simp [h8, show orF [8, 10] = 1280 by decide]
    by_cases h9 : m.k = 12
    · simp [h9, show orF [8, 10] = 1280 by decide]
    by_cases h10 : m.k = 9
    · simp [h10, show orF [8] = 256 by decide]
    by_cases h11 : m.k = 10
    · simp [h11, show orF [8] = 256 by decide]
    by_cases h12 : m.k = 11
    · simp [h12, show orF [8, 1, 9] = 770 by decide]
    simp [h1, h2, h3, h4, h5, h6, h7, h8, h9, h10, h11, h12]
noncomputable def zga (m : MsgN) : Bool := decide ((hasR m : Int) = zla m) && !decide (m.p < 0) && !decide (2 < m.p) && (nilB m.s || nameB m.s) && decide (topI m.a 8 ≤ 32) && decide (topI m.b 8 ≤ 32) && decide ((m.l5.length : Int) ≤ 16) && decide ((m.l6.length : Int) ≤ 48) && decide ((m.l7.length : Int) ≤ 16) && decide ((m.l8.length : Int) ≤ 80) && decide ((m.l9.length : Int) ≤ 120) && decide (0 ≤ m.c) && decide (0 ≤ m.e) && decide (m.e ≤ 11)
theorem zpa (m : MsgN) : zga m = zab m := by
  have hp : (decide (m.p = 0) || protoB m.p) = (!decide (m.p < 0) && !decide (2 < m.p)) := by
    unfold protoB
    rw [← Bool.decide_or, ← decide_not, ← decide_not, ← Bool.decide_and]
    apply decide_eq_decide.2; omega
  unfold zga zab zca
  rw [wantR_is, hp]
  simp only [Bool.and_assoc]
def encRk (m : MsgN) (k : Nat) : List UInt8 := (encN m k).drop 2
theorem encN_front (m : MsgN) : ∀ k, ∃ r, encN m k = [0, 0] ++ zx m.k :: r
  | 0 => ⟨[], rfl⟩
  | k + 1 => by
    obtain ⟨r, hr⟩ := encN_front m k
    unfold encN
    split
    · exact ⟨r, hr⟩
    · exact ⟨r ++ [zx (k : Int)] ++ [zx ((zu m k).length : Int)] ++ zu m k, by rw [hr]; simp⟩
theorem encRk_one (m : MsgN) : encRk m 1 = [zx m.k] := rfl
theorem encN_rk (m : MsgN) (k : Nat) : encN m k = 0 :: 0 :: encRk m k := by
  obtain ⟨r, hr⟩ := encN_front m k
  unfold encRk
  rw [hr]; rfl
theorem encRk_skip {m : MsgN} {k : Nat} (h : zu m k = []) : encRk m (k + 1) = encRk m k := by unfold encRk; rw [encN_skip h]
theorem encRk_put {m : MsgN} {k : Nat} (h : zu m k ≠ []) : encRk m (k + 1) = encRk m k ++ [zx (k : Int)] ++ [zx ((zu m k).length : Int)] ++ zu m k := by
  unfold encRk
  rw [encN_put h, encN_rk m k]; rfl
theorem encRk_len (m : MsgN) (k : Nat) : (encRk m k).length = (encN m k).length - 2 := by unfold encRk; simp
theorem encF_is (m : MsgN) : encF m = [0, zx ((encRk m 12).length : Int)] ++ encRk m 12 := by
  unfold encF
  rw [encN_rk]
  simp only [List.set_cons_zero, List.set_cons_succ, List.length_cons, List.cons_append, List.nil_append]
  congr 3
  omega
theorem encF_len (m : MsgN) : (encF m).length = (encRk m 12).length + 2 := by rw [encF_is]; simp
def remN (m : MsgN) : Nat → List UInt8
  | 0 => []
  | n + 1 => if zu m (11 - n) = [] then remN m n else zx ((11 - n : Nat) : Int) :: zx ((zu m (11 - n)).length : Int) :: (zu m (11 - n) ++ remN m n)
theorem encRk_rem (m : MsgN) : ∀ n, n ≤ 11 → encRk m 12 = encRk m (12 - n) ++ remN m n
  | 0, _ => by simp [remN]
  | n + 1, h => by
    rw [encRk_rem m n (by omega), show 12 - n = (11 - n) + 1 by omega, show 12 - (n + 1) = 11 - n by omega]
    by_cases hk : zu m (11 - n) = []
    · rw [encRk_skip hk, show remN m (n + 1) = remN m n from if_pos hk]
    · rw [encRk_put hk, show remN m (n + 1) = zx ((11 - n : Nat) : Int) :: zx ((zu m (11 - n)).length : Int) :: (zu m (11 - n) ++ remN m n) from if_neg hk]; simp
theorem byteI_nat {n : Nat} (h : n < 256) : (zx (n : Int)).toNat = n := by
  have := zcc (n : Int)
  omega
def cutM (m : MsgN) (k : Nat) : MsgN := ⟨m.k, if 1 < k then m.p else 0, if 10 < k then m.c else 0, if 11 < k then m.e else 0, if 2 < k then m.s else ⟨#[]⟩, if 3 < k then m.a else 0, if 4 < k then m.b else 0,
  if 5 < k then m.l5 else [], if 6 < k then m.l6 else [], if 7 < k then m.l7 else [], if 8 < k then m.l8 else [], if 9 < k then m.l9 else []⟩
theorem cutM_one (m : MsgN) : cutM m 1 = ⟨m.k, 0, 0, 0, ⟨#[]⟩, 0, 0, [], [], [], [], []⟩ := rfl
theorem zgc (b : UInt8) : zi [b] = b.toNat := by simp [zi]
theorem numI_oct {p : Int} (h0 : 0 ≤ p) (h1 : p < 256) : numI [zx p] = p := by
  have := zcc p
  have e : numOk [zx p] = true := decide_eq_true ⟨by simp, by rw [zgc]; have := (zx p).toNat_lt; omega⟩
  unfold numI
  rw [if_pos e, zgc]
  omega
theorem drop_read (n k : Nat) (hk : k ≤ 32) (hn : n < 256 ^ (32 - k)) : zi ((z1a n).drop k) = n := by
  have h1 := read_take n k hk
  rw [Nat.div_eq_of_lt hn, Nat.zero_mod] at h1
  have h3 : n < 4294967296 ^ 8 := by
    have e : (256 : Nat) ^ 32 = 4294967296 ^ 8 := by decide
    rw [← e]
    exact Nat.lt_of_lt_of_le hn (Nat.pow_le_pow_right (by decide) (by omega))
  have h2 := read_bytes n h3
  rw [← List.take_append_drop k (z1a n), readN_append, h1] at h2
  omega
theorem eightI_bytes (N : Nat) : zlb (N : Int) = (z1a N).drop 24 := by
  apply List.ext_getElem?
  intro j
  rw [List.getElem?_drop]
  by_cases hj : j < 8
  · rw [bytesN_get N (show 24 + j < 32 by omega)]
    simp only [zlb, List.getElem?_map, List.getElem?_range hj, Option.map_some]
    congr 1
    have h1 := zcc ((N : Int) / 2 ^ (8 * (7 - j)))
    have h2 := byteN_toNat N (24 + j)
    have e : (2 : Int) ^ (8 * (7 - j)) = ((256 ^ (31 - (24 + j)) : Nat) : Int) := by
      rw [show 31 - (24 + j) = 7 - j by omega, Int.natCast_pow, Int.pow_mul]; rfl
    rw [e, ← Int.natCast_ediv] at h1
    apply UInt8.toNat_inj.1
    rw [e, ← Int.natCast_ediv]
    omega
  · rw [List.getElem?_eq_none_iff.2 (by rw [z2b]; omega), List.getElem?_eq_none_iff.2 (by rw [zwa]; omega)]
theorem numI_eight {c : Int} (h0 : 0 ≤ c) (h1 : c < 9223372036854775808) : numI (zlb c) = c := by
  obtain ⟨N, rfl⟩ : ∃ N : Nat, c = (N : Int) := ⟨c.toNat, by omega⟩
  have e : zi (zlb (N : Int)) = N := by
    rw [eightI_bytes]
    exact drop_read N 24 (by decide) (Nat.lt_trans (m := 9223372036854775808) (by omega) (by decide))
  have hn : numOk (zlb (N : Int)) = true := decide_eq_true ⟨by rw [z2b]; omega, by rw [e]; omega⟩
  unfold numI
  rw [if_pos hn, e]
theorem readO_four {a : Nat} (h : a < 4294967296) : z7a (fourL a) = a := by
  unfold z7a fourL
  rw [if_pos (by simp [zwa]), drop_read a 28 (by decide) (Nat.lt_of_lt_of_le h (by decide))]
theorem octL_nil {p : Int} : octL p = [] ↔ p = 0 := by unfold octL; split <;> simp_all
theorem fourL_nil (a : Nat) : fourL a ≠ [] := fun h => by have := congrArg List.length h; unfold fourL at this; simp [zwa] at this
theorem fourO_nil {a : Nat} : fourO a = [] ↔ a = 0 := by
  unfold fourO
  by_cases h : a = 0
  · simp [h]
  · simp only [if_neg h, h, iff_false]; exact fourL_nil a
theorem eightO_nil {c : Int} : eightO c = [] ↔ c = 0 := by
  unfold eightO
  by_cases h : c = 0
  · simp [h]
  · rw [if_neg h]
    exact ⟨fun e => (by have := congrArg List.length e; rw [z2b] at this; cases this), fun e => absurd e h⟩
theorem sBy_nil {s : ByteArray} : sBy s = [] ↔ s = ⟨#[]⟩ := by
  unfold sBy
  constructor
  · intro h
    have : s.data = #[] := by simpa using h
    cases s; cases this; rfl
  · rintro rfl; rfl
theorem sBy_mk (s : ByteArray) : (⟨(sBy s).toArray⟩ : ByteArray) = s := by cases s; simp [sBy]
structure MsgFit (m : MsgN) : Prop where
  k : 0 ≤ m.k ∧ m.k < 256
  p : 0 ≤ m.p ∧ m.p < 256
  c : 0 ≤ m.c ∧ m.c < 9223372036854775808
  e : 0 ≤ m.e ∧ m.e < 256
  a : m.a < 4294967296
  b : m.b < 4294967296
  l : ∀ k, (zu m k).length ≤ 120
theorem cut_put {m : MsgN} (hf : MsgFit m) {k : Nat} (h1 : 1 ≤ k) (h2 : k ≤ 11) (hk : zu m k ≠ []) : setM (cutM m k) k (zu m k) = cutM m (k + 1) := by
  have : k = 1 ∨ k = 2 ∨ k = 3 ∨ k = 4 ∨ k = 5 ∨ k = 6 ∨ k = 7 ∨ k = 8 ∨ k = 9 ∨ k = 10 ∨ k = 11 := by omega
  rcases this with rfl | rfl | rfl | rfl | rfl | rfl | rfl | rfl | rfl | rfl | rfl <;> simp only [zu, ne_eq, octL_nil, fourO_nil, eightO_nil, sBy_nil] at hk <;> simp [setM, cutM, zu]
  · unfold octL; rw [if_neg hk]; exact numI_oct hf.p.1 hf.p.2
  · exact sBy_mk _
  · unfold fourO; rw [if_neg hk]; exact readO_four hf.a
  · unfold fourO; rw [if_neg hk]; exact readO_four hf.b
  · unfold eightO; rw [if_neg hk]; exact numI_eight hf.c.1 hf.c.2
  · unfold octL; rw [if_neg hk]; exact numI_oct hf.e.1 hf.e.2
theorem cut_skip {m : MsgN} {k : Nat} (h1 : 1 ≤ k) (h2 : k ≤ 11) (hk : zu m k = []) : cutM m k = cutM m (k + 1) := by
  have : k = 1 ∨ k = 2 ∨ k = 3 ∨ k = 4 ∨ k = 5 ∨ k = 6 ∨ k = 7 ∨ k = 8 ∨ k = 9 ∨ k = 10 ∨ k = 11 := by omega
  rcases this with rfl | rfl | rfl | rfl | rfl | rfl | rfl | rfl | rfl | rfl | rfl <;> simp only [zu, ne_eq, octL_nil, fourO_nil, eightO_nil, sBy_nil] at hk <;> simp [cutM, hk]
theorem take_app {α : Type} {l r : List α} {n : Nat} (h : l.length = n) : (l ++ r).take n = l := by subst h; simp
theorem drop_app {α : Type} {l r : List α} {n : Nat} (h : l.length = n) : (l ++ r).drop n = r := by subst h; simp
theorem readM_rem {m : MsgN} (hf : MsgFit m) : ∀ n, n ≤ 11 → ∀ K, (remN m n).length ≤ K → readM K (remN m n) (cutM m (12 - n)) = m
  | 0, _, K, _ => by
    cases K with
    | zero => rfl
    | succ K => exact if_pos rfl
  | n + 1, h, K, hK => by
    have ih := readM_rem hf n (by omega)
    by_cases hk : zu m (11 - n) = []
    · have e : remN m (n + 1) = remN m n := if_pos hk
      rw [e] at hK ⊢
      rw [show 12 - (n + 1) = 11 - n by omega, cut_skip (by omega) (by omega) hk, show 11 - n + 1 = 12 - n by omega]
      exact ih K hK
    · have e : remN m (n + 1) = zx ((11 - n : Nat) : Int) :: zx ((zu m (11 - n)).length : Int) :: (zu m (11 - n) ++ remN m n) := if_neg hk
      rw [e] at hK ⊢
      have hc := hf.l (11 - n)
      simp only [List.length_cons, List.length_append] at hK
      rw [readM_cons (by simp) (by omega)]
      have e1 : ∀ (x : UInt8) (r : List UInt8), zi ((x :: r).take 1) = x.toNat := fun x r => by simp [zi]
      simp only [List.drop_succ_cons, List.drop_zero, e1]
      rw [byteI_nat (by omega), byteI_nat (by omega), take_app rfl, drop_app rfl, show 12 - (n + 1) = 11 - n by omega, cut_put hf (by omega) (by omega) hk, show 11 - n + 1 = 12 - n by omega]
      exact ih (K - 1) (by omega)
theorem want_kind {k p : Int} (h : wantOk k p = true) : 1 ≤ k ∧ k ≤ 12 := by
  unfold wantOk wantL at h
  refine Classical.byContradiction fun hn => ?_
  rw [if_neg (by omega), if_neg (by omega), if_neg (by omega), if_neg (by omega), if_neg (by omega), if_neg (by omega), if_neg (by omega), if_neg (by omega), if_neg (by omega), if_neg (by omega), if_neg (by omega), if_neg (by omega)] at h
  cases h
theorem right_kind {m : MsgN} (h : zab m = true) : 1 ≤ m.k ∧ m.k ≤ 12 := by
  unfold zab at h
  simp only [Bool.and_eq_true] at h
  exact want_kind h.1.1
theorem right_fit {m : MsgN} (ho : MsgOk m) (h : zab m = true) : MsgFit m := by
  have hk := right_kind h
  unfold zab at h
  simp only [Bool.and_eq_true] at h
  have hc := cont_len h.2
  have h := h.2
  unfold zca at h
  simp only [Bool.and_eq_true, Bool.or_eq_true, decide_eq_true_eq] at h
  obtain ⟨⟨⟨⟨⟨⟨⟨⟨⟨⟨⟨h1, h2⟩, h3⟩, h4⟩, h5⟩, h6⟩, h7⟩, h8⟩, h9⟩, h10⟩, h11⟩, h12⟩ := h
  have hp : m.p = 0 ∨ m.p = 1 ∨ m.p = 2 := by
    rcases h1 with h1 | h1
    · exact .inl h1
    · exact .inr (of_decide_eq_true h1)
  have := ho.c
  exact ⟨by omega, by omega, by omega, by omega, top_le ho.a h3, top_le ho.b h4, hc⟩
theorem decM_enc {m : MsgN} (ho : MsgOk m) (h : zab m = true) : decM (encF m) = m := by
  have hf := right_fit ho h
  have e := encRk_rem m 11 (by omega)
  rw [show 12 - 11 = 1 from rfl, encRk_one] at e
  unfold decM
  rw [encF_is, e]
  simp only [List.cons_append, List.nil_append, List.drop_succ_cons, List.drop_zero, List.take_succ_cons, List.take_zero, zgc]
  have := readM_rem hf 11 (by omega) (remN m 11).length (Nat.le_refl _)
  rw [show 12 - 11 = 1 from rfl, cutM_one] at this
  have hk : (((zx m.k).toNat : Nat) : Int) = m.k := by rw [zcc]; have := hf.k; omega
  rw [hk]
  exact this
theorem encOk_right {m : MsgN} (h : z4a m = true) : zab m = true := by unfold z4a at h; simp only [Bool.and_eq_true] at h; exact h.1
theorem encL_ok {m : MsgN} (h : z4a m = true) : encL m = encF m := if_pos h
theorem dec_enc {m : MsgN} (ho : MsgOk m) (h : z4a m = true) : decM (encL m) = m := by rw [encL_ok h]; exact decM_enc ho (encOk_right h)
theorem decOk_enc {m : MsgN} (ho : MsgOk m) (h : z4a m = true) : decOk (encL m) = true ∧ decR (encL m) = m := by
  have h1 : zhb (decM (encL m)) (encL m) = true := by
    rw [dec_enc ho h, zhb, h]; simp
  exact ⟨h1, by unfold decR provM; rw [if_pos h1, dec_enc ho h]⟩
theorem decOk_is {b : List UInt8} (h : decOk b = true) : z4a (decM b) = true ∧ encL (decM b) = b ∧ decR b = decM b := by
  have h0 := h
  unfold decOk zhb at h
  simp only [Bool.and_eq_true, decide_eq_true_eq] at h
  exact ⟨h.1, h.2, if_pos h0⟩
theorem decR_no {b : List UInt8} (h : decOk b = false) : decR b = mZero := if_neg (by rw [show zhb (decM b) b = false from h]; exact Bool.false_ne_true)
def numR (l : List UInt8) : Int := (l.take 8).foldl (fun n x => bits .or .i64 (IntKind.i64.wrap (n * 2 ^ (8 : Int).toNat)) ((x.toNat : Nat) : Int)) 0
theorem bits_in (x y : Int) : -9223372036854775808 ≤ bits .or .i64 x y ∧ bits .or .i64 x y < 9223372036854775808 := by
  unfold bits
  simp only [IntKind.wrap_i64]
  omega
theorem numR_in (l : List UInt8) : -9223372036854775808 ≤ numR l ∧ numR l < 9223372036854775808 := by
  unfold numR
  rcases List.eq_nil_or_concat (l.take 8) with h | ⟨r, x, h⟩
  · rw [h]; decide
  · rw [h, List.concat_eq_append, List.foldl_append]; exact bits_in _ _
theorem numR_take {l : List UInt8} (hn : numOk l = true) : ∀ j, j ≤ l.length → (l.take j).foldl (fun n x => bits .or .i64 (IntKind.i64.wrap (n * 2 ^ (8 : Int).toNat)) ((x.toNat : Nat) : Int)) 0 = ((zi (l.take j) : Nat) : Int)
  | 0, _ => by simp [zi]
  | j + 1, h => by
    have hq := of_decide_eq_true hn
    have hp : l.length < 8 ∨ (l.length = 8 ∧ ∃ x, l[0]? = some x ∧ ¬ 127 < ((x.toNat : Nat) : Int)) := by
      by_cases h8 : l.length < 8
      · exact .inl h8
      · have he : l.length = 8 := by omega
        obtain ⟨x, hx⟩ : ∃ x, l[0]? = some x := ⟨_, List.getElem?_eq_getElem (by omega)⟩
        exact .inr ⟨he, x, hx, (eight_lt he hx).1 hq.2⟩
    have h1 := pre_lt hp j (by omega)
    obtain ⟨y, hy⟩ : ∃ y, l[j]? = some y := ⟨_, List.getElem?_eq_getElem (by omega)⟩
    rw [readN_next hy, List.take_add_one, hy, Option.toList_some, List.foldl_append, numR_take hn j (by omega)]
    show bits .or .i64 (IntKind.i64.wrap (((zi (l.take j) : Nat) : Int) * 2 ^ (8 : Int).toNat)) ((y.toNat : Nat) : Int) = _
    rw [shl8 h1, or_i64 _ _ h1 y.toNat_lt]
theorem numR_ok {l : List UInt8} (hn : numOk l = true) : numR l = ((zi l : Nat) : Int) := by
  have hq := of_decide_eq_true hn
  have := numR_take hn l.length (Nat.le_refl _)
  unfold numR
  rw [List.take_of_length_le hq.1]
  rwa [List.take_length] at this
theorem numR_I {l : List UInt8} (hn : numOk l = true) : numR l = numI l := by rw [numR_ok hn]; exact (if_pos hn).symm
theorem numOk_short {l : List UInt8} (h : l.length < 8) : numOk l = true := by
  have h1 := zec l
  have h2 : (256 : Nat) ^ l.length ≤ 256 ^ 7 := Nat.pow_le_pow_right (by omega) (by omega)
  have h3 : (256 : Nat) ^ 7 = 72057594037927936 := by decide
  exact decide_eq_true ⟨by omega, by omega⟩
theorem numOk_eight {c : Int} (h0 : 0 ≤ c) (h1 : c < 9223372036854775808) : numOk (zlb c) = true := by
  obtain ⟨N, rfl⟩ : ∃ N : Nat, c = (N : Int) := ⟨c.toNat, by omega⟩
  have e : zi (zlb (N : Int)) = N := by
    rw [eightI_bytes]
    exact drop_read N 24 (by decide) (Nat.lt_trans (m := 9223372036854775808) (by omega) (by decide))
  exact decide_eq_true ⟨by rw [z2b]; omega, by rw [e]; omega⟩
def setR (m : MsgN) (n : Nat) (c : List UInt8) : MsgN := match n with
  | 1 => { m with p := numR c }
  | 2 => { m with s := ⟨c.toArray⟩ }
  | 3 => { m with a := zi (c.take 32) }
  | 4 => { m with b := zi (c.take 32) }
  | 5 => { m with l5 := c }
  | 6 => { m with l6 := c }
  | 7 => { m with l7 := c }
  | 8 => { m with l8 := c }
  | 9 => { m with l9 := c }
  | 10 => { m with c := numR c }
  | 11 => { m with e := numR c }
  | _ => m
theorem setR_no {m : MsgN} {n : Nat} {c : List UInt8} (h : n < 1 ∨ 11 < n) : setR m n c = m := by
  unfold setR
  split <;> first | rfl | omega
theorem setR_ok {m : MsgN} (ho : MsgOk m) (hs : m.s.size ≤ 1000) {c : List UInt8} (hc : c.length ≤ 1000) (n : Nat) : MsgOk (setR m n c) ∧ (setR m n c).s.size ≤ 1000 := by
  have hn := numR_in c
  have hr : zi (c.take 32) < 4294967296 ^ 8 := readN_lt_num (by rw [List.length_take]; omega)
  have e : (⟨c.toArray⟩ : ByteArray).size = c.length := by simp [ByteArray.size]
  unfold setR
  split <;> refine ⟨⟨?_, ?_, ?_, ?_, ?_, ?_, ?_⟩, ?_⟩ <;> first
    | exact ho.k | exact hn | exact ho.p | exact ho.c | exact ho.e | exact hr | exact ho.a | exact ho.b | exact hs | (show (⟨c.toArray⟩ : ByteArray).size ≤ _; omega) | exact ho.s
theorem setR_is {m : MsgN} (hf : MsgFit m) (m0 : MsgN) {k : Nat} (h1 : 1 ≤ k) (h2 : k ≤ 11) : setR m0 k (zu m k) = setM m0 k (zu m k) := by
  have hs : ∀ p, numR (octL p) = numI (octL p) := fun p => numR_I (numOk_short (by unfold octL; split <;> simp))
  have hr : ∀ a, zi ((fourO a).take 32) = z7a (fourO a) := fun a => by
    have : (fourO a).length ≤ 32 := by unfold fourO; split; simp; simp [fourL, zwa]
    unfold z7a
    rw [if_pos this, List.take_of_length_le this]
  have h8 : numR (eightO m.c) = numI (eightO m.c) := by
    unfold eightO
    split
    · exact numR_I (numOk_short (by simp))
    · exact numR_I (numOk_eight hf.c.1 hf.c.2)
  have : k = 1 ∨ k = 2 ∨ k = 3 ∨ k = 4 ∨ k = 5 ∨ k = 6 ∨ k = 7 ∨ k = 8 ∨ k = 9 ∨ k = 10 ∨ k = 11 := by omega
  rcases this with rfl | rfl | rfl | rfl | rfl | rfl | rfl | rfl | rfl | rfl | rfl <;> simp [setM, setR, zu, hs, hr, h8]
def parR : Nat → List UInt8 → Nat → MsgN → MsgN
  | 0, _, _, m => m
  | K + 1, b, at_, m => if at_ + 2 ≤ b.length ∧ at_ + 2 + (b.getD (at_ + 1) 0).toNat ≤ b.length then parR K b (at_ + 2 + (b.getD (at_ + 1) 0).toNat) (setR m (b.getD at_ 0).toNat ((b.drop (at_ + 2)).take (b.getD (at_ + 1) 0).toNat)) else m
theorem parR_end {K : Nat} {b : List UInt8} {at_ : Nat} {m m' : MsgN} (h : parR K b at_ m = m') (hn : ¬ (at_ + 2 ≤ b.length ∧ at_ + 2 + (b.getD (at_ + 1) 0).toNat ≤ b.length)) : m = m' := by
  cases K with
  | zero => exact h
  | succ K => rw [← h]; exact (if_neg hn).symm
theorem parR_on {K : Nat} {b : List UInt8} {at_ : Nat} {m : MsgN} (hK : 0 < K) (hn : at_ + 2 ≤ b.length ∧ at_ + 2 + (b.getD (at_ + 1) 0).toNat ≤ b.length) : parR K b at_ m = parR (K - 1) b (at_ + 2 + (b.getD (at_ + 1) 0).toNat) (setR m (b.getD at_ 0).toNat ((b.drop (at_ + 2)).take (b.getD (at_ + 1) 0).toNat)) := by
  obtain ⟨k, rfl⟩ : ∃ k, K = k + 1 := ⟨K - 1, by omega⟩
  exact if_pos hn
def refM (b : List UInt8) : MsgN := parR b.length b 3 ⟨(((b.getD 2 0).toNat : Nat) : Int), 0, 0, 0, "".toUTF8, 0, 0, [], [], [], [], []⟩
noncomputable def refOk (b : List UInt8) : Bool := decide (3 ≤ b.length) && zhb (refM b) b
noncomputable def refR (b : List UInt8) : MsgN := if refOk b = true then refM b else mZero
theorem parR_rem {m : MsgN} (hf : MsgFit m) : ∀ n, n ≤ 11 → ∀ (K : Nat) (pre : List UInt8), (remN m n).length ≤ K → parR K (pre ++ remN m n) pre.length (cutM m (12 - n)) = m
  | 0, _, K, pre, _ => by
    cases K with
    | zero => rfl
    | succ K => exact if_neg (by show ¬ (_ ≤ (pre ++ []).length ∧ _); rw [List.append_nil]; omega)
  | n + 1, h, K, pre, hK => by
    have ih := parR_rem hf n (by omega)
    by_cases hk : zu m (11 - n) = []
    · have e : remN m (n + 1) = remN m n := if_pos hk
      rw [e] at hK ⊢
      rw [show 12 - (n + 1) = 11 - n by omega, cut_skip (by omega) (by omega) hk, show 11 - n + 1 = 12 - n by omega]
      exact ih K pre hK
    · have e : remN m (n + 1) = zx ((11 - n : Nat) : Int) :: zx ((zu m (11 - n)).length : Int) :: (zu m (11 - n) ++ remN m n) := if_neg hk
      rw [e] at hK ⊢
      have hc := hf.l (11 - n)
      simp only [List.length_cons, List.length_append] at hK
      obtain ⟨x, hx⟩ : ∃ x, zx ((11 - n : Nat) : Int) = x := ⟨_, rfl⟩
      obtain ⟨y, hy⟩ : ∃ y, zx ((zu m (11 - n)).length : Int) = y := ⟨_, rfl⟩
      have hxn : x.toNat = 11 - n := by rw [← hx]; exact byteI_nat (by omega)
      have hyn : y.toNat = (zu m (11 - n)).length := by rw [← hy]; exact byteI_nat (by omega)
      rw [hx, hy]
      have g0 : (pre ++ x :: y :: (zu m (11 - n) ++ remN m n)).getD pre.length 0 = x := by simp [List.getD_eq_getElem?_getD]
      have g1 : (pre ++ x :: y :: (zu m (11 - n) ++ remN m n)).getD (pre.length + 1) 0 = y := by simp [List.getD_eq_getElem?_getD]
      have g2 : (pre ++ x :: y :: (zu m (11 - n) ++ remN m n)).drop (pre.length + 2) = zu m (11 - n) ++ remN m n := by
        rw [List.drop_append]; simp
      rw [parR_on (by omega) (by rw [g1]; simp only [List.length_append, List.length_cons]; omega), g0, g1, g2, hxn, hyn, take_app rfl, setR_is hf _ (by omega) (by omega), show 12 - (n + 1) = 11 - n by omega, cut_put hf (by omega) (by omega) hk, show 11 - n + 1 = 12 - n by omega]
      have := ih (K - 1) (pre ++ x :: y :: zu m (11 - n)) (by omega)
      simp only [List.append_assoc, List.cons_append, List.length_append, List.length_cons] at this
      rw [show pre.length + 2 + (zu m (11 - n)).length = pre.length + ((zu m (11 - n)).length + 1 + 1) by omega]
      exact this
theorem refM_enc {m : MsgN} (ho : MsgOk m) (h : zab m = true) : refM (encF m) = m := by
  have hf := right_fit ho h
  have e := encRk_rem m 11 (by omega)
  rw [show 12 - 11 = 1 from rfl, encRk_one] at e
  unfold refM
  rw [encF_is, e]
  obtain ⟨z, hz⟩ : ∃ z, zx ((([zx m.k] ++ remN m 11).length : Nat) : Int) = z := ⟨_, rfl⟩
  obtain ⟨y, hy⟩ : ∃ y, zx m.k = y := ⟨_, rfl⟩
  have hk : ((y.toNat : Nat) : Int) = m.k := by rw [← hy, zcc]; have := hf.k; omega
  rw [hz, hy]
  have := parR_rem hf 11 (by omega) ([0, z] ++ ([y] ++ remN m 11)).length [0, z, y] (by simp; omega)
  rw [show 12 - 11 = 1 from rfl, cutM_one, ← hk] at this
  exact this
theorem encF_len3 (m : MsgN) : 3 ≤ (encF m).length := by
  rw [encF_len, encRk_len]
  have := encN_len3 m 12
  omega
theorem refM_ok (b : List UInt8) : ∀ (K : Nat) (at_ : Nat) (m : MsgN), MsgOk m → m.s.size ≤ 1000 → MsgOk (parR K b at_ m) ∧ (parR K b at_ m).s.size ≤ 1000
  | 0, _, _, h1, h2 => ⟨h1, h2⟩
  | K + 1, at_, m, h1, h2 => by
    unfold parR
    split
    · have hc : ((b.drop (at_ + 2)).take (b.getD (at_ + 1) 0).toNat).length ≤ 1000 := by
        have := (b.getD (at_ + 1) 0).toNat_lt
        rw [List.length_take]; omega
      exact refM_ok b K _ _ (setR_ok h1 h2 hc _).1 (setR_ok h1 h2 hc _).2
    · exact ⟨h1, h2⟩
theorem ref0_ok (x : UInt8) : MsgOk (MsgN.mk ((x.toNat : Nat) : Int) 0 0 0 ("".toUTF8) 0 0 [] [] [] [] []) := by
  have := x.toNat_lt
  exact ⟨(show (-9223372036854775808 : Int) ≤ ((x.toNat : Nat) : Int) ∧ ((x.toNat : Nat) : Int) < 9223372036854775808 by omega), (show (-9223372036854775808 : Int) ≤ 0 ∧ (0 : Int) < 9223372036854775808 by decide), (show (-9223372036854775808 : Int) ≤ 0 ∧ (0 : Int) < 9223372036854775808 by decide), (show (-9223372036854775808 : Int) ≤ 0 ∧ (0 : Int) < 9223372036854775808 by decide), (show ("".toUTF8 : ByteArray).size ≤ 1000000 by decide), (show 0 < 4294967296 ^ 8 by decide), (show 0 < 4294967296 ^ 8 by decide)⟩
theorem refM_msgok (b : List UInt8) : MsgOk (refM b) ∧ (refM b).s.size ≤ 1000 := refM_ok b _ _ _ (ref0_ok _) (show ("".toUTF8 : ByteArray).size ≤ 1000 by decide)
theorem decM_ok : ∀ (K : Nat) (l : List UInt8) (m : MsgN), MsgOk m → m.s.size ≤ 1000 → MsgOk (readM K l m) ∧ (readM K l m).s.size ≤ 1000
  | 0, _, _, h1, h2 => ⟨h1, h2⟩
  | K + 1, l, m, h1, h2 => by
    unfold readM
    split
    · exact ⟨h1, h2⟩
    · have hc : (((l.drop 1).drop 1).take (zi ((l.drop 1).take 1))).length ≤ 1000 := by
        have := readN_one (l.drop 1)
        rw [List.length_take]; omega
      exact decM_ok K _ _ (setM_ok h1 h2 hc _).1 (setM_ok h1 h2 hc _).2
theorem decM_msgok (b : List UInt8) : MsgOk (decM b) ∧ (decM b).s.size ≤ 1000 := decM_ok _ _ _ (dec0_ok b) (show ("".toUTF8 : ByteArray).size ≤ 1000 by decide)
theorem provOk_is {m : MsgN} {b : List UInt8} (h : zhb m b = true) : z4a m = true ∧ encL m = b := by
  unfold zhb at h
  simpa using h
theorem ref_dec (b : List UInt8) : refOk b = decOk b ∧ refR b = decR b := by
  have key : ∀ m, MsgOk m → zhb m b = true → refOk b = true ∧ refM b = m ∧ decOk b = true ∧ decM b = m := fun m ho h => by
    obtain ⟨h1, h2⟩ := provOk_is h
    have hr := encOk_right h1
    have e1 : refM b = m := by rw [← h2, encL_ok h1]; exact refM_enc ho hr
    have e2 : decM b = m := by rw [← h2]; exact dec_enc ho h1
    refine ⟨?_, e1, by unfold decOk; rw [e2]; exact h, e2⟩
    unfold refOk
    rw [e1, h, ← h2, encL_ok h1, decide_eq_true (encF_len3 m)]; rfl
  by_cases h : decOk b = true
  · obtain ⟨k1, k2, k3, k4⟩ := key (decM b) (decM_msgok b).1 h
    exact ⟨by rw [k1, k3], by unfold refR; rw [if_pos k1, k2, (decOk_is h).2.2]⟩
  · by_cases h2 : refOk b = true
    · have h3 : zhb (refM b) b = true := by unfold refOk at h2; simp only [Bool.and_eq_true] at h2; exact h2.2
      obtain ⟨k1, k2, k3, k4⟩ := key (refM b) (refM_msgok b).1 h3
      exact absurd k3 h
    · have e1 : decOk b = false := by cases hd : decOk b with
        | false => rfl
        | true => exact absurd hd h
      have e2 : refOk b = false := by cases hd : refOk b with
        | false => rfl
        | true => exact absurd hd h2
      exact ⟨by rw [e1, e2], by rw [decR_no e1]; unfold refR; rw [if_neg h2]⟩
theorem cnt_app {l r : List UInt8} (h : l.length < 256) : cV (zx (l.length : Int) :: (l ++ r)) = l ∧ cR (zx (l.length : Int) :: (l ++ r)) = r := by
  unfold cV cR
  simp only [List.drop_succ_cons, List.drop_zero, List.take_succ_cons, List.take_zero, zgc]
  rw [byteI_nat h]
  exact ⟨take_app rfl, drop_app rfl⟩
structure RecFit (r : RecN) : Prop where
  p : 0 ≤ r.p ∧ r.p < 256
  s : (sBy r.s).length ≤ 16
  l2 : r.l2.length ≤ 16
  l5 : r.l5.length ≤ 48
  a : r.a < 4294967296
  b : r.b < 4294967296
  t : 0 ≤ r.t ∧ r.t < 256
  c : 0 ≤ r.c ∧ r.c < 9223372036854775808
  z : 0 ≤ r.z ∧ r.z < 9223372036854775808
theorem keep_fit {r : RecN} (ho : RecOk r) (h : zkb r = true) : RecFit r := by
  obtain ⟨k1, k2, k3⟩ := keep_len h
  unfold zkb at h
  simp only [Bool.and_eq_true, decide_eq_true_eq] at h
  obtain ⟨⟨⟨⟨⟨⟨⟨⟨⟨h1, h2⟩, h3⟩, h4⟩, h5⟩, h6⟩, h7⟩, h8⟩, h9⟩, h10⟩ := h
  have h1 := of_decide_eq_true h1
  have hc := ho.c
  have hz := ho.z
  exact ⟨by omega, k1, k2, k3, top_le ho.a h5, top_le ho.b h6, by omega, by omega, by omega⟩
theorem recL_is (r : RecN) : recL r = zx r.p :: (zx ((sBy r.s).length : Int) :: (sBy r.s ++ (zx (r.l2.length : Int) :: (r.l2 ++ (zx (r.l5.length : Int) :: (r.l5 ++ (fourL r.a ++ (fourL r.b ++ (zx r.t :: (zlb r.c ++ zlb r.z)))))))))) := by
  unfold recL cntL
  simp
theorem rdM_rec {r : RecN} (hf : RecFit r) : rdM (recL r) = r := by
  have ha : (fourL r.a).length = 4 := fourL_len _
  have hb : (fourL r.b).length = 4 := fourL_len _
  have hc : (zlb r.c).length = 8 := z2b _
  have hz : (zlb r.z).length = 8 := z2b _
  have hs := hf.s
  have h2 := hf.l2
  have h5 := hf.l5
  have hp := zcc r.p
  have ht := zcc r.t
  have hpp := hf.p
  have htt := hf.t
  have e1 : ((zi [zx r.p] : Nat) : Int) = r.p := by rw [zgc]; omega
  have e2 : ((zi [zx r.t] : Nat) : Int) = r.t := by rw [zgc]; omega
  rw [recL_is]
  unfold rdM
  simp only [List.drop_succ_cons, List.drop_zero, List.take_succ_cons, List.take_zero, (cnt_app (l := sBy r.s) (by omega)).1, (cnt_app (l := sBy r.s) (by omega)).2, (cnt_app (l := r.l2) (by omega)).1, (cnt_app (l := r.l2) (by omega)).2, (cnt_app (l := r.l5) (by omega)).1, (cnt_app (l := r.l5) (by omega)).2, take_app ha, drop_app ha, take_app hb, drop_app hb, take_app hc, drop_app hc, e1, e2, readO_four hf.a, readO_four hf.b, numI_eight hf.c.1 hf.c.2, numI_eight hf.z.1 hf.z.2, sBy_mk]
  rw [List.take_of_length_le (by omega), numI_eight hf.z.1 hf.z.2]
theorem rd_rec {r : RecN} (ho : RecOk r) (h : zkb r = true) : rdOk (recE r) = true ∧ rdR (recE r) = r := by
  have hf := keep_fit ho h
  have e : recE r = recL r := if_pos h
  have e1 : rdM (recE r) = r := by rw [e]; exact rdM_rec hf
  have e2 : zyb (rdM (recE r)) (recE r) = true := by rw [e1, zyb, h]; simp
  exact ⟨e2, by unfold rdR provR; rw [if_pos e2, e1]⟩
end
end Go.Proofs.Ytlbkogdmojlpmaa
namespace Go.Proofs.Ytlbkogdmojlpmaa
open Go.ChangeShapes Go.WideShapes Go.ChangeAt Go.RowKit Go.Shelf
section
variable {a : Act} {w : World} {o : Oper}
theorem size_of_info {T : TypeId} {s : Nat} (h : (Try.prog.info? T).map (·.size) = some s) (w : World) : (sizeOf T).run Try.prog w = .ok s w := by
  cases hq : Try.prog.info? T with
  | none => simp [hq] at h
  | some i => simp [sizeOf, typeInfo, hq]; simpa [hq] using h
theorem y_ixG (T : TypeId) {s : Nat} (hu : Try.prog.underlying T = some (.slice (Try.prog.elem T))) (hs : (Try.prog.info? (Try.prog.elem T)).map (·.size) = some s) (x k : Operand) (ho : o.op = .indexAddr T x k) {b q n c i : Nat} {z : Int} (hx : a.eval x = .slice (some ⟨b, q, none⟩) n c) (hk : a.eval k = .int .i64 z) (hz : z = (i : Int)) (hi : i < n) {j : Nat} (hj : q + i * s = j) : (execOp a.eval o).run Try.prog w = .ok (.value (.pointer (some ⟨b, j, none⟩))) w := by
  subst hz hj
  have hrun : (Instr.indexAt T (.slice (some ⟨b, q, none⟩) n c) (.int .i64 (i : Int))).run Try.prog w = .ok (.pointer (some ⟨b, q + i * s, none⟩)) w := by
    rw [run_indexAt_slice (h := hu), if_pos ⟨by omega, by omega⟩, size_of_info hs]
    simp only [Result.andThen_ok, Int.toNat_natCast, zdb]
  unfold execOp
  simp only [ho, hx, hk, Sem.run_bind, hrun, Result.andThen_ok, Sem.run_pure]
theorem y_lnG (T : TypeId) (hu : Try.prog.underlying T = some (.slice (Try.prog.elem T))) (x : Operand) (ho : o.op = .call { callee := .builtin .len, args := #[x], argTypes := #[T] }) {A : Option Addr} {n c : Nat} (hx : a.eval x = .slice A n c) {z : Int} (hz : (n : Int) = z) : (execOp a.eval o).run Try.prog w = .ok (.value (.int .i64 z)) w := by
  subst hz
  exact run_ln x _ ho hx hu
theorem y_litG (T E : TypeId) {s : Nat} {zv : Value} (hu : Try.prog.underlying T = some (.slice E)) (hs : (Try.prog.info? E).map (·.size) = some s) (hz : (Try.prog.info? E).bind (·.zero) = some zv) {n : Nat} {ps : Array (Nat × Operand)} (ho : o.op = .buildSlice T n ps) (vs : Array Value) (h0 : 0 < n * s) (hm : n * s ≤ 1000000)
    (hf : Instr.fill (fun i => some (i * s, s)) ((Array.range (n * s)).map (zv.cells[· % zv.cells.size]!)) (ps.map fun (i, x) => (i, a.eval x)).toList = some vs) :
    (execOp a.eval o).run Try.prog w = .ok (.value (.slice (some ⟨w.heap.size, 0, none⟩) n n)) (w.alloc (.cells vs E)) := by
  obtain ⟨i, hi⟩ : ∃ i, Try.prog.info? E = some i := by
    cases hq : Try.prog.info? E with
    | none => rw [hq] at hs; cases hs
    | some i => exact ⟨i, rfl⟩
  rw [hi] at hs hz
  have e : i.size = s := Option.some.inj hs
  subst e
  unfold execOp
  simp only [ho, Sem.run_bind, run_buildSlice w T E n _ vs i zv hu hi hz (by omega) (by omega) hf, Result.andThen_ok, Sem.run_pure]
end
theorem Mx.slcB {G : Option Nat} {w0 w : World} {R : List (Nat × Res)} (M : Mx G w0 w R) {k g n : Nat} {t : TypeId} {c : Array Value} {v : Value} (hk : look R k = some (slcR t n c v)) (hv : v = .slice (some ⟨g, 0, none⟩) n n) : Mx G w0 w ((k, blkR g t c) :: R) := by
  subst hv
  obtain ⟨g', e, hc⟩ := M.at_ k _ hk
  have eg : g = g' := by cases e; rfl
  subst eg
  have M2 : Mx G w0 w R := M
  refine ⟨M.grown, fun i r e => ?_, fun i r e => ?_, fun i r e => ?_, fun i r e => ?_, fun i j r s e1 e2 hij hw => ?_⟩
  · rw [look_cons] at e; split at e
    · cases e; exact hc
    · exact M.at_ i r e
  · rw [look_cons] at e; split at e
    · cases e; exact blkR_dep
    · exact M.dep i r e
  · rw [look_cons] at e; split at e
    · cases e; exact fun b hb => M.lt k _ hk b ⟨n, n, by cases hb; rfl⟩
    · exact M.lt i r e
  · rw [look_cons] at e; split at e
    · cases e; exact fun hw b hb => M.own k _ hk hw b ⟨n, n, by cases hb; rfl⟩
    · exact M.own i r e
  · rw [look_cons] at e1 e2
    by_cases h1 : k = i
    · rw [if_pos h1] at e1; cases e1
      subst h1
      rw [if_neg hij] at e2
      exact fun b hb => M.dis k j _ s hk e2 hij hw b ⟨n, n, by cases hb; rfl⟩
    · rw [if_neg h1] at e1
      by_cases h2 : k = j
      · rw [if_pos h2] at e2; cases e2
        subst h2
        exact fun b hb hb2 => M.dis i k r _ e1 hk hij hw b hb ⟨n, n, by cases hb2; rfl⟩
      · rw [if_neg h2] at e2
        exact M.dis i j r s e1 e2 hij hw
end Go.Proofs.Ytlbkogdmojlpmaa
namespace Go.Proofs.Ytlbkogdmojlpmaa
open Go.ChangeShapes Go.WideShapes Go.ChangeAt Go.RowKit
theorem fl_1 (m : MsgN) : (m.p != 0) = zza m 1 := by
  by_cases h : m.p = 0
  · rw [y_bneF h]; exact (flagB_f.2 (show zu m 1 = [] from octL_nil.2 h)).symm
  · rw [y_bneT h]; exact (flagB_t.2 (show zu m 1 ≠ [] from fun e => h (octL_nil.1 e))).symm
theorem fl_10 (m : MsgN) : (m.c != 0) = zza m 10 := by
  by_cases h : m.c = 0
  · rw [y_bneF h]; exact (flagB_f.2 (show zu m 10 = [] from eightO_nil.2 h)).symm
  · rw [y_bneT h]; exact (flagB_t.2 (show zu m 10 ≠ [] from fun e => h (eightO_nil.1 e))).symm
theorem fl_11 (m : MsgN) : (m.e != 0) = zza m 11 := by
  by_cases h : m.e = 0
  · rw [y_bneF h]; exact (flagB_f.2 (show zu m 11 = [] from octL_nil.2 h)).symm
  · rw [y_bneT h]; exact (flagB_t.2 (show zu m 11 ≠ [] from fun e => h (octL_nil.1 e))).symm
theorem fl_2 (m : MsgN) : (!decide (m.s.toList = ({ data := #[] } : ByteArray).toList)) = zza m 2 := by
  have e : m.s.toList = ({ data := #[] } : ByteArray).toList ↔ sBy m.s = [] := by
    rw [ByteArray.toList_eq, ByteArray.toList_eq]; rfl
  by_cases h : sBy m.s = []
  · rw [decide_eq_true (e.2 h)]; exact (flagB_f.2 (show zu m 2 = [] from h)).symm
  · rw [decide_eq_false (fun q => h (e.1 q))]; exact (flagB_t.2 (show zu m 2 ≠ [] from h)).symm
theorem fl_len (l : List UInt8) : decide ((0 : Int) < (l.length : Int)) = !l.isEmpty := by cases l <;> simp <;> omega
theorem fl_5 (m : MsgN) : decide ((0 : Int) < (m.l5.length : Int)) = zza m 5 := fl_len _
theorem fl_6 (m : MsgN) : decide ((0 : Int) < (m.l6.length : Int)) = zza m 6 := fl_len _
theorem fl_7 (m : MsgN) : decide ((0 : Int) < (m.l7.length : Int)) = zza m 7 := fl_len _
theorem fl_8 (m : MsgN) : decide ((0 : Int) < (m.l8.length : Int)) = zza m 8 := fl_len _
theorem fl_9 (m : MsgN) : decide ((0 : Int) < (m.l9.length : Int)) = zza m 9 := fl_len _
theorem fl_3 (m : MsgN) : (!decide (m.a = 0)) = zza m 3 := by
  by_cases h : m.a = 0
  · rw [decide_eq_true h]; exact (flagB_f.2 (show zu m 3 = [] from fourO_nil.2 h)).symm
  · rw [decide_eq_false h]; exact (flagB_t.2 (show zu m 3 ≠ [] from fun e => h (fourO_nil.1 e))).symm
theorem fl_4 (m : MsgN) : (!decide (m.b = 0)) = zza m 4 := by
  by_cases h : m.b = 0
  · rw [decide_eq_true h]; exact (flagB_f.2 (show zu m 4 = [] from fourO_nil.2 h)).symm
  · rw [decide_eq_false h]; exact (flagB_t.2 (show zu m 4 ≠ [] from fun e => h (fourO_nil.1 e))).symm
theorem fl_num {a : Act} {w : World} {o : Oper} {x y : Operand} {tz : TypeId} (ho : o.op = .binOp .neq 27 x y tz) {n : Nat} (hx : a.eval x = numV n) (hy : a.eval y = numV 0) (hn : n < 4294967296 ^ 8) {b : Bool} (hb : (!decide (n = 0)) = b) : (execOp a.eval o).run Try.prog w = .ok (.value (.bool b)) w := by
  subst hb
  by_cases h : n = 0
  · subst h
    exact y_neA _ _ _ _ ho hx hy (by kernel_rfl) (eqn_same 0 _)
  · rw [decide_eq_false h]
    exact y_neA _ _ _ _ ho hx hy (by kernel_rfl) (eqn_diff hn (by decide) h _)
def flagsA (m : MsgN) : Array Value := #[.bool false, .bool (zza m 1), .bool (zza m 2), .bool (zza m 3), .bool (zza m 4), .bool (zza m 5), .bool (zza m 6), .bool (zza m 7), .bool (zza m 8), .bool (zza m 9), .bool (zza m 10), .bool (zza m 11)]
theorem flags_at (m : MsgN) {j : Nat} (h : j < 12) : (flagsA m)[j]? = some (.bool (zza m j)) := by
  have : j = 0 ∨ j = 1 ∨ j = 2 ∨ j = 3 ∨ j = 4 ∨ j = 5 ∨ j = 6 ∨ j = 7 ∨ j = 8 ∨ j = 9 ∨ j = 10 ∨ j = 11 := by omega
  rcases this with rfl | rfl | rfl | rfl | rfl | rfl | rfl | rfl | rfl | rfl | rfl | rfl <;> rfl
theorem thN_next (f : Nat → Bool) (k : Nat) (hk : k < 60) : f k = true → bits .or .i64 ((thN f k : Nat) : Int) ((2 ^ k : Nat) : Int) = ((thN f (k + 1) : Nat) : Int) := fun h => by
  rw [orI _ _ (Nat.lt_of_lt_of_le (thN_lt f k) (Nat.pow_le_pow_right (by omega) (by omega))) (Nat.pow_lt_pow_right (by omega) (by omega))]
  rw [show thN f (k + 1) = thN f k ||| 2 ^ k from if_pos h]
theorem one_shl {j : Nat} (h : j < 12) : IntKind.i64.wrap (1 * 2 ^ ((j : Int)).toNat) = ((2 ^ j : Nat) : Int) := by
  have : j = 0 ∨ j = 1 ∨ j = 2 ∨ j = 3 ∨ j = 4 ∨ j = 5 ∨ j = 6 ∨ j = 7 ∨ j = 8 ∨ j = 9 ∨ j = 10 ∨ j = 11 := by omega
  rcases this with rfl | rfl | rfl | rfl | rfl | rfl | rfl | rfl | rfl | rfl | rfl | rfl <;> decide
theorem zqb (m : MsgN) (V : MsgV) (ho : MsgOk m) (w : World) (hm : MsgIs w m V) :
  Calls Try.prog 46 #[.agg (msgA m V)] w fun e w' => e = .returned (.int .i64 ((hasR m : Nat) : Int)) ∧ Below w.heap.size w w' := by
 obtain ⟨bf1, hf1⟩ : ∃ f, zza m 1 = f := ⟨_, rfl⟩
 obtain ⟨bf2, hf2⟩ : ∃ f, zza m 2 = f := ⟨_, rfl⟩
 obtain ⟨bf3, hf3⟩ : ∃ f, zza m 3 = f := ⟨_, rfl⟩
 obtain ⟨bf4, hf4⟩ : ∃ f, zza m 4 = f := ⟨_, rfl⟩
 obtain ⟨bf5, hf5⟩ : ∃ f, zza m 5 = f := ⟨_, rfl⟩
 obtain ⟨bf6, hf6⟩ : ∃ f, zza m 6 = f := ⟨_, rfl⟩
 obtain ⟨bf7, hf7⟩ : ∃ f, zza m 7 = f := ⟨_, rfl⟩
 obtain ⟨bf8, hf8⟩ : ∃ f, zza m 8 = f := ⟨_, rfl⟩
 obtain ⟨bf9, hf9⟩ : ∃ f, zza m 9 = f := ⟨_, rfl⟩
 obtain ⟨bf10, hf10⟩ : ∃ f, zza m 10 = f := ⟨_, rfl⟩
 obtain ⟨bf11, hf11⟩ : ∃ f, zza m 11 = f := ⟨_, rfl⟩
 refine zg (args := [.agg (msgA m V)]) 63 Try.func46 rfl rfl rfl ?_
 intro fa F
 have M := Mx.start w
 replace M := M.argB 0 hm.h5 (fun g e => by cases e)
 replace M := M.argB 1 hm.h6 (fun g e => by cases e)
 replace M := M.argB 2 hm.h7 (fun g e => by cases e)
 replace M := M.argB 3 hm.h8 (fun g e => by cases e)
 replace M := M.argB 4 hm.h9 (fun g e => by cases e)
 refine zT fun _ hK1 => ?_
 refine zf (za rfl) rfl F rfl M 5 (t := 29) (c := msgA m V) (by unfold execOp; simp only [(F.get (t := 0) rfl)]; kernel_rfl) ?_
 intro g2 a2 w2 F2 M2
 clear F M
 refine rm rfl F2 fun _ F3 => ?_
 refine hK1 _ _ (zS fun _ hK4 => ?_)
 refine z1b F3 [fun vE => vE = .pointer (some ⟨g2, 1, none⟩), fun vE => vE = .int .i64 m.p, fun vE => vE = .bool bf1, fun vE => vE = .pointer (some ⟨g2, 4, none⟩), fun vE => vE = .string m.s, fun vE => vE = .bool bf2, fun vE => vE = .pointer (some ⟨g2, 5, none⟩), fun vE => vE = numV m.a, fun vE => vE = numV 0, fun vE => vE = .bool bf3, fun vE => vE = .pointer (some ⟨g2, 13, none⟩), fun vE => vE = numV m.b, fun vE => vE = numV 0, fun vE => vE = .bool bf4, fun vE => vE = .pointer (some ⟨g2, 21, none⟩), fun vE => vE = V.v5, fun vE => vE = .int .i64 (m.l5.length : Int), fun vE => vE = .bool bf5, fun vE => vE = .pointer (some ⟨g2, 22, none⟩), fun vE => vE = V.v6, fun vE => vE = .int .i64 (m.l6.length : Int), fun vE => vE = .bool bf6, fun vE => vE = .pointer (some ⟨g2, 23, none⟩), fun vE => vE = V.v7, fun vE => vE = .int .i64 (m.l7.length : Int), fun vE => vE = .bool bf7, fun vE => vE = .pointer (some ⟨g2, 24, none⟩), fun vE => vE = V.v8, fun vE => vE = .int .i64 (m.l8.length : Int), fun vE => vE = .bool bf8, fun vE => vE = .pointer (some ⟨g2, 25, none⟩), fun vE => vE = V.v9, fun vE => vE = .int .i64 (m.l9.length : Int), fun vE => vE = .bool bf9, fun vE => vE = .pointer (some ⟨g2, 2, none⟩), fun vE => vE = .int .i64 m.c, fun vE => vE = .bool bf10, fun vE => vE = .pointer (some ⟨g2, 3, none⟩), fun vE => vE = .int .i64 m.e, fun vE => vE = .bool bf11, fun _ => True] (JM none w fun SV pV => [(0, bytR m.l5 V.v5), (1, bytR m.l6 V.v6), (2, bytR m.l7 V.v7), (3, bytR m.l8 V.v8), (4, bytR m.l9 V.v9), (5, blkR g2 29 (msgA m V)), (6, condR (SV 40) (slcR 4 12 (#[.bool false, .bool bf1, .bool bf2, .bool bf3, .bool bf4, .bool bf5, .bool bf6, .bool bf7, .bool bf8, .bool bf9, .bool bf10, .bool bf11]) (pV 40)))]) 41 rfl (by kernel_rfl) rfl ⟨trivial, trivial, trivial, trivial, trivial, trivial, trivial, trivial, trivial, trivial, trivial, trivial, trivial, trivial, trivial, trivial, trivial, trivial, trivial, trivial, trivial, trivial, trivial, trivial, trivial, trivial, trivial, trivial, trivial, trivial, trivial, trivial, trivial, trivial, trivial, trivial, trivial, trivial, trivial, trivial, trivial, trivial⟩ (fun p => ((M2.step (zib _)).triv 6).sub ⟨rfl, rfl, rfl, rfl, rfl, rfl, rfl, trivial⟩) ⟨?_, ?_, ?_, ?_, ?_, ?_, ?_, ?_, ?_, ?_, ?_, ?_, ?_, ?_, ?_, ?_, ?_, ?_, ?_, ?_, ?_, ?_, ?_, ?_, ?_, ?_, ?_, ?_, ?_, ?_, ?_, ?_, ?_, ?_, ?_, ?_, ?_, ?_, ?_, ?_, ?_, trivial⟩ ?_
 ·intro ua uw SV pV M0 hk hn hd
  have M : Mx none w uw _ := M0
  clear M0
  have e1 : ua.eval (.tmp 1) = .pointer (some ⟨g2, 0, none⟩) := (show ua.eval (.tmp 1) = _ from hd 1 (by decide)).trans (F3.get (t := 1) rfl)
  exact zl (za rfl) (.pointer (some ⟨g2, 1, none⟩)) (y_fa (off := 1) rfl e1 (by kernel_rfl) rfl) rfl (M.sub ⟨rfl, rfl, rfl, rfl, rfl, rfl, rfl, trivial⟩)
 ·intro ua uw SV pV M0 hk hn hd
  have M : Mx none w uw _ := M0
  clear M0
  obtain ⟨s0, f6, q6⟩ := (show SV 0 = true ∧ ua.eval (.tmp 6) = pV 0 ∧ stE _ 0 (pV 0) from hd 6 (by decide))
  have e6 : ua.eval (.tmp 6) = .pointer (some ⟨g2, 1, none⟩) := f6.trans q6
  exact zl (za rfl) (.int .i64 m.p) (y_ld1 _ _ rfl e6 (M.blk (k := 5) rfl) rfl Try.underlying3 rfl) rfl (M.sub ⟨rfl, rfl, rfl, rfl, rfl, rfl, rfl, trivial⟩)
 ·intro ua uw SV pV M0 hk hn hd
  have M : Mx none w uw _ := M0
  clear M0
  obtain ⟨s1, f7, q7⟩ := (show SV 1 = true ∧ ua.eval (.tmp 7) = pV 1 ∧ stE _ 1 (pV 1) from hd 7 (by decide))
  have e7 : ua.eval (.tmp 7) = .int .i64 m.p := f7.trans q7
  exact zl (za rfl) (.bool bf1) (y_neI _ _ _ _ rfl e7 rfl Try.underlying3 ((fl_1 m).trans hf1)) rfl (M.sub ⟨rfl, rfl, rfl, rfl, rfl, rfl, rfl, trivial⟩)
 ·intro ua uw SV pV M0 hk hn hd
  have M : Mx none w uw _ := M0
  clear M0
  have e1 : ua.eval (.tmp 1) = .pointer (some ⟨g2, 0, none⟩) := (show ua.eval (.tmp 1) = _ from hd 1 (by decide)).trans (F3.get (t := 1) rfl)
  exact zl (za rfl) (.pointer (some ⟨g2, 4, none⟩)) (y_fa (off := 4) rfl e1 (by kernel_rfl) rfl) rfl (M.sub ⟨rfl, rfl, rfl, rfl, rfl, rfl, rfl, trivial⟩)
 ·intro ua uw SV pV M0 hk hn hd
  have M : Mx none w uw _ := M0
  clear M0
  obtain ⟨s3, f9, q9⟩ := (show SV 3 = true ∧ ua.eval (.tmp 9) = pV 3 ∧ stE _ 3 (pV 3) from hd 9 (by decide))
  have e9 : ua.eval (.tmp 9) = .pointer (some ⟨g2, 4, none⟩) := f9.trans q9
  exact zl (za rfl) (.string m.s) (y_ld1 _ _ rfl e9 (M.blk (k := 5) rfl) rfl Try.underlying9 rfl) rfl (M.sub ⟨rfl, rfl, rfl, rfl, rfl, rfl, rfl, trivial⟩)
 ·intro ua uw SV pV M0 hk hn hd
  have M : Mx none w uw _ := M0
  clear M0
  obtain ⟨s4, f10, q10⟩ := (show SV 4 = true ∧ ua.eval (.tmp 10) = pV 4 ∧ stE _ 4 (pV 4) from hd 10 (by decide))
  have e10 : ua.eval (.tmp 10) = .string m.s := f10.trans q10
  exact zl (za rfl) (.bool bf2) (y_neS _ _ _ rfl e10 rfl ((fl_2 m).trans hf2)) rfl (M.sub ⟨rfl, rfl, rfl, rfl, rfl, rfl, rfl, trivial⟩)
 ·intro ua uw SV pV M0 hk hn hd
  have M : Mx none w uw _ := M0
  clear M0
  have e1 : ua.eval (.tmp 1) = .pointer (some ⟨g2, 0, none⟩) := (show ua.eval (.tmp 1) = _ from hd 1 (by decide)).trans (F3.get (t := 1) rfl)
  exact zl (za rfl) (.pointer (some ⟨g2, 5, none⟩)) (y_fa (off := 5) rfl e1 (by kernel_rfl) rfl) rfl (M.sub ⟨rfl, rfl, rfl, rfl, rfl, rfl, rfl, trivial⟩)
 ·intro ua uw SV pV M0 hk hn hd
  have M : Mx none w uw _ := M0
  clear M0
  obtain ⟨s6, f12, q12⟩ := (show SV 6 = true ∧ ua.eval (.tmp 12) = pV 6 ∧ stE _ 6 (pV 6) from hd 12 (by decide))
  have e12 : ua.eval (.tmp 12) = .pointer (some ⟨g2, 5, none⟩) := f12.trans q12
  exact zl (za rfl) (numV m.a) (zja _ _ rfl e12 (M.blk (k := 5) rfl) (numA m.a) (y_part8 rfl rfl rfl rfl rfl rfl rfl rfl) Try.underlying27 rfl z7) rfl (M.sub ⟨rfl, rfl, rfl, rfl, rfl, rfl, rfl, trivial⟩)
 ·intro ua uw SV pV M0 hk hn hd
  have M : Mx none w uw _ := M0
  clear M0
  exact zl (za rfl) (numV 0) (y_zbuild rfl) rfl (M.sub ⟨rfl, rfl, rfl, rfl, rfl, rfl, rfl, trivial⟩)
 ·intro ua uw SV pV M0 hk hn hd
  have M : Mx none w uw _ := M0
  clear M0
  obtain ⟨s7, f13, q13⟩ := (show SV 7 = true ∧ ua.eval (.tmp 13) = pV 7 ∧ stE _ 7 (pV 7) from hd 13 (by decide))
  have e13 : ua.eval (.tmp 13) = numV m.a := f13.trans q13
  obtain ⟨s8, f14, q14⟩ := (show SV 8 = true ∧ ua.eval (.tmp 14) = pV 8 ∧ stE _ 8 (pV 8) from hd 14 (by decide))
  have e14 : ua.eval (.tmp 14) = numV 0 := f14.trans q14
  exact zl (za rfl) (.bool bf3) (fl_num rfl e13 e14 ho.a ((fl_3 m).trans hf3)) rfl (M.sub ⟨rfl, rfl, rfl, rfl, rfl, rfl, rfl, trivial⟩)
 ·intro ua uw SV pV M0 hk hn hd
  have M : Mx none w uw _ := M0
  clear M0
  have e1 : ua.eval (.tmp 1) = .pointer (some ⟨g2, 0, none⟩) := (show ua.eval (.tmp 1) = _ from hd 1 (by decide)).trans (F3.get (t := 1) rfl)
  exact zl (za rfl) (.pointer (some ⟨g2, 13, none⟩)) (y_fa (off := 13) rfl e1 (by kernel_rfl) rfl) rfl (M.sub ⟨rfl, rfl, rfl, rfl, rfl, rfl, rfl, trivial⟩)
 ·intro ua uw SV pV M0 hk hn hd
  have M : Mx none w uw _ := M0
  clear M0
  obtain ⟨s10, f16, q16⟩ := (show SV 10 = true ∧ ua.eval (.tmp 16) = pV 10 ∧ stE _ 10 (pV 10) from hd 16 (by decide))
  have e16 : ua.eval (.tmp 16) = .pointer (some ⟨g2, 13, none⟩) := f16.trans q16
  exact zl (za rfl) (numV m.b) (zja _ _ rfl e16 (M.blk (k := 5) rfl) (numA m.b) (y_part8 rfl rfl rfl rfl rfl rfl rfl rfl) Try.underlying27 rfl z7) rfl (M.sub ⟨rfl, rfl, rfl, rfl, rfl, rfl, rfl, trivial⟩)
 ·intro ua uw SV pV M0 hk hn hd
  have M : Mx none w uw _ := M0
  clear M0
  exact zl (za rfl) (numV 0) (y_zbuild rfl) rfl (M.sub ⟨rfl, rfl, rfl, rfl, rfl, rfl, rfl, trivial⟩)
 ·intro ua uw SV pV M0 hk hn hd
  have M : Mx none w uw _ := M0
  clear M0
  obtain ⟨s11, f17, q17⟩ := (show SV 11 = true ∧ ua.eval (.tmp 17) = pV 11 ∧ stE _ 11 (pV 11) from hd 17 (by decide))
  have e17 : ua.eval (.tmp 17) = numV m.b := f17.trans q17
  obtain ⟨s12, f18, q18⟩ := (show SV 12 = true ∧ ua.eval (.tmp 18) = pV 12 ∧ stE _ 12 (pV 12) from hd 18 (by decide))
  have e18 : ua.eval (.tmp 18) = numV 0 := f18.trans q18
  exact zl (za rfl) (.bool bf4) (fl_num rfl e17 e18 ho.b ((fl_4 m).trans hf4)) rfl (M.sub ⟨rfl, rfl, rfl, rfl, rfl, rfl, rfl, trivial⟩)
 ·intro ua uw SV pV M0 hk hn hd
  have M : Mx none w uw _ := M0
  clear M0
  have e1 : ua.eval (.tmp 1) = .pointer (some ⟨g2, 0, none⟩) := (show ua.eval (.tmp 1) = _ from hd 1 (by decide)).trans (F3.get (t := 1) rfl)
  exact zl (za rfl) (.pointer (some ⟨g2, 21, none⟩)) (y_fa (off := 21) rfl e1 (by kernel_rfl) rfl) rfl (M.sub ⟨rfl, rfl, rfl, rfl, rfl, rfl, rfl, trivial⟩)
 ·intro ua uw SV pV M0 hk hn hd
  have M : Mx none w uw _ := M0
  clear M0
  obtain ⟨s14, f20, q20⟩ := (show SV 14 = true ∧ ua.eval (.tmp 20) = pV 14 ∧ stE _ 14 (pV 14) from hd 20 (by decide))
  have e20 : ua.eval (.tmp 20) = .pointer (some ⟨g2, 21, none⟩) := f20.trans q20
  exact zl (za rfl) (V.v5) (y_ld1 _ _ rfl e20 (M.blk (k := 5) rfl) rfl Try.underlying22 rfl) rfl (M.sub ⟨rfl, rfl, rfl, rfl, rfl, rfl, rfl, trivial⟩)
 ·intro ua uw SV pV M0 hk hn hd
  have M : Mx none w uw _ := M0
  clear M0
  obtain ⟨s15, f21, q21⟩ := (show SV 15 = true ∧ ua.eval (.tmp 21) = pV 15 ∧ stE _ 15 (pV 15) from hd 21 (by decide))
  have e21 : ua.eval (.tmp 21) = V.v5 := f21.trans q21
  exact zl (za rfl) (.int .i64 (m.l5.length : Int)) (z9 _ rfl e21 (M.isb (k := 0) rfl) rfl) rfl (M.sub ⟨rfl, rfl, rfl, rfl, rfl, rfl, rfl, trivial⟩)
 ·intro ua uw SV pV M0 hk hn hd
  have M : Mx none w uw _ := M0
  clear M0
  obtain ⟨s16, f22, q22⟩ := (show SV 16 = true ∧ ua.eval (.tmp 22) = pV 16 ∧ stE _ 16 (pV 16) from hd 22 (by decide))
  have e22 : ua.eval (.tmp 22) = .int .i64 (m.l5.length : Int) := f22.trans q22
  exact zl (za rfl) (.bool bf5) (zya _ _ _ _ rfl e22 rfl ((fl_5 m).trans hf5)) rfl (M.sub ⟨rfl, rfl, rfl, rfl, rfl, rfl, rfl, trivial⟩)
 ·intro ua uw SV pV M0 hk hn hd
  have M : Mx none w uw _ := M0
  clear M0
  have e1 : ua.eval (.tmp 1) = .pointer (some ⟨g2, 0, none⟩) := (show ua.eval (.tmp 1) = _ from hd 1 (by decide)).trans (F3.get (t := 1) rfl)
  exact zl (za rfl) (.pointer (some ⟨g2, 22, none⟩)) (y_fa (off := 22) rfl e1 (by kernel_rfl) rfl) rfl (M.sub ⟨rfl, rfl, rfl, rfl, rfl, rfl, rfl, trivial⟩)
 ·intro ua uw SV pV M0 hk hn hd
  have M : Mx none w uw _ := M0
  clear M0
  obtain ⟨s18, f24, q24⟩ := (show SV 18 = true ∧ ua.eval (.tmp 24) = pV 18 ∧ stE _ 18 (pV 18) from hd 24 (by decide))
  have e24 : ua.eval (.tmp 24) = .pointer (some ⟨g2, 22, none⟩) := f24.trans q24
  exact zl (za rfl) (V.v6) (y_ld1 _ _ rfl e24 (M.blk (k := 5) rfl) rfl Try.underlying22 rfl) rfl (M.sub ⟨rfl, rfl, rfl, rfl, rfl, rfl, rfl, trivial⟩)
 ·intro ua uw SV pV M0 hk hn hd
  have M : Mx none w uw _ := M0
  clear M0
  obtain ⟨s19, f25, q25⟩ := (show SV 19 = true ∧ ua.eval (.tmp 25) = pV 19 ∧ stE _ 19 (pV 19) from hd 25 (by decide))
  have e25 : ua.eval (.tmp 25) = V.v6 := f25.trans q25
  exact zl (za rfl) (.int .i64 (m.l6.length : Int)) (z9 _ rfl e25 (M.isb (k := 1) rfl) rfl) rfl (M.sub ⟨rfl, rfl, rfl, rfl, rfl, rfl, rfl, trivial⟩)
 ·intro ua uw SV pV M0 hk hn hd
  have M : Mx none w uw _ := M0
  clear M0
  obtain ⟨s20, f26, q26⟩ := (show SV 20 = true ∧ ua.eval (.tmp 26) = pV 20 ∧ stE _ 20 (pV 20) from hd 26 (by decide))
  have e26 : ua.eval (.tmp 26) = .int .i64 (m.l6.length : Int) := f26.trans q26
  exact zl (za rfl) (.bool bf6) (zya _ _ _ _ rfl e26 rfl ((fl_6 m).trans hf6)) rfl (M.sub ⟨rfl, rfl, rfl, rfl, rfl, rfl, rfl, trivial⟩)
 ·intro ua uw SV pV M0 hk hn hd
  have M : Mx none w uw _ := M0
  clear M0
  have e1 : ua.eval (.tmp 1) = .pointer (some ⟨g2, 0, none⟩) := (show ua.eval (.tmp 1) = _ from hd 1 (by decide)).trans (F3.get (t := 1) rfl)
  exact zl (za rfl) (.pointer (some ⟨g2, 23, none⟩)) (y_fa (off := 23) rfl e1 (by kernel_rfl) rfl) rfl (M.sub ⟨rfl, rfl, rfl, rfl, rfl, rfl, rfl, trivial⟩)
 ·intro ua uw SV pV M0 hk hn hd
  have M : Mx none w uw _ := M0
  clear M0
  obtain ⟨s22, f28, q28⟩ := (show SV 22 = true ∧ ua.eval (.tmp 28) = pV 22 ∧ stE _ 22 (pV 22) from hd 28 (by decide))
  have e28 : ua.eval (.tmp 28) = .pointer (some ⟨g2, 23, none⟩) := f28.trans q28
  exact zl (za rfl) (V.v7) (y_ld1 _ _ rfl e28 (M.blk (k := 5) rfl) rfl Try.underlying22 rfl) rfl (M.sub ⟨rfl, rfl, rfl, rfl, rfl, rfl, rfl, trivial⟩)
 ·intro ua uw SV pV M0 hk hn hd
  have M : Mx none w uw _ := M0
  clear M0
  obtain ⟨s23, f29, q29⟩ := (show SV 23 = true ∧ ua.eval (.tmp 29) = pV 23 ∧ stE _ 23 (pV 23) from hd 29 (by decide))
  have e29 : ua.eval (.tmp 29) = V.v7 := f29.trans q29
  exact zl (za rfl) (.int .i64 (m.l7.length : Int)) (z9 _ rfl e29 (M.isb (k := 2) rfl) rfl) rfl (M.sub ⟨rfl, rfl, rfl, rfl, rfl, rfl, rfl, trivial⟩)
 ·intro ua uw SV pV M0 hk hn hd
  have M : Mx none w uw _ := M0
  clear M0
  obtain ⟨s24, f30, q30⟩ := (show SV 24 = true ∧ ua.eval (.tmp 30) = pV 24 ∧ stE _ 24 (pV 24) from hd 30 (by decide))
  have e30 : ua.eval (.tmp 30) = .int .i64 (m.l7.length : Int) := f30.trans q30
  exact zl (za rfl) (.bool bf7) (zya _ _ _ _ rfl e30 rfl ((fl_7 m).trans hf7)) rfl (M.sub ⟨rfl, rfl, rfl, rfl, rfl, rfl, rfl, trivial⟩)
 ·intro ua uw SV pV M0 hk hn hd
  have M : Mx none w uw _ := M0
  clear M0
  have e1 : ua.eval (.tmp 1) = .pointer (some ⟨g2, 0, none⟩) := (show ua.eval (.tmp 1) = _ from hd 1 (by decide)).trans (F3.get (t := 1) rfl)
  exact zl (za rfl) (.pointer (some ⟨g2, 24, none⟩)) (y_fa (off := 24) rfl e1 (by kernel_rfl) rfl) rfl (M.sub ⟨rfl, rfl, rfl, rfl, rfl, rfl, rfl, trivial⟩)
 ·intro ua uw SV pV M0 hk hn hd
  have M : Mx none w uw _ := M0
  clear M0
  obtain ⟨s26, f32, q32⟩ := (show SV 26 = true ∧ ua.eval (.tmp 32) = pV 26 ∧ stE _ 26 (pV 26) from hd 32 (by decide))
  have e32 : ua.eval (.tmp 32) = .pointer (some ⟨g2, 24, none⟩) := f32.trans q32
  exact zl (za rfl) (V.v8) (y_ld1 _ _ rfl e32 (M.blk (k := 5) rfl) rfl Try.underlying22 rfl) rfl (M.sub ⟨rfl, rfl, rfl, rfl, rfl, rfl, rfl, trivial⟩)
 ·intro ua uw SV pV M0 hk hn hd
  have M : Mx none w uw _ := M0
  clear M0
  obtain ⟨s27, f33, q33⟩ := (show SV 27 = true ∧ ua.eval (.tmp 33) = pV 27 ∧ stE _ 27 (pV 27) from hd 33 (by decide))
  have e33 : ua.eval (.tmp 33) = V.v8 := f33.trans q33
  exact zl (za rfl) (.int .i64 (m.l8.length : Int)) (z9 _ rfl e33 (M.isb (k := 3) rfl) rfl) rfl (M.sub ⟨rfl, rfl, rfl, rfl, rfl, rfl, rfl, trivial⟩)
 ·intro ua uw SV pV M0 hk hn hd
  have M : Mx none w uw _ := M0
  clear M0
  obtain ⟨s28, f34, q34⟩ := (show SV 28 = true ∧ ua.eval (.tmp 34) = pV 28 ∧ stE _ 28 (pV 28) from hd 34 (by decide))
  have e34 : ua.eval (.tmp 34) = .int .i64 (m.l8.length : Int) := f34.trans q34
  exact zl (za rfl) (.bool bf8) (zya _ _ _ _ rfl e34 rfl ((fl_8 m).trans hf8)) rfl (M.sub ⟨rfl, rfl, rfl, rfl, rfl, rfl, rfl, trivial⟩)
 ·intro ua uw SV pV M0 hk hn hd
  have M : Mx none w uw _ := M0
  clear M0
  have e1 : ua.eval (.tmp 1) = .pointer (some ⟨g2, 0, none⟩) := (show ua.eval (.tmp 1) = _ from hd 1 (by decide)).trans (F3.get (t := 1) rfl)
  exact zl (za rfl) (.pointer (some ⟨g2, 25, none⟩)) (y_fa (off := 25) rfl e1 (by kernel_rfl) rfl) rfl (M.sub ⟨rfl, rfl, rfl, rfl, rfl, rfl, rfl, trivial⟩)
 ·intro ua uw SV pV M0 hk hn hd
  have M : Mx none w uw _ := M0
  clear M0
  obtain ⟨s30, f36, q36⟩ := (show SV 30 = true ∧ ua.eval (.tmp 36) = pV 30 ∧ stE _ 30 (pV 30) from hd 36 (by decide))
  have e36 : ua.eval (.tmp 36) = .pointer (some ⟨g2, 25, none⟩) := f36.trans q36
  exact zl (za rfl) (V.v9) (y_ld1 _ _ rfl e36 (M.blk (k := 5) rfl) rfl Try.underlying22 rfl) rfl (M.sub ⟨rfl, rfl, rfl, rfl, rfl, rfl, rfl, trivial⟩)
 ·intro ua uw SV pV M0 hk hn hd
  have M : Mx none w uw _ := M0
  clear M0
  obtain ⟨s31, f37, q37⟩ := (show SV 31 = true ∧ ua.eval (.tmp 37) = pV 31 ∧ stE _ 31 (pV 31) from hd 37 (by decide))
  have e37 : ua.eval (.tmp 37) = V.v9 := f37.trans q37
  exact zl (za rfl) (.int .i64 (m.l9.length : Int)) (z9 _ rfl e37 (M.isb (k := 4) rfl) rfl) rfl (M.sub ⟨rfl, rfl, rfl, rfl, rfl, rfl, rfl, trivial⟩)
 ·intro ua uw SV pV M0 hk hn hd
  have M : Mx none w uw _ := M0
  clear M0
  obtain ⟨s32, f38, q38⟩ := (show SV 32 = true ∧ ua.eval (.tmp 38) = pV 32 ∧ stE _ 32 (pV 32) from hd 38 (by decide))
  have e38 : ua.eval (.tmp 38) = .int .i64 (m.l9.length : Int) := f38.trans q38
  exact zl (za rfl) (.bool bf9) (zya _ _ _ _ rfl e38 rfl ((fl_9 m).trans hf9)) rfl (M.sub ⟨rfl, rfl, rfl, rfl, rfl, rfl, rfl, trivial⟩)
 ·intro ua uw SV pV M0 hk hn hd
  have M : Mx none w uw _ := M0
  clear M0
  have e1 : ua.eval (.tmp 1) = .pointer (some ⟨g2, 0, none⟩) := (show ua.eval (.tmp 1) = _ from hd 1 (by decide)).trans (F3.get (t := 1) rfl)
  exact zl (za rfl) (.pointer (some ⟨g2, 2, none⟩)) (y_fa (off := 2) rfl e1 (by kernel_rfl) rfl) rfl (M.sub ⟨rfl, rfl, rfl, rfl, rfl, rfl, rfl, trivial⟩)
 ·intro ua uw SV pV M0 hk hn hd
  have M : Mx none w uw _ := M0
  clear M0
  obtain ⟨s34, f40, q40⟩ := (show SV 34 = true ∧ ua.eval (.tmp 40) = pV 34 ∧ stE _ 34 (pV 34) from hd 40 (by decide))
  have e40 : ua.eval (.tmp 40) = .pointer (some ⟨g2, 2, none⟩) := f40.trans q40
  exact zl (za rfl) (.int .i64 m.c) (y_ld1 _ _ rfl e40 (M.blk (k := 5) rfl) rfl Try.underlying3 rfl) rfl (M.sub ⟨rfl, rfl, rfl, rfl, rfl, rfl, rfl, trivial⟩)
 ·intro ua uw SV pV M0 hk hn hd
  have M : Mx none w uw _ := M0
  clear M0
  obtain ⟨s35, f41, q41⟩ := (show SV 35 = true ∧ ua.eval (.tmp 41) = pV 35 ∧ stE _ 35 (pV 35) from hd 41 (by decide))
  have e41 : ua.eval (.tmp 41) = .int .i64 m.c := f41.trans q41
  exact zl (za rfl) (.bool bf10) (y_neI _ _ _ _ rfl e41 rfl Try.underlying3 ((fl_10 m).trans hf10)) rfl (M.sub ⟨rfl, rfl, rfl, rfl, rfl, rfl, rfl, trivial⟩)
 ·intro ua uw SV pV M0 hk hn hd
  have M : Mx none w uw _ := M0
  clear M0
  have e1 : ua.eval (.tmp 1) = .pointer (some ⟨g2, 0, none⟩) := (show ua.eval (.tmp 1) = _ from hd 1 (by decide)).trans (F3.get (t := 1) rfl)
  exact zl (za rfl) (.pointer (some ⟨g2, 3, none⟩)) (y_fa (off := 3) rfl e1 (by kernel_rfl) rfl) rfl (M.sub ⟨rfl, rfl, rfl, rfl, rfl, rfl, rfl, trivial⟩)
 ·intro ua uw SV pV M0 hk hn hd
  have M : Mx none w uw _ := M0
  clear M0
  obtain ⟨s37, f43, q43⟩ := (show SV 37 = true ∧ ua.eval (.tmp 43) = pV 37 ∧ stE _ 37 (pV 37) from hd 43 (by decide))
  have e43 : ua.eval (.tmp 43) = .pointer (some ⟨g2, 3, none⟩) := f43.trans q43
  exact zl (za rfl) (.int .i64 m.e) (y_ld1 _ _ rfl e43 (M.blk (k := 5) rfl) rfl Try.underlying24 rfl) rfl (M.sub ⟨rfl, rfl, rfl, rfl, rfl, rfl, rfl, trivial⟩)
 ·intro ua uw SV pV M0 hk hn hd
  have M : Mx none w uw _ := M0
  clear M0
  obtain ⟨s38, f44, q44⟩ := (show SV 38 = true ∧ ua.eval (.tmp 44) = pV 38 ∧ stE _ 38 (pV 38) from hd 44 (by decide))
  have e44 : ua.eval (.tmp 44) = .int .i64 m.e := f44.trans q44
  exact zl (za rfl) (.bool bf11) (y_neI _ _ _ _ rfl e44 rfl Try.underlying24 ((fl_11 m).trans hf11)) rfl (M.sub ⟨rfl, rfl, rfl, rfl, rfl, rfl, rfl, trivial⟩)
 ·intro ua uw SV pV M0 hk hn hd
  have M : Mx none w uw _ := M0
  clear M0
  obtain ⟨s2, f8, q8⟩ := (show SV 2 = true ∧ ua.eval (.tmp 8) = pV 2 ∧ stE _ 2 (pV 2) from hd 8 (by decide))
  have e8 : ua.eval (.tmp 8) = .bool bf1 := f8.trans q8
  obtain ⟨s5, f11, q11⟩ := (show SV 5 = true ∧ ua.eval (.tmp 11) = pV 5 ∧ stE _ 5 (pV 5) from hd 11 (by decide))
  have e11 : ua.eval (.tmp 11) = .bool bf2 := f11.trans q11
  obtain ⟨s9, f15, q15⟩ := (show SV 9 = true ∧ ua.eval (.tmp 15) = pV 9 ∧ stE _ 9 (pV 9) from hd 15 (by decide))
  have e15 : ua.eval (.tmp 15) = .bool bf3 := f15.trans q15
  obtain ⟨s13, f19, q19⟩ := (show SV 13 = true ∧ ua.eval (.tmp 19) = pV 13 ∧ stE _ 13 (pV 13) from hd 19 (by decide))
  have e19 : ua.eval (.tmp 19) = .bool bf4 := f19.trans q19
  obtain ⟨s17, f23, q23⟩ := (show SV 17 = true ∧ ua.eval (.tmp 23) = pV 17 ∧ stE _ 17 (pV 17) from hd 23 (by decide))
  have e23 : ua.eval (.tmp 23) = .bool bf5 := f23.trans q23
  obtain ⟨s21, f27, q27⟩ := (show SV 21 = true ∧ ua.eval (.tmp 27) = pV 21 ∧ stE _ 21 (pV 21) from hd 27 (by decide))
  have e27 : ua.eval (.tmp 27) = .bool bf6 := f27.trans q27
  obtain ⟨s25, f31, q31⟩ := (show SV 25 = true ∧ ua.eval (.tmp 31) = pV 25 ∧ stE _ 25 (pV 25) from hd 31 (by decide))
  have e31 : ua.eval (.tmp 31) = .bool bf7 := f31.trans q31
  obtain ⟨s29, f35, q35⟩ := (show SV 29 = true ∧ ua.eval (.tmp 35) = pV 29 ∧ stE _ 29 (pV 29) from hd 35 (by decide))
  have e35 : ua.eval (.tmp 35) = .bool bf8 := f35.trans q35
  obtain ⟨s33, f39, q39⟩ := (show SV 33 = true ∧ ua.eval (.tmp 39) = pV 33 ∧ stE _ 33 (pV 33) from hd 39 (by decide))
  have e39 : ua.eval (.tmp 39) = .bool bf9 := f39.trans q39
  obtain ⟨s36, f42, q42⟩ := (show SV 36 = true ∧ ua.eval (.tmp 42) = pV 36 ∧ stE _ 36 (pV 36) from hd 42 (by decide))
  have e42 : ua.eval (.tmp 42) = .bool bf10 := f42.trans q42
  obtain ⟨s39, f45, q45⟩ := (show SV 39 = true ∧ ua.eval (.tmp 45) = pV 39 ∧ stE _ 39 (pV 39) from hd 45 (by decide))
  have e45 : ua.eval (.tmp 45) = .bool bf11 := f45.trans q45
  exact zl (za rfl) _ (y_litG 110 4 (s := 1) (zv := .bool false) Try.underlying110 (by kernel_rfl) (by kernel_rfl) rfl (#[.bool false, .bool bf1, .bool bf2, .bool bf3, .bool bf4, .bool bf5, .bool bf6, .bool bf7, .bool bf8, .bool bf9, .bool bf10, .bool bf11]) (by decide) (by decide) (by simp only [List.map_toArray, List.map_cons, List.map_nil, e8, e11, e15, e19, e23, e27, e31, e35, e39, e42, e45]; kernel_rfl)) trivial ((M.allocS 6 4 12 (#[.bool false, .bool bf1, .bool bf2, .bool bf3, .bool bf4, .bool bf5, .bool bf6, .bool bf7, .bool bf8, .bool bf9, .bool bf10, .bool bf11])).sub ⟨rfl, rfl, rfl, rfl, rfl, rfl, rfl, trivial⟩)
 intro p5 a5 w5 M5 G5 y5
 obtain ⟨-, -, -, -, -, -, -, -, -, -, -, -, -, -, -, -, -, -, -, -, -, -, -, -, -, -, -, -, -, -, -, -, -, -, -, -, -, -, -, -, q40, -⟩ := y5
 replace M5 : Mx _ _ w5 [(0, bytR m.l5 V.v5), (1, bytR m.l6 V.v6), (2, bytR m.l7 V.v7), (3, bytR m.l8 V.v8), (4, bytR m.l9 V.v9), (5, blkR g2 29 (msgA m V)), (6, condR true (slcR 4 12 (#[.bool false, .bool bf1, .bool bf2, .bool bf3, .bool bf4, .bool bf5, .bool bf6, .bool bf7, .bool bf8, .bool bf9, .bool bf10, .bool bf11]) (p5 40)))] := M5
 simp only [List.take, layV, Nat.zero_add, Nat.reduceAdd] at G5
 obtain ⟨gs6x5, rs6⟩ := (show ∃ g, p5 40 = .slice (some ⟨g, 0, none⟩) 12 12 from (M5.at_ 6 _ rfl).elim fun g h => ⟨g, h.1⟩)
 have M5_6 := M5.slcB (k := 6) (g := gs6x5) rfl rs6
 clear M5
 rw [rs6] at G5
 refine rm rfl G5 fun _ F6 => ?_
 refine hK4 _ _ (zS fun _ hK7 => ?_)
 refine zR ?_
 refine rm rfl F6 fun _ F8 => ?_
 refine hK7 _ _ (zS fun _ hK9 => ?_)
 refine zT fun _ hK10 => ?_
 refine rm rfl F8 fun _ F11 => ?_
 refine hK10 _ _ (wp_block ?_)
 replace M5_6 : Mx none w w5 [(6, blkR gs6x5 4 (flagsA m))] := (by rw [show flagsA m = #[.bool false, .bool bf1, .bool bf2, .bool bf3, .bool bf4, .bool bf5, .bool bf6, .bool bf7, .bool bf8, .bool bf9, .bool bf10, .bool bf11] by rw [flagsA, hf1, hf2, hf3, hf4, hf5, hf6, hf7, hf8, hf9, hf10, hf11]]; exact M5_6.sub ⟨rfl, trivial⟩)
 refine zzb (α := Nat) (n := 63) (G := none) (w0 := w) (fun x => [(0, .agg (msgA m V)), (1, .pointer (some ⟨g2, 0, none⟩)), (2, .int .i64 0), (46, .slice (some ⟨gs6x5, 0, none⟩) 12 12), (3, .slice (some ⟨gs6x5, 0, none⟩) 12 12), (5, .int .i64 (x : Int)), (4, .int .i64 ((thN (zza m) x : Nat) : Int))]) (fun x => [(6, blkR gs6x5 4 (flagsA m))]) (fun k x => k = 12 - x ∧ (x ≤ 12)) _ 0 ⟨rfl, (by omega)⟩ (F11.sub ⟨rfl, rfl, rfl, rfl, rfl, rfl, rfl, trivial⟩) (M5_6.sub ⟨rfl, trivial⟩) ?_
 clear F11 M5_6
 rintro k13 jn a13 w13 K13 ⟨ek13, I13⟩ F13 M13 hK13
 replace F13 : Fx 63 a13 [(0, .agg (msgA m V)), (1, .pointer (some ⟨g2, 0, none⟩)), (2, .int .i64 0), (46, .slice (some ⟨gs6x5, 0, none⟩) 12 12), (3, .slice (some ⟨gs6x5, 0, none⟩) 12 12), (5, .int .i64 (jn : Int)), (4, .int .i64 ((thN (zza m) jn : Nat) : Int))] := F13
 replace M13 : Mx _ _ w13 [(6, blkR gs6x5 4 (flagsA m))] := M13
 replace I13 : jn ≤ 12 := I13
 replace ek13 : k13 = 12 - jn := ek13
 by_cases hlt : jn < 12
 rotate_left
 ·obtain rfl : jn = 12 := by omega
  refine zS fun _ hK38 => zS fun _ hK39 => ?_
  refine zR ?_
  refine rm rfl F13 fun _ F40 => ?_
  refine rm rfl F40 fun _ F41 => ?_
  refine rn rfl rfl F41 rfl (.int .i64 12) (y_lnG 110 Try.underlying110 _ rfl (F41.get rfl) rfl) fun _ F42 => ?_
  refine rn rfl rfl F42 rfl (.bool false) (zoa _ _ _ _ rfl (F42.get rfl) (F42.get rfl) (decide_eq_false (by decide))) fun _ F43 => ?_
  refine hK39 _ _ (wp_cond_false (F43.get rfl) ?_)
  refine wp_exit ?_
  simp only [Exit.then, Exit.inBlock, ↓reduceIte, Nat.reduceEqDiff]
  refine hK9 _ _ (zS fun _ hK44 => ?_)
  refine zR ?_
  refine rm rfl F43 fun _ F45 => ?_
  refine rm rfl F45 fun _ F46 => ?_
  refine hK44 _ _ (wp_ret ?_)
  try simp only [Exit.then, Exit.inBlock, Exit.jump]
  exact bodyPost_ret (res1 rfl (F46.get rfl)) F46.defers ⟨rfl, M13.below⟩
 obtain ⟨bj, hbj⟩ : ∃ b, zza m jn = b := ⟨_, rfl⟩
 have hcell := flags_at m hlt
 rw [hbj] at hcell
 have hth := thN_next (zza m) jn (by omega)
 rw [hbj] at hth
 refine zS fun _ hK14 => zS fun _ hK15 => ?_
 refine zR ?_
 refine rm rfl F13 fun _ F16 => ?_
 refine rm rfl F16 fun _ F17 => ?_
 refine rn rfl rfl F17 rfl (.int .i64 12) (y_lnG 110 Try.underlying110 _ rfl (F17.get rfl) rfl) fun _ F18 => ?_
 refine rn rfl rfl F18 rfl (.bool true) (zoa _ _ _ _ rfl (F18.get rfl) (F18.get rfl) (decide_eq_true (show (jn : Int) < 12 by omega))) fun _ F19 => ?_
 refine hK15 _ _ (wp_cond_true (F19.get rfl) ?_)
 refine wp_skip ?_
 refine hK14 _ _ (zS fun _ hK20 => ?_)
 refine wp_block ?_
 refine zT fun _ hK21 => ?_
 refine rm rfl F19 fun _ F22 => ?_
 refine rm rfl F22 fun _ F23 => ?_
 refine rn rfl rfl F23 rfl (.pointer (some ⟨gs6x5, (0 + jn * 1), none⟩)) (y_ixG 110 (s := 1) Try.underlying110 (by kernel_rfl) _ _ rfl (F23.get rfl) (F23.get rfl) rfl hlt rfl) fun _ F24 => ?_
 refine rn rfl rfl F24 rfl (.bool bj) (y_ld1 _ _ rfl (F24.get rfl) (M13.blk (k := 6) rfl) (by rw [Nat.zero_add, Nat.mul_one]; exact hcell) Try.underlying4 rfl) fun _ F25 => ?_
 refine hK21 _ _ ?_
 cases bj
 ·refine wp_cond_false (F25.get (t := 56) rfl) ?_
  refine wp_skip ?_
  refine hK20 _ _ (zR ?_)
  refine rm rfl F25 fun _ F26 => ?_
  refine rn rfl rfl F26 rfl (.int .i64 ((jn + 1 : Nat) : Int)) (zz _ _ _ _ rfl (F26.get rfl) rfl (by omega) (by omega)) fun _ F27 => ?_
  refine rm rfl F27 fun _ F28 => ?_
  have hno : thN (zza m) (jn + 1) = thN (zza m) jn := if_neg (by rw [hbj]; exact Bool.false_ne_true)
  subst ek13
  exact hK13 _ (jn + 1) _ _ (by omega) ⟨rfl, (by omega)⟩ (F28.sub ⟨rfl, rfl, rfl, rfl, rfl, rfl, (by rw [hno]; rfl), trivial⟩) (M13.sub ⟨rfl, trivial⟩)
 refine wp_cond_true (F25.get (t := 56) rfl) ?_
 refine zR ?_
 refine rm rfl F25 fun _ F29 => ?_
 refine rm rfl F29 fun _ F30 => ?_
 refine rn rfl rfl F30 rfl (.int .u64 (jn : Int)) (zxa _ _ _ rfl (F30.get rfl) Try.underlying3 Try.underlying40 (by rw [IntKind.wrap_u64]; omega)) fun _ F31 => ?_
 refine rn rfl rfl F31 rfl (.int .i64 ((2 ^ jn : Nat) : Int)) (y_shlI _ _ _ _ rfl rfl (F31.get rfl) (by show (0 : Int) ≤ (jn : Int) ∧ (jn : Int) < 64; omega) (one_shl hlt)) fun _ F32 => ?_
 refine rn rfl rfl F32 rfl (.int .i64 ((thN (zza m) (jn + 1) : Nat) : Int)) (y_orU _ _ _ _ rfl (F32.get rfl) (F32.get rfl) (hth rfl)) fun _ F33 => ?_
 refine rm rfl F33 fun _ F34 => ?_
 refine hK20 _ _ (zR ?_)
 refine rm rfl F34 fun _ F35 => ?_
 refine rn rfl rfl F35 rfl (.int .i64 ((jn + 1 : Nat) : Int)) (zz _ _ _ _ rfl (F35.get rfl) rfl (by omega) (by omega)) fun _ F36 => ?_
 refine rm rfl F36 fun _ F37 => ?_
 subst ek13
 exact hK13 _ (jn + 1) _ _ (by omega) ⟨rfl, (by omega)⟩ (F37.sub ⟨rfl, rfl, rfl, rfl, rfl, rfl, rfl, trivial⟩) (M13.sub ⟨rfl, trivial⟩)
end Go.Proofs.Ytlbkogdmojlpmaa
namespace Go.Proofs.Ytlbkogdmojlpmaa
open Go.ChangeShapes Go.WideShapes Go.ChangeAt Go.RowKit
def orR (L : List Nat) : Int := L.foldl (fun s n => bits .or .i64 s ((2 ^ n : Nat) : Int)) 0
theorem orR_zero (L : List Nat) : orR (L.take 0) = 0 := rfl
theorem orR_all (L : List Nat) : orR (L.take L.length) = orR L := by rw [List.take_length]
theorem orR_succ {L : List Nat} {j x : Nat} (h : L[j]? = some x) : bits .or .i64 (orR (L.take j)) ((2 ^ x : Nat) : Int) = orR (L.take (j + 1)) := by
  unfold orR
  rw [List.take_add_one, h]
  simp
theorem rofI_any (g : Nat) (L : List Nat) (hL : ∀ x ∈ L, x < 12) (hm : L.length ≤ 1000) (w : World) (hg : w.heap[g]? = some (.cells (L.map ivN).toArray 3 (0, 0))) :
  Calls Try.prog 84 #[.slice (some ⟨g, 0, none⟩) L.length L.length] w fun e w' => e = .returned (.int .i64 (orR L)) ∧ Below w.heap.size w w' := by
 have h0 := orR_zero L
 have hall := orR_all L
 refine zg (args := [.slice (some ⟨g, 0, none⟩) L.length L.length]) 20 Try.func84 rfl rfl rfl ?_
 intro fa F
 have M := Mx.start w
 replace M := M.argO 0 hg (fun b e => by cases e)
 refine zT fun _ hK1 => ?_
 refine rm rfl F fun _ F2 => ?_
 refine hK1 _ _ (zS fun _ hK3 => ?_)
 refine zR ?_
 refine rm rfl F2 fun _ F4 => ?_
 refine hK3 _ _ (zS fun _ hK5 => ?_)
 refine zT fun _ hK6 => ?_
 refine rm rfl F4 fun _ F7 => ?_
 refine hK6 _ _ (wp_block ?_)
 refine zzb (α := Nat) (n := 20) (G := none) (w0 := w) (fun x => [(0, .slice (some ⟨g, 0, none⟩) L.length L.length), (2, .int .i64 0), (4, .int .i64 (x : Int)), (3, .int .i64 (orR (L.take x)))]) (fun x => [(0, blkO g 3 ((L.map ivN).toArray))]) (fun k x => k = L.length - x ∧ (x ≤ L.length)) _ 0 ⟨rfl, (Nat.zero_le _)⟩ (F7.sub ⟨rfl, rfl, rfl, (by rw [h0]; rfl), trivial⟩) (M.sub ⟨rfl, trivial⟩) ?_
 clear F7 M
 rintro k8 jn a8 w8 K8 ⟨ek8, I8⟩ F8 M8 hK8
 replace F8 : Fx 20 a8 [(0, .slice (some ⟨g, 0, none⟩) L.length L.length), (2, .int .i64 0), (4, .int .i64 (jn : Int)), (3, .int .i64 (orR (L.take jn)))] := F8
 replace M8 : Mx _ _ w8 [(0, blkO g 3 ((L.map ivN).toArray))] := M8
 replace I8 : jn ≤ L.length := I8
 replace ek8 : k8 = L.length - jn := ek8
 by_cases hlt : jn < L.length
 rotate_left
 ·obtain rfl : jn = L.length := by omega
  refine zS fun _ hK28 => zS fun _ hK29 => ?_
  refine zR ?_
  refine rm rfl F8 fun _ F30 => ?_
  refine rm rfl F30 fun _ F31 => ?_
  refine rn rfl rfl F31 rfl (.int .i64 (L.length : Int)) (y_lnG 38 Try.underlying38 _ rfl (F31.get rfl) rfl) fun _ F32 => ?_
  refine rn rfl rfl F32 rfl (.bool false) (zoa _ _ _ _ rfl (F32.get rfl) (F32.get rfl) (decide_eq_false (Int.lt_irrefl _))) fun _ F33 => ?_
  refine hK29 _ _ (wp_cond_false (F33.get rfl) ?_)
  refine wp_exit ?_
  simp only [Exit.then, Exit.inBlock, ↓reduceIte, Nat.reduceEqDiff]
  refine hK5 _ _ (zS fun _ hK34 => ?_)
  refine zR ?_
  refine rm rfl F33 fun _ F35 => ?_
  refine rm rfl F35 fun _ F36 => ?_
  refine hK34 _ _ (wp_ret ?_)
  try simp only [Exit.then, Exit.inBlock, Exit.jump]
  exact bodyPost_ret (res1 rfl (F36.get rfl)) F36.defers ⟨by rw [hall], M8.below⟩
 obtain ⟨x, hx⟩ : ∃ x, L[jn]? = some x := ⟨_, List.getElem?_eq_getElem hlt⟩
 have hx64 : x < 12 := hL x (List.mem_of_getElem? hx)
 have hor := orR_succ hx
 refine zS fun _ hK9 => zS fun _ hK10 => ?_
 refine zR ?_
 refine rm rfl F8 fun _ F11 => ?_
 refine rm rfl F11 fun _ F12 => ?_
 refine rn rfl rfl F12 rfl (.int .i64 (L.length : Int)) (y_lnG 38 Try.underlying38 _ rfl (F12.get rfl) rfl) fun _ F13 => ?_
 refine rn rfl rfl F13 rfl (.bool true) (zoa _ _ _ _ rfl (F13.get rfl) (F13.get rfl) (decide_eq_true (show (jn : Int) < (L.length : Int) by omega))) fun _ F14 => ?_
 refine hK10 _ _ (wp_cond_true (F14.get rfl) ?_)
 refine wp_skip ?_
 refine hK9 _ _ (zS fun _ hK15 => ?_)
 refine wp_block ?_
 refine zR ?_
 refine rm rfl F14 fun _ F16 => ?_
 refine rm rfl F16 fun _ F17 => ?_
 refine rm rfl F17 fun _ F18 => ?_
 refine rn rfl rfl F18 rfl (.pointer (some ⟨g, (0 + jn * 1), none⟩)) (y_ixG 38 (s := 1) Try.underlying38 (by kernel_rfl) _ _ rfl (F18.get rfl) (F18.get rfl) rfl hlt rfl) fun _ F19 => ?_
 refine rn rfl rfl F19 rfl (.int .i64 (x : Int)) (y_ld1 _ _ rfl (F19.get rfl) (M8.roB (k := 0) rfl) (by rw [Nat.zero_add, Nat.mul_one]; exact ivN_at hx) Try.underlying3 rfl) fun _ F20 => ?_
 refine rn rfl rfl F20 rfl (.int .u64 (x : Int)) (zxa _ _ _ rfl (F20.get rfl) Try.underlying3 Try.underlying40 (by rw [IntKind.wrap_u64]; omega)) fun _ F21 => ?_
 refine rn rfl rfl F21 rfl (.int .i64 ((2 ^ x : Nat) : Int)) (y_shlI _ _ _ _ rfl rfl (F21.get rfl) (by show (0 : Int) ≤ (x : Int) ∧ (x : Int) < 64; omega) (one_shl hx64)) fun _ F22 => ?_
 refine rn rfl rfl F22 rfl (.int .i64 (orR (L.take (jn + 1)))) (y_orU _ _ _ _ rfl (F22.get rfl) (F22.get rfl) hor) fun _ F23 => ?_
 refine rm rfl F23 fun _ F24 => ?_
 refine hK15 _ _ (zR ?_)
 refine rm rfl F24 fun _ F25 => ?_
 refine rn rfl rfl F25 rfl (.int .i64 ((jn + 1 : Nat) : Int)) (zz _ _ _ _ rfl (F25.get rfl) rfl (by omega) (by omega)) fun _ F26 => ?_
 refine rm rfl F26 fun _ F27 => ?_
 subst ek8
 exact hK8 _ (jn + 1) _ _ (by omega) ⟨rfl, (by omega)⟩ (F27.sub ⟨rfl, rfl, rfl, rfl, trivial⟩) (M8.sub ⟨rfl, trivial⟩)
theorem zdc (g : Nat) (L : List Nat) (z : Int) (hL : ∀ x ∈ L, x < 12) (hm : L.length ≤ 1000) (hz : orR L = z) {n : Nat} (hn : L.length = n) {c : Array Value} (hc : (L.map ivN).toArray = c) (w : World) (hg : w.heap[g]? = some (.cells c 3 (0, 0))) : Calls Try.prog 84 #[.slice (some ⟨g, 0, none⟩) n n] w fun e w' => e = .returned (.int .i64 z) ∧ Below w.heap.size w w' := by
  subst hz hn hc
  exact rofI_any g L hL hm w hg
theorem ztb (m : MsgN) (V : MsgV) (w : World) (hm : MsgIs w m V) :
  Calls Try.prog 58 #[.agg (msgA m V)] w fun e w' => e = .returned (.int .i64 (zla m)) ∧ Below w.heap.size w w' := by
 refine zg (args := [.agg (msgA m V)]) 61 Try.func58 rfl rfl rfl ?_
 intro fa F
 have M := Mx.start w
 replace M := M.argB 0 hm.h5 (fun g e => by cases e)
 replace M := M.argB 1 hm.h6 (fun g e => by cases e)
 replace M := M.argB 2 hm.h7 (fun g e => by cases e)
 replace M := M.argB 3 hm.h8 (fun g e => by cases e)
 replace M := M.argB 4 hm.h9 (fun g e => by cases e)
 refine zT fun _ hK1 => ?_
 refine zf (za rfl) rfl F rfl M 5 (t := 29) (c := msgA m V) (by unfold execOp; simp only [(F.get (t := 0) rfl)]; kernel_rfl) ?_
 intro g2 a2 w2 F2 M2
 clear F M
 refine rm rfl F2 fun _ F3 => ?_
 refine hK1 _ _ (zS fun _ hK4 => ?_)
 refine zT fun _ hK5 => ?_
 refine zB 2 [(1, .pointer (some ⟨g2, 0, none⟩)), (2, .int .i64 0), (4, .int .i64 m.k)] [0] (zj (M2.blk (k := 5) rfl) dnil) [g2] F3 fun _ F6 => ?_
 refine hK5 _ _ (wp_block ?_)
 refine zT fun _ hK7 => ?_
 by_cases h8 : m.k = 1
 ·refine rn rfl rfl F6 rfl (.bool true) (zq _ _ _ _ rfl (F6.get rfl) rfl Try.underlying3 (zka h8)) fun _ F9 => ?_
  refine rm rfl F9 fun _ F10 => ?_
  refine hK7 _ _ (wp_cond_true (F10.get rfl) ?_)
  refine zS fun _ hK11 => zS fun _ hK12 => ?_
  refine zR ?_
  refine zB 2 [(2, .int .i64 0), (8, .int .i64 m.p)] [0] (zj (M2.blk (k := 5) rfl) dnil) [g2] F10 fun _ F13 => ?_
  by_cases h14 : m.p = 2
  ·refine rn rfl rfl F13 rfl (.bool true) (zq _ _ _ _ rfl (F13.get rfl) rfl Try.underlying3 (zka h14)) fun _ F15 => ?_
   refine hK12 _ _ (wp_cond_true (F15.get rfl) ?_)
   refine zT fun _ hK16 => ?_
   refine zna (za rfl) rfl F15 rfl M2 6 (t := 3) (c := #[.int .i64 1, .int .i64 2, .int .i64 3, .int .i64 4]) (k := 4) (m := 4) (zfb rfl #[.int .i64 1, .int .i64 2, .int .i64 3, .int .i64 4] rfl (by decide) (by decide) (by simp only [List.map_toArray, List.map_cons, List.map_nil]; kernel_rfl)) ?_
   intro g17 a17 w17 F17 M17
   clear F15 M2
   refine zd (za rfl) rfl F17 rfl rfl (zE Try.func84 rfl) #[.slice (some ⟨g17, 0, none⟩) 4 4] (zp (F17.get rfl)) (zh (zdc g17 [1, 2, 3, 4] 30 (by decide) (by decide) (by decide) rfl rfl w17 (M17.blk (k := 6) rfl))) ?_
   rintro _ w18 a18 ⟨rfl, b18⟩ F18
   have M18 := M17.step b18
   refine rm rfl F18 fun _ F19 => ?_
   refine hK16 _ _ (wp_ret ?_)
   try simp only [Exit.then, Exit.inBlock, Exit.jump]
   exact bodyPost_ret (res1 rfl (F19.get rfl)) F19.defers ⟨by rw [show zla m = 30 from by unfold zla; simp only [h8, h14, if_true, if_false, or_self, or_false, false_or, or_true, true_or, Int.reduceEq, if_pos, if_neg, ↓reduceIte]], M18.below⟩
  refine rn rfl rfl F13 rfl (.bool false) (zq _ _ _ _ rfl (F13.get rfl) rfl Try.underlying3 (zr h14)) fun _ F20 => ?_
  refine hK12 _ _ (wp_cond_false (F20.get rfl) ?_)
  refine wp_skip ?_
  refine hK11 _ _ (zS fun _ hK21 => ?_)
  refine zR ?_
  refine zna (za rfl) rfl F20 rfl M2 6 (t := 3) (c := #[.int .i64 1, .int .i64 2, .int .i64 3]) (k := 3) (m := 3) (zfb rfl #[.int .i64 1, .int .i64 2, .int .i64 3] rfl (by decide) (by decide) (by simp only [List.map_toArray, List.map_cons, List.map_nil]; kernel_rfl)) ?_
  intro g22 a22 w22 F22 M22
  clear F20 M2
  refine zd (za rfl) rfl F22 rfl rfl (zE Try.func84 rfl) #[.slice (some ⟨g22, 0, none⟩) 3 3] (zp (F22.get rfl)) (zh (zdc g22 [1, 2, 3] 14 (by decide) (by decide) (by decide) rfl rfl w22 (M22.blk (k := 6) rfl))) ?_
  rintro _ w23 a23 ⟨rfl, b23⟩ F23
  have M23 := M22.step b23
  refine rm rfl F23 fun _ F24 => ?_
  refine hK21 _ _ (wp_ret ?_)
  try simp only [Exit.then, Exit.inBlock, Exit.jump]
  exact bodyPost_ret (res1 rfl (F24.get rfl)) F24.defers ⟨by rw [show zla m = 14 from by unfold zla; simp only [h8, h14, if_true, if_false, or_self, or_false, false_or, or_true, true_or, Int.reduceEq, if_pos, if_neg, ↓reduceIte]], M23.below⟩
 refine rn rfl rfl F6 rfl (.bool false) (zq _ _ _ _ rfl (F6.get rfl) rfl Try.underlying3 (zr h8)) fun _ F25 => ?_
 refine rm rfl F25 fun _ F26 => ?_
 refine hK7 _ _ (wp_cond_false (F26.get rfl) ?_)
 refine zT fun _ hK27 => ?_
 by_cases h28 : m.k = 2
 ·refine rn rfl rfl F26 rfl (.bool true) (zq _ _ _ _ rfl (F26.get rfl) rfl Try.underlying3 (zka h28)) fun _ F29 => ?_
  refine rm rfl F29 fun _ F30 => ?_
  refine hK27 _ _ (wp_cond_true (F30.get rfl) ?_)
  refine zS fun _ hK31 => zS fun _ hK32 => ?_
  refine zR ?_
  refine zB 2 [(2, .int .i64 0), (17, .int .i64 m.p)] [0] (zj (M2.blk (k := 5) rfl) dnil) [g2] F30 fun _ F33 => ?_
  by_cases h34 : m.p = 2
  ·refine rn rfl rfl F33 rfl (.bool true) (zq _ _ _ _ rfl (F33.get rfl) rfl Try.underlying3 (zka h34)) fun _ F35 => ?_
   refine hK32 _ _ (wp_cond_true (F35.get rfl) ?_)
   refine zT fun _ hK36 => ?_
   refine zna (za rfl) rfl F35 rfl M2 6 (t := 3) (c := #[.int .i64 1, .int .i64 3, .int .i64 4, .int .i64 6]) (k := 4) (m := 4) (zfb rfl #[.int .i64 1, .int .i64 3, .int .i64 4, .int .i64 6] rfl (by decide) (by decide) (by simp only [List.map_toArray, List.map_cons, List.map_nil]; kernel_rfl)) ?_
   intro g37 a37 w37 F37 M37
   clear F35 M2
   refine zd (za rfl) rfl F37 rfl rfl (zE Try.func84 rfl) #[.slice (some ⟨g37, 0, none⟩) 4 4] (zp (F37.get rfl)) (zh (zdc g37 [1, 3, 4, 6] 90 (by decide) (by decide) (by decide) rfl rfl w37 (M37.blk (k := 6) rfl))) ?_
   rintro _ w38 a38 ⟨rfl, b38⟩ F38
   have M38 := M37.step b38
   refine rm rfl F38 fun _ F39 => ?_
   refine hK36 _ _ (wp_ret ?_)
   try simp only [Exit.then, Exit.inBlock, Exit.jump]
   exact bodyPost_ret (res1 rfl (F39.get rfl)) F39.defers ⟨by rw [show zla m = 90 from by unfold zla; simp only [h8, h28, h34, if_true, if_false, or_self, or_false, false_or, or_true, true_or, Int.reduceEq, if_pos, if_neg, ↓reduceIte]], M38.below⟩
  refine rn rfl rfl F33 rfl (.bool false) (zq _ _ _ _ rfl (F33.get rfl) rfl Try.underlying3 (zr h34)) fun _ F40 => ?_
  refine hK32 _ _ (wp_cond_false (F40.get rfl) ?_)
  refine wp_skip ?_
  refine hK31 _ _ (zS fun _ hK41 => ?_)
  refine zR ?_
  refine zna (za rfl) rfl F40 rfl M2 6 (t := 3) (c := #[.int .i64 1, .int .i64 4, .int .i64 5]) (k := 3) (m := 3) (zfb rfl #[.int .i64 1, .int .i64 4, .int .i64 5] rfl (by decide) (by decide) (by simp only [List.map_toArray, List.map_cons, List.map_nil]; kernel_rfl)) ?_
  intro g42 a42 w42 F42 M42
  clear F40 M2
  refine zd (za rfl) rfl F42 rfl rfl (zE Try.func84 rfl) #[.slice (some ⟨g42, 0, none⟩) 3 3] (zp (F42.get rfl)) (zh (zdc g42 [1, 4, 5] 50 (by decide) (by decide) (by decide) rfl rfl w42 (M42.blk (k := 6) rfl))) ?_
  rintro _ w43 a43 ⟨rfl, b43⟩ F43
  have M43 := M42.step b43
  refine rm rfl F43 fun _ F44 => ?_
  refine hK41 _ _ (wp_ret ?_)
  try simp only [Exit.then, Exit.inBlock, Exit.jump]
  exact bodyPost_ret (res1 rfl (F44.get rfl)) F44.defers ⟨by rw [show zla m = 50 from by unfold zla; simp only [h8, h28, h34, if_true, if_false, or_self, or_false, false_or, or_true, true_or, Int.reduceEq, if_pos, if_neg, ↓reduceIte]], M43.below⟩
 refine rn rfl rfl F26 rfl (.bool false) (zq _ _ _ _ rfl (F26.get rfl) rfl Try.underlying3 (zr h28)) fun _ F45 => ?_
 refine rm rfl F45 fun _ F46 => ?_
 refine hK27 _ _ (wp_cond_false (F46.get rfl) ?_)
 refine zT fun _ hK47 => ?_
 by_cases h48 : m.k = 3
 ·refine rn rfl rfl F46 rfl (.bool true) (zq _ _ _ _ rfl (F46.get rfl) rfl Try.underlying3 (zka h48)) fun _ F49 => ?_
  refine rm rfl F49 fun _ F50 => ?_
  refine hK47 _ _ (wp_cond_true (F50.get rfl) ?_)
  refine zT fun _ hK51 => ?_
  refine zna (za rfl) rfl F50 rfl M2 6 (t := 3) (c := #[.int .i64 7]) (k := 1) (m := 1) (zfb rfl #[.int .i64 7] rfl (by decide) (by decide) (by simp only [List.map_toArray, List.map_cons, List.map_nil]; kernel_rfl)) ?_
  intro g52 a52 w52 F52 M52
  clear F50 M2
  refine zd (za rfl) rfl F52 rfl rfl (zE Try.func84 rfl) #[.slice (some ⟨g52, 0, none⟩) 1 1] (zp (F52.get rfl)) (zh (zdc g52 [7] 128 (by decide) (by decide) (by decide) rfl rfl w52 (M52.blk (k := 6) rfl))) ?_
  rintro _ w53 a53 ⟨rfl, b53⟩ F53
  have M53 := M52.step b53
  refine rm rfl F53 fun _ F54 => ?_
  refine hK51 _ _ (wp_ret ?_)
  try simp only [Exit.then, Exit.inBlock, Exit.jump]
  exact bodyPost_ret (res1 rfl (F54.get rfl)) F54.defers ⟨by rw [show zla m = 128 from by unfold zla; simp only [h8, h28, h48, if_true, if_false, or_self, or_false, false_or, or_true, true_or, Int.reduceEq, if_pos, if_neg, ↓reduceIte]], M53.below⟩
 refine rn rfl rfl F46 rfl (.bool false) (zq _ _ _ _ rfl (F46.get rfl) rfl Try.underlying3 (zr h48)) fun _ F55 => ?_
 refine rm rfl F55 fun _ F56 => ?_
 refine hK47 _ _ (wp_cond_false (F56.get rfl) ?_)
 refine zT fun _ hK57 => ?_
 by_cases h58 : m.k = 4
 ·refine rn rfl rfl F56 rfl (.bool true) (zq _ _ _ _ rfl (F56.get rfl) rfl Try.underlying3 (zka h58)) fun _ F59 => ?_
  refine rm rfl F59 fun _ F60 => ?_
  refine hK57 _ _ (wp_cond_true (F60.get rfl) ?_)
  refine zS fun _ hK61 => zS fun _ hK62 => ?_
  refine zR ?_
  refine zB 2 [(2, .int .i64 0), (30, V.v7)] [0] (zj (M2.blk (k := 5) rfl) dnil) [g2] F60 fun _ F63 => ?_
  refine rn rfl rfl F63 rfl (.int .i64 (m.l7.length : Int)) (z9 _ rfl (F63.get rfl) (M2.isb (k := 2) rfl) rfl) fun _ F64 => ?_
  by_cases h65 : 0 < (m.l7.length : Int)
  ·refine rn rfl rfl F64 rfl (.bool true) (zya _ _ _ _ rfl (F64.get rfl) rfl (decide_eq_true h65)) fun _ F66 => ?_
   refine hK62 _ _ (wp_cond_true (F66.get rfl) ?_)
   refine zT fun _ hK67 => ?_
   refine zna (za rfl) rfl F66 rfl M2 6 (t := 3) (c := #[.int .i64 7, .int .i64 8]) (k := 2) (m := 2) (zfb rfl #[.int .i64 7, .int .i64 8] rfl (by decide) (by decide) (by simp only [List.map_toArray, List.map_cons, List.map_nil]; kernel_rfl)) ?_
   intro g68 a68 w68 F68 M68
   clear F66 M2
   refine zd (za rfl) rfl F68 rfl rfl (zE Try.func84 rfl) #[.slice (some ⟨g68, 0, none⟩) 2 2] (zp (F68.get rfl)) (zh (zdc g68 [7, 8] 384 (by decide) (by decide) (by decide) rfl rfl w68 (M68.blk (k := 6) rfl))) ?_
   rintro _ w69 a69 ⟨rfl, b69⟩ F69
   have M69 := M68.step b69
   refine rm rfl F69 fun _ F70 => ?_
   refine hK67 _ _ (wp_ret ?_)
   try simp only [Exit.then, Exit.inBlock, Exit.jump]
   exact bodyPost_ret (res1 rfl (F70.get rfl)) F70.defers ⟨by rw [show zla m = 384 from by unfold zla; simp only [h8, h28, h48, h58, h65, if_true, if_false, or_self, or_false, false_or, or_true, true_or, Int.reduceEq, if_pos, if_neg, ↓reduceIte]], M69.below⟩
  refine rn rfl rfl F64 rfl (.bool false) (zya _ _ _ _ rfl (F64.get rfl) rfl (decide_eq_false h65)) fun _ F71 => ?_
  refine hK62 _ _ (wp_cond_false (F71.get rfl) ?_)
  refine wp_skip ?_
  refine hK61 _ _ (zS fun _ hK72 => ?_)
  refine zR ?_
  refine zna (za rfl) rfl F71 rfl M2 6 (t := 3) (c := #[.int .i64 8]) (k := 1) (m := 1) (zfb rfl #[.int .i64 8] rfl (by decide) (by decide) (by simp only [List.map_toArray, List.map_cons, List.map_nil]; kernel_rfl)) ?_
  intro g73 a73 w73 F73 M73
  clear F71 M2
  refine zd (za rfl) rfl F73 rfl rfl (zE Try.func84 rfl) #[.slice (some ⟨g73, 0, none⟩) 1 1] (zp (F73.get rfl)) (zh (zdc g73 [8] 256 (by decide) (by decide) (by decide) rfl rfl w73 (M73.blk (k := 6) rfl))) ?_
  rintro _ w74 a74 ⟨rfl, b74⟩ F74
  have M74 := M73.step b74
  refine rm rfl F74 fun _ F75 => ?_
  refine hK72 _ _ (wp_ret ?_)
  try simp only [Exit.then, Exit.inBlock, Exit.jump]
  exact bodyPost_ret (res1 rfl (F75.get rfl)) F75.defers ⟨by rw [show zla m = 256 from by unfold zla; simp only [h8, h28, h48, h58, h65, if_true, if_false, or_self, or_false, false_or, or_true, true_or, Int.reduceEq, if_pos, if_neg, ↓reduceIte]], M74.below⟩
 refine rn rfl rfl F56 rfl (.bool false) (zq _ _ _ _ rfl (F56.get rfl) rfl Try.underlying3 (zr h58)) fun _ F76 => ?_
 refine rm rfl F76 fun _ F77 => ?_
 refine hK57 _ _ (wp_cond_false (F77.get rfl) ?_)
 refine zT fun _ hK78 => ?_
 by_cases h79 : m.k = 5
 ·refine rn rfl rfl F77 rfl (.bool true) (zq _ _ _ _ rfl (F77.get rfl) rfl Try.underlying3 (zka h79)) fun _ F80 => ?_
  refine rm rfl F80 fun _ F81 => ?_
  refine hK78 _ _ (wp_cond_true (F81.get rfl) ?_)
  refine zT fun _ hK82 => ?_
  refine zna (za rfl) rfl F81 rfl M2 6 (t := 3) (c := #[.int .i64 11]) (k := 1) (m := 1) (zfb rfl #[.int .i64 11] rfl (by decide) (by decide) (by simp only [List.map_toArray, List.map_cons, List.map_nil]; kernel_rfl)) ?_
  intro g83 a83 w83 F83 M83
  clear F81 M2
  refine zd (za rfl) rfl F83 rfl rfl (zE Try.func84 rfl) #[.slice (some ⟨g83, 0, none⟩) 1 1] (zp (F83.get rfl)) (zh (zdc g83 [11] 2048 (by decide) (by decide) (by decide) rfl rfl w83 (M83.blk (k := 6) rfl))) ?_
  rintro _ w84 a84 ⟨rfl, b84⟩ F84
  have M84 := M83.step b84
  refine rm rfl F84 fun _ F85 => ?_
  refine hK82 _ _ (wp_ret ?_)
  try simp only [Exit.then, Exit.inBlock, Exit.jump]
  exact bodyPost_ret (res1 rfl (F85.get rfl)) F85.defers ⟨by rw [show zla m = 2048 from by unfold zla; simp only [h8, h28, h48, h58, h79, if_true, if_false, or_self, or_false, false_or, or_true, true_or, Int.reduceEq, if_pos, if_neg, ↓reduceIte]], M84.below⟩
 refine rn rfl rfl F77 rfl (.bool false) (zq _ _ _ _ rfl (F77.get rfl) rfl Try.underlying3 (zr h79)) fun _ F86 => ?_
 refine rm rfl F86 fun _ F87 => ?_
 refine hK78 _ _ (wp_cond_false (F87.get rfl) ?_)
 refine zT fun _ hK88 => ?_
 by_cases h89 : m.k = 6
 ·refine rn rfl rfl F87 rfl (.bool true) (zq _ _ _ _ rfl (F87.get rfl) rfl Try.underlying3 (zka h89)) fun _ F90 => ?_
  refine rm rfl F90 fun _ F91 => ?_
  refine hK88 _ _ (wp_cond_true (F91.get rfl) ?_)
  refine zT fun _ hK92 => ?_
  refine zna (za rfl) rfl F91 rfl M2 6 (t := 3) (c := #[.int .i64 1, .int .i64 2, .int .i64 9]) (k := 3) (m := 3) (zfb rfl #[.int .i64 1, .int .i64 2, .int .i64 9] rfl (by decide) (by decide) (by simp only [List.map_toArray, List.map_cons, List.map_nil]; kernel_rfl)) ?_
  intro g93 a93 w93 F93 M93
  clear F91 M2
  refine zd (za rfl) rfl F93 rfl rfl (zE Try.func84 rfl) #[.slice (some ⟨g93, 0, none⟩) 3 3] (zp (F93.get rfl)) (zh (zdc g93 [1, 2, 9] 518 (by decide) (by decide) (by decide) rfl rfl w93 (M93.blk (k := 6) rfl))) ?_
  rintro _ w94 a94 ⟨rfl, b94⟩ F94
  have M94 := M93.step b94
  refine rm rfl F94 fun _ F95 => ?_
  refine hK92 _ _ (wp_ret ?_)
  try simp only [Exit.then, Exit.inBlock, Exit.jump]
  exact bodyPost_ret (res1 rfl (F95.get rfl)) F95.defers ⟨by rw [show zla m = 518 from by unfold zla; simp only [h8, h28, h48, h58, h79, h89, if_true, if_false, or_self, or_false, false_or, or_true, true_or, Int.reduceEq, if_pos, if_neg, ↓reduceIte]], M94.below⟩
 refine rn rfl rfl F87 rfl (.bool false) (zq _ _ _ _ rfl (F87.get rfl) rfl Try.underlying3 (zr h89)) fun _ F96 => ?_
 refine rm rfl F96 fun _ F97 => ?_
 refine hK88 _ _ (wp_cond_false (F97.get rfl) ?_)
 refine zT fun _ hK98 => ?_
 by_cases h99 : m.k = 7
 ·refine rn rfl rfl F97 rfl (.bool true) (zq _ _ _ _ rfl (F97.get rfl) rfl Try.underlying3 (zka h99)) fun _ F100 => ?_
  refine rm rfl F100 fun _ F101 => ?_
  refine hK98 _ _ (wp_cond_true (F101.get rfl) ?_)
  refine zT fun _ hK102 => ?_
  refine rm rfl F101 fun _ F103 => ?_
  refine hK102 _ _ (wp_ret ?_)
  try simp only [Exit.then, Exit.inBlock, Exit.jump]
  exact bodyPost_ret (res1 rfl (F103.get rfl)) F103.defers ⟨by rw [show zla m = 0 from by unfold zla; simp only [h8, h28, h48, h58, h79, h89, h99, if_true, if_false, or_self, or_false, false_or, or_true, true_or, Int.reduceEq, if_pos, if_neg, ↓reduceIte]], M2.below⟩
 refine rn rfl rfl F97 rfl (.bool false) (zq _ _ _ _ rfl (F97.get rfl) rfl Try.underlying3 (zr h99)) fun _ F104 => ?_
 refine rm rfl F104 fun _ F105 => ?_
 refine hK98 _ _ (wp_cond_false (F105.get rfl) ?_)
 refine zS fun _ hK106 => zS fun _ hK107 => ?_
 refine zR ?_
 by_cases h108 : m.k = 8
 ·refine rn rfl rfl F105 rfl (.bool true) (zq _ _ _ _ rfl (F105.get rfl) rfl Try.underlying3 (zka h108)) fun _ F109 => ?_
  refine rm rfl F109 fun _ F110 => ?_
  refine hK107 _ _ (wp_cond_true (F110.get rfl) ?_)
  refine wp_skip ?_
  refine hK106 _ _ (wp_cond_true (F110.get rfl) ?_)
  refine zT fun _ hK111 => ?_
  refine zna (za rfl) rfl F110 rfl M2 6 (t := 3) (c := #[.int .i64 8, .int .i64 10]) (k := 2) (m := 2) (zfb rfl #[.int .i64 8, .int .i64 10] rfl (by decide) (by decide) (by simp only [List.map_toArray, List.map_cons, List.map_nil]; kernel_rfl)) ?_
  intro g112 a112 w112 F112 M112
  clear F110 M2
  refine zd (za rfl) rfl F112 rfl rfl (zE Try.func84 rfl) #[.slice (some ⟨g112, 0, none⟩) 2 2] (zp (F112.get rfl)) (zh (zdc g112 [8, 10] 1280 (by decide) (by decide) (by decide) rfl rfl w112 (M112.blk (k := 6) rfl))) ?_
  rintro _ w113 a113 ⟨rfl, b113⟩ F113
  have M113 := M112.step b113
  refine rm rfl F113 fun _ F114 => ?_
  refine hK111 _ _ (wp_ret ?_)
  try simp only [Exit.then, Exit.inBlock, Exit.jump]
  exact bodyPost_ret (res1 rfl (F114.get rfl)) F114.defers ⟨by rw [show zla m = 1280 from by unfold zla; simp only [h8, h28, h48, h58, h79, h89, h99, h108, if_true, if_false, or_self, or_false, false_or, or_true, true_or, Int.reduceEq, if_pos, if_neg, ↓reduceIte]], M113.below⟩
 refine rn rfl rfl F105 rfl (.bool false) (zq _ _ _ _ rfl (F105.get rfl) rfl Try.underlying3 (zr h108)) fun _ F115 => ?_
 refine rm rfl F115 fun _ F116 => ?_
 refine hK107 _ _ (wp_cond_false (F116.get rfl) ?_)
 refine zR ?_
 by_cases h117 : m.k = 12
 ·refine rn rfl rfl F116 rfl (.bool true) (zq _ _ _ _ rfl (F116.get rfl) rfl Try.underlying3 (zka h117)) fun _ F118 => ?_
  refine rm rfl F118 fun _ F119 => ?_
  refine hK106 _ _ (wp_cond_true (F119.get rfl) ?_)
  refine zT fun _ hK120 => ?_
  refine zna (za rfl) rfl F119 rfl M2 6 (t := 3) (c := #[.int .i64 8, .int .i64 10]) (k := 2) (m := 2) (zfb rfl #[.int .i64 8, .int .i64 10] rfl (by decide) (by decide) (by simp only [List.map_toArray, List.map_cons, List.map_nil]; kernel_rfl)) ?_
  intro g121 a121 w121 F121 M121
  clear F119 M2
  refine zd (za rfl) rfl F121 rfl rfl (zE Try.func84 rfl) #[.slice (some ⟨g121, 0, none⟩) 2 2] (zp (F121.get rfl)) (zh (zdc g121 [8, 10] 1280 (by decide) (by decide) (by decide) rfl rfl w121 (M121.blk (k := 6) rfl))) ?_
  rintro _ w122 a122 ⟨rfl, b122⟩ F122
  have M122 := M121.step b122
  refine rm rfl F122 fun _ F123 => ?_
  refine hK120 _ _ (wp_ret ?_)
  try simp only [Exit.then, Exit.inBlock, Exit.jump]
  exact bodyPost_ret (res1 rfl (F123.get rfl)) F123.defers ⟨by rw [show zla m = 1280 from by unfold zla; simp only [h8, h28, h48, h58, h79, h89, h99, h108, h117, if_true, if_false, or_self, or_false, false_or, or_true, true_or, Int.reduceEq, if_pos, if_neg, ↓reduceIte]], M122.below⟩
 refine rn rfl rfl F116 rfl (.bool false) (zq _ _ _ _ rfl (F116.get rfl) rfl Try.underlying3 (zr h117)) fun _ F124 => ?_
 refine rm rfl F124 fun _ F125 => ?_
 refine hK106 _ _ (wp_cond_false (F125.get rfl) ?_)
 refine zS fun _ hK126 => zS fun _ hK127 => ?_
 refine zR ?_
 by_cases h128 : m.k = 9
 ·refine rn rfl rfl F125 rfl (.bool true) (zq _ _ _ _ rfl (F125.get rfl) rfl Try.underlying3 (zka h128)) fun _ F129 => ?_
  refine rm rfl F129 fun _ F130 => ?_
  refine hK127 _ _ (wp_cond_true (F130.get rfl) ?_)
  refine wp_skip ?_
  refine hK126 _ _ (wp_cond_true (F130.get rfl) ?_)
  refine zT fun _ hK131 => ?_
  refine zna (za rfl) rfl F130 rfl M2 6 (t := 3) (c := #[.int .i64 8]) (k := 1) (m := 1) (zfb rfl #[.int .i64 8] rfl (by decide) (by decide) (by simp only [List.map_toArray, List.map_cons, List.map_nil]; kernel_rfl)) ?_
  intro g132 a132 w132 F132 M132
  clear F130 M2
  refine zd (za rfl) rfl F132 rfl rfl (zE Try.func84 rfl) #[.slice (some ⟨g132, 0, none⟩) 1 1] (zp (F132.get rfl)) (zh (zdc g132 [8] 256 (by decide) (by decide) (by decide) rfl rfl w132 (M132.blk (k := 6) rfl))) ?_
  rintro _ w133 a133 ⟨rfl, b133⟩ F133
  have M133 := M132.step b133
  refine rm rfl F133 fun _ F134 => ?_
  refine hK131 _ _ (wp_ret ?_)
  try simp only [Exit.then, Exit.inBlock, Exit.jump]
  exact bodyPost_ret (res1 rfl (F134.get rfl)) F134.defers ⟨by rw [show zla m = 256 from by unfold zla; simp only [h8, h28, h48, h58, h79, h89, h99, h108, h117, h128, if_true, if_false, or_self, or_false, false_or, or_true, true_or, Int.reduceEq, if_pos, if_neg, ↓reduceIte]], M133.below⟩
 refine rn rfl rfl F125 rfl (.bool false) (zq _ _ _ _ rfl (F125.get rfl) rfl Try.underlying3 (zr h128)) fun _ F135 => ?_
 refine rm rfl F135 fun _ F136 => ?_
 refine hK127 _ _ (wp_cond_false (F136.get rfl) ?_)
 refine zR ?_
 by_cases h137 : m.k = 10
 ·refine rn rfl rfl F136 rfl (.bool true) (zq _ _ _ _ rfl (F136.get rfl) rfl Try.underlying3 (zka h137)) fun _ F138 => ?_
  refine rm rfl F138 fun _ F139 => ?_
  refine hK126 _ _ (wp_cond_true (F139.get rfl) ?_)
  refine zT fun _ hK140 => ?_
  refine zna (za rfl) rfl F139 rfl M2 6 (t := 3) (c := #[.int .i64 8]) (k := 1) (m := 1) (zfb rfl #[.int .i64 8] rfl (by decide) (by decide) (by simp only [List.map_toArray, List.map_cons, List.map_nil]; kernel_rfl)) ?_
  intro g141 a141 w141 F141 M141
  clear F139 M2
  refine zd (za rfl) rfl F141 rfl rfl (zE Try.func84 rfl) #[.slice (some ⟨g141, 0, none⟩) 1 1] (zp (F141.get rfl)) (zh (zdc g141 [8] 256 (by decide) (by decide) (by decide) rfl rfl w141 (M141.blk (k := 6) rfl))) ?_
  rintro _ w142 a142 ⟨rfl, b142⟩ F142
  have M142 := M141.step b142
  refine rm rfl F142 fun _ F143 => ?_
  refine hK140 _ _ (wp_ret ?_)
  try simp only [Exit.then, Exit.inBlock, Exit.jump]
  exact bodyPost_ret (res1 rfl (F143.get rfl)) F143.defers ⟨by rw [show zla m = 256 from by unfold zla; simp only [h8, h28, h48, h58, h79, h89, h99, h108, h117, h128, h137, if_true, if_false, or_self, or_false, false_or, or_true, true_or, Int.reduceEq, if_pos, if_neg, ↓reduceIte]], M142.below⟩
 refine rn rfl rfl F136 rfl (.bool false) (zq _ _ _ _ rfl (F136.get rfl) rfl Try.underlying3 (zr h137)) fun _ F144 => ?_
 refine rm rfl F144 fun _ F145 => ?_
 refine hK126 _ _ (wp_cond_false (F145.get rfl) ?_)
 refine zT fun _ hK146 => ?_
 by_cases h147 : m.k = 11
 rotate_left
 ·refine rn rfl rfl F145 rfl (.bool false) (zq _ _ _ _ rfl (F145.get rfl) rfl Try.underlying3 (zr h147)) fun _ F154 => ?_
  refine rm rfl F154 fun _ F155 => ?_
  refine hK146 _ _ (wp_cond_false (F155.get rfl) ?_)
  refine wp_skip ?_
  refine hK4 _ _ (zS fun _ hK156 => ?_)
  refine zR ?_
  refine rm rfl F155 fun _ F157 => ?_
  refine hK156 _ _ (wp_ret ?_)
  try simp only [Exit.then, Exit.inBlock, Exit.jump]
  exact bodyPost_ret (res1 rfl (F157.get rfl)) F157.defers ⟨by rw [show zla m = -1 from by unfold zla; simp only [h8, h28, h48, h58, h79, h89, h99, h108, h117, h128, h137, h147, if_true, if_false, or_self, or_false, false_or, or_true, true_or, Int.reduceEq, if_pos, if_neg, ↓reduceIte]], M2.below⟩
 refine rn rfl rfl F145 rfl (.bool true) (zq _ _ _ _ rfl (F145.get rfl) rfl Try.underlying3 (zka h147)) fun _ F148 => ?_
 refine rm rfl F148 fun _ F149 => ?_
 refine hK146 _ _ (wp_cond_true (F149.get rfl) ?_)
 refine zT fun _ hK150 => ?_
 refine zna (za rfl) rfl F149 rfl M2 6 (t := 3) (c := #[.int .i64 1, .int .i64 8, .int .i64 9]) (k := 3) (m := 3) (zfb rfl #[.int .i64 1, .int .i64 8, .int .i64 9] rfl (by decide) (by decide) (by simp only [List.map_toArray, List.map_cons, List.map_nil]; kernel_rfl)) ?_
 intro g151 a151 w151 F151 M151
 clear F149 M2
 refine zd (za rfl) rfl F151 rfl rfl (zE Try.func84 rfl) #[.slice (some ⟨g151, 0, none⟩) 3 3] (zp (F151.get rfl)) (zh (zdc g151 [1, 8, 9] 770 (by decide) (by decide) (by decide) rfl rfl w151 (M151.blk (k := 6) rfl))) ?_
 rintro _ w152 a152 ⟨rfl, b152⟩ F152
 have M152 := M151.step b152
 refine rm rfl F152 fun _ F153 => ?_
 refine hK150 _ _ (wp_ret ?_)
 try simp only [Exit.then, Exit.inBlock, Exit.jump]
 exact bodyPost_ret (res1 rfl (F153.get rfl)) F153.defers ⟨by rw [show zla m = 770 from by unfold zla; simp only [h8, h28, h48, h58, h79, h89, h99, h108, h117, h128, h137, h147, if_true, if_false, or_self, or_false, false_or, or_true, true_or, Int.reduceEq, if_pos, if_neg, ↓reduceIte]], M152.below⟩
end Go.Proofs.Ytlbkogdmojlpmaa
namespace Go.Proofs.Ytlbkogdmojlpmaa
open Go.ChangeShapes Go.WideShapes Go.ChangeAt Go.RowKit
theorem take4 (a : Nat) {k : Nat} (hk : k < 8) : (z1a a).take (32 - 4 * k) = (z1a a).take (28 - 4 * k) ++ [z8a a (28 - 4 * k), z8a a (29 - 4 * k), z8a a (30 - 4 * k), z8a a (31 - 4 * k)] := by
  have h : k = 0 ∨ k = 1 ∨ k = 2 ∨ k = 3 ∨ k = 4 ∨ k = 5 ∨ k = 6 ∨ k = 7 := by omega
  rcases h with rfl | rfl | rfl | rfl | rfl | rfl | rfl | rfl <;> rfl
theorem four_bytes (a : Nat) {k : Nat} (hk : k < 8) : #[Value.int .u8 (IntKind.u8.wrap (digI a k / 16777216)), .int .u8 (IntKind.u8.wrap (digI a k / 65536)), .int .u8 (IntKind.u8.wrap (digI a k / 256)), .int .u8 (IntKind.u8.wrap (digI a k))] = bvs [z8a a (28 - 4 * k), z8a a (29 - 4 * k), z8a a (30 - 4 * k), z8a a (31 - 4 * k)] := by
  have h0 := dig_byte a k 0 (by omega)
  have h1 := dig_byte a k 1 (by omega)
  have h2 := dig_byte a k 2 (by omega)
  have h3 := dig_byte a k 3 (by omega)
  have hl := dig_lt a k
  simp only [bvs, List.map_cons, List.map_nil, bv, byteN_toNat, digI, IntKind.wrap_u8]
  rw [show 31 - (28 - 4 * k) = 4 * k + 3 by omega, show 31 - (29 - 4 * k) = 4 * k + 2 by omega, show 31 - (30 - 4 * k) = 4 * k + 1 by omega, show 31 - (31 - 4 * k) = 4 * k + 0 by omega, ← h0, ← h1, ← h2, ← h3]
  generalize dig a k = d at *
  simp
/-! Read. -/
theorem dig_place {R k b : Nat} (hR : 256 ^ (k + 1) ∣ R) (hb : b < 256) : (∀ j, j ≠ k / 4 → dig (R + b * 256 ^ k) j = dig R j) ∧ dig (R + b * 256 ^ k) (k / 4) = dig R (k / 4) + b * 256 ^ (k % 4) ∧ dig R (k / 4) % 256 ^ (k % 4 + 1) = 0 := by
  obtain ⟨Q, rfl⟩ := hR
  have e : ∀ j, (4294967296 : Nat) ^ j = 256 ^ (4 * j) := fun j => by rw [Nat.pow_mul]
  have hp : ∀ j, (0 : Nat) < 256 ^ j := fun j => Nat.pow_pos (by decide)
  refine ⟨fun j hj => ?_, ?_⟩
  · unfold dig
    rw [e]
    rcases Nat.lt_or_gt_of_ne hj with h | h
    · obtain ⟨x, rfl⟩ : ∃ x, k = 4 * j + 4 + x := ⟨k - (4 * j + 4), by omega⟩
      have e1 : b * 256 ^ (4 * j + 4 + x) = 256 ^ (4 * j) * (4294967296 * (b * 256 ^ x)) := by
        rw [Nat.pow_add, Nat.pow_add, show (4294967296 : Nat) = 256 ^ 4 from rfl]; simp only [Nat.mul_assoc, Nat.mul_comm, Nat.mul_left_comm]
      rw [e1, Nat.add_mul_div_left _ _ (hp _), Nat.add_mul_mod_self_left]
    · obtain ⟨x, hx⟩ : ∃ x, 4 * j = k + 1 + x := ⟨4 * j - (k + 1), by omega⟩
      have e3 : (256 : Nat) ^ (k + 1 + x) = 256 ^ k * (256 * 256 ^ x) := by rw [Nat.pow_add, Nat.pow_succ, Nat.mul_assoc]
      have e4 : 256 ^ (k + 1) * Q = 256 ^ k * (256 * Q) := by rw [Nat.pow_succ, Nat.mul_assoc]
      rw [hx, e3, e4, Nat.mul_comm b, ← Nat.mul_add, Nat.mul_div_mul_left _ _ (hp k), Nat.mul_div_mul_left _ _ (hp k), ← Nat.div_div_eq_div_mul, ← Nat.div_div_eq_div_mul]
      congr 2
      omega
  · unfold dig
    rw [e]
    obtain ⟨d, r, hk, hr⟩ : ∃ d r, k = 4 * d + r ∧ r < 4 := ⟨k / 4, k % 4, by omega, by omega⟩
    have h1 : k / 4 = d := by omega
    have h2 : k % 4 = r := by omega
    rw [h1, h2, hk]
    have e1 : 256 ^ (4 * d + r + 1) * Q = 256 ^ (4 * d) * (256 ^ (r + 1) * Q) := by
      rw [Nat.add_assoc, Nat.pow_add, Nat.mul_assoc]
    have e2 : b * 256 ^ (4 * d + r) = 256 ^ (4 * d) * (b * 256 ^ r) := by
      rw [Nat.pow_add]; simp only [Nat.mul_assoc, Nat.mul_comm, Nat.mul_left_comm]
    rw [e1, e2, ← Nat.mul_add, Nat.mul_div_cancel_left _ (hp _), Nat.mul_div_cancel_left _ (hp _)]
    have : r = 0 ∨ r = 1 ∨ r = 2 ∨ r = 3 := by omega
    rcases this with rfl | rfl | rfl | rfl <;> simp <;> omega
theorem or_place {x b r : Nat} (hx : x < 4294967296) (hm : x % 256 ^ (r + 1) = 0) (hb : b < 256) (hr : r < 4) : bits .or .u32 (x : Int) ((b * 256 ^ r : Nat) : Int) = ((x + b * 256 ^ r : Nat) : Int) := by
  have h : b * 256 ^ r < 256 ^ (r + 1) := by rw [Nat.pow_succ, Nat.mul_comm]; exact Nat.mul_lt_mul_of_pos_left hb (Nat.pow_pos (by decide))
  have h2 : (256 : Nat) ^ (r + 1) ≤ 256 ^ 4 := Nat.pow_le_pow_right (by decide) (by omega)
  rw [u32_or_nat _ _ hx (by omega), nat_join (8 * (r + 1)) x _ (by rw [Nat.pow_mul]; exact hm) (by rw [Nat.pow_mul]; exact h)]
theorem Num.setDig {w : World} {b R R' d : Nat} {t : TypeId} (h : Num w b t R) (hd : d < 8) (hj : ∀ j, j ≠ d → dig R' j = dig R j) : Num (w.setCell ⟨b, d, none⟩ (.int .u32 (digI R' d))) b t R' := by
  refine num_of_row (h.row.set d _) fun j hj8 => ?_
  by_cases e : j = d
  · rw [if_pos e, e]; rfl
  · rw [if_neg e]; unfold numF digI; rw [hj j e]
def sofar (l : List UInt8) (n i : Nat) : Nat := zi (l.take i) * 256 ^ (n - i)
theorem sofar_next {l : List UInt8} {n i : Nat} (hl : l.length = n) (hi : i < n) : ∃ b : UInt8, l[i]? = some b ∧ sofar l n (i + 1) = sofar l n i + b.toNat * 256 ^ (n - 1 - i) ∧ 256 ^ (n - 1 - i + 1) ∣ sofar l n i := by
  have h : i < l.length := by omega
  refine ⟨l[i], List.getElem?_eq_getElem h, ?_, ?_⟩
  · unfold sofar
    rw [List.take_succ_eq_append_getElem h, readN_snoc, show n - i = n - 1 - i + 1 by omega, show n - (i + 1) = n - 1 - i by omega, Nat.pow_succ]
    grind
  · unfold sofar
    rw [show n - 1 - i + 1 = n - i by omega]
    exact Nat.dvd_mul_left _ _
theorem sofar_zero (l : List UInt8) (n : Nat) : sofar l n 0 = 0 := by unfold sofar; simp [zi]
theorem sofar_all {l : List UInt8} {n : Nat} (hl : l.length = n) : sofar l n n = zi l := by unfold sofar; rw [List.take_of_length_le (by omega)]; simp
attribute [irreducible] sofar
theorem place_step {l : List UInt8} {n i : Nat} (hl : l.length = n) (hn : n ≤ 32) (hi : i < n) : ∃ (b : UInt8) (d r : Nat), l[i]? = some b ∧ n - 1 - i = 4 * d + r ∧ d < 8 ∧ r < 4 ∧
    (∀ j, j ≠ d → dig (sofar l n (i + 1)) j = dig (sofar l n i) j) ∧ bits .or .u32 (digI (sofar l n i) d) ((b.toNat * 256 ^ r : Nat) : Int) = digI (sofar l n (i + 1)) d := by
  obtain ⟨b, h1, h2, h3⟩ := sofar_next hl hi
  obtain ⟨q1, q2, q3⟩ := dig_place h3 b.toNat_lt
  refine ⟨b, (n - 1 - i) / 4, (n - 1 - i) % 4, h1, by omega, by omega, by omega, fun j hj => by rw [h2]; exact q1 j hj, ?_⟩
  unfold digI
  rw [or_place (dig_lt _ _) q3 b.toNat_lt (by omega), h2, q2]
theorem rread_any (A : Option Addr) (l : List UInt8) (n cap : Nat) (hl : l.length = n) (hn : n ≤ 32) (w : World) (hR : Rd w A l) :
    Calls Try.prog 72 #[.slice A n cap] w fun e w' => e = .returned (.tuple #[numV (zi l), .bool true]) ∧ Below w.heap.size w w' := by
  have PS := hid (fun i hi => @place_step l n i hl hn hi)
  have SA := hid (sofar_all hl)
  have g0 := (Num.new w 27 0).alloc (.cells (numA 0) 27)
  have g1 := Num.new (w.alloc (.cells (numA 0) 27)) 27 0
  rw [World.size_alloc, ← sofar_zero l n] at g1
  have gb : Below w.heap.size w ((w.alloc (.cells (numA 0) 27)).alloc (.cells (numA 0) 27)) := ((Below.refl _ _).alloc (Nat.le_refl _) _).alloc (by simp) _
  have hs : ((w.alloc (.cells (numA 0) 27)).alloc (.cells (numA 0) 27)).heap.size = w.heap.size + 2 := by simp
  rw [sofar_zero] at g1
  rw [← zeroA] at g0 g1 gb hs
  have SZ := hid (sofar_zero l n)
  have HL := hid hl
  clear hl
  go_enter Try.func72, Try.ntmps72
  go_wp2
  generalize World.alloc (World.alloc _ _) _ = W at *
  go_loopw [5] (fun i wr => ∃ k : Nat, k ≤ n ∧ i = .int .i64 k ∧ Num wr (w.heap.size + 1) 27 (sofar l n k) ∧ W.grownBy wr (some (w.heap.size + 1))) (fun i _ => n - (intOf i).toNat)
  case atStart => exact ⟨0, by omega, rfl, by rw [SZ.out]; exact g1, World.grownBy.refl _ _⟩
  case round =>
    obtain ⟨i, hi, rfl, hnm, hg⟩ := hrel
    clear g1
    by_cases hlt : i < n
    · obtain ⟨b, d, r, hb, hk, hd, hr, hj, hor⟩ := PS.out i hlt
      have hbb := b.toNat_lt
      have hcd := hnm.cell hd
      have hfd := hnm.frozen d
      have hB := zcb gb hg (by omega) (by omega)
      obtain ⟨bb, oo, rfl, hbb2, hcl⟩ := (hR.below hB (Nat.le_refl _)).at (by have := HL.out; omega)
      have hcb := hcl i b hb
      clear hcl
      have HK := hid hk
      have HN := hid (hnm.setDig hd hj)
      clear hk hj hb
      obtain ⟨c, hc⟩ : ∃ c : Int, c = (b.toNat : Int) := ⟨_, rfl⟩
      rw [← hc] at hcb
      have hr3 : r = 0 ∨ r = 1 ∨ r = 2 ∨ r = 3 := by omega
      have hoR := digI_ge (sofar l n i) d
      have hoS := digI_lt (sofar l n i) d
      rcases hr3 with rfl | rfl | rfl | rfl
      · have hd8 : (d : Int) < 8 := by omega
        have hd0 : (0 : Int) ≤ (d : Int) := by omega
        have hor' : bits BinOp.or IntKind.u32 (digI (sofar l n i) d) (c % 4294967296) = digI (sofar l n (i + 1)) d := by rw [← hor, hc, Int.emod_eq_of_lt (by omega) (by omega)]; simp
        have hkI : (n : Int) - 1 - (i : Int) = 4 * (d : Int) := by have := HK.out; omega
        have hdd : IntKind.i64.wrap (d : Int) = (d : Int) := Go.IntWalk.i64_in _ (by omega)
        have hk4 : IntKind.i64.wrap ((4 * (d : Int)).tdiv 4) = (d : Int) := by rw [Int.tdiv_eq_ediv_of_nonneg (by omega), show (4 * (d : Int)) / 4 = (d : Int) by omega]; exact Go.IntWalk.i64_in _ (by omega)
        have hr4 : IntKind.i64.wrap ((4 * (d : Int)).tmod 4) = 0 := by rw [Int.tmod_eq_emod_of_nonneg (by omega), show (4 * (d : Int)) % 4 = 0 by omega]; rfl
        clear hor
        have hc0 : 0 ≤ c := by omega
        have hc1 : c < 256 := by omega
        clear hc
        go_wp2_with fail
        go_still_tail 18, (by kernel_rfl)
        change wpList _ _ _ _ _ (World.drew _)
        go_wp2
        go_roundw
        case rel => exact ⟨i + 1, by omega, by go_num, HN.out, only_drewN (grown_set hg rfl _) 1⟩
        case measure => simp [intOf] <;> omega
      · have hd8 : (d : Int) < 8 := by omega
        have hd0 : (0 : Int) ≤ (d : Int) := by omega
        have hor' : bits BinOp.or IntKind.u32 (digI (sofar l n i) d) (c * 256 % 4294967296) = digI (sofar l n (i + 1)) d := by rw [← hor, hc, Int.emod_eq_of_lt (by omega) (by omega)]; simp
        have hkI : (n : Int) - 1 - (i : Int) = 4 * (d : Int) + 1 := by have := HK.out; omega
        have hk4 : IntKind.i64.wrap ((4 * (d : Int) + 1).tdiv 4) = (d : Int) := by rw [Int.tdiv_eq_ediv_of_nonneg (by omega), show (4 * (d : Int) + 1) / 4 = (d : Int) by omega]; exact Go.IntWalk.i64_in _ (by omega)
        have hr4 : IntKind.i64.wrap ((4 * (d : Int) + 1).tmod 4) = 1 := by rw [Int.tmod_eq_emod_of_nonneg (by omega), show (4 * (d : Int) + 1) % 4 = 1 by omega]; rfl
        clear hor
        have hc0 : 0 ≤ c := by omega
        have hc1 : c < 256 := by omega
        clear hc
        go_wp2_with fail
        go_still_tail 18, (by kernel_rfl)
        change wpList _ _ _ _ _ (World.drew _)
        go_wp2
        go_roundw
        case rel => exact ⟨i + 1, by omega, by go_num, HN.out, only_drewN (grown_set hg rfl _) 1⟩
        case measure => simp [intOf] <;> omega
      · have hd8 : (d : Int) < 8 := by omega
        have hd0 : (0 : Int) ≤ (d : Int) := by omega
        have hor' : bits BinOp.or IntKind.u32 (digI (sofar l n i) d) (c * 65536 % 4294967296) = digI (sofar l n (i + 1)) d := by rw [← hor, hc, Int.emod_eq_of_lt (by omega) (by omega)]; simp
        have hkI : (n : Int) - 1 - (i : Int) = 4 * (d : Int) + 2 := by have := HK.out; omega
        have hk4 : IntKind.i64.wrap ((4 * (d : Int) + 2).tdiv 4) = (d : Int) := by rw [Int.tdiv_eq_ediv_of_nonneg (by omega), show (4 * (d : Int) + 2) / 4 = (d : Int) by omega]; exact Go.IntWalk.i64_in _ (by omega)
        have hr4 : IntKind.i64.wrap ((4 * (d : Int) + 2).tmod 4) = 2 := by rw [Int.tmod_eq_emod_of_nonneg (by omega), show (4 * (d : Int) + 2) % 4 = 2 by omega]; rfl
        clear hor
        have hc0 : 0 ≤ c := by omega
        have hc1 : c < 256 := by omega
        clear hc
        go_wp2_with fail
        go_still_tail 18, (by kernel_rfl)
        change wpList _ _ _ _ _ (World.drew _)
        go_wp2
        go_roundw
        case rel => exact ⟨i + 1, by omega, by go_num, HN.out, only_drewN (grown_set hg rfl _) 1⟩
        case measure => simp [intOf] <;> omega
      · have hd8 : (d : Int) < 8 := by omega
        have hd0 : (0 : Int) ≤ (d : Int) := by omega
        have hor' : bits BinOp.or IntKind.u32 (digI (sofar l n i) d) (c * 16777216 % 4294967296) = digI (sofar l n (i + 1)) d := by rw [← hor, hc, Int.emod_eq_of_lt (by omega) (by omega)]; simp
        have hkI : (n : Int) - 1 - (i : Int) = 4 * (d : Int) + 3 := by have := HK.out; omega
        have hk4 : IntKind.i64.wrap ((4 * (d : Int) + 3).tdiv 4) = (d : Int) := by rw [Int.tdiv_eq_ediv_of_nonneg (by omega), show (4 * (d : Int) + 3) / 4 = (d : Int) by omega]; exact Go.IntWalk.i64_in _ (by omega)
        have hr4 : IntKind.i64.wrap ((4 * (d : Int) + 3).tmod 4) = 3 := by rw [Int.tmod_eq_emod_of_nonneg (by omega), show (4 * (d : Int) + 3) % 4 = 3 by omega]; rfl
        clear hor
        have hc0 : 0 ≤ c := by omega
        have hc1 : c < 256 := by omega
        clear hc
        go_wp2_with fail
        go_still_tail 18, (by kernel_rfl)
        change wpList _ _ _ _ _ (World.drew _)
        go_wp2
        go_roundw
        case rel => exact ⟨i + 1, by omega, by go_num, HN.out, only_drewN (grown_set hg rfl _) 1⟩
        case measure => simp [intOf] <;> omega
    · obtain rfl : i = n := by omega
      have hB := zcb gb hg (by omega) (by omega)
      have m0 : Num wr w.heap.size 27 0 := g0.grown hg (by simp)
      rw [SA.out] at hnm
      go_wp2_with (first | (refine zxb rfl _ _ rfl _ rfl _ _ _ hnm Try.underlying27 rfl z7 ?_) | (refine wpList_store_num rfl _ _ _ rfl _ rfl _ rfl _ rfl m0 z7 ?_; intro w5 hg5 m5))
      exact bodyPost_ret (zhc rfl rfl m5 Try.underlying27 rfl z7) rfl ⟨rfl, zcb hB hg5 hB.size (by omega)⟩
end Go.Proofs.Ytlbkogdmojlpmaa
namespace Go.Proofs.Ytlbkogdmojlpmaa
open Go.ChangeShapes Go.WideShapes Go.ChangeAt Go.RowKit
theorem rbytes_own (a : Nat) (w : World) :
    Calls Try.prog 86 #[numV a] w fun e w' => ∃ v, e = .returned v ∧ Byt w' w.heap.size v (z1a a) ∧ Below w.heap.size w w' := by
  have g0 := Num.new w 27 a
  have gb := zub w (.cells (numA a) 27)
  have T4 := hid (fun k hk => @take4 a k hk)
  have F4 := hid (fun k hk => @four_bytes a k hk)
  have TF := hid (List.take_of_length_le (Nat.le_of_eq (zwa a)))
  have LN := hid (zwa a)
  go_enter Try.func86, Try.ntmps86
  go_wp2
  have hW1 : (w.alloc (.cells (numA a) 27)).heap.size = w.heap.size + 1 := by simp
  generalize World.alloc _ _ = W at *
  have HW := hid hW1
  clear hW1
  go_loopw [3, 4] (fun v i wr => ∃ q : Int, -1 ≤ q ∧ q ≤ 7 ∧ i = .int .i64 q ∧ Byt wr (w.heap.size + 1) v ((z1a a).take (28 - 4 * q).toNat) ∧ Below (w.heap.size + 1) W wr) (fun _ i _ => (intOf i + 1).toNat)
  case atStart => exact ⟨7, by omega, by omega, rfl, Byt.nil _ _, Below.refl _ _⟩
  case round =>
    obtain ⟨q, hq1, hq2, rfl, hv, hB⟩ := hrel
    have n0 := g0.below hB (by omega)
    have hsz : w.heap.size + 1 ≤ wr.heap.size := by have := hB.size; have := HW.out; omega
    by_cases hq : 0 ≤ q
    · obtain ⟨k, rfl⟩ := Int.eq_ofNat_of_zero_le hq
      have hc := n0.cell (k := k) (by omega)
      have hk : k < 8 := by omega
      have t4 := T4.out k hk
      have hd0 := digI_ge a k
      have hd1 := digI_lt a k
      have e1 : (28 - 4 * (k : Int)).toNat = 28 - 4 * k := by omega
      have hv' : Byt wr (w.heap.size + 1) u3 ((z1a a).take (28 - 4 * k)) := by rw [← e1]; exact hv
      have H4 := hid t4
      clear hv e1 t4
      have hrd : Rd (wr.alloc (.cells #[Value.int .u8 (IntKind.u8.wrap (digI a k / 16777216)), .int .u8 (IntKind.u8.wrap (digI a k / 65536)), .int .u8 (IntKind.u8.wrap (digI a k / 256)), .int .u8 (IntKind.u8.wrap (digI a k))] 5)).drew (some ⟨wr.heap.size, 0, none⟩) [z8a a (28 - 4 * k), z8a a (29 - 4 * k), z8a a (30 - 4 * k), z8a a (31 - 4 * k)] := by
        rw [F4.out k hk]
        exact Bts.rd (t := 5) (heap_alloc_new wr _)
      have hle : ((z1a a).take (28 - 4 * k)).length ≤ 32 := by rw [List.length_take, LN.out]; omega
      have hk8 : (k : Int) < 8 := by omega
      obtain ⟨L, hL⟩ : ∃ L, L = (z1a a).take (28 - 4 * k) := ⟨_, rfl⟩
      rw [← hL] at hv' hle
      have HL := hid hL
      clear hL
      clear LN hq1 hq2 hq F4
      go_wp2_with fail
      go_region_held3 (fun w' => w'.cell? ⟨w.heap.size, k, none⟩ = some (.int .u32 (digI a k))) (first | go_keep | (go_split_ands; rw [h2.cell (p := ⟨w.heap.size, k, none⟩) (by show w.heap.size < w.heap.size + 1; omega)]; assumption))
        ((refine step_append_bytes (by rfl) _ _ (by rfl) (w.heap.size + 1) u3 L [z8a a (28 - 4 * k), z8a a (29 - 4 * k), z8a a (30 - 4 * k), z8a a (31 - 4 * k)] (by rfl) (show Byt _ _ _ _ from Byt.alloc hv' _) _ 4 4 (by rfl) (by rfl) (by omega) hrd (by simp <;> omega) (by simp <;> omega) ?_; intro g cap w' h1 h2 h3 h4 h5))
      have eL : L ++ [z8a a (28 - 4 * k), z8a a (29 - 4 * k), z8a a (30 - 4 * k), z8a a (31 - 4 * k)] = (z1a a).take (32 - 4 * k) := by rw [HL.out, ← H4.out]
      rw [eL] at h1
      have hB2 : Below (w.heap.size + 1) wr w' := ((zub wr _).mono (by omega)).trans (show Below _ (wr.alloc _) w' from ⟨h2.os, h2.tape, h2.output, h2.size, h2.block⟩)
      clear eL h2
      have H1 := hid h1
      clear h1
      go_wp2
      go_roundw
      case rel => exact ⟨(k : Int) - 1, by omega, by omega, by go_num, by rw [show (28 - 4 * ((k : Int) - 1)).toNat = 32 - 4 * k by omega]; exact H1.out, hB.trans hB2⟩
      case measure => simp [intOf] <;> omega
    · have hq' : q = -1 := by omega
      subst hq'
      have hv' : Byt wr (w.heap.size + 1) u3 (z1a a) := by have := hv; rw [show (28 - 4 * (-1 : Int)).toNat = 32 from rfl, TF.out] at this; exact this
      clear hv
      have H1 := hid hv'
      clear hv'
      go_wp2
      go_ret
      exact ⟨_, rfl, H1.out.rebase fun k hk => (by have := (H1.out.lt k hk).1; omega), gb.trans (hB.mono (by omega))⟩
end Go.Proofs.Ytlbkogdmojlpmaa
