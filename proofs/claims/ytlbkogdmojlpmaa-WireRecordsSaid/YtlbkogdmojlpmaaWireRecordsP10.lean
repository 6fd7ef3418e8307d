/- What WireRecords stands on, part 10. -/
import Derived.Test.YtlbkogdmojlpmaaWireRecordsP1
import Derived.Test.YtlbkogdmojlpmaaWireRecordsP2
import Derived.Test.YtlbkogdmojlpmaaWireRecordsP3
import Derived.Test.YtlbkogdmojlpmaaWireRecordsP4
import Derived.Test.YtlbkogdmojlpmaaWireRecordsP5
import Derived.Test.YtlbkogdmojlpmaaWireRecordsP6
import Derived.Test.YtlbkogdmojlpmaaWireRecordsP7
import Derived.Test.YtlbkogdmojlpmaaWireRecordsP8
import Derived.Test.YtlbkogdmojlpmaaWireRecordsP9
namespace Go.Proofs.Ytlbkogdmojlpmaa
set_option linter.unusedVariables false
set_option maxRecDepth 20000
set_option linter.unusedSimpArgs false
open Go.ChangeShapes Go.WideShapes Go.ChangeAt Go.RowKit
section
set_option maxRecDepth 100000
def encRk (m : MsgN) (k : Nat) : List UInt8 := (encN m k).drop 2
theorem encN_front (m : MsgN) : ∀ k, ∃ r, encN m k = [0, 0] ++ byteI m.k :: r
  | 0 => ⟨[], rfl⟩
  | k + 1 => by
    obtain ⟨r, hr⟩ := encN_front m k
    unfold encN
    split
    · exact ⟨r, hr⟩
    · exact ⟨r ++ [byteI (k : Int)] ++ [byteI ((contN m k).length : Int)] ++ contN m k, by rw [hr]; simp⟩
theorem encRk_one (m : MsgN) : encRk m 1 = [byteI m.k] := rfl
theorem encN_rk (m : MsgN) (k : Nat) : encN m k = 0 :: 0 :: encRk m k := by
  obtain ⟨r, hr⟩ := encN_front m k
  unfold encRk
  rw [hr]; rfl
theorem encRk_skip {m : MsgN} {k : Nat} (h : contN m k = []) : encRk m (k + 1) = encRk m k := by unfold encRk; rw [encN_skip h]
theorem encRk_put {m : MsgN} {k : Nat} (h : contN m k ≠ []) : encRk m (k + 1) = encRk m k ++ [byteI (k : Int)] ++ [byteI ((contN m k).length : Int)] ++ contN m k := by
  unfold encRk
  rw [encN_put h, encN_rk m k]; rfl
theorem encF_is (m : MsgN) : encF m = [0, byteI ((encRk m 12).length : Int)] ++ encRk m 12 := by
  unfold encF
  rw [encN_rk]
  simp only [List.set_cons_zero, List.set_cons_succ, List.length_cons, List.cons_append, List.nil_append]
  congr 3
  omega
def remN (m : MsgN) : Nat → List UInt8
  | 0 => []
  | n + 1 => if contN m (11 - n) = [] then remN m n else byteI ((11 - n : Nat) : Int) :: byteI ((contN m (11 - n)).length : Int) :: (contN m (11 - n) ++ remN m n)
theorem encRk_rem (m : MsgN) : ∀ n, n ≤ 11 → encRk m 12 = encRk m (12 - n) ++ remN m n
  | 0, _ => by simp [remN]
  | n + 1, h => by
    rw [encRk_rem m n (by omega), show 12 - n = (11 - n) + 1 by omega, show 12 - (n + 1) = 11 - n by omega]
    by_cases hk : contN m (11 - n) = []
    · rw [encRk_skip hk, show remN m (n + 1) = remN m n from if_pos hk]
    · rw [encRk_put hk, show remN m (n + 1) = byteI ((11 - n : Nat) : Int) :: byteI ((contN m (11 - n)).length : Int) :: (contN m (11 - n) ++ remN m n) from if_neg hk]; simp
theorem byteI_nat {n : Nat} (h : n < 256) : (byteI (n : Int)).toNat = n := by
  have := byteI_val (n : Int)
  omega
def cutM (m : MsgN) (k : Nat) : MsgN := ⟨m.k, if 1 < k then m.p else 0, if 10 < k then m.c else 0, if 11 < k then m.e else 0, if 2 < k then m.s else ⟨#[]⟩, if 3 < k then m.a else 0, if 4 < k then m.b else 0,
  if 5 < k then m.l5 else [], if 6 < k then m.l6 else [], if 7 < k then m.l7 else [], if 8 < k then m.l8 else [], if 9 < k then m.l9 else []⟩
theorem cutM_one (m : MsgN) : cutM m 1 = ⟨m.k, 0, 0, 0, ⟨#[]⟩, 0, 0, [], [], [], [], []⟩ := rfl
theorem readN_single (b : UInt8) : readN [b] = b.toNat := by simp [readN]
theorem numI_oct {p : Int} (h0 : 0 ≤ p) (h1 : p < 256) : numI [byteI p] = p := by
  have := byteI_val p
  have e : numOk [byteI p] = true := decide_eq_true ⟨by simp, by rw [readN_single]; have := (byteI p).toNat_lt; omega⟩
  unfold numI
  rw [if_pos e, readN_single]
  omega
theorem drop_read (n k : Nat) (hk : k ≤ 32) (hn : n < 256 ^ (32 - k)) : readN ((bytesN n).drop k) = n := by
  have h1 := read_take n k hk
  rw [Nat.div_eq_of_lt hn, Nat.zero_mod] at h1
  have h3 : n < 4294967296 ^ 8 := by
    have e : (256 : Nat) ^ 32 = 4294967296 ^ 8 := by decide
    rw [← e]
    exact Nat.lt_of_lt_of_le hn (Nat.pow_le_pow_right (by decide) (by omega))
  have h2 := read_bytes n h3
  rw [← List.take_append_drop k (bytesN n), readN_append, h1] at h2
  omega
theorem eightI_bytes (N : Nat) : eightI (N : Int) = (bytesN N).drop 24 := by
  apply List.ext_getElem?
  intro j
  rw [List.getElem?_drop]
  by_cases hj : j < 8
  · rw [bytesN_get N (show 24 + j < 32 by omega)]
    simp only [eightI, List.getElem?_map, List.getElem?_range hj, Option.map_some]
    congr 1
    have h1 := byteI_val ((N : Int) / 2 ^ (8 * (7 - j)))
    have h2 := byteN_toNat N (24 + j)
    have e : (2 : Int) ^ (8 * (7 - j)) = ((256 ^ (31 - (24 + j)) : Nat) : Int) := by
      rw [show 31 - (24 + j) = 7 - j by omega, Int.natCast_pow, Int.pow_mul]; rfl
    rw [e, ← Int.natCast_ediv] at h1
    apply UInt8.toNat_inj.1
    rw [e, ← Int.natCast_ediv]
    omega
  · rw [List.getElem?_eq_none_iff.2 (by rw [eightI_len]; omega), List.getElem?_eq_none_iff.2 (by rw [bytesN_length]; omega)]
theorem numI_eight {c : Int} (h0 : 0 ≤ c) (h1 : c < 9223372036854775808) : numI (eightI c) = c := by
  obtain ⟨N, rfl⟩ : ∃ N : Nat, c = (N : Int) := ⟨c.toNat, by omega⟩
  have e : readN (eightI (N : Int)) = N := by
    rw [eightI_bytes]
    exact drop_read N 24 (by decide) (Nat.lt_trans (m := 9223372036854775808) (by omega) (by decide))
  have hn : numOk (eightI (N : Int)) = true := decide_eq_true ⟨by rw [eightI_len]; omega, by rw [e]; omega⟩
  unfold numI
  rw [if_pos hn, e]
theorem readO_four {a : Nat} (h : a < 4294967296) : readO (fourL a) = a := by
  unfold readO fourL
  rw [if_pos (by simp [bytesN_length]), drop_read a 28 (by decide) (Nat.lt_of_lt_of_le h (by decide))]
theorem octL_nil {p : Int} : octL p = [] ↔ p = 0 := by unfold octL; split <;> simp_all
theorem fourL_nil (a : Nat) : fourL a ≠ [] := fun h => by have := congrArg List.length h; unfold fourL at this; simp [bytesN_length] at this
theorem fourO_nil {a : Nat} : fourO a = [] ↔ a = 0 := by
  unfold fourO
  by_cases h : a = 0
  · simp [h]
  · simp only [if_neg h, h, iff_false]; exact fourL_nil a
theorem eightO_nil {c : Int} : eightO c = [] ↔ c = 0 := by
  unfold eightO
  by_cases h : c = 0
  · simp [h]
  · rw [if_neg h]
    exact ⟨fun e => (by have := congrArg List.length e; rw [eightI_len] at this; cases this), fun e => absurd e h⟩
theorem sBy_nil {s : ByteArray} : sBy s = [] ↔ s = ⟨#[]⟩ := by
  unfold sBy
  constructor
  · intro h
    have : s.data = #[] := by simpa using h
    cases s; cases this; rfl
  · rintro rfl; rfl
theorem sBy_mk (s : ByteArray) : (⟨(sBy s).toArray⟩ : ByteArray) = s := by cases s; simp [sBy]
structure MsgFit (m : MsgN) : Prop where
  k : 0 ≤ m.k ∧ m.k < 256
  p : 0 ≤ m.p ∧ m.p < 256
  c : 0 ≤ m.c ∧ m.c < 9223372036854775808
  e : 0 ≤ m.e ∧ m.e < 256
  a : m.a < 4294967296
  b : m.b < 4294967296
  l : ∀ k, (contN m k).length ≤ 120
theorem cut_put {m : MsgN} (hf : MsgFit m) {k : Nat} (h1 : 1 ≤ k) (h2 : k ≤ 11) (hk : contN m k ≠ []) : setM (cutM m k) k (contN m k) = cutM m (k + 1) := by
  have : k = 1 ∨ k = 2 ∨ k = 3 ∨ k = 4 ∨ k = 5 ∨ k = 6 ∨ k = 7 ∨ k = 8 ∨ k = 9 ∨ k = 10 ∨ k = 11 := by omega
  rcases this with rfl | rfl | rfl | rfl | rfl | rfl | rfl | rfl | rfl | rfl | rfl <;> simp only [contN, ne_eq, octL_nil, fourO_nil, eightO_nil, sBy_nil] at hk <;> simp [setM, cutM, contN]
  · unfold octL; rw [if_neg hk]; exact numI_oct hf.p.1 hf.p.2
  · exact sBy_mk _
  · unfold fourO; rw [if_neg hk]; exact readO_four hf.a
  · unfold fourO; rw [if_neg hk]; exact readO_four hf.b
  · unfold eightO; rw [if_neg hk]; exact numI_eight hf.c.1 hf.c.2
  · unfold octL; rw [if_neg hk]; exact numI_oct hf.e.1 hf.e.2
theorem cut_skip {m : MsgN} {k : Nat} (h1 : 1 ≤ k) (h2 : k ≤ 11) (hk : contN m k = []) : cutM m k = cutM m (k + 1) := by
  have : k = 1 ∨ k = 2 ∨ k = 3 ∨ k = 4 ∨ k = 5 ∨ k = 6 ∨ k = 7 ∨ k = 8 ∨ k = 9 ∨ k = 10 ∨ k = 11 := by omega
  rcases this with rfl | rfl | rfl | rfl | rfl | rfl | rfl | rfl | rfl | rfl | rfl <;> simp only [contN, ne_eq, octL_nil, fourO_nil, eightO_nil, sBy_nil] at hk <;> simp [cutM, hk]
theorem take_app {α : Type} {l r : List α} {n : Nat} (h : l.length = n) : (l ++ r).take n = l := by subst h; simp
theorem drop_app {α : Type} {l r : List α} {n : Nat} (h : l.length = n) : (l ++ r).drop n = r := by subst h; simp
theorem readM_rem {m : MsgN} (hf : MsgFit m) : ∀ n, n ≤ 11 → ∀ K, (remN m n).length ≤ K → readM K (remN m n) (cutM m (12 - n)) = m
  | 0, _, K, _ => by
    cases K with
    | zero => rfl
    | succ K => exact if_pos rfl
  | n + 1, h, K, hK => by
    have ih := readM_rem hf n (by omega)
    by_cases hk : contN m (11 - n) = []
    · have e : remN m (n + 1) = remN m n := if_pos hk
      rw [e] at hK ⊢
      rw [show 12 - (n + 1) = 11 - n by omega, cut_skip (by omega) (by omega) hk, show 11 - n + 1 = 12 - n by omega]
      exact ih K hK
    · have e : remN m (n + 1) = byteI ((11 - n : Nat) : Int) :: byteI ((contN m (11 - n)).length : Int) :: (contN m (11 - n) ++ remN m n) := if_neg hk
      rw [e] at hK ⊢
      have hc := hf.l (11 - n)
      simp only [List.length_cons, List.length_append] at hK
      rw [readM_cons (by simp) (by omega)]
      have e1 : ∀ (x : UInt8) (r : List UInt8), readN ((x :: r).take 1) = x.toNat := fun x r => by simp [readN]
      simp only [List.drop_succ_cons, List.drop_zero, e1]
      rw [byteI_nat (by omega), byteI_nat (by omega), take_app rfl, drop_app rfl, show 12 - (n + 1) = 11 - n by omega, cut_put hf (by omega) (by omega) hk, show 11 - n + 1 = 12 - n by omega]
      exact ih (K - 1) (by omega)
theorem want_kind {k p : Int} (h : wantOk k p = true) : 1 ≤ k ∧ k ≤ 12 := by
  unfold wantOk wantL at h
  refine Classical.byContradiction fun hn => ?_
  rw [if_neg (by omega), if_neg (by omega), if_neg (by omega), if_neg (by omega), if_neg (by omega), if_neg (by omega), if_neg (by omega), if_neg (by omega), if_neg (by omega), if_neg (by omega), if_neg (by omega), if_neg (by omega)] at h
  cases h
theorem right_kind {m : MsgN} (h : rightB m = true) : 1 ≤ m.k ∧ m.k ≤ 12 := by
  unfold rightB at h
  simp only [Bool.and_eq_true] at h
  exact want_kind h.1.1
theorem right_fit {m : MsgN} (ho : MsgOk m) (h : rightB m = true) : MsgFit m := by
  have hk := right_kind h
  unfold rightB at h
  simp only [Bool.and_eq_true] at h
  have hc := cont_len h.2
  have h := h.2
  unfold fitsB at h
  simp only [Bool.and_eq_true, Bool.or_eq_true, decide_eq_true_eq] at h
  obtain ⟨⟨⟨⟨⟨⟨⟨⟨⟨⟨⟨h1, h2⟩, h3⟩, h4⟩, h5⟩, h6⟩, h7⟩, h8⟩, h9⟩, h10⟩, h11⟩, h12⟩ := h
  have hp : m.p = 0 ∨ m.p = 1 ∨ m.p = 2 := by
    rcases h1 with h1 | h1
    · exact .inl h1
    · exact .inr (of_decide_eq_true h1)
  have := ho.c
  exact ⟨by omega, by omega, by omega, by omega, top_le ho.a h3, top_le ho.b h4, hc⟩
theorem decM_enc {m : MsgN} (ho : MsgOk m) (h : rightB m = true) : decM (encF m) = m := by
  have hf := right_fit ho h
  have e := encRk_rem m 11 (by omega)
  rw [show 12 - 11 = 1 from rfl, encRk_one] at e
  unfold decM
  rw [encF_is, e]
  simp only [List.cons_append, List.nil_append, List.drop_succ_cons, List.drop_zero, List.take_succ_cons, List.take_zero, readN_single]
  have := readM_rem hf 11 (by omega) (remN m 11).length (Nat.le_refl _)
  rw [show 12 - 11 = 1 from rfl, cutM_one] at this
  have hk : (((byteI m.k).toNat : Nat) : Int) = m.k := by rw [byteI_val]; have := hf.k; omega
  rw [hk]
  exact this
theorem encOk_right {m : MsgN} (h : encOk m = true) : rightB m = true := by unfold encOk at h; simp only [Bool.and_eq_true] at h; exact h.1
theorem encL_ok {m : MsgN} (h : encOk m = true) : encL m = encF m := if_pos h
theorem dec_enc {m : MsgN} (ho : MsgOk m) (h : encOk m = true) : decM (encL m) = m := by rw [encL_ok h]; exact decM_enc ho (encOk_right h)
theorem decOk_enc {m : MsgN} (ho : MsgOk m) (h : encOk m = true) : decOk (encL m) = true ∧ decR (encL m) = m := by
  have h1 : provOk (decM (encL m)) (encL m) = true := by
    rw [dec_enc ho h, provOk, h]; simp
  exact ⟨h1, by unfold decR provM; rw [if_pos h1, dec_enc ho h]⟩
def numR (l : List UInt8) : Int := (l.take 8).foldl (fun n x => bits .or .i64 (IntKind.i64.wrap (n * 2 ^ (8 : Int).toNat)) ((x.toNat : Nat) : Int)) 0
theorem bits_in (x y : Int) : -9223372036854775808 ≤ bits .or .i64 x y ∧ bits .or .i64 x y < 9223372036854775808 := by
  unfold bits
  simp only [IntKind.wrap_i64]
  omega
theorem numR_in (l : List UInt8) : -9223372036854775808 ≤ numR l ∧ numR l < 9223372036854775808 := by
  unfold numR
  rcases List.eq_nil_or_concat (l.take 8) with h | ⟨r, x, h⟩
  · rw [h]; decide
  · rw [h, List.concat_eq_append, List.foldl_append]; exact bits_in _ _
theorem numR_take {l : List UInt8} (hn : numOk l = true) : ∀ j, j ≤ l.length → (l.take j).foldl (fun n x => bits .or .i64 (IntKind.i64.wrap (n * 2 ^ (8 : Int).toNat)) ((x.toNat : Nat) : Int)) 0 = ((readN (l.take j) : Nat) : Int)
  | 0, _ => by simp [readN]
  | j + 1, h => by
    have hq := of_decide_eq_true hn
    have hp : l.length < 8 ∨ (l.length = 8 ∧ ∃ x, l[0]? = some x ∧ ¬ 127 < ((x.toNat : Nat) : Int)) := by
      by_cases h8 : l.length < 8
      · exact .inl h8
      · have he : l.length = 8 := by omega
        obtain ⟨x, hx⟩ : ∃ x, l[0]? = some x := ⟨_, List.getElem?_eq_getElem (by omega)⟩
        exact .inr ⟨he, x, hx, (eight_lt he hx).1 hq.2⟩
    have h1 := pre_lt hp j (by omega)
    obtain ⟨y, hy⟩ : ∃ y, l[j]? = some y := ⟨_, List.getElem?_eq_getElem (by omega)⟩
    rw [readN_next hy, List.take_add_one, hy, Option.toList_some, List.foldl_append, numR_take hn j (by omega)]
    show bits .or .i64 (IntKind.i64.wrap (((readN (l.take j) : Nat) : Int) * 2 ^ (8 : Int).toNat)) ((y.toNat : Nat) : Int) = _
    rw [shl8 h1, or_i64 _ _ h1 y.toNat_lt]
theorem numR_ok {l : List UInt8} (hn : numOk l = true) : numR l = ((readN l : Nat) : Int) := by
  have hq := of_decide_eq_true hn
  have := numR_take hn l.length (Nat.le_refl _)
  unfold numR
  rw [List.take_of_length_le hq.1]
  rwa [List.take_length] at this
theorem numR_I {l : List UInt8} (hn : numOk l = true) : numR l = numI l := by rw [numR_ok hn]; exact (if_pos hn).symm
theorem numOk_short {l : List UInt8} (h : l.length < 8) : numOk l = true := by
  have h1 := readN_lt l
  have h2 : (256 : Nat) ^ l.length ≤ 256 ^ 7 := Nat.pow_le_pow_right (by omega) (by omega)
  have h3 : (256 : Nat) ^ 7 = 72057594037927936 := by decide
  exact decide_eq_true ⟨by omega, by omega⟩
theorem numOk_eight {c : Int} (h0 : 0 ≤ c) (h1 : c < 9223372036854775808) : numOk (eightI c) = true := by
  obtain ⟨N, rfl⟩ : ∃ N : Nat, c = (N : Int) := ⟨c.toNat, by omega⟩
  have e : readN (eightI (N : Int)) = N := by
    rw [eightI_bytes]
    exact drop_read N 24 (by decide) (Nat.lt_trans (m := 9223372036854775808) (by omega) (by decide))
  exact decide_eq_true ⟨by rw [eightI_len]; omega, by rw [e]; omega⟩
def tkV (n : Nat) (l : List UInt8) : List UInt8 := if l.length < n then List.replicate n 0 else l.take n
def tkR (n : Nat) (l : List UInt8) : List UInt8 := if l.length < n then [] else l.drop n
theorem tkV_len (n : Nat) (l : List UInt8) : (tkV n l).length = n := by
  unfold tkV; split
  · simp
  · rw [List.length_take]; omega
theorem tkR_len (n : Nat) (l : List UInt8) : (tkR n l).length ≤ l.length := by
  unfold tkR; split
  · simp
  · simp
theorem tkV_app {l r : List UInt8} {n : Nat} (h : l.length = n) : tkV n (l ++ r) = l := by
  unfold tkV
  rw [if_neg (by rw [List.length_append]; omega), take_app h]
theorem tkR_app {l r : List UInt8} {n : Nat} (h : l.length = n) : tkR n (l ++ r) = r := by
  unfold tkR
  rw [if_neg (by rw [List.length_append]; omega), drop_app h]
def ctV (l : List UInt8) : List UInt8 := tkV (readN (tkV 1 l)) (tkR 1 l)
def ctR (l : List UInt8) : List UInt8 := tkR (readN (tkV 1 l)) (tkR 1 l)
theorem tkV1_lt (l : List UInt8) : readN (tkV 1 l) < 256 := by
  have := readN_lt (tkV 1 l)
  rwa [tkV_len] at this
theorem tkV_cons (x : UInt8) (r : List UInt8) : tkV 1 (x :: r) = [x] ∧ tkR 1 (x :: r) = r := ⟨tkV_app (l := [x]) rfl, tkR_app (l := [x]) rfl⟩
theorem ct_app {l r : List UInt8} (h : l.length < 256) : ctV (byteI (l.length : Int) :: (l ++ r)) = l ∧ ctR (byteI (l.length : Int) :: (l ++ r)) = r := by
  unfold ctV ctR
  rw [(tkV_cons _ _).1, (tkV_cons _ _).2, readN_single, byteI_nat h]
  exact ⟨tkV_app rfl, tkR_app rfl⟩
theorem cnt_app {l r : List UInt8} (h : l.length < 256) : cV (byteI (l.length : Int) :: (l ++ r)) = l ∧ cR (byteI (l.length : Int) :: (l ++ r)) = r := by
  unfold cV cR
  simp only [List.drop_succ_cons, List.drop_zero, List.take_succ_cons, List.take_zero, readN_single]
  rw [byteI_nat h]
  exact ⟨take_app rfl, drop_app rfl⟩
def rrM (b : List UInt8) : RecN :=
  ⟨((readN (tkV 1 b) : Nat) : Int), ⟨(ctV (tkR 1 b)).toArray⟩, ctV (ctR (tkR 1 b)), readN (tkV 4 (ctR (ctR (ctR (tkR 1 b))))), readN (tkV 4 (tkR 4 (ctR (ctR (ctR (tkR 1 b)))))), ctV (ctR (ctR (tkR 1 b))),
    ((readN (tkV 1 (tkR 4 (tkR 4 (ctR (ctR (ctR (tkR 1 b))))))) : Nat) : Int), numR (tkV 8 (tkR 1 (tkR 4 (tkR 4 (ctR (ctR (ctR (tkR 1 b)))))))), numR (tkV 8 (tkR 8 (tkR 1 (tkR 4 (tkR 4 (ctR (ctR (ctR (tkR 1 b)))))))))⟩
def fewB (f : Bool) (n : Nat) (l : List UInt8) : Bool := f || decide (l.length < n)
def fewC (f : Bool) (l : List UInt8) : Bool := fewB (fewB f 1 l) (readN (tkV 1 l)) (tkR 1 l)
def fewR (b : List UInt8) : Bool :=
  fewB (fewB (fewB (fewB (fewB (fewC (fewC (fewC (fewB false 1 b) (tkR 1 b)) (ctR (tkR 1 b))) (ctR (ctR (tkR 1 b)))) 4 (ctR (ctR (ctR (tkR 1 b))))) 4 (tkR 4 (ctR (ctR (ctR (tkR 1 b)))))) 1 (tkR 4 (tkR 4 (ctR (ctR (ctR (tkR 1 b))))))) 8 (tkR 1 (tkR 4 (tkR 4 (ctR (ctR (ctR (tkR 1 b)))))))) 8 (tkR 8 (tkR 1 (tkR 4 (tkR 4 (ctR (ctR (ctR (tkR 1 b))))))))
theorem few_app {l r : List UInt8} {n : Nat} (h : l.length = n) : fewB false n (l ++ r) = false := by
  unfold fewB
  rw [decide_eq_false (by rw [List.length_append]; omega)]; rfl
theorem few_ct {l r : List UInt8} (h : l.length < 256) : fewC false (byteI (l.length : Int) :: (l ++ r)) = false := by
  unfold fewC
  rw [(tkV_cons _ _).1, (tkV_cons _ _).2, readN_single, byteI_nat h, show fewB false 1 (byteI (l.length : Int) :: (l ++ r)) = false from few_app (l := [_]) rfl]
  exact few_app rfl
structure RecFit (r : RecN) : Prop where
  p : 0 ≤ r.p ∧ r.p < 256
  s : (sBy r.s).length ≤ 16
  l2 : r.l2.length ≤ 16
  l5 : r.l5.length ≤ 48
  a : r.a < 4294967296
  b : r.b < 4294967296
  t : 0 ≤ r.t ∧ r.t < 256
  c : 0 ≤ r.c ∧ r.c < 9223372036854775808
  z : 0 ≤ r.z ∧ r.z < 9223372036854775808
theorem keep_fit {r : RecN} (ho : RecOk r) (h : keepB r = true) : RecFit r := by
  obtain ⟨k1, k2, k3⟩ := keep_len h
  unfold keepB at h
  simp only [Bool.and_eq_true, decide_eq_true_eq] at h
  obtain ⟨⟨⟨⟨⟨⟨⟨⟨⟨h1, h2⟩, h3⟩, h4⟩, h5⟩, h6⟩, h7⟩, h8⟩, h9⟩, h10⟩ := h
  have h1 := of_decide_eq_true h1
  have hc := ho.c
  have hz := ho.z
  exact ⟨by omega, k1, k2, k3, top_le ho.a h5, top_le ho.b h6, by omega, by omega, by omega⟩
theorem recL_is (r : RecN) : recL r = byteI r.p :: (byteI ((sBy r.s).length : Int) :: (sBy r.s ++ (byteI (r.l2.length : Int) :: (r.l2 ++ (byteI (r.l5.length : Int) :: (r.l5 ++ (fourL r.a ++ (fourL r.b ++ (byteI r.t :: (eightI r.c ++ eightI r.z)))))))))) := by
  unfold recL cntL
  simp
theorem rdM_rec {r : RecN} (hf : RecFit r) : rdM (recL r) = r := by
  have ha : (fourL r.a).length = 4 := fourL_len _
  have hb : (fourL r.b).length = 4 := fourL_len _
  have hc : (eightI r.c).length = 8 := eightI_len _
  have hz : (eightI r.z).length = 8 := eightI_len _
  have hs := hf.s
  have h2 := hf.l2
  have h5 := hf.l5
  have hp := byteI_val r.p
  have ht := byteI_val r.t
  have hpp := hf.p
  have htt := hf.t
  have e1 : ((readN [byteI r.p] : Nat) : Int) = r.p := by rw [readN_single]; omega
  have e2 : ((readN [byteI r.t] : Nat) : Int) = r.t := by rw [readN_single]; omega
  rw [recL_is]
  unfold rdM
  simp only [List.drop_succ_cons, List.drop_zero, List.take_succ_cons, List.take_zero, (cnt_app (l := sBy r.s) (by omega)).1, (cnt_app (l := sBy r.s) (by omega)).2, (cnt_app (l := r.l2) (by omega)).1, (cnt_app (l := r.l2) (by omega)).2, (cnt_app (l := r.l5) (by omega)).1, (cnt_app (l := r.l5) (by omega)).2, take_app ha, drop_app ha, take_app hb, drop_app hb, take_app hc, drop_app hc, e1, e2, readO_four hf.a, readO_four hf.b, numI_eight hf.c.1 hf.c.2, numI_eight hf.z.1 hf.z.2, sBy_mk]
  rw [List.take_of_length_le (by omega), numI_eight hf.z.1 hf.z.2]
theorem readN_four {a : Nat} (h : a < 4294967296) : readN (fourL a) = a := by
  unfold fourL
  exact drop_read a 28 (by decide) (Nat.lt_of_lt_of_le h (by decide))
theorem rrM_rec {r : RecN} (hf : RecFit r) : rrM (recL r) = r ∧ fewR (recL r) = false := by
  have ha : (fourL r.a).length = 4 := fourL_len _
  have hb : (fourL r.b).length = 4 := fourL_len _
  have hc : (eightI r.c).length = 8 := eightI_len _
  have hz : (eightI r.z).length = 8 := eightI_len _
  have hs := hf.s
  have h2 := hf.l2
  have h5 := hf.l5
  have hp := byteI_val r.p
  have ht := byteI_val r.t
  have hpp := hf.p
  have htt := hf.t
  have e1 : ((readN [byteI r.p] : Nat) : Int) = r.p := by rw [readN_single]; omega
  have e2 : ((readN [byteI r.t] : Nat) : Int) = r.t := by rw [readN_single]; omega
  have e3 : numR (eightI r.c) = r.c := by rw [numR_I (numOk_eight hf.c.1 hf.c.2), numI_eight hf.c.1 hf.c.2]
  have e4 : numR (eightI r.z) = r.z := by rw [numR_I (numOk_eight hf.z.1 hf.z.2), numI_eight hf.z.1 hf.z.2]
  have z1 : tkV 8 (eightI r.z) = eightI r.z := by have := tkV_app (r := []) hz; rwa [List.append_nil] at this
  have z2 : fewB false 8 (eightI r.z) = false := by have := few_app (r := []) hz; rwa [List.append_nil] at this
  have f1 : ∀ (x : UInt8) (q : List UInt8), fewB false 1 (x :: q) = false := fun x q => few_app (l := [x]) rfl
  rw [recL_is]
  constructor
  · unfold rrM
    simp only [(tkV_cons _ _).1, (tkV_cons _ _).2, (ct_app (l := sBy r.s) (by omega)).1, (ct_app (l := sBy r.s) (by omega)).2, (ct_app (l := r.l2) (by omega)).1, (ct_app (l := r.l2) (by omega)).2, (ct_app (l := r.l5) (by omega)).1, (ct_app (l := r.l5) (by omega)).2, tkV_app ha, tkR_app ha, tkV_app hb, tkR_app hb, tkV_app hc, tkR_app hc, z1, e1, e2, e3, e4, readN_four hf.a, readN_four hf.b, sBy_mk]
  · unfold fewR
    simp only [(tkV_cons _ _).1, (tkV_cons _ _).2, (ct_app (l := sBy r.s) (by omega)).1, (ct_app (l := sBy r.s) (by omega)).2, (ct_app (l := r.l2) (by omega)).1, (ct_app (l := r.l2) (by omega)).2, (ct_app (l := r.l5) (by omega)).1, (ct_app (l := r.l5) (by omega)).2, tkV_app ha, tkR_app ha, tkV_app hb, tkR_app hb, tkV_app hc, tkR_app hc, z2, f1, few_ct (l := sBy r.s) (by omega), few_ct (l := r.l2) (by omega), few_ct (l := r.l5) (by omega), few_app ha, few_app hb, few_app hc]
theorem recOk_mk' {p t : Nat} {s : ByteArray} {l2 l5 : List UInt8} {x y : Nat} {c z : Int} (hp : p < 256) (ht : t < 256) (hs : s.size ≤ 1000) (hx : x < 4294967296 ^ 8) (hy : y < 4294967296 ^ 8) (hc : -9223372036854775808 ≤ c ∧ c < 9223372036854775808) (hz : -9223372036854775808 ≤ z ∧ z < 9223372036854775808) : RecOk ⟨(p : Int), s, l2, x, y, l5, (t : Int), c, z⟩ :=
  ⟨(show (-9223372036854775808 : Int) ≤ (p : Int) ∧ (p : Int) < 9223372036854775808 by omega), (show (-9223372036854775808 : Int) ≤ (t : Int) ∧ (t : Int) < 9223372036854775808 by omega), hc, hz, hs, hx, hy⟩
theorem rrM_ok (b : List UInt8) : RecOk (rrM b) := by
  have h3 : (ctV (tkR 1 b)).length ≤ 255 := by unfold ctV; rw [tkV_len]; have := tkV1_lt (tkR 1 b); omega
  have e : (⟨(ctV (tkR 1 b)).toArray⟩ : ByteArray).size = (ctV (tkR 1 b)).length := by simp [ByteArray.size]
  have hp := tkV1_lt b
  have ht := tkV1_lt (tkR 4 (tkR 4 (ctR (ctR (ctR (tkR 1 b))))))
  have hn : ∀ l : List UInt8, readN (tkV 4 l) < 4294967296 ^ 8 := fun l => readN_lt_num (by rw [tkV_len]; omega)
  unfold rrM
  exact recOk_mk' hp ht (by omega) (hn _) (hn _) (numR_in _) (numR_in _)
noncomputable def rrOk (b : List UInt8) : Bool := !fewR b && provROk (rrM b) b
noncomputable def rrR (b : List UInt8) : RecN := if rrOk b = true then rrM b else rZero
theorem provROk_is {r : RecN} {b : List UInt8} (h : provROk r b = true) : keepB r = true ∧ recE r = b := by
  unfold provROk at h
  simpa using h
theorem ref_rec (b : List UInt8) : rrOk b = rdOk b ∧ rrR b = rdR b := by
  have key : ∀ r, RecOk r → provROk r b = true → rrOk b = true ∧ rrM b = r ∧ rdOk b = true ∧ rdM b = r := fun r ho h => by
    obtain ⟨h1, h2⟩ := provROk_is h
    have hf := keep_fit ho h1
    have e : recL r = b := by rw [← h2]; exact (if_pos h1).symm
    have e1 : rrM b = r := by rw [← e]; exact (rrM_rec hf).1
    have e0 : fewR b = false := by rw [← e]; exact (rrM_rec hf).2
    have e2 : rdM b = r := by rw [← e]; exact rdM_rec hf
    exact ⟨by unfold rrOk; rw [e1, h, e0]; rfl, e1, by unfold rdOk; rw [e2]; exact h, e2⟩
  by_cases h : rdOk b = true
  · obtain ⟨k1, k2, k3, k4⟩ := key (rdM b) (rdM_ok b) h
    exact ⟨by rw [k1, k3], by unfold rrR rdR provR; rw [if_pos k1, k2, if_pos (show provROk (rdM b) b = true from h)]⟩
  · by_cases h2 : rrOk b = true
    · have h3 : provROk (rrM b) b = true := by unfold rrOk at h2; simp only [Bool.and_eq_true] at h2; exact h2.2
      exact absurd (key (rrM b) (rrM_ok b) h3).2.2.1 h
    · have e1 : rdOk b = false := by cases hd : rdOk b with
        | false => rfl
        | true => exact absurd hd h
      have e2 : rrOk b = false := by cases hd : rrOk b with
        | false => rfl
        | true => exact absurd hd h2
      exact ⟨by rw [e1, e2], by unfold rrR rdR provR; rw [if_neg h2, if_neg (show ¬ provROk (rdM b) b = true from h)]⟩
theorem rd_rec {r : RecN} (ho : RecOk r) (h : keepB r = true) : rdOk (recE r) = true ∧ rdR (recE r) = r := by
  have hf := keep_fit ho h
  have e : recE r = recL r := if_pos h
  have e1 : rdM (recE r) = r := by rw [e]; exact rdM_rec hf
  have e2 : provROk (rdM (recE r)) (recE r) = true := by rw [e1, provROk, h]; simp
  exact ⟨e2, by unfold rdR provR; rw [if_pos e2, e1]⟩
end
end Go.Proofs.Ytlbkogdmojlpmaa
namespace Go.Proofs.Ytlbkogdmojlpmaa
set_option linter.unusedVariables false
set_option maxRecDepth 20000
set_option linter.unusedSimpArgs false
open Go.ChangeShapes Go.WideShapes Go.ChangeAt Go.RowKit Go.Shelf
section
variable {a : Act} {w : World} {o : Oper}
theorem size_of_info {T : TypeId} {s : Nat} (h : (Try.prog.info? T).map (·.size) = some s) (w : World) : (sizeOf T).run Try.prog w = .ok s w := by
  cases hq : Try.prog.info? T with
  | none => simp [hq] at h
  | some i => simp [sizeOf, typeInfo, hq]; simpa [hq] using h
theorem y_ixG (T : TypeId) {s : Nat} (hu : Try.prog.underlying T = some (.slice (Try.prog.elem T))) (hs : (Try.prog.info? (Try.prog.elem T)).map (·.size) = some s) (x k : Operand) (ho : o.op = .indexAddr T x k) {b q n c i : Nat} {z : Int} (hx : a.eval x = .slice (some ⟨b, q, none⟩) n c) (hk : a.eval k = .int .i64 z) (hz : z = (i : Int)) (hi : i < n) {j : Nat} (hj : q + i * s = j) : (execOp a.eval o).run Try.prog w = .ok (.value (.pointer (some ⟨b, j, none⟩))) w := by
  subst hz hj
  have hrun : (Instr.indexAt T (.slice (some ⟨b, q, none⟩) n c) (.int .i64 (i : Int))).run Try.prog w = .ok (.pointer (some ⟨b, q + i * s, none⟩)) w := by
    rw [run_indexAt_slice (h := hu), if_pos ⟨by omega, by omega⟩, size_of_info hs]
    simp only [Result.andThen_ok, Int.toNat_natCast, addr_add]
  unfold execOp
  simp only [ho, hx, hk, Sem.run_bind, hrun, Result.andThen_ok, Sem.run_pure]
theorem y_lnG (T : TypeId) (hu : Try.prog.underlying T = some (.slice (Try.prog.elem T))) (x : Operand) (ho : o.op = .call { callee := .builtin .len, args := #[x], argTypes := #[T] }) {A : Option Addr} {n c : Nat} (hx : a.eval x = .slice A n c) {z : Int} (hz : (n : Int) = z) : (execOp a.eval o).run Try.prog w = .ok (.value (.int .i64 z)) w := by
  subst hz
  exact run_ln x _ ho hx hu
theorem y_litG (T E : TypeId) {s : Nat} {zv : Value} (hu : Try.prog.underlying T = some (.slice E)) (hs : (Try.prog.info? E).map (·.size) = some s) (hz : (Try.prog.info? E).bind (·.zero) = some zv) {n : Nat} {ps : Array (Nat × Operand)} (ho : o.op = .buildSlice T n ps) (vs : Array Value) (h0 : 0 < n * s) (hm : n * s ≤ 1000000)
    (hf : Instr.fill (fun i => some (i * s, s)) ((Array.range (n * s)).map (zv.cells[· % zv.cells.size]!)) (ps.map fun (i, x) => (i, a.eval x)).toList = some vs) :
    (execOp a.eval o).run Try.prog w = .ok (.value (.slice (some ⟨w.heap.size, 0, none⟩) n n)) (w.alloc (.cells vs E)) := by
  obtain ⟨i, hi⟩ : ∃ i, Try.prog.info? E = some i := by
    cases hq : Try.prog.info? E with
    | none => rw [hq] at hs; cases hs
    | some i => exact ⟨i, rfl⟩
  rw [hi] at hs hz
  have e : i.size = s := Option.some.inj hs
  subst e
  unfold execOp
  simp only [ho, Sem.run_bind, run_buildSlice w T E n _ vs i zv hu hi hz (by omega) (by omega) hf, Result.andThen_ok, Sem.run_pure]
end
end Go.Proofs.Ytlbkogdmojlpmaa
namespace Go.Proofs.Ytlbkogdmojlpmaa
set_option linter.unusedVariables false
set_option maxRecDepth 20000
set_option linter.unusedSimpArgs false
open Go.ChangeShapes Go.WideShapes Go.ChangeAt Go.RowKit
theorem take4 (a : Nat) {k : Nat} (hk : k < 8) : (bytesN a).take (32 - 4 * k) = (bytesN a).take (28 - 4 * k) ++ [byteN a (28 - 4 * k), byteN a (29 - 4 * k), byteN a (30 - 4 * k), byteN a (31 - 4 * k)] := by
  have h : k = 0 ∨ k = 1 ∨ k = 2 ∨ k = 3 ∨ k = 4 ∨ k = 5 ∨ k = 6 ∨ k = 7 := by omega
  rcases h with rfl | rfl | rfl | rfl | rfl | rfl | rfl | rfl <;> rfl
theorem four_bytes (a : Nat) {k : Nat} (hk : k < 8) : #[Value.int .u8 (IntKind.u8.wrap (digI a k / 16777216)), .int .u8 (IntKind.u8.wrap (digI a k / 65536)), .int .u8 (IntKind.u8.wrap (digI a k / 256)), .int .u8 (IntKind.u8.wrap (digI a k))] = bvs [byteN a (28 - 4 * k), byteN a (29 - 4 * k), byteN a (30 - 4 * k), byteN a (31 - 4 * k)] := by
  have h0 := dig_byte a k 0 (by omega)
  have h1 := dig_byte a k 1 (by omega)
  have h2 := dig_byte a k 2 (by omega)
  have h3 := dig_byte a k 3 (by omega)
  have hl := dig_lt a k
  simp only [bvs, List.map_cons, List.map_nil, bv, byteN_toNat, digI, IntKind.wrap_u8]
  rw [show 31 - (28 - 4 * k) = 4 * k + 3 by omega, show 31 - (29 - 4 * k) = 4 * k + 2 by omega, show 31 - (30 - 4 * k) = 4 * k + 1 by omega, show 31 - (31 - 4 * k) = 4 * k + 0 by omega, ← h0, ← h1, ← h2, ← h3]
  generalize dig a k = d at *
  simp
/-! Read. -/
theorem dig_place {R k b : Nat} (hR : 256 ^ (k + 1) ∣ R) (hb : b < 256) : (∀ j, j ≠ k / 4 → dig (R + b * 256 ^ k) j = dig R j) ∧ dig (R + b * 256 ^ k) (k / 4) = dig R (k / 4) + b * 256 ^ (k % 4) ∧ dig R (k / 4) % 256 ^ (k % 4 + 1) = 0 := by
  obtain ⟨Q, rfl⟩ := hR
  have e : ∀ j, (4294967296 : Nat) ^ j = 256 ^ (4 * j) := fun j => by rw [Nat.pow_mul]
  have hp : ∀ j, (0 : Nat) < 256 ^ j := fun j => Nat.pow_pos (by decide)
  refine ⟨fun j hj => ?_, ?_⟩
  · unfold dig
    rw [e]
    rcases Nat.lt_or_gt_of_ne hj with h | h
    · obtain ⟨x, rfl⟩ : ∃ x, k = 4 * j + 4 + x := ⟨k - (4 * j + 4), by omega⟩
      have e1 : b * 256 ^ (4 * j + 4 + x) = 256 ^ (4 * j) * (4294967296 * (b * 256 ^ x)) := by
        rw [Nat.pow_add, Nat.pow_add, show (4294967296 : Nat) = 256 ^ 4 from rfl]; simp only [Nat.mul_assoc, Nat.mul_comm, Nat.mul_left_comm]
      rw [e1, Nat.add_mul_div_left _ _ (hp _), Nat.add_mul_mod_self_left]
    · obtain ⟨x, hx⟩ : ∃ x, 4 * j = k + 1 + x := ⟨4 * j - (k + 1), by omega⟩
      have e3 : (256 : Nat) ^ (k + 1 + x) = 256 ^ k * (256 * 256 ^ x) := by rw [Nat.pow_add, Nat.pow_succ, Nat.mul_assoc]
      have e4 : 256 ^ (k + 1) * Q = 256 ^ k * (256 * Q) := by rw [Nat.pow_succ, Nat.mul_assoc]
      rw [hx, e3, e4, Nat.mul_comm b, ← Nat.mul_add, Nat.mul_div_mul_left _ _ (hp k), Nat.mul_div_mul_left _ _ (hp k), ← Nat.div_div_eq_div_mul, ← Nat.div_div_eq_div_mul]
      congr 2
      omega
  · unfold dig
    rw [e]
    obtain ⟨d, r, hk, hr⟩ : ∃ d r, k = 4 * d + r ∧ r < 4 := ⟨k / 4, k % 4, by omega, by omega⟩
    have h1 : k / 4 = d := by omega
    have h2 : k % 4 = r := by omega
    rw [h1, h2, hk]
    have e1 : 256 ^ (4 * d + r + 1) * Q = 256 ^ (4 * d) * (256 ^ (r + 1) * Q) := by
      rw [Nat.add_assoc, Nat.pow_add, Nat.mul_assoc]
    have e2 : b * 256 ^ (4 * d + r) = 256 ^ (4 * d) * (b * 256 ^ r) := by
      rw [Nat.pow_add]; simp only [Nat.mul_assoc, Nat.mul_comm, Nat.mul_left_comm]
    rw [e1, e2, ← Nat.mul_add, Nat.mul_div_cancel_left _ (hp _), Nat.mul_div_cancel_left _ (hp _)]
    have : r = 0 ∨ r = 1 ∨ r = 2 ∨ r = 3 := by omega
    rcases this with rfl | rfl | rfl | rfl <;> simp <;> omega
theorem or_place {x b r : Nat} (hx : x < 4294967296) (hm : x % 256 ^ (r + 1) = 0) (hb : b < 256) (hr : r < 4) : bits .or .u32 (x : Int) ((b * 256 ^ r : Nat) : Int) = ((x + b * 256 ^ r : Nat) : Int) := by
  have h : b * 256 ^ r < 256 ^ (r + 1) := by rw [Nat.pow_succ, Nat.mul_comm]; exact Nat.mul_lt_mul_of_pos_left hb (Nat.pow_pos (by decide))
  have h2 : (256 : Nat) ^ (r + 1) ≤ 256 ^ 4 := Nat.pow_le_pow_right (by decide) (by omega)
  rw [u32_or_nat _ _ hx (by omega), nat_join (8 * (r + 1)) x _ (by rw [Nat.pow_mul]; exact hm) (by rw [Nat.pow_mul]; exact h)]
theorem Num.setDig {w : World} {b R R' d : Nat} {t : TypeId} (h : Num w b t R) (hd : d < 8) (hj : ∀ j, j ≠ d → dig R' j = dig R j) : Num (w.setCell ⟨b, d, none⟩ (.int .u32 (digI R' d))) b t R' := by
  refine num_of_row (h.row.set d _) fun j hj8 => ?_
  by_cases e : j = d
  · rw [if_pos e, e]; rfl
  · rw [if_neg e]; unfold numF digI; rw [hj j e]
def sofar (l : List UInt8) (n i : Nat) : Nat := readN (l.take i) * 256 ^ (n - i)
theorem sofar_next {l : List UInt8} {n i : Nat} (hl : l.length = n) (hi : i < n) : ∃ b : UInt8, l[i]? = some b ∧ sofar l n (i + 1) = sofar l n i + b.toNat * 256 ^ (n - 1 - i) ∧ 256 ^ (n - 1 - i + 1) ∣ sofar l n i := by
  have h : i < l.length := by omega
  refine ⟨l[i], List.getElem?_eq_getElem h, ?_, ?_⟩
  · unfold sofar
    rw [List.take_succ_eq_append_getElem h, readN_snoc, show n - i = n - 1 - i + 1 by omega, show n - (i + 1) = n - 1 - i by omega, Nat.pow_succ]
    grind
  · unfold sofar
    rw [show n - 1 - i + 1 = n - i by omega]
    exact Nat.dvd_mul_left _ _
theorem sofar_zero (l : List UInt8) (n : Nat) : sofar l n 0 = 0 := by unfold sofar; simp [readN]
theorem sofar_all {l : List UInt8} {n : Nat} (hl : l.length = n) : sofar l n n = readN l := by unfold sofar; rw [List.take_of_length_le (by omega)]; simp
attribute [irreducible] sofar
theorem place_step {l : List UInt8} {n i : Nat} (hl : l.length = n) (hn : n ≤ 32) (hi : i < n) : ∃ (b : UInt8) (d r : Nat), l[i]? = some b ∧ n - 1 - i = 4 * d + r ∧ d < 8 ∧ r < 4 ∧
    (∀ j, j ≠ d → dig (sofar l n (i + 1)) j = dig (sofar l n i) j) ∧ bits .or .u32 (digI (sofar l n i) d) ((b.toNat * 256 ^ r : Nat) : Int) = digI (sofar l n (i + 1)) d := by
  obtain ⟨b, h1, h2, h3⟩ := sofar_next hl hi
  obtain ⟨q1, q2, q3⟩ := dig_place h3 b.toNat_lt
  refine ⟨b, (n - 1 - i) / 4, (n - 1 - i) % 4, h1, by omega, by omega, by omega, fun j hj => by rw [h2]; exact q1 j hj, ?_⟩
  unfold digI
  rw [or_place (dig_lt _ _) q3 b.toNat_lt (by omega), h2, q2]
set_option maxHeartbeats 4000000 in
theorem rread_any (A : Option Addr) (l : List UInt8) (n cap : Nat) (hl : l.length = n) (hn : n ≤ 32) (w : World) (hR : Rd w A l) :
    Calls Try.prog 72 #[.slice A n cap] w fun e w' => e = .returned (.tuple #[numV (readN l), .bool true]) ∧ Below w.heap.size w w' := by
  have PS := hid (fun i hi => @place_step l n i hl hn hi)
  have SA := hid (sofar_all hl)
  have g0 := (Num.new w 27 0).alloc (.cells (numA 0) 27)
  have g1 := Num.new (w.alloc (.cells (numA 0) 27)) 27 0
  rw [World.size_alloc, ← sofar_zero l n] at g1
  have gb : Below w.heap.size w ((w.alloc (.cells (numA 0) 27)).alloc (.cells (numA 0) 27)) := ((Below.refl _ _).alloc (Nat.le_refl _) _).alloc (by simp) _
  have hs : ((w.alloc (.cells (numA 0) 27)).alloc (.cells (numA 0) 27)).heap.size = w.heap.size + 2 := by simp
  rw [sofar_zero] at g1
  rw [← zeroA] at g0 g1 gb hs
  have SZ := hid (sofar_zero l n)
  have HL := hid hl
  clear hl
  go_enter Try.func72, Try.ntmps72
  go_wp2
  generalize World.alloc (World.alloc _ _) _ = W at *
  go_loopw [5] (fun i wr => ∃ k : Nat, k ≤ n ∧ i = .int .i64 k ∧ Num wr (w.heap.size + 1) 27 (sofar l n k) ∧ W.grownBy wr (some (w.heap.size + 1))) (fun i _ => n - (intOf i).toNat)
  case atStart => exact ⟨0, by omega, rfl, by rw [SZ.out]; exact g1, World.grownBy.refl _ _⟩
  case round =>
    obtain ⟨i, hi, rfl, hnm, hg⟩ := hrel
    clear g1
    by_cases hlt : i < n
    · obtain ⟨b, d, r, hb, hk, hd, hr, hj, hor⟩ := PS.out i hlt
      have hbb := b.toNat_lt
      have hcd := hnm.cell hd
      have hfd := hnm.frozen d
      have hB := below_of_grown gb hg (by omega) (by omega)
      obtain ⟨bb, oo, rfl, hbb2, hcl⟩ := (hR.below hB (Nat.le_refl _)).at (by have := HL.out; omega)
      have hcb := hcl i b hb
      clear hcl
      have HK := hid hk
      have HN := hid (hnm.setDig hd hj)
      clear hk hj hb
      obtain ⟨c, hc⟩ : ∃ c : Int, c = (b.toNat : Int) := ⟨_, rfl⟩
      rw [← hc] at hcb
      have hr3 : r = 0 ∨ r = 1 ∨ r = 2 ∨ r = 3 := by omega
      have hoR := digI_ge (sofar l n i) d
      have hoS := digI_lt (sofar l n i) d
      rcases hr3 with rfl | rfl | rfl | rfl
      · have hd8 : (d : Int) < 8 := by omega
        have hd0 : (0 : Int) ≤ (d : Int) := by omega
        have hor' : bits BinOp.or IntKind.u32 (digI (sofar l n i) d) (c % 4294967296) = digI (sofar l n (i + 1)) d := by rw [← hor, hc, Int.emod_eq_of_lt (by omega) (by omega)]; simp
        have hkI : (n : Int) - 1 - (i : Int) = 4 * (d : Int) := by have := HK.out; omega
        have hdd : IntKind.i64.wrap (d : Int) = (d : Int) := Go.IntWalk.i64_in _ (by omega)
        have hk4 : IntKind.i64.wrap ((4 * (d : Int)).tdiv 4) = (d : Int) := by rw [Int.tdiv_eq_ediv_of_nonneg (by omega), show (4 * (d : Int)) / 4 = (d : Int) by omega]; exact Go.IntWalk.i64_in _ (by omega)
        have hr4 : IntKind.i64.wrap ((4 * (d : Int)).tmod 4) = 0 := by rw [Int.tmod_eq_emod_of_nonneg (by omega), show (4 * (d : Int)) % 4 = 0 by omega]; rfl
        clear hor
        have hc0 : 0 ≤ c := by omega
        have hc1 : c < 256 := by omega
        clear hc
        go_wp2_with fail
        go_still_tail 18, (by kernel_rfl)
        change wpList _ _ _ _ _ (World.drew _)
        go_wp2
        go_roundw
        case rel => exact ⟨i + 1, by omega, by go_num, HN.out, only_drewN (grown_set hg rfl _) 1⟩
        case measure => simp [intOf] <;> omega
      · have hd8 : (d : Int) < 8 := by omega
        have hd0 : (0 : Int) ≤ (d : Int) := by omega
        have hor' : bits BinOp.or IntKind.u32 (digI (sofar l n i) d) (c * 256 % 4294967296) = digI (sofar l n (i + 1)) d := by rw [← hor, hc, Int.emod_eq_of_lt (by omega) (by omega)]; simp
        have hkI : (n : Int) - 1 - (i : Int) = 4 * (d : Int) + 1 := by have := HK.out; omega
        have hk4 : IntKind.i64.wrap ((4 * (d : Int) + 1).tdiv 4) = (d : Int) := by rw [Int.tdiv_eq_ediv_of_nonneg (by omega), show (4 * (d : Int) + 1) / 4 = (d : Int) by omega]; exact Go.IntWalk.i64_in _ (by omega)
        have hr4 : IntKind.i64.wrap ((4 * (d : Int) + 1).tmod 4) = 1 := by rw [Int.tmod_eq_emod_of_nonneg (by omega), show (4 * (d : Int) + 1) % 4 = 1 by omega]; rfl
        clear hor
        have hc0 : 0 ≤ c := by omega
        have hc1 : c < 256 := by omega
        clear hc
        go_wp2_with fail
        go_still_tail 18, (by kernel_rfl)
        change wpList _ _ _ _ _ (World.drew _)
        go_wp2
        go_roundw
        case rel => exact ⟨i + 1, by omega, by go_num, HN.out, only_drewN (grown_set hg rfl _) 1⟩
        case measure => simp [intOf] <;> omega
      · have hd8 : (d : Int) < 8 := by omega
        have hd0 : (0 : Int) ≤ (d : Int) := by omega
        have hor' : bits BinOp.or IntKind.u32 (digI (sofar l n i) d) (c * 65536 % 4294967296) = digI (sofar l n (i + 1)) d := by rw [← hor, hc, Int.emod_eq_of_lt (by omega) (by omega)]; simp
        have hkI : (n : Int) - 1 - (i : Int) = 4 * (d : Int) + 2 := by have := HK.out; omega
        have hk4 : IntKind.i64.wrap ((4 * (d : Int) + 2).tdiv 4) = (d : Int) := by rw [Int.tdiv_eq_ediv_of_nonneg (by omega), show (4 * (d : Int) + 2) / 4 = (d : Int) by omega]; exact Go.IntWalk.i64_in _ (by omega)
        have hr4 : IntKind.i64.wrap ((4 * (d : Int) + 2).tmod 4) = 2 := by rw [Int.tmod_eq_emod_of_nonneg (by omega), show (4 * (d : Int) + 2) % 4 = 2 by omega]; rfl
        clear hor
        have hc0 : 0 ≤ c := by omega
        have hc1 : c < 256 := by omega
        clear hc
        go_wp2_with fail
        go_still_tail 18, (by kernel_rfl)
        change wpList _ _ _ _ _ (World.drew _)
        go_wp2
        go_roundw
        case rel => exact ⟨i + 1, by omega, by go_num, HN.out, only_drewN (grown_set hg rfl _) 1⟩
        case measure => simp [intOf] <;> omega
      · have hd8 : (d : Int) < 8 := by omega
        have hd0 : (0 : Int) ≤ (d : Int) := by omega
        have hor' : bits BinOp.or IntKind.u32 (digI (sofar l n i) d) (c * 16777216 % 4294967296) = digI (sofar l n (i + 1)) d := by rw [← hor, hc, Int.emod_eq_of_lt (by omega) (by omega)]; simp
        have hkI : (n : Int) - 1 - (i : Int) = 4 * (d : Int) + 3 := by have := HK.out; omega
        have hk4 : IntKind.i64.wrap ((4 * (d : Int) + 3).tdiv 4) = (d : Int) := by rw [Int.tdiv_eq_ediv_of_nonneg (by omega), show (4 * (d : Int) + 3) / 4 = (d : Int) by omega]; exact Go.IntWalk.i64_in _ (by omega)
        have hr4 : IntKind.i64.wrap ((4 * (d : Int) + 3).tmod 4) = 3 := by rw [Int.tmod_eq_emod_of_nonneg (by omega), show (4 * (d : Int) + 3) % 4 = 3 by omega]; rfl
        clear hor
        have hc0 : 0 ≤ c := by omega
        have hc1 : c < 256 := by omega
        clear hc
        go_wp2_with fail
        go_still_tail 18, (by kernel_rfl)
        change wpList _ _ _ _ _ (World.drew _)
        go_wp2
        go_roundw
        case rel => exact ⟨i + 1, by omega, by go_num, HN.out, only_drewN (grown_set hg rfl _) 1⟩
        case measure => simp [intOf] <;> omega
    · obtain rfl : i = n := by omega
      have hB := below_of_grown gb hg (by omega) (by omega)
      have m0 : Num wr w.heap.size 27 0 := g0.grown hg (by simp)
      rw [SA.out] at hnm
      go_wp2_with (first | (refine wpList_load_num rfl _ _ rfl _ rfl _ _ _ hnm Try.underlying27 rfl size26 ?_) | (refine wpList_store_num rfl _ _ _ rfl _ rfl _ rfl _ rfl m0 size26 ?_; intro w5 hg5 m5))
      exact bodyPost_ret (results_num_tmp rfl rfl m5 Try.underlying27 rfl size26) rfl ⟨rfl, below_of_grown hB hg5 hB.size (by omega)⟩
end Go.Proofs.Ytlbkogdmojlpmaa
namespace Go.Proofs.Ytlbkogdmojlpmaa
set_option linter.unusedVariables false
set_option maxRecDepth 20000
set_option linter.unusedSimpArgs false
open Go.ChangeShapes Go.WideShapes Go.ChangeAt Go.RowKit
set_option maxHeartbeats 4000000 in
theorem rbytes_own (a : Nat) (w : World) :
    Calls Try.prog 86 #[numV a] w fun e w' => ∃ v, e = .returned v ∧ Byt w' w.heap.size v (bytesN a) ∧ Below w.heap.size w w' := by
  have g0 := Num.new w 27 a
  have gb := step_alloc w (.cells (numA a) 27)
  have T4 := hid (fun k hk => @take4 a k hk)
  have F4 := hid (fun k hk => @four_bytes a k hk)
  have TF := hid (List.take_of_length_le (Nat.le_of_eq (bytesN_length a)))
  have LN := hid (bytesN_length a)
  go_enter Try.func86, Try.ntmps86
  go_wp2
  have hW1 : (w.alloc (.cells (numA a) 27)).heap.size = w.heap.size + 1 := by simp
  generalize World.alloc _ _ = W at *
  have HW := hid hW1
  clear hW1
  go_loopw [3, 4] (fun v i wr => ∃ q : Int, -1 ≤ q ∧ q ≤ 7 ∧ i = .int .i64 q ∧ Byt wr (w.heap.size + 1) v ((bytesN a).take (28 - 4 * q).toNat) ∧ Below (w.heap.size + 1) W wr) (fun _ i _ => (intOf i + 1).toNat)
  case atStart => exact ⟨7, by omega, by omega, rfl, Byt.nil _ _, Below.refl _ _⟩
  case round =>
    obtain ⟨q, hq1, hq2, rfl, hv, hB⟩ := hrel
    have n0 := g0.below hB (by omega)
    have hsz : w.heap.size + 1 ≤ wr.heap.size := by have := hB.size; have := HW.out; omega
    by_cases hq : 0 ≤ q
    · obtain ⟨k, rfl⟩ := Int.eq_ofNat_of_zero_le hq
      have hc := n0.cell (k := k) (by omega)
      have hk : k < 8 := by omega
      have t4 := T4.out k hk
      have hd0 := digI_ge a k
      have hd1 := digI_lt a k
      have e1 : (28 - 4 * (k : Int)).toNat = 28 - 4 * k := by omega
      have hv' : Byt wr (w.heap.size + 1) u3 ((bytesN a).take (28 - 4 * k)) := by rw [← e1]; exact hv
      have H4 := hid t4
      clear hv e1 t4
      have hrd : Rd (wr.alloc (.cells #[Value.int .u8 (IntKind.u8.wrap (digI a k / 16777216)), .int .u8 (IntKind.u8.wrap (digI a k / 65536)), .int .u8 (IntKind.u8.wrap (digI a k / 256)), .int .u8 (IntKind.u8.wrap (digI a k))] 5)).drew (some ⟨wr.heap.size, 0, none⟩) [byteN a (28 - 4 * k), byteN a (29 - 4 * k), byteN a (30 - 4 * k), byteN a (31 - 4 * k)] := by
        rw [F4.out k hk]
        exact Bts.rd (t := 5) (heap_alloc_new wr _)
      have hle : ((bytesN a).take (28 - 4 * k)).length ≤ 32 := by rw [List.length_take, LN.out]; omega
      have hk8 : (k : Int) < 8 := by omega
      obtain ⟨L, hL⟩ : ∃ L, L = (bytesN a).take (28 - 4 * k) := ⟨_, rfl⟩
      rw [← hL] at hv' hle
      have HL := hid hL
      clear hL
      clear LN hq1 hq2 hq F4
      go_wp2_with fail
      go_region_held3 (fun w' => w'.cell? ⟨w.heap.size, k, none⟩ = some (.int .u32 (digI a k))) (first | go_keep | (go_split_ands; rw [h2.cell (p := ⟨w.heap.size, k, none⟩) (by show w.heap.size < w.heap.size + 1; omega)]; assumption))
        ((refine step_append_bytes (by rfl) _ _ (by rfl) (w.heap.size + 1) u3 L [byteN a (28 - 4 * k), byteN a (29 - 4 * k), byteN a (30 - 4 * k), byteN a (31 - 4 * k)] (by rfl) (show Byt _ _ _ _ from Byt.alloc hv' _) _ 4 4 (by rfl) (by rfl) (by omega) hrd (by simp <;> omega) (by simp <;> omega) ?_; intro g cap w' h1 h2 h3 h4 h5))
      have eL : L ++ [byteN a (28 - 4 * k), byteN a (29 - 4 * k), byteN a (30 - 4 * k), byteN a (31 - 4 * k)] = (bytesN a).take (32 - 4 * k) := by rw [HL.out, ← H4.out]
      rw [eL] at h1
      have hB2 : Below (w.heap.size + 1) wr w' := ((step_alloc wr _).mono (by omega)).trans (show Below _ (wr.alloc _) w' from ⟨h2.os, h2.tape, h2.output, h2.size, h2.block⟩)
      clear eL h2
      have H1 := hid h1
      clear h1
      go_wp2
      go_roundw
      case rel => exact ⟨(k : Int) - 1, by omega, by omega, by go_num, by rw [show (28 - 4 * ((k : Int) - 1)).toNat = 32 - 4 * k by omega]; exact H1.out, hB.trans hB2⟩
      case measure => simp [intOf] <;> omega
    · have hq' : q = -1 := by omega
      subst hq'
      have hv' : Byt wr (w.heap.size + 1) u3 (bytesN a) := by have := hv; rw [show (28 - 4 * (-1 : Int)).toNat = 32 from rfl, TF.out] at this; exact this
      clear hv
      have H1 := hid hv'
      clear hv'
      go_wp2
      go_ret
      exact ⟨_, rfl, H1.out.rebase fun k hk => (by have := (H1.out.lt k hk).1; omega), gb.trans (hB.mono (by omega))⟩
end Go.Proofs.Ytlbkogdmojlpmaa
namespace Go.Proofs.Ytlbkogdmojlpmaa
set_option linter.unusedVariables false
set_option maxRecDepth 20000
set_option linter.unusedSimpArgs false
open Go.ChangeShapes Go.WideShapes Go.ChangeAt Go.RowKit
set_option maxRecDepth 100000 in
set_option maxHeartbeats 4000000 in
theorem rfourN_any (a : Nat) (w : World) :
    Calls Try.prog 65 #[numV a] w fun e w' => ∃ v, e = .returned v ∧ IsB w' (fourL a) v ∧ (∀ g, bfp v g → w.heap.size ≤ g) ∧ Below w.heap.size w w' := by
  refine calls_fx (args := [numV a]) 6 Try.func65 rfl rfl rfl ?_
  intro fa F
  have M := Mx.start w
  refine wp_seq_k fun K1 hK1 => wp_region_lit ?_
  refine wl_alloc (wanted_none rfl) rfl F rfl M 0 (t := 27) (c := numA a) (by unfold execOp; simp only [(F.get (t := 0) rfl)]; kernel_rfl) ?_
  intro g2 a2 w2 F2 M2
  clear F M
  refine rm rfl F2 fun a3 F3 => ?_
  refine hK1 _ _ (wp_seq_k fun K4 hK4 => ?_)
  refine wp_region_lit ?_
  refine rn rfl rfl F3 rfl (numV a) (y_ldN _ _ rfl (F3.get rfl) (M2.blk (k := 0) rfl) (numA a) (y_all rfl) Try.underlying27 rfl size26) fun a5 F5 => ?_
  refine wl_call (wanted_none rfl) rfl F5 rfl rfl (enters_of Try.func86 (by kernel_rfl) rfl) #[numV a] (args1 (F5.get rfl)) (rbytes_own a w2) ?_
  rintro v6 w6 a6 h6 F6
  have M6 := M2.newO h6.2 1 h6.1
  clear M2 h6
  obtain ⟨A6, c6, rfl⟩ := (M6.isO (k := 1) rfl).shape
  refine wl_runE (wanted_none rfl) rfl F6 rfl (y_slFrom _ _ rfl (F6.get rfl) (M6.isO (k := 1) rfl) rfl (i := 28) rfl (by simp [bytesN])) ?_
  intro v7 a7 h7 F7
  have og8 := M6.owns (k := 1) rfl
  have M8 := M6.tame (k := 1) rfl
  clear M6
  have M7 := M8.partB 2 (k := 1) rfl h7.1 h7.2
  clear M8
  obtain ⟨A7, c7, rfl⟩ := (M7.isb (k := 2) rfl).shape
  refine rm rfl F7 fun a9 F9 => ?_
  refine hK4 _ _ (wp_ret ?_)
  try simp only [Exit.then, Exit.inBlock, Exit.jump]
  exact bodyPost_ret (res1 rfl (F9.get (t := 2) rfl)) F9.defers ⟨_, rfl, M7.isb (k := 2) rfl, (fun g hg => (fun g hg => og8 g (bfp_ofp hg)) g (h7.2 g hg)), M7.below⟩
set_option maxRecDepth 100000 in
set_option maxHeartbeats 4000000 in
theorem rsmallB_any (a : Nat) (ha : a < 4294967296 ^ 8) (w : World) :
    Calls Try.prog 60 #[numV a] w fun e w' => e = .returned (.bool (decide (topI a 8 ≤ 32))) ∧ Below w.heap.size w w' := by
  refine calls_fx (args := [numV a]) 6 Try.func60 rfl rfl rfl ?_
  intro fa F
  have M := Mx.start w
  refine wp_seq_k fun K1 hK1 => wp_region_lit ?_
  refine wl_alloc (wanted_none rfl) rfl F rfl M 0 (t := 27) (c := numA a) (by unfold execOp; simp only [(F.get (t := 0) rfl)]; kernel_rfl) ?_
  intro g2 a2 w2 F2 M2
  clear F M
  refine rm rfl F2 fun a3 F3 => ?_
  refine hK1 _ _ (wp_seq_k fun K4 hK4 => ?_)
  refine wp_region_lit ?_
  refine rn rfl rfl F3 rfl (numV a) (y_ldN _ _ rfl (F3.get rfl) (M2.blk (k := 0) rfl) (numA a) (y_all rfl) Try.underlying27 rfl size26) fun a5 F5 => ?_
  refine wl_call (wanted_none rfl) rfl F5 rfl rfl (enters_of Try.func41 (by kernel_rfl) rfl) #[numV a] (args1 (F5.get rfl)) (call_ex (rbits_any a ha w2)) ?_
  rintro _ w6 a6 ⟨rfl, b6⟩ F6
  have M6 := M2.step b6
  by_cases h7 : (topI a 8) ≤ 32
  · refine rn rfl rfl F6 rfl (.bool true) (y_leq _ _ _ _ rfl (F6.get rfl) rfl (decide_eq_true h7)) fun a8 F8 => ?_
    refine rm rfl F8 fun a9 F9 => ?_
    refine hK4 _ _ (wp_ret ?_)
    try simp only [Exit.then, Exit.inBlock, Exit.jump]
    exact bodyPost_ret (res1 rfl (F9.get (t := 2) rfl)) F9.defers ⟨by rw [show decide (topI a 8 ≤ 32) = true from decide_eq_true h7], M6.below⟩
  refine rn rfl rfl F6 rfl (.bool false) (y_leq _ _ _ _ rfl (F6.get rfl) rfl (decide_eq_false h7)) fun a10 F10 => ?_
  refine rm rfl F10 fun a11 F11 => ?_
  refine hK4 _ _ (wp_ret ?_)
  try simp only [Exit.then, Exit.inBlock, Exit.jump]
  exact bodyPost_ret (res1 rfl (F11.get (t := 2) rfl)) F11.defers ⟨by rw [show decide (topI a 8 ≤ 32) = false from decide_eq_false h7], M6.below⟩
theorem rnameB_any (s : ByteArray) (hs : s.size ≤ 1000) (w : World) : Calls Try.prog 59 #[.string s] w fun e w' => e = .returned (.bool (nameB s)) ∧ Below w.heap.size w w' := by
  unfold nameB
  by_cases h : NameOk s
  · rw [@decide_eq_true _ (Classical.propDecidable _) h]; exact rname_ok s h w
  · rw [@decide_eq_false _ (Classical.propDecidable _) h]; exact rname_no s hs h w
end Go.Proofs.Ytlbkogdmojlpmaa
namespace Go.Proofs.Ytlbkogdmojlpmaa
set_option linter.unusedVariables false
set_option maxRecDepth 20000
set_option linter.unusedSimpArgs false
open Go.ChangeShapes Go.WideShapes Go.ChangeAt Go.RowKit
def numP (l : List UInt8) (j : Nat) : Int := (l.take j).foldl (fun n x => bits .or .i64 (IntKind.i64.wrap (n * 2 ^ (8 : Int).toNat)) ((x.toNat : Nat) : Int)) 0
theorem numP_next {l : List UInt8} {j : Nat} {x : UInt8} (h : l[j]? = some x) : bits .or .i64 (IntKind.i64.wrap (numP l j * 2 ^ (8 : Int).toNat)) ((x.toNat : Nat) : Int) = numP l (j + 1) := by
  unfold numP
  rw [List.take_add_one, h, Option.toList_some, List.foldl_append]
  rfl
theorem rlread_is (l : List UInt8) (v : Value) (N : Nat) (hl : l.length ≤ 32) (hN : readN l = N) (w : World) (h : IsB w l v) : Calls Try.prog 72 #[v] w fun e w' => e = .returned (.tuple #[numV N, .bool true]) ∧ Below w.heap.size w w' := by
  subst hN
  obtain ⟨A, c, rfl, h1, h2, h3, h4⟩ := h
  exact rread_any A l _ c rfl hl w h4
set_option maxRecDepth 100000 in
set_option maxHeartbeats 4000000 in
theorem rnumR_any (l : List UInt8) (v : Value) (hl : l.length ≤ 100000) (w : World) (hv : IsB w l v) :
    Calls Try.prog 70 #[v] w fun e w' => e = .returned (.int .i64 (numR l)) ∧ Below w.heap.size w w' := by
  refine calls_fx (args := [v]) 24 Try.func70 rfl rfl rfl ?_
  intro fa F
  have M := Mx.start w
  replace M := M.argB 0 hv (fun g e => by cases e)
  refine wp_seq_k fun K1 hK1 => wp_region_lit ?_
  refine rm rfl F fun a2 F2 => ?_
  refine hK1 _ _ (wp_seq_k fun K3 hK3 => ?_)
  refine wp_region_lit ?_
  refine rm rfl F2 fun a4 F4 => ?_
  refine hK3 _ _ (wp_seq_k fun K5 hK5 => ?_)
  refine wp_seq_k fun K6 hK6 => wp_region_lit ?_
  refine rm rfl F4 fun a7 F7 => ?_
  refine hK6 _ _ (wp_block ?_)
  refine loop_fx (α := Nat) (n := 24) (G := none) (w0 := w) (fun x => [(0, v), (2, .int .i64 0), (4, .int .i64 (x : Int)), (3, .int .i64 (numP l x))]) (fun x => [(0, bytR l v)]) (fun k x => k = 8 - x ∧ (x ≤ l.length ∧ x ≤ 8)) _ 0 ⟨rfl, ⟨Nat.zero_le _, Nat.zero_le _⟩⟩ (F7.sub ⟨rfl, rfl, rfl, rfl, trivial⟩) (M.sub ⟨rfl, trivial⟩) ?_
  clear F7 M
  rintro k8 jn a8 w8 K8 ⟨ek8, I8⟩ F8 M8 hK8
  replace F8 : Fx 24 a8 [(0, v), (2, .int .i64 0), (4, .int .i64 (jn : Int)), (3, .int .i64 (numP l jn))] := F8
  replace M8 : Mx _ _ w8 [(0, bytR l v)] := M8
  replace I8 : jn ≤ l.length ∧ jn ≤ 8 := I8
  replace ek8 : k8 = 8 - jn := ek8
  by_cases hlt : jn < l.length
  rotate_left
  · refine wp_seq_k fun K45 hK45 => ?_
    refine wp_seq_k fun K46 hK46 => wp_region_lit ?_
    refine rm rfl F8 fun a47 F47 => ?_
    refine rm rfl F47 fun a48 F48 => ?_
    refine rn rfl rfl F48 rfl (.int .i64 (l.length : Int)) (y_len _ rfl (F48.get rfl) (M8.isb (k := 0) rfl) rfl) fun a49 F49 => ?_
    refine rn rfl rfl F49 rfl (.bool false) (y_lss _ _ _ _ rfl (F49.get rfl) (F49.get rfl) (decide_eq_false (show ¬ (jn : Int) < (l.length : Int) by omega))) fun a50 F50 => ?_
    refine exS 4 [(0, v), (2, .int .i64 0), (4, .int .i64 (jn : Int)), (3, .int .i64 (numP l jn)), (12, .bool false)] [] dnil [] F50 (by kernel_rfl) fun a51 F51 => ?_
    simp only [List.drop_succ_cons, List.drop_zero]
    refine hK46 _ _ (wp_cond_false (F51.get (t := 12) rfl) ?_)
    refine wp_exit ?_
    simp only [Exit.then, Exit.inBlock, ↓reduceIte, Nat.reduceEqDiff]
    refine hK5 _ _ (wp_seq_k fun K52 hK52 => ?_)
    refine wp_region_lit ?_
    refine rm rfl F51 fun a53 F53 => ?_
    refine rm rfl F53 fun a54 F54 => ?_
    refine hK52 _ _ (wp_ret ?_)
    try simp only [Exit.then, Exit.inBlock, Exit.jump]
    exact bodyPost_ret (res1 rfl (F54.get (t := 2) rfl)) F54.defers ⟨by rw [show numR l = numP l jn from by unfold numR numP; rw [List.take_of_length_le (by omega), List.take_of_length_le (by omega)]], M8.below⟩
  by_cases h8 : jn < 8
  rotate_left
  · refine wp_seq_k fun K32 hK32 => ?_
    refine wp_seq_k fun K33 hK33 => wp_region_lit ?_
    refine rm rfl F8 fun a34 F34 => ?_
    refine rm rfl F34 fun a35 F35 => ?_
    refine rn rfl rfl F35 rfl (.int .i64 (l.length : Int)) (y_len _ rfl (F35.get rfl) (M8.isb (k := 0) rfl) rfl) fun a36 F36 => ?_
    refine rn rfl rfl F36 rfl (.bool true) (y_lss _ _ _ _ rfl (F36.get rfl) (F36.get rfl) (decide_eq_true (show (jn : Int) < (l.length : Int) by omega))) fun a37 F37 => ?_
    refine rm rfl F37 fun a38 F38 => ?_
    refine rm rfl F38 fun a39 F39 => ?_
    refine wl_run (w' := w8) (wanted_yes rfl rfl rfl (F39.get rfl)) rfl F39 rfl (.bool false) (y_lss _ _ _ _ rfl (F39.get rfl) rfl (decide_eq_false (show ¬ (jn : Int) < 8 by omega))) fun a40 F40 => ?_
    refine rn rfl rfl F40 rfl (.bool false) (run_pick_t rfl (F40.get rfl) (F40.get rfl)) fun a41 F41 => ?_
    refine hK33 _ _ (wp_cond_false (F41.get (t := 12) rfl) ?_)
    refine wp_exit ?_
    simp only [Exit.then, Exit.inBlock, ↓reduceIte, Nat.reduceEqDiff]
    refine hK5 _ _ (wp_seq_k fun K42 hK42 => ?_)
    refine wp_region_lit ?_
    refine rm rfl F41 fun a43 F43 => ?_
    refine rm rfl F43 fun a44 F44 => ?_
    refine hK42 _ _ (wp_ret ?_)
    try simp only [Exit.then, Exit.inBlock, Exit.jump]
    exact bodyPost_ret (res1 rfl (F44.get (t := 2) rfl)) F44.defers ⟨by rw [show numR l = numP l jn from by rw [show jn = 8 by omega]; rfl], M8.below⟩
  obtain ⟨x, hx⟩ : ∃ x, l[jn]? = some x := ⟨_, List.getElem?_eq_getElem hlt⟩
  have hnx := numP_next hx
  refine wp_seq_k fun K9 hK9 => wp_seq_k fun K10 hK10 => ?_
  refine wp_region_lit ?_
  refine rm rfl F8 fun a11 F11 => ?_
  refine rm rfl F11 fun a12 F12 => ?_
  refine rn rfl rfl F12 rfl (.int .i64 (l.length : Int)) (y_len _ rfl (F12.get rfl) (M8.isb (k := 0) rfl) rfl) fun a13 F13 => ?_
  refine rn rfl rfl F13 rfl (.bool true) (y_lss _ _ _ _ rfl (F13.get rfl) (F13.get rfl) (decide_eq_true (show (jn : Int) < (l.length : Int) by omega))) fun a14 F14 => ?_
  refine rm rfl F14 fun a15 F15 => ?_
  refine rm rfl F15 fun a16 F16 => ?_
  refine wl_run (w' := w8) (wanted_yes rfl rfl rfl (F16.get rfl)) rfl F16 rfl (.bool true) (y_lss _ _ _ _ rfl (F16.get rfl) rfl (decide_eq_true (show (jn : Int) < 8 by omega))) fun a17 F17 => ?_
  refine rn rfl rfl F17 rfl (.bool true) (run_pick_t rfl (F17.get rfl) (F17.get rfl)) fun a18 F18 => ?_
  refine hK10 _ _ (wp_cond_true (F18.get (t := 12) rfl) ?_)
  refine wp_skip ?_
  refine hK9 _ _ (wp_seq_k fun K19 hK19 => ?_)
  refine wp_block ?_
  refine wp_region_lit ?_
  refine rm rfl F18 fun a20 F20 => ?_
  refine rn rfl rfl F20 rfl (.int .i64 (IntKind.i64.wrap (numP l jn * 2 ^ (8 : Int).toNat))) (y_shlI _ _ _ _ rfl (F20.get rfl) rfl (by decide) rfl) fun a21 F21 => ?_
  refine rm rfl F21 fun a22 F22 => ?_
  refine rm rfl F22 fun a23 F23 => ?_
  refine rn rfl rfl F23 rfl ((ixV (v) jn)) (y_ixB _ _ rfl (F23.get rfl) (M8.isb (k := 0) rfl) (F23.get rfl) rfl hlt) fun a24 F24 => ?_
  refine rn rfl rfl F24 rfl (.int .u8 ((x.toNat : Nat) : Int)) (y_ldB _ rfl (F24.get rfl) (M8.isb (k := 0) rfl) hx rfl) fun a25 F25 => ?_
  refine rn rfl rfl F25 rfl (.int .i64 ((x.toNat : Nat) : Int)) (y_cvI _ _ _ rfl (F25.get rfl) Try.underlying5 Try.underlying3 (byte_i64 _)) fun a26 F26 => ?_
  refine rn rfl rfl F26 rfl (.int .i64 (numP l (jn + 1))) (y_orU _ _ _ _ rfl (F26.get rfl) (F26.get rfl) hnx) fun a27 F27 => ?_
  refine rm rfl F27 fun a28 F28 => ?_
  refine hK19 _ _ (wp_region_lit ?_)
  refine rm rfl F28 fun a29 F29 => ?_
  refine rn rfl rfl F29 rfl (.int .i64 ((jn + 1 : Nat) : Int)) (y_addI _ _ _ _ rfl (F29.get rfl) rfl (by omega) (by omega)) fun a30 F30 => ?_
  refine rm rfl F30 fun a31 F31 => ?_
  subst ek8
  exact hK8 _ (jn + 1) _ _ (by omega) ⟨rfl, (by omega)⟩ (F31.sub ⟨rfl, rfl, rfl, rfl, trivial⟩) (M8.sub ⟨rfl, trivial⟩)
end Go.Proofs.Ytlbkogdmojlpmaa
namespace Go.Proofs.Ytlbkogdmojlpmaa
set_option linter.unusedVariables false
set_option maxRecDepth 20000
set_option linter.unusedSimpArgs false
open Go.ChangeShapes Go.WideShapes Go.ChangeAt Go.RowKit
theorem getD_of {l : List UInt8} {i : Nat} {x : UInt8} (h : l[i]? = some x) : l.getD i 0 = x := by rw [List.getD_eq_getElem?_getD, h]; rfl
end Go.Proofs.Ytlbkogdmojlpmaa
namespace Go.Proofs.Ytlbkogdmojlpmaa
set_option linter.unusedVariables false
set_option maxRecDepth 20000
set_option linter.unusedSimpArgs false
open Go.ChangeShapes Go.WideShapes Go.ChangeAt Go.RowKit
def wrOk (n : Int) (b : Bool) : Bool := !b && decide (n < 100000)
def wrL (ok : Bool) (l c : List UInt8) : List UInt8 := cond ok (l ++ c) []
def wrN (ok : Bool) (n : Int) (c : List UInt8) : Int := cond ok (n + (c.length : Int)) n
def nxF (l : List UInt8) : Nat := (l.getD 0 0).toNat * 256 + (l.getD 1 0).toNat
noncomputable def nxOk (l : List UInt8) : Bool := decide (2 ≤ l.length) && decide (nxF l ≤ 200) && decide (2 + nxF l ≤ l.length) && decOk (l.take (2 + nxF l))
noncomputable def nxM (l : List UInt8) : MsgN := cond (nxOk l) (decR (l.take (2 + nxF l))) mZero
noncomputable def nxBad (l : List UInt8) : Bool := decide (2 ≤ l.length) && (decide (200 < nxF l) || (decide (2 + nxF l ≤ l.length) && !decOk (l.take (2 + nxF l))))
noncomputable def nxL (l : List UInt8) : List UInt8 := cond (nxOk l) (l.drop (2 + nxF l)) (cond (nxBad l) [] l)
theorem nx_short {l : List UInt8} (h : l.length < 2) : nxOk l = false ∧ nxBad l = false := by
  unfold nxOk nxBad
  rw [decide_eq_false (show ¬ 2 ≤ l.length by omega)]; exact ⟨rfl, rfl⟩
theorem nx_over {l : List UInt8} (h2 : 2 ≤ l.length) (h : 200 < nxF l) : nxOk l = false ∧ nxBad l = true := by
  unfold nxOk nxBad
  rw [decide_eq_true h2, decide_eq_true h, decide_eq_false (show ¬ nxF l ≤ 200 by omega)]; exact ⟨rfl, rfl⟩
theorem nx_wait {l : List UInt8} (h2 : 2 ≤ l.length) (h : nxF l ≤ 200) (hw : l.length < 2 + nxF l) : nxOk l = false ∧ nxBad l = false := by
  unfold nxOk nxBad
  rw [decide_eq_true h2, decide_eq_false (show ¬ 200 < nxF l by omega), decide_eq_true h, decide_eq_false (show ¬ 2 + nxF l ≤ l.length by omega)]; exact ⟨rfl, rfl⟩
theorem nx_whole {l : List UInt8} (h2 : 2 ≤ l.length) (h : nxF l ≤ 200) (hw : 2 + nxF l ≤ l.length) : nxOk l = decOk (l.take (2 + nxF l)) ∧ nxBad l = !decOk (l.take (2 + nxF l)) := by
  unfold nxOk nxBad
  rw [decide_eq_true h2, decide_eq_false (show ¬ 200 < nxF l by omega), decide_eq_true h, decide_eq_true hw]; exact ⟨rfl, rfl⟩
theorem nxF_is {l : List UInt8} (h2 : 2 ≤ l.length) : ∃ x0 x1, l[0]? = some x0 ∧ l[1]? = some x1 ∧ x0.toNat * 256 + x1.toNat = nxF l := by
  obtain ⟨x0, h0⟩ : ∃ x, l[0]? = some x := ⟨_, List.getElem?_eq_getElem (by omega)⟩
  obtain ⟨x1, h1⟩ : ∃ x, l[1]? = some x := ⟨_, List.getElem?_eq_getElem (by omega)⟩
  exact ⟨x0, x1, h0, h1, by rw [nxF, getD_of h0, getD_of h1]⟩
theorem Mx.five {G : Option Nat} {w0 w : World} {R : List (Nat × Res)} (M : Mx G w0 w R) (k5 k6 k7 k8 k9 : Nat) : Mx G w0 w ((k9, bytR mZero.l9 vZero.v9) :: (k8, bytR mZero.l8 vZero.v8) :: (k7, bytR mZero.l7 vZero.v7) :: (k6, bytR mZero.l6 vZero.v6) :: (k5, bytR mZero.l5 vZero.v5) :: R) :=
  ((((M.nilB k5).nilB k6).nilB k7).nilB k8).nilB k9
theorem swrite_any {G : Option Nat} {w0 w : World} {R : List (Nat × Res)} (M0 : Mx G w0 w R) (k q kb g : Nat) (l c : List UInt8) (u v : Value) (n : Int) (b : Bool) (hk : look R k = some (blkR g 94 #[u, .int .i64 n, .bool b])) (hq : look R q = some (tlR l u)) (hb : look R kb = some (bytR c v)) (hne : k ≠ q) (hnb : ¬ (kb = k ∨ kb = q))
    (hl : l.length + c.length ≤ 1000000) (hnn : 0 ≤ n ∧ n ≤ 1000000) (ok : Bool) (hok : wrOk n b = ok) :
    Calls Try.prog 28 #[.pointer (some ⟨g, 0, none⟩), v] w fun e w' => ∃ t, e = .returned t ∧ ∃ u', Mx G w0 w' ((k, blkR g 94 #[u', .int .i64 (wrN ok n c), .bool (!ok)]) :: (q, tlR (wrL ok l c) u') :: R) ∧ t = .bool ok := by
  subst hok
  cases b with
  | true => exact swrite_bad M0 k q kb g l c u v n hk hq hb hne hnb hl hnn
  | false =>
    by_cases h : 100000 ≤ n
    · rw [show wrOk n false = false from by unfold wrOk; rw [decide_eq_false (by omega)]; rfl]
      exact swrite_big M0 k q kb g l c u v n hk hq hb hne hnb hl hnn h
    · rw [show wrOk n false = true from by unfold wrOk; rw [decide_eq_true (by omega)]; rfl]
      exact swrite_ok M0 k q kb g l c u v n hk hq hb hne hnb hl hnn h
theorem next_any {G : Option Nat} {w0 w : World} {R : List (Nat × Res)} (M0 : Mx G w0 w R) (k q g : Nat) (l : List UInt8) (u : Value) (n : Int) (b : Bool) (hk : look R k = some (blkR g 94 #[u, .int .i64 n, .bool b])) (hq : look R q = some (tlR l u)) (hne : k ≠ q) (hl : l.length ≤ 1000000) (k5 k6 k7 k8 k9 : Nat) :
    Calls Try.prog 30 #[.pointer (some ⟨g, 0, none⟩)] w fun e w' => ∃ t, e = .returned t ∧ ∃ u' V, Mx G w0 w' ((k9, bytR (nxM l).l9 V.v9) :: (k8, bytR (nxM l).l8 V.v8) :: (k7, bytR (nxM l).l7 V.v7) :: (k6, bytR (nxM l).l6 V.v6) :: (k5, bytR (nxM l).l5 V.v5) :: (k, blkR g 94 #[u', .int .i64 n, .bool (b || nxBad l)]) :: (q, tlR (nxL l) u') :: R) ∧ t = .tuple #[.agg (msgA (nxM l) V), .bool (nxOk l)] := by
  by_cases h2 : l.length < 2
  · obtain ⟨e1, e2⟩ := nx_short h2
    refine (next_short M0 k q g l u n b hk hq hne hl h2).mono fun e w' ⟨t, h1, u', M, ht⟩ => ⟨t, h1, u', vZero, ?_, ?_⟩
    · rw [show nxM l = mZero from by rw [nxM, e1]; rfl, show nxL l = l from by rw [nxL, e1, e2]; rfl, e2, Bool.or_false]; exact M.five k5 k6 k7 k8 k9
    · rw [show nxM l = mZero from by rw [nxM, e1]; rfl, e1]; exact ht
  · have h2 : 2 ≤ l.length := by omega
    obtain ⟨x0, x1, hx0, hx1, hF⟩ := nxF_is h2
    by_cases hf : 200 < nxF l
    · obtain ⟨e1, e2⟩ := nx_over h2 hf
      refine (next_over M0 k q g l u n b hk hq hne hl x0 x1 hx0 hx1 (nxF l) hF h2 hf).mono fun e w' ⟨t, h1, u', M, ht⟩ => ⟨t, h1, u', vZero, ?_, ?_⟩
      · rw [show nxM l = mZero from by rw [nxM, e1]; rfl, show nxL l = [] from by rw [nxL, e1, e2]; rfl, e2, Bool.or_true]; exact M.five k5 k6 k7 k8 k9
      · rw [show nxM l = mZero from by rw [nxM, e1]; rfl, e1]; exact ht
    · have hf : nxF l ≤ 200 := by omega
      by_cases hw : l.length < 2 + nxF l
      · obtain ⟨e1, e2⟩ := nx_wait h2 hf hw
        refine (next_wait M0 k q g l u n b hk hq hne hl x0 x1 hx0 hx1 (nxF l) hF h2 hf hw).mono fun e w' ⟨t, h1, u', M, ht⟩ => ⟨t, h1, u', vZero, ?_, ?_⟩
        · rw [show nxM l = mZero from by rw [nxM, e1]; rfl, show nxL l = l from by rw [nxL, e1, e2]; rfl, e2, Bool.or_false]; exact M.five k5 k6 k7 k8 k9
        · rw [show nxM l = mZero from by rw [nxM, e1]; rfl, e1]; exact ht
      · have hw : 2 + nxF l ≤ l.length := by omega
        obtain ⟨e1, e2⟩ := nx_whole h2 hf hw
        cases hD : decOk (l.take (2 + nxF l)) with
        | true =>
          rw [hD] at e1 e2
          refine (next_ok M0 k q g l u n b hk hq hne hl k5 k6 k7 k8 k9 x0 x1 hx0 hx1 (nxF l) hF h2 hf hw hD).mono fun e w' ⟨t, h1, u', V, M, ht⟩ => ⟨t, h1, u', V, ?_, ?_⟩
          · rw [show nxM l = decR (l.take (2 + nxF l)) from by rw [nxM, e1]; rfl, show nxL l = l.drop (2 + nxF l) from by rw [nxL, e1]; rfl, e2, Bool.not_true, Bool.or_false]; exact M
          · rw [show nxM l = decR (l.take (2 + nxF l)) from by rw [nxM, e1]; rfl, e1]; exact ht
        | false =>
          rw [hD] at e1 e2
          refine (next_no M0 k q g l u n b hk hq hne hl x0 x1 hx0 hx1 (nxF l) hF h2 hf hw hD).mono fun e w' ⟨t, h1, u', M, ht⟩ => ⟨t, h1, u', vZero, ?_, ?_⟩
          · rw [show nxM l = mZero from by rw [nxM, e1]; rfl, show nxL l = [] from by rw [nxL, e1, e2]; rfl, e2, Bool.not_false, Bool.or_true]; exact M.five k5 k6 k7 k8 k9
          · rw [show nxM l = mZero from by rw [nxM, e1]; rfl, e1]; exact ht
end Go.Proofs.Ytlbkogdmojlpmaa
namespace Go.Proofs.Ytlbkogdmojlpmaa
set_option linter.unusedVariables false
set_option maxRecDepth 20000
set_option linter.unusedSimpArgs false
open Go.ChangeShapes Go.WideShapes Go.ChangeAt Go.RowKit
set_option maxHeartbeats 400000 in
theorem within5_any (a n : Int) (hn : 0 < n) (hn' : n < 9223372036854775808) (ha : -9223372036854775808 ≤ a) (ha' : a < 9223372036854775808) (w : World) :
    Calls Try.prog 22 #[.int .i64 a, .int .i64 n] w fun e w' => e = .returned (.int .i64 (a % n)) ∧ w = w' := by
  obtain ⟨h1, h2, h3, h4⟩ := tmod_case a n hn
  have hz : (n == 0) = false := by simp; omega
  by_cases h : a.tmod n < 0
  · have H := hid (h2 h)
    clear h1 h2
    go_enter Try.func22, Try.ntmps22
    go_wp2
    go_ret
    exact ⟨congrArg (fun x => Ending.returned (.int .i64 x)) H.out, rfl⟩
  · have H := hid (h1 (by omega))
    clear h1 h2
    go_enter Try.func22, Try.ntmps22
    go_wp2
    go_ret
    exact ⟨congrArg (fun x => Ending.returned (.int .i64 x)) H.out, rfl⟩
end Go.Proofs.Ytlbkogdmojlpmaa
