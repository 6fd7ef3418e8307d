/- What WireRecords stands on, part 7. -/
import Derived.Test.YtlbkogdmojlpmaaWireRecordsP1
import Derived.Test.YtlbkogdmojlpmaaWireRecordsP2
import Derived.Test.YtlbkogdmojlpmaaWireRecordsP3
import Derived.Test.YtlbkogdmojlpmaaWireRecordsP4
import Derived.Test.YtlbkogdmojlpmaaWireRecordsP5
import Derived.Test.YtlbkogdmojlpmaaWireRecordsP6
namespace Go.Proofs.Ytlbkogdmojlpmaa
set_option linter.unusedVariables false
set_option maxRecDepth 20000
set_option linter.unusedSimpArgs false
open Go.ChangeShapes Go.WideShapes Go.ChangeAt Go.RowKit
theorem or_i64 (p c : Nat) (h1 : p < 36028797018963968) (h3 : c < 256) : bits .or .i64 ((p : Int) * 256) (c : Int) = ((p * 256 + c : Nat) : Int) := by
  rw [show (p : Int) * 256 = ((p * 256 : Nat) : Int) by omega, (bits_nat .i64 63 (by decide) (fun n h0 h1 => Go.IntWalk.i64_in n (by omega)) (p * 256) c (by omega) (by omega)).2, nat_join 8 (p * 256) c (by omega) (by omega)]
theorem shl8 {p : Nat} (h : p < 36028797018963968) : IntKind.i64.wrap (((p : Nat) : Int) * 2 ^ (8 : Int).toNat) = ((p : Nat) : Int) * 256 := by
  rw [show (2 : Int) ^ (8 : Int).toNat = 256 from rfl, IntKind.wrap_i64]; omega
theorem readN_next {l : List UInt8} {j : Nat} {y : UInt8} (h : l[j]? = some y) : readN (l.take (j + 1)) = readN (l.take j) * 256 + y.toNat := by
  rw [List.take_add_one, h]; exact readN_snoc _ _
theorem eight_lt {l : List UInt8} {x : UInt8} (hl : l.length = 8) (h0 : l[0]? = some x) : readN l < 9223372036854775808 ↔ ¬ 127 < ((x.toNat : Nat) : Int) := by
  cases l with
  | nil => cases h0
  | cons y r =>
    cases h0
    have hr : r.length = 7 := by simpa using hl
    have h1 := readN_lt r
    rw [hr] at h1
    rw [readN_cons, hr]
    have e : (256 : Nat) ^ 7 = 72057594037927936 := by decide
    rw [e] at h1 ⊢
    omega
theorem pre_lt {l : List UInt8} (h : l.length < 8 ∨ (l.length = 8 ∧ ∃ x, l[0]? = some x ∧ ¬ 127 < ((x.toNat : Nat) : Int))) (j : Nat) (hj : j < l.length) : readN (l.take j) < 36028797018963968 := by
  have h1 := readN_lt (l.take j)
  rw [List.length_take, Nat.min_eq_left (Nat.le_of_lt hj)] at h1
  have e6 : (256 : Nat) ^ 6 = 281474976710656 := by decide
  rcases h with h | ⟨h, x, hx, hb⟩
  · have : (256 : Nat) ^ j ≤ 256 ^ 6 := Nat.pow_le_pow_right (by omega) (by omega)
    omega
  · by_cases hj7 : j < 7
    · have : (256 : Nat) ^ j ≤ 256 ^ 6 := Nat.pow_le_pow_right (by omega) (by omega)
      omega
    · obtain rfl : j = 7 := by omega
      cases l with
      | nil => cases hx
      | cons y r =>
        cases hx
        have hr : (r.take 6).length = 6 := by simp at h ⊢; omega
        have h2 := readN_lt (r.take 6)
        rw [hr, e6] at h2
        rw [List.take_succ_cons, readN_cons, hr, e6]
        omega
set_option maxRecDepth 100000 in
set_option maxHeartbeats 4000000 in
theorem number_long (l : List UInt8) (v : Value) (hl : 8 < l.length) (hm : l.length ≤ 100000) (w : World) (hv : IsB w l v) :
    Calls Try.prog 81 #[v] w fun e w' => e = .returned (.tuple #[.int .i64 0, .bool false]) ∧ Below w.heap.size w w' := by
  refine calls_fx (args := [v]) 34 Try.func81 rfl rfl rfl ?_
  intro fa F
  have M := Mx.start w
  replace M := M.argB 0 hv (fun g e => by cases e)
  refine wp_seq_k fun K1 hK1 => wp_region_lit ?_
  refine rm rfl F fun a2 F2 => ?_
  refine rm rfl F2 fun a3 F3 => ?_
  refine hK1 _ _ (wp_seq_k fun K4 hK4 => ?_)
  refine wp_seq_k fun K5 hK5 => wp_region_lit ?_
  refine rm rfl F3 fun a6 F6 => ?_
  refine rn rfl rfl F6 rfl (.int .i64 (l.length : Int)) (y_len _ rfl (F6.get rfl) (M.isb (k := 0) rfl) rfl) fun a7 F7 => ?_
  refine rn rfl rfl F7 rfl (.bool true) (y_gtr _ _ _ _ rfl (F7.get rfl) rfl (decide_eq_true (by omega))) fun a8 F8 => ?_
  refine exS 11 [(0, v), (2, .int .i64 0), (3, .bool false), (20, .bool true)] [] dnil [] F8 (by kernel_rfl) fun a9 F9 => ?_
  simp only [List.drop_succ_cons, List.drop_zero]
  refine hK5 _ _ (wp_cond_true (F9.get (t := 20) rfl) ?_)
  refine wp_seq_k fun K10 hK10 => wp_region_lit ?_
  refine rm rfl F9 fun a11 F11 => ?_
  refine rm rfl F11 fun a12 F12 => ?_
  refine hK10 _ _ (wp_ret ?_)
  try simp only [Exit.then, Exit.inBlock, Exit.jump]
  exact bodyPost_ret (res2 rfl (F12.get (t := 2) rfl) (F12.get (t := 3) rfl)) F12.defers ⟨rfl, M.below⟩
set_option maxRecDepth 100000 in
set_option maxHeartbeats 4000000 in
theorem number_big (l : List UInt8) (v : Value) (xb : UInt8) (hl : l.length = 8) (h0 : l[0]? = some xb) (hx : 127 < ((xb.toNat : Nat) : Int)) (w : World) (hv : IsB w l v) :
    Calls Try.prog 81 #[v] w fun e w' => e = .returned (.tuple #[.int .i64 0, .bool false]) ∧ Below w.heap.size w w' := by
  refine calls_fx (args := [v]) 34 Try.func81 rfl rfl rfl ?_
  intro fa F
  have M := Mx.start w
  replace M := M.argB 0 hv (fun g e => by cases e)
  refine wp_seq_k fun K1 hK1 => wp_region_lit ?_
  refine rm rfl F fun a2 F2 => ?_
  refine rm rfl F2 fun a3 F3 => ?_
  refine hK1 _ _ (wp_seq_k fun K4 hK4 => ?_)
  refine wp_seq_k fun K5 hK5 => wp_region_lit ?_
  refine rm rfl F3 fun a6 F6 => ?_
  refine rn rfl rfl F6 rfl (.int .i64 (l.length : Int)) (y_len _ rfl (F6.get rfl) (M.isb (k := 0) rfl) rfl) fun a7 F7 => ?_
  refine rn rfl rfl F7 rfl (.bool false) (y_gtr _ _ _ _ rfl (F7.get rfl) rfl (decide_eq_false (by omega))) fun a8 F8 => ?_
  refine rm rfl F8 fun a9 F9 => ?_
  refine rm rfl F9 fun a10 F10 => ?_
  refine wl_run (w' := w) (wanted_yes rfl rfl rfl (F10.get rfl)) rfl F10 rfl (.int .i64 (l.length : Int)) (y_len _ rfl (F10.get rfl) (M.isb (k := 0) rfl) rfl) fun a11 F11 => ?_
  refine wl_run (w' := w) (wanted_yes rfl rfl rfl (F11.get rfl)) rfl F11 rfl (.bool true) (y_eqI _ _ _ _ rfl (F11.get rfl) rfl Try.underlying3 (y_beqT (by omega))) fun a12 F12 => ?_
  refine rm rfl F12 fun a13 F13 => ?_
  refine rm rfl F13 fun a14 F14 => ?_
  refine wl_run (w' := w) (wanted_yes rfl rfl rfl (F14.get rfl)) rfl F14 rfl ((ixV (v) 0)) (y_ixB _ _ rfl (F14.get rfl) (M.isb (k := 0) rfl) rfl rfl (by omega)) fun a15 F15 => ?_
  refine wl_run (w' := w) (wanted_yes rfl rfl rfl (F15.get rfl)) rfl F15 rfl (.int .u8 ((xb.toNat : Nat) : Int)) (y_ldB _ rfl (F15.get rfl) (M.isb (k := 0) rfl) h0 rfl) fun a16 F16 => ?_
  refine wl_run (w' := w) (wanted_yes rfl rfl rfl (F16.get rfl)) rfl F16 rfl (.bool true) (y_gtr _ _ _ _ rfl (F16.get rfl) rfl (decide_eq_true hx)) fun a17 F17 => ?_
  refine exS 2 [(0, v), (2, .int .i64 0), (3, .bool false), (20, .bool true)] [] dnil [] F17 (by kernel_rfl) fun a18 F18 => ?_
  simp only [List.drop_succ_cons, List.drop_zero]
  refine hK5 _ _ (wp_cond_true (F18.get (t := 20) rfl) ?_)
  refine wp_seq_k fun K19 hK19 => wp_region_lit ?_
  refine rm rfl F18 fun a20 F20 => ?_
  refine rm rfl F20 fun a21 F21 => ?_
  refine hK19 _ _ (wp_ret ?_)
  try simp only [Exit.then, Exit.inBlock, Exit.jump]
  exact bodyPost_ret (res2 rfl (F21.get (t := 2) rfl) (F21.get (t := 3) rfl)) F21.defers ⟨rfl, M.below⟩
set_option maxRecDepth 100000 in
set_option maxHeartbeats 4000000 in
theorem number_short (l : List UInt8) (v : Value) (hl : l.length < 8) (w : World) (hv : IsB w l v) :
    Calls Try.prog 81 #[v] w fun e w' => e = .returned (.tuple #[.int .i64 ((readN l : Nat) : Int), .bool true]) ∧ Below w.heap.size w w' := by
  have hpre := pre_lt (.inl hl)
  refine calls_fx (args := [v]) 34 Try.func81 rfl rfl rfl ?_
  intro fa F
  have M := Mx.start w
  replace M := M.argB 0 hv (fun g e => by cases e)
  refine wp_seq_k fun K1 hK1 => wp_region_lit ?_
  refine rm rfl F fun a2 F2 => ?_
  refine rm rfl F2 fun a3 F3 => ?_
  refine hK1 _ _ (wp_seq_k fun K4 hK4 => ?_)
  refine wp_seq_k fun K5 hK5 => wp_region_lit ?_
  refine rm rfl F3 fun a6 F6 => ?_
  refine rn rfl rfl F6 rfl (.int .i64 (l.length : Int)) (y_len _ rfl (F6.get rfl) (M.isb (k := 0) rfl) rfl) fun a7 F7 => ?_
  refine rn rfl rfl F7 rfl (.bool false) (y_gtr _ _ _ _ rfl (F7.get rfl) rfl (decide_eq_false (by omega))) fun a8 F8 => ?_
  refine rm rfl F8 fun a9 F9 => ?_
  refine rm rfl F9 fun a10 F10 => ?_
  refine wl_run (w' := w) (wanted_yes rfl rfl rfl (F10.get rfl)) rfl F10 rfl (.int .i64 (l.length : Int)) (y_len _ rfl (F10.get rfl) (M.isb (k := 0) rfl) rfl) fun a11 F11 => ?_
  refine wl_run (w' := w) (wanted_yes rfl rfl rfl (F11.get rfl)) rfl F11 rfl (.bool false) (y_eqI _ _ _ _ rfl (F11.get rfl) rfl Try.underlying3 (y_beqF (by omega))) fun a12 F12 => ?_
  refine exS 7 [(0, v), (2, .int .i64 0), (3, .bool false), (20, .bool false)] [] dnil [] F12 (by kernel_rfl) fun a13 F13 => ?_
  simp only [List.drop_succ_cons, List.drop_zero]
  refine hK5 _ _ (wp_cond_false (F13.get (t := 20) rfl) ?_)
  refine wp_skip ?_
  refine hK4 _ _ (wp_seq_k fun K14 hK14 => ?_)
  refine wp_region_lit ?_
  refine rm rfl F13 fun a15 F15 => ?_
  refine hK14 _ _ (wp_seq_k fun K16 hK16 => ?_)
  refine wp_seq_k fun K17 hK17 => wp_region_lit ?_
  refine rm rfl F15 fun a18 F18 => ?_
  refine rn rfl rfl F18 rfl (.int .i64 (l.length : Int)) (y_len _ rfl (F18.get rfl) (M.isb (k := 0) rfl) rfl) fun a19 F19 => ?_
  refine rm rfl F19 fun a20 F20 => ?_
  refine hK17 _ _ (wp_block ?_)
  refine loop_fx (α := Nat) (n := 34) (G := none) (w0 := w) (fun x => [(0, v), (2, .int .i64 0), (3, .bool false), (20, .bool false), (21, v), (22, .int .i64 (l.length : Int)), (23, .int .i64 (x : Int)), (4, .int .i64 ((readN (l.take x) : Nat) : Int))]) (fun x => [(0, bytR l v)]) (fun k x => k = l.length - x ∧ (x ≤ l.length)) _ 0 ⟨rfl, (Nat.zero_le _)⟩ (F20.sub ⟨rfl, rfl, rfl, rfl, rfl, rfl, rfl, (by rw [List.take_zero]; rfl), trivial⟩) (M.sub ⟨rfl, trivial⟩) ?_
  clear F20 M
  rintro k21 jn a21 w21 K21 ⟨ek21, I21⟩ F21 M21 hK21
  replace F21 : Fx 34 a21 [(0, v), (2, .int .i64 0), (3, .bool false), (20, .bool false), (21, v), (22, .int .i64 (l.length : Int)), (23, .int .i64 (jn : Int)), (4, .int .i64 ((readN (l.take jn) : Nat) : Int))] := F21
  replace M21 : Mx _ _ w21 [(0, bytR l v)] := M21
  replace I21 : jn ≤ l.length := I21
  replace ek21 : k21 = l.length - jn := ek21
  by_cases hlt : jn < l.length
  rotate_left
  · obtain rfl : jn = l.length := by omega
    refine wp_seq_k fun K38 hK38 => wp_region_lit ?_
    refine rn rfl rfl F21 rfl (.bool false) (y_lss _ _ _ _ rfl (F21.get rfl) (F21.get rfl) (decide_eq_false (Int.lt_irrefl _))) fun a39 F39 => ?_
    refine hK38 _ _ (wp_seq_k fun K40 hK40 => ?_)
    refine wp_cond_false (F39.get (t := 24) rfl) ?_
    refine wp_exit ?_
    simp only [Exit.then, Exit.inBlock, ↓reduceIte, Nat.reduceEqDiff]
    refine hK16 _ _ (wp_seq_k fun K41 hK41 => ?_)
    refine wp_region_lit ?_
    refine rm rfl F39 fun a42 F42 => ?_
    refine rm rfl F42 fun a43 F43 => ?_
    refine rm rfl F43 fun a44 F44 => ?_
    refine hK41 _ _ (wp_ret ?_)
    try simp only [Exit.then, Exit.inBlock, Exit.jump]
    exact bodyPost_ret (res2 rfl (F44.get (t := 2) rfl) (F44.get (t := 3) rfl)) F44.defers ⟨by rw [List.take_length], M21.below⟩
  obtain ⟨y, hy⟩ : ∃ y, l[jn]? = some y := ⟨_, List.getElem?_eq_getElem hlt⟩
  have hsn := readN_next hy
  have hpb := hpre jn hlt
  have hyb := y.toNat_lt
  refine wp_seq_k fun K22 hK22 => wp_region_lit ?_
  refine rn rfl rfl F21 rfl (.bool true) (y_lss _ _ _ _ rfl (F21.get rfl) (F21.get rfl) (decide_eq_true (show (jn : Int) < (l.length : Int) by omega))) fun a23 F23 => ?_
  refine hK22 _ _ (wp_seq_k fun K24 hK24 => ?_)
  refine wp_cond_true (F23.get (t := 24) rfl) ?_
  refine wp_skip ?_
  refine hK24 _ _ (wp_seq_k fun K25 hK25 => ?_)
  refine wp_block ?_
  refine wp_seq_k fun K26 hK26 => wp_region_lit ?_
  refine rn rfl rfl F23 rfl ((ixV (v) jn)) (y_ixB _ _ rfl (F23.get rfl) (M21.isb (k := 0) rfl) (F23.get rfl) rfl hlt) fun a27 F27 => ?_
  refine rn rfl rfl F27 rfl (.int .u8 ((y.toNat : Nat) : Int)) (y_ldB _ rfl (F27.get rfl) (M21.isb (k := 0) rfl) hy rfl) fun a28 F28 => ?_
  refine rm rfl F28 fun a29 F29 => ?_
  refine hK26 _ _ (wp_region_lit ?_)
  refine rm rfl F29 fun a30 F30 => ?_
  refine rn rfl rfl F30 rfl (.int .i64 (((readN (l.take jn) : Nat) : Int) * 256)) (y_shlI _ _ _ _ rfl (F30.get rfl) rfl (by decide) (shl8 hpb)) fun a31 F31 => ?_
  refine rm rfl F31 fun a32 F32 => ?_
  refine rn rfl rfl F32 rfl (.int .i64 ((y.toNat : Nat) : Int)) (y_cvI _ _ _ rfl (F32.get rfl) Try.underlying5 Try.underlying3 (byte_i64 _)) fun a33 F33 => ?_
  refine rn rfl rfl F33 rfl (.int .i64 ((readN (l.take (jn + 1)) : Nat) : Int)) (y_orU _ _ _ _ rfl (F33.get rfl) (F33.get rfl) (by rw [or_i64 _ _ hpb hyb, hsn])) fun a34 F34 => ?_
  refine rm rfl F34 fun a35 F35 => ?_
  refine hK25 _ _ (wp_region_lit ?_)
  refine rn rfl rfl F35 rfl (.int .i64 ((jn + 1 : Nat) : Int)) (y_addI _ _ _ _ rfl (F35.get rfl) rfl (by omega) (by omega)) fun a36 F36 => ?_
  refine rm rfl F36 fun a37 F37 => ?_
  subst ek21
  exact hK21 _ (jn + 1) _ _ (by omega) ⟨rfl, (by omega)⟩ (F37.sub ⟨rfl, rfl, rfl, rfl, rfl, rfl, rfl, rfl, trivial⟩) (M21.sub ⟨rfl, trivial⟩)
set_option maxRecDepth 100000 in
set_option maxHeartbeats 4000000 in
theorem number_eight (l : List UInt8) (v : Value) (xb : UInt8) (hl : l.length = 8) (h0 : l[0]? = some xb) (hx : ¬ 127 < ((xb.toNat : Nat) : Int)) (w : World) (hv : IsB w l v) :
    Calls Try.prog 81 #[v] w fun e w' => e = .returned (.tuple #[.int .i64 ((readN l : Nat) : Int), .bool true]) ∧ Below w.heap.size w w' := by
  have hpre := pre_lt (.inr ⟨hl, xb, h0, hx⟩)
  refine calls_fx (args := [v]) 34 Try.func81 rfl rfl rfl ?_
  intro fa F
  have M := Mx.start w
  replace M := M.argB 0 hv (fun g e => by cases e)
  refine wp_seq_k fun K1 hK1 => wp_region_lit ?_
  refine rm rfl F fun a2 F2 => ?_
  refine rm rfl F2 fun a3 F3 => ?_
  refine hK1 _ _ (wp_seq_k fun K4 hK4 => ?_)
  refine wp_seq_k fun K5 hK5 => wp_region_lit ?_
  refine rm rfl F3 fun a6 F6 => ?_
  refine rn rfl rfl F6 rfl (.int .i64 (l.length : Int)) (y_len _ rfl (F6.get rfl) (M.isb (k := 0) rfl) rfl) fun a7 F7 => ?_
  refine rn rfl rfl F7 rfl (.bool false) (y_gtr _ _ _ _ rfl (F7.get rfl) rfl (decide_eq_false (by omega))) fun a8 F8 => ?_
  refine rm rfl F8 fun a9 F9 => ?_
  refine rm rfl F9 fun a10 F10 => ?_
  refine wl_run (w' := w) (wanted_yes rfl rfl rfl (F10.get rfl)) rfl F10 rfl (.int .i64 (l.length : Int)) (y_len _ rfl (F10.get rfl) (M.isb (k := 0) rfl) rfl) fun a11 F11 => ?_
  refine wl_run (w' := w) (wanted_yes rfl rfl rfl (F11.get rfl)) rfl F11 rfl (.bool true) (y_eqI _ _ _ _ rfl (F11.get rfl) rfl Try.underlying3 (y_beqT (by omega))) fun a12 F12 => ?_
  refine rm rfl F12 fun a13 F13 => ?_
  refine rm rfl F13 fun a14 F14 => ?_
  refine wl_run (w' := w) (wanted_yes rfl rfl rfl (F14.get rfl)) rfl F14 rfl ((ixV (v) 0)) (y_ixB _ _ rfl (F14.get rfl) (M.isb (k := 0) rfl) rfl rfl (by omega)) fun a15 F15 => ?_
  refine wl_run (w' := w) (wanted_yes rfl rfl rfl (F15.get rfl)) rfl F15 rfl (.int .u8 ((xb.toNat : Nat) : Int)) (y_ldB _ rfl (F15.get rfl) (M.isb (k := 0) rfl) h0 rfl) fun a16 F16 => ?_
  refine wl_run (w' := w) (wanted_yes rfl rfl rfl (F16.get rfl)) rfl F16 rfl (.bool false) (y_gtr _ _ _ _ rfl (F16.get rfl) rfl (decide_eq_false hx)) fun a17 F17 => ?_
  refine exS 2 [(0, v), (2, .int .i64 0), (3, .bool false), (20, .bool false)] [] dnil [] F17 (by kernel_rfl) fun a18 F18 => ?_
  simp only [List.drop_succ_cons, List.drop_zero]
  refine hK5 _ _ (wp_cond_false (F18.get (t := 20) rfl) ?_)
  refine wp_skip ?_
  refine hK4 _ _ (wp_seq_k fun K19 hK19 => ?_)
  refine wp_region_lit ?_
  refine rm rfl F18 fun a20 F20 => ?_
  refine hK19 _ _ (wp_seq_k fun K21 hK21 => ?_)
  refine wp_seq_k fun K22 hK22 => wp_region_lit ?_
  refine rm rfl F20 fun a23 F23 => ?_
  refine rn rfl rfl F23 rfl (.int .i64 (l.length : Int)) (y_len _ rfl (F23.get rfl) (M.isb (k := 0) rfl) rfl) fun a24 F24 => ?_
  refine rm rfl F24 fun a25 F25 => ?_
  refine hK22 _ _ (wp_block ?_)
  refine loop_fx (α := Nat) (n := 34) (G := none) (w0 := w) (fun x => [(0, v), (2, .int .i64 0), (3, .bool false), (20, .bool false), (21, v), (22, .int .i64 (l.length : Int)), (23, .int .i64 (x : Int)), (4, .int .i64 ((readN (l.take x) : Nat) : Int))]) (fun x => [(0, bytR l v)]) (fun k x => k = l.length - x ∧ (x ≤ l.length)) _ 0 ⟨rfl, (Nat.zero_le _)⟩ (F25.sub ⟨rfl, rfl, rfl, rfl, rfl, rfl, rfl, (by rw [List.take_zero]; rfl), trivial⟩) (M.sub ⟨rfl, trivial⟩) ?_
  clear F25 M
  rintro k26 jn a26 w26 K26 ⟨ek26, I26⟩ F26 M26 hK26
  replace F26 : Fx 34 a26 [(0, v), (2, .int .i64 0), (3, .bool false), (20, .bool false), (21, v), (22, .int .i64 (l.length : Int)), (23, .int .i64 (jn : Int)), (4, .int .i64 ((readN (l.take jn) : Nat) : Int))] := F26
  replace M26 : Mx _ _ w26 [(0, bytR l v)] := M26
  replace I26 : jn ≤ l.length := I26
  replace ek26 : k26 = l.length - jn := ek26
  by_cases hlt : jn < l.length
  rotate_left
  · obtain rfl : jn = l.length := by omega
    refine wp_seq_k fun K43 hK43 => wp_region_lit ?_
    refine rn rfl rfl F26 rfl (.bool false) (y_lss _ _ _ _ rfl (F26.get rfl) (F26.get rfl) (decide_eq_false (Int.lt_irrefl _))) fun a44 F44 => ?_
    refine hK43 _ _ (wp_seq_k fun K45 hK45 => ?_)
    refine wp_cond_false (F44.get (t := 24) rfl) ?_
    refine wp_exit ?_
    simp only [Exit.then, Exit.inBlock, ↓reduceIte, Nat.reduceEqDiff]
    refine hK21 _ _ (wp_seq_k fun K46 hK46 => ?_)
    refine wp_region_lit ?_
    refine rm rfl F44 fun a47 F47 => ?_
    refine rm rfl F47 fun a48 F48 => ?_
    refine rm rfl F48 fun a49 F49 => ?_
    refine hK46 _ _ (wp_ret ?_)
    try simp only [Exit.then, Exit.inBlock, Exit.jump]
    exact bodyPost_ret (res2 rfl (F49.get (t := 2) rfl) (F49.get (t := 3) rfl)) F49.defers ⟨by rw [List.take_length], M26.below⟩
  obtain ⟨y, hy⟩ : ∃ y, l[jn]? = some y := ⟨_, List.getElem?_eq_getElem hlt⟩
  have hsn := readN_next hy
  have hpb := hpre jn hlt
  have hyb := y.toNat_lt
  refine wp_seq_k fun K27 hK27 => wp_region_lit ?_
  refine rn rfl rfl F26 rfl (.bool true) (y_lss _ _ _ _ rfl (F26.get rfl) (F26.get rfl) (decide_eq_true (show (jn : Int) < (l.length : Int) by omega))) fun a28 F28 => ?_
  refine hK27 _ _ (wp_seq_k fun K29 hK29 => ?_)
  refine wp_cond_true (F28.get (t := 24) rfl) ?_
  refine wp_skip ?_
  refine hK29 _ _ (wp_seq_k fun K30 hK30 => ?_)
  refine wp_block ?_
  refine wp_seq_k fun K31 hK31 => wp_region_lit ?_
  refine rn rfl rfl F28 rfl ((ixV (v) jn)) (y_ixB _ _ rfl (F28.get rfl) (M26.isb (k := 0) rfl) (F28.get rfl) rfl hlt) fun a32 F32 => ?_
  refine rn rfl rfl F32 rfl (.int .u8 ((y.toNat : Nat) : Int)) (y_ldB _ rfl (F32.get rfl) (M26.isb (k := 0) rfl) hy rfl) fun a33 F33 => ?_
  refine rm rfl F33 fun a34 F34 => ?_
  refine hK31 _ _ (wp_region_lit ?_)
  refine rm rfl F34 fun a35 F35 => ?_
  refine rn rfl rfl F35 rfl (.int .i64 (((readN (l.take jn) : Nat) : Int) * 256)) (y_shlI _ _ _ _ rfl (F35.get rfl) rfl (by decide) (shl8 hpb)) fun a36 F36 => ?_
  refine rm rfl F36 fun a37 F37 => ?_
  refine rn rfl rfl F37 rfl (.int .i64 ((y.toNat : Nat) : Int)) (y_cvI _ _ _ rfl (F37.get rfl) Try.underlying5 Try.underlying3 (byte_i64 _)) fun a38 F38 => ?_
  refine rn rfl rfl F38 rfl (.int .i64 ((readN (l.take (jn + 1)) : Nat) : Int)) (y_orU _ _ _ _ rfl (F38.get rfl) (F38.get rfl) (by rw [or_i64 _ _ hpb hyb, hsn])) fun a39 F39 => ?_
  refine rm rfl F39 fun a40 F40 => ?_
  refine hK30 _ _ (wp_region_lit ?_)
  refine rn rfl rfl F40 rfl (.int .i64 ((jn + 1 : Nat) : Int)) (y_addI _ _ _ _ rfl (F40.get rfl) rfl (by omega) (by omega)) fun a41 F41 => ?_
  refine rm rfl F41 fun a42 F42 => ?_
  subst ek26
  exact hK26 _ (jn + 1) _ _ (by omega) ⟨rfl, (by omega)⟩ (F42.sub ⟨rfl, rfl, rfl, rfl, rfl, rfl, rfl, rfl, trivial⟩) (M26.sub ⟨rfl, trivial⟩)
def numOk (l : List UInt8) : Bool := decide (l.length ≤ 8 ∧ readN l < 9223372036854775808)
def numI (l : List UInt8) : Int := if numOk l = true then ((readN l : Nat) : Int) else 0
theorem number_any (l : List UInt8) (v : Value) (hm : l.length ≤ 100000) (w : World) (hv : IsB w l v) : Calls Try.prog 81 #[v] w fun e w' => e = .returned (.tuple #[.int .i64 (numI l), .bool (numOk l)]) ∧ Below w.heap.size w w' := by
  unfold numI
  by_cases h8 : 8 < l.length
  · have : numOk l = false := decide_eq_false (by omega)
    rw [this]
    exact number_long l v h8 hm w hv
  · by_cases he : l.length = 8
    · obtain ⟨x, hx⟩ : ∃ x, l[0]? = some x := ⟨_, List.getElem?_eq_getElem (by omega)⟩
      have hb := eight_lt he hx
      by_cases hb2 : 127 < ((x.toNat : Nat) : Int)
      · have : numOk l = false := decide_eq_false (by omega)
        rw [this]
        exact number_big l v x he hx hb2 w hv
      · have : numOk l = true := decide_eq_true (by omega)
        rw [this]
        exact number_eight l v x he hx hb2 w hv
    · have h1 := readN_lt l
      have h2 : (256 : Nat) ^ l.length ≤ 256 ^ 7 := Nat.pow_le_pow_right (by omega) (by omega)
      have h3 : (256 : Nat) ^ 7 = 72057594037927936 := by decide
      have : numOk l = true := decide_eq_true (by omega)
      rw [this]
      exact number_short l v (by omega) w hv
end Go.Proofs.Ytlbkogdmojlpmaa
namespace Go.Proofs.Ytlbkogdmojlpmaa
set_option linter.unusedVariables false
set_option maxRecDepth 20000
set_option linter.unusedSimpArgs false
open Go.ChangeShapes Go.WideShapes Go.ChangeAt Go.RowKit
set_option maxRecDepth 100000 in
set_option maxHeartbeats 4000000 in
theorem clone_none  (w : World) :
    Calls Try.prog 80 #[.slice none 0 0] w fun e w' => e = .returned (.slice none 0 0) ∧ Below w.heap.size w w' := by
  refine calls_fx (args := [.slice none 0 0]) 8 Try.func80 rfl rfl rfl ?_
  intro fa F
  have M := Mx.start w
  refine wp_seq_k fun K1 hK1 => wp_region_lit ?_
  refine rm rfl F fun a2 F2 => ?_
  refine hK1 _ _ (wp_seq_k fun K3 hK3 => ?_)
  refine wp_seq_k fun K4 hK4 => wp_region_lit ?_
  refine rm rfl F2 fun a5 F5 => ?_
  refine rn rfl rfl F5 rfl (.bool true) (y_nilB _ _ rfl (F5.get rfl) rfl) fun a6 F6 => ?_
  refine hK4 _ _ (wp_cond_true (F6.get (t := 4) rfl) ?_)
  refine wp_seq_k fun K7 hK7 => wp_region_lit ?_
  refine rm rfl F6 fun a8 F8 => ?_
  refine hK7 _ _ (wp_ret ?_)
  try simp only [Exit.then, Exit.inBlock, Exit.jump]
  exact bodyPost_ret (res1 rfl (F8.get (t := 2) rfl)) F8.defers ⟨rfl, M.below⟩
set_option maxRecDepth 100000 in
set_option maxHeartbeats 4000000 in
theorem clone_some (l : List UInt8) (p : Addr) (c : Nat) (hm : l.length ≤ 100000) (w : World) (hv : IsB w l (.slice (some p) l.length c)) :
    Calls Try.prog 80 #[.slice (some p) l.length c] w fun e w' => ∃ v, e = .returned v ∧ Byt w' w.heap.size v l ∧ Below w.heap.size w w' := by
  refine calls_fx (args := [.slice (some p) l.length c]) 8 Try.func80 rfl rfl rfl ?_
  intro fa F
  have M := Mx.start w
  replace M := M.argB 0 hv (fun g e => by cases e)
  refine wp_seq_k fun K1 hK1 => wp_region_lit ?_
  refine rm rfl F fun a2 F2 => ?_
  refine hK1 _ _ (wp_seq_k fun K3 hK3 => ?_)
  refine wp_seq_k fun K4 hK4 => wp_region_lit ?_
  refine rm rfl F2 fun a5 F5 => ?_
  refine rn rfl rfl F5 rfl (.bool false) (y_nilB _ _ rfl (F5.get rfl) rfl) fun a6 F6 => ?_
  refine hK4 _ _ (wp_cond_false (F6.get (t := 4) rfl) ?_)
  refine wp_skip ?_
  refine hK3 _ _ (wp_seq_k fun K7 hK7 => ?_)
  refine wp_region_lit ?_
  refine wl_runM (wanted_none rfl) rfl F6 rfl (run_lit0 M 1 rfl) ?_
  intro v8 a8 w8 F8 M8
  clear F6 M
  obtain ⟨A8, c8, rfl⟩ := (M8.isO (k := 1) rfl).shape
  refine rm rfl F8 fun a9 F9 => ?_
  refine wl_runM (wanted_none rfl) rfl F9 rfl (run_app M8 (k := 1) rfl _ _ rfl (F9.get rfl) (F9.get rfl) (M8.isb (k := 0) rfl) (by simp only [List.length_nil]; omega)) ?_
  intro v10 a10 w10 F10 M10
  clear F9 M8
  obtain ⟨A10, c10, rfl⟩ := (M10.isO (k := 1) rfl).shape
  refine rm rfl F10 fun a11 F11 => ?_
  refine hK7 _ _ (wp_ret ?_)
  try simp only [Exit.then, Exit.inBlock, Exit.jump]
  exact bodyPost_ret (res1 rfl (F11.get (t := 2) rfl)) F11.defers ⟨_, rfl, (by have h := M10.byt (k := 1) rfl; rwa [List.nil_append] at h), M10.below⟩
theorem clone_any (l : List UInt8) (v : Value) (hm : l.length ≤ 100000) (w : World) (hv : IsB w l v) : Calls Try.prog 80 #[v] w fun e w' => ∃ u, e = .returned u ∧ Byt w' w.heap.size u l ∧ Below w.heap.size w w' := by
  obtain ⟨A, c, rfl, h1, h2, h3, h4⟩ := id hv
  cases A with
  | none =>
    have hc := h3 rfl
    subst hc
    have hl : l = [] := List.eq_nil_of_length_eq_zero (by omega)
    subst hl
    exact (clone_none w).mono fun e w' h => ⟨_, h.1, Byt.nil _ _, h.2⟩
  | some p => exact clone_some l p c hm w hv
set_option maxRecDepth 100000 in
set_option maxHeartbeats 4000000 in
theorem equal_any (l r : List UInt8) (v u : Value) (w : World) (hv : IsB w l v) (hu : IsB w r u) :
    Calls Try.prog 83 #[v, u] w fun e w' => e = .returned (.bool (decide (l = r))) ∧ Below w.heap.size w w' := by
  by_cases h : l = r
  · refine calls_fx (args := [v, u]) 10 Try.func83 rfl rfl rfl ?_
    intro fa F
    have M := Mx.start w
    replace M := M.argB 0 hv (fun g e => by cases e)
    replace M := M.argB 1 hu (fun g e => by cases e)
    refine wp_seq_k fun K1 hK1 => wp_region_lit ?_
    refine rm rfl F fun a2 F2 => ?_
    refine hK1 _ _ (wp_seq_k fun K3 hK3 => ?_)
    refine wp_region_lit ?_
    refine rm rfl F2 fun a4 F4 => ?_
    refine rn rfl rfl F4 rfl (.string (⟨(l).toArray⟩)) (y_str _ rfl (F4.get rfl) (M.isb (k := 0) rfl)) fun a5 F5 => ?_
    refine rm rfl F5 fun a6 F6 => ?_
    refine rn rfl rfl F6 rfl (.string (⟨(r).toArray⟩)) (y_str _ rfl (F6.get rfl) (M.isb (k := 1) rfl)) fun a7 F7 => ?_
    refine rn rfl rfl F7 rfl (.bool true) (y_eqS _ _ _ rfl (F7.get rfl) (F7.get rfl) (str_eq h)) fun a8 F8 => ?_
    refine rm rfl F8 fun a9 F9 => ?_
    refine hK3 _ _ (wp_ret ?_)
    try simp only [Exit.then, Exit.inBlock, Exit.jump]
    exact bodyPost_ret (res1 rfl (F9.get (t := 4) rfl)) F9.defers ⟨by rw [decide_eq_true h], M.below⟩
  refine calls_fx (args := [v, u]) 10 Try.func83 rfl rfl rfl ?_
  intro fa F
  have M := Mx.start w
  replace M := M.argB 0 hv (fun g e => by cases e)
  replace M := M.argB 1 hu (fun g e => by cases e)
  refine wp_seq_k fun K1 hK1 => wp_region_lit ?_
  refine rm rfl F fun a2 F2 => ?_
  refine hK1 _ _ (wp_seq_k fun K3 hK3 => ?_)
  refine wp_region_lit ?_
  refine rm rfl F2 fun a4 F4 => ?_
  refine rn rfl rfl F4 rfl (.string (⟨(l).toArray⟩)) (y_str _ rfl (F4.get rfl) (M.isb (k := 0) rfl)) fun a5 F5 => ?_
  refine rm rfl F5 fun a6 F6 => ?_
  refine rn rfl rfl F6 rfl (.string (⟨(r).toArray⟩)) (y_str _ rfl (F6.get rfl) (M.isb (k := 1) rfl)) fun a7 F7 => ?_
  refine rn rfl rfl F7 rfl (.bool false) (y_eqS _ _ _ rfl (F7.get rfl) (F7.get rfl) (str_ne h)) fun a8 F8 => ?_
  refine rm rfl F8 fun a9 F9 => ?_
  refine hK3 _ _ (wp_ret ?_)
  try simp only [Exit.then, Exit.inBlock, Exit.jump]
  exact bodyPost_ret (res1 rfl (F9.get (t := 4) rfl)) F9.defers ⟨by rw [decide_eq_false h], M.below⟩
end Go.Proofs.Ytlbkogdmojlpmaa
namespace Go.Proofs.Ytlbkogdmojlpmaa
set_option linter.unusedVariables false
set_option maxRecDepth 20000
set_option linter.unusedSimpArgs false
open Go.ChangeShapes Go.WideShapes Go.ChangeAt Go.RowKit
theorem y_min {a : Act} {w : World} {o : Oper} (x y : Operand) {ts : Array TypeId} (ho : o.op = .call { callee := .builtin .min, args := #[x, y], argTypes := ts }) {k : IntKind} {p q z : Int} (hx : a.eval x = .int k p) (hy : a.eval y = .int k q) (hz : (if q < p then q else p) = z) : (execOp a.eval o).run Try.prog w = .ok (.value (.int k z)) w := by
  subst hz
  simp only [execOp, ho, resolve, Sem.run_bind, Sem.run_pure, Result.andThen_ok, invoke, List.map_toArray, List.map_cons, List.map_nil, hx, hy]
  simp [builtin, go_sem, Result.andThen]
  split <;> omega
theorem take_min {l : List UInt8} {n : Nat} : l.take (min n l.length) = l.take n := by
  by_cases h : n ≤ l.length
  · rw [Nat.min_eq_left h]
  · rw [Nat.min_eq_right (by omega), List.take_of_length_le (Nat.le_refl _), List.take_of_length_le (by omega)]
theorem drop_min {l : List UInt8} {n : Nat} : l.drop (min n l.length) = l.drop n := by
  by_cases h : n ≤ l.length
  · rw [Nat.min_eq_left h]
  · rw [Nat.min_eq_right (by omega), List.drop_of_length_le (Nat.le_refl _), List.drop_of_length_le (by omega)]
set_option maxRecDepth 100000 in
set_option maxHeartbeats 4000000 in
theorem take_any (g : Nat) (l : List UInt8) (u : Value) (n : Nat) (hl : l.length ≤ 100000) (hn : n ≤ 100000) (w : World) (hg : w.heap[g]? = some (.cells #[u] 83 (0, 0))) (hu : IsB w l u) (hd : ¬ bfp u g) :
    Calls Try.prog 52 #[.pointer (some ⟨g, 0, none⟩), .int .i64 (n : Int)] w fun e w' => ∃ v, e = .returned v ∧ ∃ u', Byt w' w.heap.size v (l.take n) ∧ IsB w' (l.drop n) u' ∧ (∀ b, bfp u' b → bfp u b) ∧ w'.heap[g]? = some (.cells #[u'] 83 (0, 0)) ∧ w.grownBy w' (some g) := by
  refine calls_fx (args := [.pointer (some ⟨g, 0, none⟩), .int .i64 (n : Int)]) 30 Try.func52 rfl rfl rfl ?_
  intro fa F
  have M := Mx.theG hg 0
  replace M := M.argB 1 hu (fun b e => by cases e; exact hd)
  refine wp_seq_k fun K1 hK1 => wp_region_lit ?_
  refine rm rfl F fun a2 F2 => ?_
  refine hK1 _ _ (wp_seq_k fun K3 hK3 => ?_)
  refine wp_region_lit ?_
  refine exS 5 [(0, .pointer (some ⟨g, 0, none⟩)), (1, .int .i64 (n : Int)), (4, .slice none 0 0), (6, .int .i64 (n : Int)), (10, u)] [0] (dcons (M.blk (k := 0) rfl) dnil) [g] F2 (by kernel_rfl) fun a4 F4 => ?_
  simp only [List.drop_succ_cons, List.drop_zero]
  refine rn rfl rfl F4 rfl (.int .i64 (l.length : Int)) (y_len _ rfl (F4.get rfl) (M.isb (k := 1) rfl) rfl) fun a5 F5 => ?_
  refine rn rfl rfl F5 rfl (.int .i64 ((min n l.length : Nat) : Int)) (y_min _ _ rfl (F5.get rfl) (F5.get rfl) (by split <;> omega)) fun a6 F6 => ?_
  refine rm rfl F6 fun a7 F7 => ?_
  refine hK3 _ _ (wp_seq_k fun K8 hK8 => ?_)
  refine wp_region_lit ?_
  refine exS 5 [(0, .pointer (some ⟨g, 0, none⟩)), (1, .int .i64 ((min n l.length : Nat) : Int)), (4, .slice none 0 0), (16, u), (17, .int .i64 ((min n l.length : Nat) : Int))] [0] (dcons (M.blk (k := 0) rfl) dnil) [g] F7 (by kernel_rfl) fun a9 F9 => ?_
  simp only [List.drop_succ_cons, List.drop_zero]
  refine wl_runE (wanted_none rfl) rfl F9 rfl (y_slTo _ _ rfl (F9.get rfl) (M.isb (k := 1) rfl) (F9.get rfl) (j := (min n l.length)) rfl (Nat.min_le_right _ _)) ?_
  intro v10 a10 h10 F10
  have M10 := M.partB 2 (k := 1) rfl h10.1 h10.2
  clear M
  obtain ⟨A10, c10, rfl⟩ := (M10.isb (k := 2) rfl).shape
  refine wl_call (wanted_none rfl) rfl F10 rfl rfl (enters_of Try.func80 (by kernel_rfl) rfl) #[.slice A10 ((l.take (min n l.length))).length c10] (args1 (F10.get rfl)) (clone_any (l.take (min n l.length)) (.slice A10 ((l.take (min n l.length))).length c10) (by simp only [List.length_take]; omega) w (M10.isb (k := 2) rfl)) ?_
  rintro v11 w11 a11 h11 F11
  have M11 := M10.newO h11.2 3 h11.1
  clear M10 h11
  obtain ⟨A11, c11, rfl⟩ := (M11.isO (k := 3) rfl).shape
  refine rm rfl F11 fun a12 F12 => ?_
  refine hK8 _ _ (wp_seq_k fun K13 hK13 => ?_)
  refine wp_region_lit ?_
  refine exS 6 [(4, .slice none 0 0), (5, .slice A11 ((l.take (min n l.length))).length c11), (20, .pointer (some ⟨g, 0, none⟩)), (24, u), (25, .int .i64 ((min n l.length : Nat) : Int))] [0] (dcons (M11.blk (k := 0) rfl) dnil) [g] F12 (by kernel_rfl) fun a14 F14 => ?_
  simp only [List.drop_succ_cons, List.drop_zero]
  refine wl_runE (wanted_none rfl) rfl F14 rfl (y_slFrom _ _ rfl (F14.get rfl) (M11.isb (k := 1) rfl) (F14.get rfl) (i := (min n l.length)) rfl (Nat.min_le_right _ _)) ?_
  intro v15 a15 h15 F15
  have M15 := M11.partB 4 (k := 1) rfl h15.1 h15.2
  clear M11
  obtain ⟨A15, c15, rfl⟩ := (M15.isb (k := 4) rfl).shape
  refine exA 2 [(27, .pointer (some ⟨g, 0, none⟩)), (28, .pointer (some ⟨g, 0, none⟩))] [] dnil [] F15 (by kernel_rfl) (by kernel_rfl) fun a16 F16 => ?_
  simp only [List.drop_succ_cons, List.drop_zero]
  refine wl_st (wanted_none rfl) rfl F16 M15 (k := 0) rfl _ _ _ rfl (F16.get rfl) (F16.get rfl) (#[.slice A15 ((l.drop (min n l.length))).length c15]) (#[.slice A15 ((l.drop (min n l.length))).length c15]) rfl (Nat.le_of_ble_eq_true rfl) (one_slc rfl) (y_put0 rfl) (by kernel_rfl) ?_
  intro w17 M17
  clear M15
  refine hK13 _ _ (wp_seq_k fun K18 hK18 => ?_)
  refine wp_region_lit ?_
  refine rm rfl F16 fun a19 F19 => ?_
  refine rm rfl F19 fun a20 F20 => ?_
  refine hK18 _ _ (wp_ret ?_)
  try simp only [Exit.then, Exit.inBlock, Exit.jump]
  exact bodyPost_ret (res1 rfl (F20.get (t := 4) rfl)) F20.defers ⟨_, rfl, .slice A15 ((l.drop (min n l.length))).length c15, (by rw [← take_min (l := l) (n := n)]; exact M17.bytG (k := 3) rfl (fun b e e2 => M17.dis 3 0 _ _ rfl rfl (by decide) rfl b e2 (by injection e with e; exact e.symm))), (by rw [← drop_min (l := l) (n := n)]; exact M17.isb (k := 4) rfl), h15.2, M17.blk (k := 0) rfl, M17.grown⟩
end Go.Proofs.Ytlbkogdmojlpmaa
namespace Go.Proofs.Ytlbkogdmojlpmaa
set_option linter.unusedVariables false
set_option maxRecDepth 20000
set_option linter.unusedSimpArgs false
open Go.ChangeShapes Go.WideShapes Go.ChangeAt Go.RowKit
theorem Mx.took0 {G : Option Nat} {w0 w w' : World} {R : List (Nat × Res)} (M : Mx G w0 w R) {k ku g : Nat} {t : TypeId} {c c' : Array Value} {l l' : List UInt8} {u u' : Value} (hk : look R k = some (blkR g t c)) (hg : w.grownBy w' (some g)) (hc : w'.heap[g]? = some (.cells c' t (0, 0))) (j : Nat)
    (hu : IsB w' l' u') (hs : ∀ b, bfp u' b → bfp u b) (hku : look ((k, blkR g t c') :: R) ku = some (bytR l u)) : Mx G w0 w' ((j, bytR l' u') :: (k, blkR g t c') :: R) :=
  (M.put hk hg hc).part j _ hu bytR_dep rfl hku rfl hs
theorem Mx.took {G : Option Nat} {w0 w w' : World} {R : List (Nat × Res)} (M : Mx G w0 w R) {k ku g : Nat} {t : TypeId} {c c' : Array Value} {l l' lv : List UInt8} {u u' v : Value} (hk : look R k = some (blkR g t c)) (hg : w.grownBy w' (some g)) (hc : w'.heap[g]? = some (.cells c' t (0, 0))) (i j : Nat)
    (hv : Byt w' w.heap.size v lv) (hu : IsB w' l' u') (hs : ∀ b, bfp u' b → bfp u b) (hku : look ((k, blkR g t c') :: R) ku = some (bytR l u)) (hku2 : look ((i, ownR lv v) :: (k, blkR g t c') :: R) ku = some (bytR l u)) : Mx G w0 w' ((j, bytR l' u') :: (i, ownR lv v) :: (k, blkR g t c') :: R) := by
  have M1 := M.put hk hg hc
  have old : ∀ q s, look ((k, blkR g t c') :: R) q = some s → ∀ b, s.fp b → b < w.heap.size := fun q s e b hb => by
    rw [look_cons] at e; split at e
    · cases e; cases hb; exact M.lt k _ hk g rfl
    · exact M.lt q s e b hb
  have M2 : Mx G w0 w' ((i, ownR lv v) :: (k, blkR g t c') :: R) := M1.cons i _ (hv.rebase fun _ _ => Nat.zero_le _) ownR_dep (fun b hb => (hv.lt b hb).2) (fun _ b hb => .inl (Nat.le_trans M.le (hv.lt b hb).1)) fun q s e _ _ b hb hs2 => by
    have h1 := old q s e b hs2
    have h2 := (hv.lt b hb).1
    omega
  exact M2.part j _ hu bytR_dep rfl hku2 rfl hs
theorem numI_one (l : List UInt8) : numI (l.take 1) = ((readN (l.take 1) : Nat) : Int) := by
  have h := readN_lt (l.take 1)
  have h2 : (l.take 1).length ≤ 1 := by rw [List.length_take]; exact Nat.min_le_left _ _
  have h3 : (256 : Nat) ^ (l.take 1).length ≤ 256 ^ 1 := Nat.pow_le_pow_right (by omega) h2
  exact if_pos (decide_eq_true ⟨by omega, by omega⟩)
theorem readN_one (l : List UInt8) : readN (l.take 1) < 256 := by
  have h := readN_lt (l.take 1)
  have h2 : (l.take 1).length ≤ 1 := by rw [List.length_take]; exact Nat.min_le_left _ _
  have h3 : (256 : Nat) ^ (l.take 1).length ≤ 256 ^ 1 := Nat.pow_le_pow_right (by omega) h2
  omega
set_option maxRecDepth 100000 in
set_option maxHeartbeats 4000000 in
theorem rnumber_any (g : Nat) (l : List UInt8) (u : Value) (n : Nat) (hl : l.length ≤ 100000) (hn : n ≤ 100000) (w : World) (hg : w.heap[g]? = some (.cells #[u] 83 (0, 0))) (hu : IsB w l u) (hd : ¬ bfp u g) :
    Calls Try.prog 68 #[.pointer (some ⟨g, 0, none⟩), .int .i64 (n : Int)] w fun e w' => ∃ v, e = .returned v ∧ v = .int .i64 (numI (l.take n)) ∧ ∃ u', IsB w' (l.drop n) u' ∧ (∀ b, bfp u' b → bfp u b) ∧ w'.heap[g]? = some (.cells #[u'] 83 (0, 0)) ∧ w.grownBy w' (some g) := by
  refine calls_fx (args := [.pointer (some ⟨g, 0, none⟩), .int .i64 (n : Int)]) 15 Try.func68 rfl rfl rfl ?_
  intro fa F
  have M := Mx.theG hg 0
  replace M := M.argB 1 hu (fun b e => by cases e; exact hd)
  refine wp_seq_k fun K1 hK1 => wp_region_lit ?_
  refine rm rfl F fun a2 F2 => ?_
  refine hK1 _ _ (wp_seq_k fun K3 hK3 => ?_)
  refine wp_region_lit ?_
  refine rm rfl F2 fun a4 F4 => ?_
  refine rm rfl F4 fun a5 F5 => ?_
  refine wl_call (wanted_none rfl) rfl F5 rfl rfl (enters_of Try.func52 (by kernel_rfl) rfl) #[.pointer (some ⟨g, 0, none⟩), .int .i64 (n : Int)] (args2 (F5.get rfl) (F5.get rfl)) (take_any g l (u) n hl (by omega) w (M.blk (k := 0) rfl) (M.isb (k := 1) rfl) (fun hb => M.dis 0 1 _ _ rfl rfl (by decide) rfl g rfl hb)) ?_
  rintro v6 w6 a6 ⟨u6, hv6, hu6, hs6, hc6, hg6⟩ F6
  have M6 := M.took (k := 0) (ku := 1) rfl hg6 hc6 3 2 hv6 hu6 hs6 rfl rfl
  clear M hg6 hc6
  obtain ⟨A6u, c6u, rfl⟩ := hu6.shape
  clear hu6
  clear hv6
  obtain ⟨A6, c6, rfl⟩ := (M6.isO (k := 3) rfl).shape
  refine wl_call (wanted_none rfl) rfl F6 rfl rfl (enters_of Try.func81 (by kernel_rfl) rfl) #[.slice A6 ((l.take n)).length c6] (args1 (F6.get rfl)) (call_ex ((number_any (l.take n) (.slice A6 ((l.take n)).length c6) (by simp only [List.length_take]; omega) w6 (M6.isO (k := 3) rfl)))) ?_
  rintro _ w7 a7 ⟨rfl, b7⟩ F7
  have M7 := M6.step b7
  refine exS 5 [(4, .int .i64 0), (5, .int .i64 (numI (l.take n)))] [] dnil [] F7 (by kernel_rfl) fun a8 F8 => ?_
  simp only [List.drop_succ_cons, List.drop_zero]
  refine hK3 _ _ (wp_seq_k fun K9 hK9 => ?_)
  refine wp_region_lit ?_
  refine rm rfl F8 fun a10 F10 => ?_
  refine rm rfl F10 fun a11 F11 => ?_
  refine hK9 _ _ (wp_ret ?_)
  try simp only [Exit.then, Exit.inBlock, Exit.jump]
  exact bodyPost_ret (res1 rfl (F11.get (t := 4) rfl)) F11.defers ⟨_, rfl, rfl, .slice A6u ((l.drop n)).length c6u, M7.isb (k := 2) rfl, fun b h => (hs6 b h), M7.blk (k := 0) rfl, M7.grown⟩
theorem rnum1_any (g : Nat) (l : List UInt8) (u : Value) (hl : l.length ≤ 100000) (w : World) (hg : w.heap[g]? = some (.cells #[u] 83 (0, 0))) (hu : IsB w l u) (hd : ¬ bfp u g) :
    Calls Try.prog 68 #[.pointer (some ⟨g, 0, none⟩), .int .i64 1] w fun e w' => ∃ v, e = .returned v ∧ v = .int .i64 ((readN (l.take 1) : Nat) : Int) ∧ ∃ u', IsB w' (l.drop 1) u' ∧ (∀ b, bfp u' b → bfp u b) ∧ w'.heap[g]? = some (.cells #[u'] 83 (0, 0)) ∧ w.grownBy w' (some g) :=
  (rnumber_any g l u 1 hl (by omega) w hg hu hd).mono fun e w2 ⟨v, h1, h2, h3⟩ => ⟨v, h1, h2.trans (by rw [numI_one]), h3⟩
set_option maxRecDepth 100000 in
set_option maxHeartbeats 4000000 in
theorem roctet_any (g : Nat) (l : List UInt8) (u : Value) (hl : l.length ≤ 100000) (w : World) (hg : w.heap[g]? = some (.cells #[u] 83 (0, 0))) (hu : IsB w l u) (hd : ¬ bfp u g) :
    Calls Try.prog 53 #[.pointer (some ⟨g, 0, none⟩)] w fun e w' => ∃ v, e = .returned v ∧ v = .int .i64 ((readN (l.take 1) : Nat) : Int) ∧ ∃ u', IsB w' (l.drop 1) u' ∧ (∀ b, bfp u' b → bfp u b) ∧ w'.heap[g]? = some (.cells #[u'] 83 (0, 0)) ∧ w.grownBy w' (some g) := by
  refine calls_fx (args := [.pointer (some ⟨g, 0, none⟩)]) 5 Try.func53 rfl rfl rfl ?_
  intro fa F
  have M := Mx.theG hg 0
  replace M := M.argB 1 hu (fun b e => by cases e; exact hd)
  refine wp_seq_k fun K1 hK1 => wp_region_lit ?_
  refine rm rfl F fun a2 F2 => ?_
  refine hK1 _ _ (wp_seq_k fun K3 hK3 => ?_)
  refine wp_region_lit ?_
  refine rm rfl F2 fun a4 F4 => ?_
  refine wl_call (wanted_none rfl) rfl F4 rfl rfl (enters_of Try.func68 (by kernel_rfl) rfl) #[.pointer (some ⟨g, 0, none⟩), .int .i64 1] (args2 (F4.get rfl) rfl) (rnum1_any g l (u) hl w (M.blk (k := 0) rfl) (M.isb (k := 1) rfl) (fun hb => M.dis 0 1 _ _ rfl rfl (by decide) rfl g rfl hb)) ?_
  rintro _ w5 a5 ⟨rfl, u5, hu5, hs5, hc5, hg5⟩ F5
  have M5 := M.took0 (k := 0) (ku := 1) rfl hg5 hc5 2 hu5 hs5 rfl
  clear M hg5 hc5
  obtain ⟨A5u, c5u, rfl⟩ := hu5.shape
  clear hu5
  refine rm rfl F5 fun a6 F6 => ?_
  refine hK3 _ _ (wp_ret ?_)
  try simp only [Exit.then, Exit.inBlock, Exit.jump]
  exact bodyPost_ret (res1 rfl (F6.get (t := 2) rfl)) F6.defers ⟨_, rfl, rfl, .slice A5u ((l.drop 1)).length c5u, M5.isb (k := 2) rfl, fun b h => (hs5 b h), M5.blk (k := 0) rfl, M5.grown⟩
set_option maxRecDepth 100000 in
set_option maxHeartbeats 4000000 in
theorem rcounted_any (g : Nat) (l : List UInt8) (u : Value) (hl : l.length ≤ 100000) (w : World) (hg : w.heap[g]? = some (.cells #[u] 83 (0, 0))) (hu : IsB w l u) (hd : ¬ bfp u g) :
    Calls Try.prog 55 #[.pointer (some ⟨g, 0, none⟩)] w fun e w' => ∃ v, e = .returned v ∧ ∃ u', Byt w' w.heap.size v ((l.drop 1).take (readN (l.take 1))) ∧ IsB w' ((l.drop 1).drop (readN (l.take 1))) u' ∧ (∀ b, bfp u' b → bfp u b) ∧ w'.heap[g]? = some (.cells #[u'] 83 (0, 0)) ∧ w.grownBy w' (some g) := by
  refine calls_fx (args := [.pointer (some ⟨g, 0, none⟩)]) 7 Try.func55 rfl rfl rfl ?_
  intro fa F
  have M := Mx.theG hg 0
  replace M := M.argB 1 hu (fun b e => by cases e; exact hd)
  have hr1 := readN_one l
  refine wp_seq_k fun K1 hK1 => wp_region_lit ?_
  refine rm rfl F fun a2 F2 => ?_
  refine hK1 _ _ (wp_seq_k fun K3 hK3 => ?_)
  refine wp_region_lit ?_
  refine rm rfl F2 fun a4 F4 => ?_
  refine rm rfl F4 fun a5 F5 => ?_
  refine wl_call (wanted_none rfl) rfl F5 rfl rfl (enters_of Try.func53 (by kernel_rfl) rfl) #[.pointer (some ⟨g, 0, none⟩)] (args1 (F5.get rfl)) (roctet_any g l (u) hl w (M.blk (k := 0) rfl) (M.isb (k := 1) rfl) (fun hb => M.dis 0 1 _ _ rfl rfl (by decide) rfl g rfl hb)) ?_
  rintro _ w6 a6 ⟨rfl, u6, hu6, hs6, hc6, hg6⟩ F6
  have M6 := M.took0 (k := 0) (ku := 1) rfl hg6 hc6 2 hu6 hs6 rfl
  clear M hg6 hc6
  obtain ⟨A6u, c6u, rfl⟩ := hu6.shape
  clear hu6
  refine wl_call (wanted_none rfl) rfl F6 rfl rfl (enters_of Try.func52 (by kernel_rfl) rfl) #[.pointer (some ⟨g, 0, none⟩), .int .i64 ((readN (l.take 1) : Nat) : Int)] (args2 (F6.get rfl) (F6.get rfl)) (take_any g (l.drop 1) (.slice A6u ((l.drop 1)).length c6u) (readN (l.take 1)) (by simp only [List.length_drop]; omega) (by omega) w6 (M6.blk (k := 0) rfl) (M6.isb (k := 2) rfl) (fun hb => M6.dis 0 2 _ _ rfl rfl (by decide) rfl g rfl hb)) ?_
  rintro v7 w7 a7 ⟨u7, hv7, hu7, hs7, hc7, hg7⟩ F7
  have M7 := M6.took (k := 0) (ku := 2) rfl hg7 hc7 4 3 hv7 hu7 hs7 rfl rfl
  clear M6 hg7 hc7
  obtain ⟨A7u, c7u, rfl⟩ := hu7.shape
  clear hu7
  clear hv7
  obtain ⟨A7, c7, rfl⟩ := (M7.isO (k := 4) rfl).shape
  refine rm rfl F7 fun a8 F8 => ?_
  refine hK3 _ _ (wp_ret ?_)
  try simp only [Exit.then, Exit.inBlock, Exit.jump]
  exact bodyPost_ret (res1 rfl (F8.get (t := 2) rfl)) F8.defers ⟨_, rfl, .slice A7u (((l.drop 1).drop (readN (l.take 1)))).length c7u, M7.bytG (k := 4) rfl (fun b e e2 => M7.dis 4 0 _ _ rfl rfl (by decide) rfl b e2 (by injection e with e; exact e.symm)), M7.isb (k := 3) rfl, fun b h => (hs6 b (hs7 b h)), M7.blk (k := 0) rfl, M7.grown⟩
end Go.Proofs.Ytlbkogdmojlpmaa
namespace Go.Proofs.Ytlbkogdmojlpmaa
set_option linter.unusedVariables false
set_option maxRecDepth 20000
set_option linter.unusedSimpArgs false
open Go.ChangeShapes Go.WideShapes Go.ChangeAt Go.RowKit
def readO (l : List UInt8) : Nat := if l.length ≤ 32 then readN l else 0
theorem lread_any (l : List UInt8) (v : Value) (hm : l.length ≤ 100000) (w : World) (hv : IsB w l v) : Calls Try.prog 82 #[v] w fun e w' => e = .returned (.tuple #[numV (readO l), .bool (decide (l.length ≤ 32))]) ∧ Below w.heap.size w w' := by
  obtain ⟨A, c, rfl, h1, h2, h3, h4⟩ := hv
  unfold readO
  by_cases h : l.length ≤ 32
  · rw [if_pos h, decide_eq_true h]
    exact read_any A l l.length c rfl h h1 h2 w h4
  · rw [if_neg h, decide_eq_false h]
    exact read_none A l.length c (by omega) (by omega) w
def setM (m : MsgN) (n : Nat) (c : List UInt8) : MsgN := match n with
  | 1 => { m with p := numI c }
  | 2 => { m with s := ⟨c.toArray⟩ }
  | 3 => { m with a := readO c }
  | 4 => { m with b := readO c }
  | 5 => { m with l5 := c }
  | 6 => { m with l6 := c }
  | 7 => { m with l7 := c }
  | 8 => { m with l8 := c }
  | 9 => { m with l9 := c }
  | 10 => { m with c := numI c }
  | 11 => { m with e := numI c }
  | _ => m
def setV (V : MsgV) (n : Nat) (v : Value) : MsgV := match n with
  | 5 => { V with v5 := v }
  | 6 => { V with v6 := v }
  | 7 => { V with v7 := v }
  | 8 => { V with v8 := v }
  | 9 => { V with v9 := v }
  | _ => V
theorem setM_no {m : MsgN} {n : Nat} {c : List UInt8} (h : n < 1 ∨ 11 < n) : setM m n c = m := by
  unfold setM
  split <;> first | rfl | omega
theorem setV_no {V : MsgV} {n : Nat} {v : Value} (h : n < 1 ∨ 11 < n) : setV V n v = V := by
  unfold setV
  split <;> first | rfl | omega
set_option maxRecDepth 100000 in
set_option maxHeartbeats 4000000 in
theorem set_1 (g : Nat) (m : MsgN) (V : MsgV) (c : List UInt8) (v : Value) (hc : c.length ≤ 100000)  (w : World) (hg : w.heap[g]? = some (.cells (msgA m V) 29 (0, 0))) (hv : IsB w c v) (hd : ¬ bfp v g) :
    Calls Try.prog 54 #[.pointer (some ⟨g, 0, none⟩), .int .i64 1, v] w fun e w' => e = .returned (.tuple #[]) ∧ w'.heap[g]? = some (.cells (msgA (setM m 1 c) (setV V 1 v)) 29 (0, 0)) ∧ w.grownBy w' (some g) := by
  obtain ⟨A, cc, rfl⟩ := hv.shape
  refine calls_fx (args := [.pointer (some ⟨g, 0, none⟩), .int .i64 1, .slice A c.length cc]) 97 Try.func54 rfl rfl rfl ?_
  intro fa F
  have M := Mx.theG hg 0
  replace M := M.argB 1 hv (fun b e => by cases e; exact hd)
  refine wp_seq_k fun K1 hK1 => wp_region_lit ?_
  refine rm rfl F fun a2 F2 => ?_
  refine hK1 _ _ (wp_block ?_)
  refine wp_seq_k fun K3 hK3 => wp_region_lit ?_
  refine exA 2 [(10, .bool true), (9, .bool true)] [] dnil [] F2 (by kernel_rfl) (by kernel_rfl) fun a4 F4 => ?_
  simp only [List.drop_succ_cons, List.drop_zero]
  refine hK3 _ _ (wp_cond_true (F4.get (t := 9) rfl) ?_)
  refine wp_region_lit ?_
  refine rm rfl F4 fun a5 F5 => ?_
  refine rm rfl F5 fun a6 F6 => ?_
  refine wl_call (wanted_none rfl) rfl F6 rfl rfl (enters_of Try.func81 (by kernel_rfl) rfl) #[.slice A c.length cc] (args1 (F6.get rfl)) (call_ex ((number_any c (.slice A c.length cc) hc w (M.isb (k := 1) rfl)))) ?_
  rintro _ w7 a7 ⟨rfl, b7⟩ F7
  have M7 := M.step b7
  refine exS 5 [(15, .int .i64 (numI c)), (18, .pointer (some ⟨g, 1, none⟩))] [] dnil [] F7 (by kernel_rfl) fun a8 F8 => ?_
  simp only [List.drop_succ_cons, List.drop_zero]
  refine wl_st (wanted_none rfl) rfl F8 M7 (k := 0) rfl _ _ _ rfl (F8.get rfl) (F8.get rfl) (#[.int .i64 (numI c)]) (msgA ⟨m.k, (numI c), m.c, m.e, m.s, m.a, m.b, m.l5, m.l6, m.l7, m.l8, m.l9⟩ ⟨V.v5, V.v6, V.v7, V.v8, V.v9⟩) rfl (Nat.le_of_ble_eq_true rfl) (one_int _ _) (by kernel_rfl) (by kernel_rfl) ?_
  intro w9 M9
  clear M7
  refine wpList_nil ?_
  try simp only [Exit.then, Exit.inBlock, Exit.jump]
  exact bodyPost_end (res0 rfl) F8.defers ⟨rfl, M9.blk (k := 0) rfl, M9.grown⟩
set_option maxRecDepth 100000 in
set_option maxHeartbeats 4000000 in
theorem set_2 (g : Nat) (m : MsgN) (V : MsgV) (c : List UInt8) (v : Value) (hc : c.length ≤ 100000)  (w : World) (hg : w.heap[g]? = some (.cells (msgA m V) 29 (0, 0))) (hv : IsB w c v) (hd : ¬ bfp v g) :
    Calls Try.prog 54 #[.pointer (some ⟨g, 0, none⟩), .int .i64 2, v] w fun e w' => e = .returned (.tuple #[]) ∧ w'.heap[g]? = some (.cells (msgA (setM m 2 c) (setV V 2 v)) 29 (0, 0)) ∧ w.grownBy w' (some g) := by
  obtain ⟨A, cc, rfl⟩ := hv.shape
  refine calls_fx (args := [.pointer (some ⟨g, 0, none⟩), .int .i64 2, .slice A c.length cc]) 97 Try.func54 rfl rfl rfl ?_
  intro fa F
  have M := Mx.theG hg 0
  replace M := M.argB 1 hv (fun b e => by cases e; exact hd)
  refine wp_seq_k fun K1 hK1 => wp_region_lit ?_
  refine rm rfl F fun a2 F2 => ?_
  refine hK1 _ _ (wp_block ?_)
  refine wp_seq_k fun K3 hK3 => wp_region_lit ?_
  refine exA 2 [(10, .bool false), (9, .bool false)] [] dnil [] F2 (by kernel_rfl) (by kernel_rfl) fun a4 F4 => ?_
  simp only [List.drop_succ_cons, List.drop_zero]
  refine hK3 _ _ (wp_cond_false (F4.get (t := 9) rfl) ?_)
  refine wp_seq_k fun K5 hK5 => wp_region_lit ?_
  refine exA 2 [(20, .bool true), (19, .bool true)] [] dnil [] F4 (by kernel_rfl) (by kernel_rfl) fun a6 F6 => ?_
  simp only [List.drop_succ_cons, List.drop_zero]
  refine hK5 _ _ (wp_cond_true (F6.get (t := 19) rfl) ?_)
  refine wp_region_lit ?_
  refine rm rfl F6 fun a7 F7 => ?_
  refine rm rfl F7 fun a8 F8 => ?_
  refine rn rfl rfl F8 rfl (.string (⟨(c).toArray⟩)) (y_str _ rfl (F8.get rfl) (M.isb (k := 1) rfl)) fun a9 F9 => ?_
  refine exS 2 [(23, .string (⟨(c).toArray⟩)), (25, .pointer (some ⟨g, 4, none⟩))] [] dnil [] F9 (by kernel_rfl) fun a10 F10 => ?_
  simp only [List.drop_succ_cons, List.drop_zero]
  refine wl_st (wanted_none rfl) rfl F10 M (k := 0) rfl _ _ _ rfl (F10.get rfl) (F10.get rfl) (#[.string (⟨(c).toArray⟩)]) (msgA ⟨m.k, m.p, m.c, m.e, ⟨(c).toArray⟩, m.a, m.b, m.l5, m.l6, m.l7, m.l8, m.l9⟩ ⟨V.v5, V.v6, V.v7, V.v8, V.v9⟩) rfl (Nat.le_of_ble_eq_true rfl) (one_str _) (by kernel_rfl) (by kernel_rfl) ?_
  intro w11 M11
  clear M
  refine wpList_nil ?_
  try simp only [Exit.then, Exit.inBlock, Exit.jump]
  exact bodyPost_end (res0 rfl) F10.defers ⟨rfl, M11.blk (k := 0) rfl, M11.grown⟩
set_option maxRecDepth 100000 in
set_option maxHeartbeats 4000000 in
theorem set_3 (g : Nat) (m : MsgN) (V : MsgV) (c : List UInt8) (v : Value) (hc : c.length ≤ 100000)  (w : World) (hg : w.heap[g]? = some (.cells (msgA m V) 29 (0, 0))) (hv : IsB w c v) (hd : ¬ bfp v g) :
    Calls Try.prog 54 #[.pointer (some ⟨g, 0, none⟩), .int .i64 3, v] w fun e w' => e = .returned (.tuple #[]) ∧ w'.heap[g]? = some (.cells (msgA (setM m 3 c) (setV V 3 v)) 29 (0, 0)) ∧ w.grownBy w' (some g) := by
  obtain ⟨A, cc, rfl⟩ := hv.shape
  refine calls_fx (args := [.pointer (some ⟨g, 0, none⟩), .int .i64 3, .slice A c.length cc]) 97 Try.func54 rfl rfl rfl ?_
  intro fa F
  have M := Mx.theG hg 0
  replace M := M.argB 1 hv (fun b e => by cases e; exact hd)
  refine wp_seq_k fun K1 hK1 => wp_region_lit ?_
  refine rm rfl F fun a2 F2 => ?_
  refine hK1 _ _ (wp_block ?_)
  refine wp_seq_k fun K3 hK3 => wp_region_lit ?_
  refine exA 2 [(10, .bool false), (9, .bool false)] [] dnil [] F2 (by kernel_rfl) (by kernel_rfl) fun a4 F4 => ?_
  simp only [List.drop_succ_cons, List.drop_zero]
  refine hK3 _ _ (wp_cond_false (F4.get (t := 9) rfl) ?_)
  refine wp_seq_k fun K5 hK5 => wp_region_lit ?_
  refine exA 2 [(20, .bool false), (19, .bool false)] [] dnil [] F4 (by kernel_rfl) (by kernel_rfl) fun a6 F6 => ?_
  simp only [List.drop_succ_cons, List.drop_zero]
  refine hK5 _ _ (wp_cond_false (F6.get (t := 19) rfl) ?_)
  refine wp_seq_k fun K7 hK7 => wp_region_lit ?_
  refine exA 2 [(27, .bool true), (26, .bool true)] [] dnil [] F6 (by kernel_rfl) (by kernel_rfl) fun a8 F8 => ?_
  simp only [List.drop_succ_cons, List.drop_zero]
  refine hK7 _ _ (wp_cond_true (F8.get (t := 26) rfl) ?_)
  refine wp_region_lit ?_
  refine rm rfl F8 fun a9 F9 => ?_
  refine rm rfl F9 fun a10 F10 => ?_
  refine wl_call (wanted_none rfl) rfl F10 rfl rfl (enters_of Try.func82 (by kernel_rfl) rfl) #[.slice A c.length cc] (args1 (F10.get rfl)) (call_ex ((lread_any c (.slice A c.length cc) hc w (M.isb (k := 1) rfl)))) ?_
  rintro _ w11 a11 ⟨rfl, b11⟩ F11
  have M11 := M.step b11
  refine exS 5 [(32, numV (readO c)), (35, .pointer (some ⟨g, 5, none⟩))] [] dnil [] F11 (by kernel_rfl) fun a12 F12 => ?_
  simp only [List.drop_succ_cons, List.drop_zero]
  refine wl_st (wanted_none rfl) rfl F12 M11 (k := 0) rfl _ _ _ rfl (F12.get rfl) (F12.get rfl) (numA (readO c)) (msgA ⟨m.k, m.p, m.c, m.e, m.s, (readO c), m.b, m.l5, m.l6, m.l7, m.l8, m.l9⟩ ⟨V.v5, V.v6, V.v7, V.v8, V.v9⟩) rfl (Nat.le_of_ble_eq_true rfl) (numA_one _) (by kernel_rfl) size26 ?_
  intro w13 M13
  clear M11
  refine wpList_nil ?_
  try simp only [Exit.then, Exit.inBlock, Exit.jump]
  exact bodyPost_end (res0 rfl) F12.defers ⟨rfl, M13.blk (k := 0) rfl, M13.grown⟩
set_option maxRecDepth 100000 in
set_option maxHeartbeats 4000000 in
theorem set_4 (g : Nat) (m : MsgN) (V : MsgV) (c : List UInt8) (v : Value) (hc : c.length ≤ 100000)  (w : World) (hg : w.heap[g]? = some (.cells (msgA m V) 29 (0, 0))) (hv : IsB w c v) (hd : ¬ bfp v g) :
    Calls Try.prog 54 #[.pointer (some ⟨g, 0, none⟩), .int .i64 4, v] w fun e w' => e = .returned (.tuple #[]) ∧ w'.heap[g]? = some (.cells (msgA (setM m 4 c) (setV V 4 v)) 29 (0, 0)) ∧ w.grownBy w' (some g) := by
  obtain ⟨A, cc, rfl⟩ := hv.shape
  refine calls_fx (args := [.pointer (some ⟨g, 0, none⟩), .int .i64 4, .slice A c.length cc]) 97 Try.func54 rfl rfl rfl ?_
  intro fa F
  have M := Mx.theG hg 0
  replace M := M.argB 1 hv (fun b e => by cases e; exact hd)
  refine wp_seq_k fun K1 hK1 => wp_region_lit ?_
  refine rm rfl F fun a2 F2 => ?_
  refine hK1 _ _ (wp_block ?_)
  refine wp_seq_k fun K3 hK3 => wp_region_lit ?_
  refine exA 2 [(10, .bool false), (9, .bool false)] [] dnil [] F2 (by kernel_rfl) (by kernel_rfl) fun a4 F4 => ?_
  simp only [List.drop_succ_cons, List.drop_zero]
  refine hK3 _ _ (wp_cond_false (F4.get (t := 9) rfl) ?_)
  refine wp_seq_k fun K5 hK5 => wp_region_lit ?_
  refine exA 2 [(20, .bool false), (19, .bool false)] [] dnil [] F4 (by kernel_rfl) (by kernel_rfl) fun a6 F6 => ?_
  simp only [List.drop_succ_cons, List.drop_zero]
  refine hK5 _ _ (wp_cond_false (F6.get (t := 19) rfl) ?_)
  refine wp_seq_k fun K7 hK7 => wp_region_lit ?_
  refine exA 2 [(27, .bool false), (26, .bool false)] [] dnil [] F6 (by kernel_rfl) (by kernel_rfl) fun a8 F8 => ?_
  simp only [List.drop_succ_cons, List.drop_zero]
  refine hK7 _ _ (wp_cond_false (F8.get (t := 26) rfl) ?_)
  refine wp_seq_k fun K9 hK9 => wp_region_lit ?_
  refine exA 2 [(37, .bool true), (36, .bool true)] [] dnil [] F8 (by kernel_rfl) (by kernel_rfl) fun a10 F10 => ?_
  simp only [List.drop_succ_cons, List.drop_zero]
  refine hK9 _ _ (wp_cond_true (F10.get (t := 36) rfl) ?_)
  refine wp_region_lit ?_
  refine rm rfl F10 fun a11 F11 => ?_
  refine rm rfl F11 fun a12 F12 => ?_
  refine wl_call (wanted_none rfl) rfl F12 rfl rfl (enters_of Try.func82 (by kernel_rfl) rfl) #[.slice A c.length cc] (args1 (F12.get rfl)) (call_ex ((lread_any c (.slice A c.length cc) hc w (M.isb (k := 1) rfl)))) ?_
  rintro _ w13 a13 ⟨rfl, b13⟩ F13
  have M13 := M.step b13
  refine exS 5 [(42, numV (readO c)), (45, .pointer (some ⟨g, 13, none⟩))] [] dnil [] F13 (by kernel_rfl) fun a14 F14 => ?_
  simp only [List.drop_succ_cons, List.drop_zero]
  refine wl_st (wanted_none rfl) rfl F14 M13 (k := 0) rfl _ _ _ rfl (F14.get rfl) (F14.get rfl) (numA (readO c)) (msgA ⟨m.k, m.p, m.c, m.e, m.s, m.a, (readO c), m.l5, m.l6, m.l7, m.l8, m.l9⟩ ⟨V.v5, V.v6, V.v7, V.v8, V.v9⟩) rfl (Nat.le_of_ble_eq_true rfl) (numA_one _) (by kernel_rfl) size26 ?_
  intro w15 M15
  clear M13
  refine wpList_nil ?_
  try simp only [Exit.then, Exit.inBlock, Exit.jump]
  exact bodyPost_end (res0 rfl) F14.defers ⟨rfl, M15.blk (k := 0) rfl, M15.grown⟩
set_option maxRecDepth 100000 in
set_option maxHeartbeats 4000000 in
theorem set_5 (g : Nat) (m : MsgN) (V : MsgV) (c : List UInt8) (v : Value) (hc : c.length ≤ 100000)  (w : World) (hg : w.heap[g]? = some (.cells (msgA m V) 29 (0, 0))) (hv : IsB w c v) (hd : ¬ bfp v g) :
    Calls Try.prog 54 #[.pointer (some ⟨g, 0, none⟩), .int .i64 5, v] w fun e w' => e = .returned (.tuple #[]) ∧ w'.heap[g]? = some (.cells (msgA (setM m 5 c) (setV V 5 v)) 29 (0, 0)) ∧ w.grownBy w' (some g) := by
  obtain ⟨A, cc, rfl⟩ := hv.shape
  refine calls_fx (args := [.pointer (some ⟨g, 0, none⟩), .int .i64 5, .slice A c.length cc]) 97 Try.func54 rfl rfl rfl ?_
  intro fa F
  have M := Mx.theG hg 0
  replace M := M.argB 1 hv (fun b e => by cases e; exact hd)
  refine wp_seq_k fun K1 hK1 => wp_region_lit ?_
  refine rm rfl F fun a2 F2 => ?_
  refine hK1 _ _ (wp_block ?_)
  refine wp_seq_k fun K3 hK3 => wp_region_lit ?_
  refine exA 2 [(10, .bool false), (9, .bool false)] [] dnil [] F2 (by kernel_rfl) (by kernel_rfl) fun a4 F4 => ?_
  simp only [List.drop_succ_cons, List.drop_zero]
  refine hK3 _ _ (wp_cond_false (F4.get (t := 9) rfl) ?_)
  refine wp_seq_k fun K5 hK5 => wp_region_lit ?_
  refine exA 2 [(20, .bool false), (19, .bool false)] [] dnil [] F4 (by kernel_rfl) (by kernel_rfl) fun a6 F6 => ?_
  simp only [List.drop_succ_cons, List.drop_zero]
  refine hK5 _ _ (wp_cond_false (F6.get (t := 19) rfl) ?_)
  refine wp_seq_k fun K7 hK7 => wp_region_lit ?_
  refine exA 2 [(27, .bool false), (26, .bool false)] [] dnil [] F6 (by kernel_rfl) (by kernel_rfl) fun a8 F8 => ?_
  simp only [List.drop_succ_cons, List.drop_zero]
  refine hK7 _ _ (wp_cond_false (F8.get (t := 26) rfl) ?_)
  refine wp_seq_k fun K9 hK9 => wp_region_lit ?_
  refine exA 2 [(37, .bool false), (36, .bool false)] [] dnil [] F8 (by kernel_rfl) (by kernel_rfl) fun a10 F10 => ?_
  simp only [List.drop_succ_cons, List.drop_zero]
  refine hK9 _ _ (wp_cond_false (F10.get (t := 36) rfl) ?_)
  refine wp_seq_k fun K11 hK11 => wp_region_lit ?_
  refine exA 2 [(47, .bool true), (46, .bool true)] [] dnil [] F10 (by kernel_rfl) (by kernel_rfl) fun a12 F12 => ?_
  simp only [List.drop_succ_cons, List.drop_zero]
  refine hK11 _ _ (wp_cond_true (F12.get (t := 46) rfl) ?_)
  refine wp_region_lit ?_
  refine exS 4 [(49, .slice A c.length cc), (51, .pointer (some ⟨g, 21, none⟩))] [] dnil [] F12 (by kernel_rfl) fun a13 F13 => ?_
  simp only [List.drop_succ_cons, List.drop_zero]
  refine wl_st (wanted_none rfl) rfl F13 M (k := 0) rfl _ _ _ rfl (F13.get rfl) (F13.get rfl) (#[.slice A c.length cc]) (msgA ⟨m.k, m.p, m.c, m.e, m.s, m.a, m.b, c, m.l6, m.l7, m.l8, m.l9⟩ ⟨.slice A c.length cc, V.v6, V.v7, V.v8, V.v9⟩) rfl (Nat.le_of_ble_eq_true rfl) (one_slc rfl) (by kernel_rfl) (by kernel_rfl) ?_
  intro w14 M14
  clear M
  refine wpList_nil ?_
  try simp only [Exit.then, Exit.inBlock, Exit.jump]
  exact bodyPost_end (res0 rfl) F13.defers ⟨rfl, M14.blk (k := 0) rfl, M14.grown⟩
set_option maxRecDepth 100000 in
set_option maxHeartbeats 4000000 in
theorem set_6 (g : Nat) (m : MsgN) (V : MsgV) (c : List UInt8) (v : Value) (hc : c.length ≤ 100000)  (w : World) (hg : w.heap[g]? = some (.cells (msgA m V) 29 (0, 0))) (hv : IsB w c v) (hd : ¬ bfp v g) :
    Calls Try.prog 54 #[.pointer (some ⟨g, 0, none⟩), .int .i64 6, v] w fun e w' => e = .returned (.tuple #[]) ∧ w'.heap[g]? = some (.cells (msgA (setM m 6 c) (setV V 6 v)) 29 (0, 0)) ∧ w.grownBy w' (some g) := by
  obtain ⟨A, cc, rfl⟩ := hv.shape
  refine calls_fx (args := [.pointer (some ⟨g, 0, none⟩), .int .i64 6, .slice A c.length cc]) 97 Try.func54 rfl rfl rfl ?_
  intro fa F
  have M := Mx.theG hg 0
  replace M := M.argB 1 hv (fun b e => by cases e; exact hd)
  refine wp_seq_k fun K1 hK1 => wp_region_lit ?_
  refine rm rfl F fun a2 F2 => ?_
  refine hK1 _ _ (wp_block ?_)
  refine wp_seq_k fun K3 hK3 => wp_region_lit ?_
  refine exA 2 [(10, .bool false), (9, .bool false)] [] dnil [] F2 (by kernel_rfl) (by kernel_rfl) fun a4 F4 => ?_
  simp only [List.drop_succ_cons, List.drop_zero]
  refine hK3 _ _ (wp_cond_false (F4.get (t := 9) rfl) ?_)
  refine wp_seq_k fun K5 hK5 => wp_region_lit ?_
  refine exA 2 [(20, .bool false), (19, .bool false)] [] dnil [] F4 (by kernel_rfl) (by kernel_rfl) fun a6 F6 => ?_
  simp only [List.drop_succ_cons, List.drop_zero]
  refine hK5 _ _ (wp_cond_false (F6.get (t := 19) rfl) ?_)
  refine wp_seq_k fun K7 hK7 => wp_region_lit ?_
  refine exA 2 [(27, .bool false), (26, .bool false)] [] dnil [] F6 (by kernel_rfl) (by kernel_rfl) fun a8 F8 => ?_
  simp only [List.drop_succ_cons, List.drop_zero]
  refine hK7 _ _ (wp_cond_false (F8.get (t := 26) rfl) ?_)
  refine wp_seq_k fun K9 hK9 => wp_region_lit ?_
  refine exA 2 [(37, .bool false), (36, .bool false)] [] dnil [] F8 (by kernel_rfl) (by kernel_rfl) fun a10 F10 => ?_
  simp only [List.drop_succ_cons, List.drop_zero]
  refine hK9 _ _ (wp_cond_false (F10.get (t := 36) rfl) ?_)
  refine wp_seq_k fun K11 hK11 => wp_region_lit ?_
  refine exA 2 [(47, .bool false), (46, .bool false)] [] dnil [] F10 (by kernel_rfl) (by kernel_rfl) fun a12 F12 => ?_
  simp only [List.drop_succ_cons, List.drop_zero]
  refine hK11 _ _ (wp_cond_false (F12.get (t := 46) rfl) ?_)
  refine wp_seq_k fun K13 hK13 => wp_region_lit ?_
  refine exA 2 [(53, .bool true), (52, .bool true)] [] dnil [] F12 (by kernel_rfl) (by kernel_rfl) fun a14 F14 => ?_
  simp only [List.drop_succ_cons, List.drop_zero]
  refine hK13 _ _ (wp_cond_true (F14.get (t := 52) rfl) ?_)
  refine wp_region_lit ?_
  refine exS 4 [(55, .slice A c.length cc), (57, .pointer (some ⟨g, 22, none⟩))] [] dnil [] F14 (by kernel_rfl) fun a15 F15 => ?_
  simp only [List.drop_succ_cons, List.drop_zero]
  refine wl_st (wanted_none rfl) rfl F15 M (k := 0) rfl _ _ _ rfl (F15.get rfl) (F15.get rfl) (#[.slice A c.length cc]) (msgA ⟨m.k, m.p, m.c, m.e, m.s, m.a, m.b, m.l5, c, m.l7, m.l8, m.l9⟩ ⟨V.v5, .slice A c.length cc, V.v7, V.v8, V.v9⟩) rfl (Nat.le_of_ble_eq_true rfl) (one_slc rfl) (by kernel_rfl) (by kernel_rfl) ?_
  intro w16 M16
  clear M
  refine wpList_nil ?_
  try simp only [Exit.then, Exit.inBlock, Exit.jump]
  exact bodyPost_end (res0 rfl) F15.defers ⟨rfl, M16.blk (k := 0) rfl, M16.grown⟩
set_option maxRecDepth 100000 in
set_option maxHeartbeats 4000000 in
theorem set_7 (g : Nat) (m : MsgN) (V : MsgV) (c : List UInt8) (v : Value) (hc : c.length ≤ 100000)  (w : World) (hg : w.heap[g]? = some (.cells (msgA m V) 29 (0, 0))) (hv : IsB w c v) (hd : ¬ bfp v g) :
    Calls Try.prog 54 #[.pointer (some ⟨g, 0, none⟩), .int .i64 7, v] w fun e w' => e = .returned (.tuple #[]) ∧ w'.heap[g]? = some (.cells (msgA (setM m 7 c) (setV V 7 v)) 29 (0, 0)) ∧ w.grownBy w' (some g) := by
  obtain ⟨A, cc, rfl⟩ := hv.shape
  refine calls_fx (args := [.pointer (some ⟨g, 0, none⟩), .int .i64 7, .slice A c.length cc]) 97 Try.func54 rfl rfl rfl ?_
  intro fa F
  have M := Mx.theG hg 0
  replace M := M.argB 1 hv (fun b e => by cases e; exact hd)
  refine wp_seq_k fun K1 hK1 => wp_region_lit ?_
  refine rm rfl F fun a2 F2 => ?_
  refine hK1 _ _ (wp_block ?_)
  refine wp_seq_k fun K3 hK3 => wp_region_lit ?_
  refine exA 2 [(10, .bool false), (9, .bool false)] [] dnil [] F2 (by kernel_rfl) (by kernel_rfl) fun a4 F4 => ?_
  simp only [List.drop_succ_cons, List.drop_zero]
  refine hK3 _ _ (wp_cond_false (F4.get (t := 9) rfl) ?_)
  refine wp_seq_k fun K5 hK5 => wp_region_lit ?_
  refine exA 2 [(20, .bool false), (19, .bool false)] [] dnil [] F4 (by kernel_rfl) (by kernel_rfl) fun a6 F6 => ?_
  simp only [List.drop_succ_cons, List.drop_zero]
  refine hK5 _ _ (wp_cond_false (F6.get (t := 19) rfl) ?_)
  refine wp_seq_k fun K7 hK7 => wp_region_lit ?_
  refine exA 2 [(27, .bool false), (26, .bool false)] [] dnil [] F6 (by kernel_rfl) (by kernel_rfl) fun a8 F8 => ?_
  simp only [List.drop_succ_cons, List.drop_zero]
  refine hK7 _ _ (wp_cond_false (F8.get (t := 26) rfl) ?_)
  refine wp_seq_k fun K9 hK9 => wp_region_lit ?_
  refine exA 2 [(37, .bool false), (36, .bool false)] [] dnil [] F8 (by kernel_rfl) (by kernel_rfl) fun a10 F10 => ?_
  simp only [List.drop_succ_cons, List.drop_zero]
  refine hK9 _ _ (wp_cond_false (F10.get (t := 36) rfl) ?_)
  refine wp_seq_k fun K11 hK11 => wp_region_lit ?_
  refine exA 2 [(47, .bool false), (46, .bool false)] [] dnil [] F10 (by kernel_rfl) (by kernel_rfl) fun a12 F12 => ?_
  simp only [List.drop_succ_cons, List.drop_zero]
  refine hK11 _ _ (wp_cond_false (F12.get (t := 46) rfl) ?_)
  refine wp_seq_k fun K13 hK13 => wp_region_lit ?_
  refine exA 2 [(53, .bool false), (52, .bool false)] [] dnil [] F12 (by kernel_rfl) (by kernel_rfl) fun a14 F14 => ?_
  simp only [List.drop_succ_cons, List.drop_zero]
  refine hK13 _ _ (wp_cond_false (F14.get (t := 52) rfl) ?_)
  refine wp_seq_k fun K15 hK15 => wp_region_lit ?_
  refine exA 2 [(59, .bool true), (58, .bool true)] [] dnil [] F14 (by kernel_rfl) (by kernel_rfl) fun a16 F16 => ?_
  simp only [List.drop_succ_cons, List.drop_zero]
  refine hK15 _ _ (wp_cond_true (F16.get (t := 58) rfl) ?_)
  refine wp_region_lit ?_
  refine exS 4 [(61, .slice A c.length cc), (63, .pointer (some ⟨g, 23, none⟩))] [] dnil [] F16 (by kernel_rfl) fun a17 F17 => ?_
  simp only [List.drop_succ_cons, List.drop_zero]
  refine wl_st (wanted_none rfl) rfl F17 M (k := 0) rfl _ _ _ rfl (F17.get rfl) (F17.get rfl) (#[.slice A c.length cc]) (msgA ⟨m.k, m.p, m.c, m.e, m.s, m.a, m.b, m.l5, m.l6, c, m.l8, m.l9⟩ ⟨V.v5, V.v6, .slice A c.length cc, V.v8, V.v9⟩) rfl (Nat.le_of_ble_eq_true rfl) (one_slc rfl) (by kernel_rfl) (by kernel_rfl) ?_
  intro w18 M18
  clear M
  refine wpList_nil ?_
  try simp only [Exit.then, Exit.inBlock, Exit.jump]
  exact bodyPost_end (res0 rfl) F17.defers ⟨rfl, M18.blk (k := 0) rfl, M18.grown⟩
set_option maxRecDepth 100000 in
set_option maxHeartbeats 4000000 in
theorem set_8 (g : Nat) (m : MsgN) (V : MsgV) (c : List UInt8) (v : Value) (hc : c.length ≤ 100000)  (w : World) (hg : w.heap[g]? = some (.cells (msgA m V) 29 (0, 0))) (hv : IsB w c v) (hd : ¬ bfp v g) :
    Calls Try.prog 54 #[.pointer (some ⟨g, 0, none⟩), .int .i64 8, v] w fun e w' => e = .returned (.tuple #[]) ∧ w'.heap[g]? = some (.cells (msgA (setM m 8 c) (setV V 8 v)) 29 (0, 0)) ∧ w.grownBy w' (some g) := by
  obtain ⟨A, cc, rfl⟩ := hv.shape
  refine calls_fx (args := [.pointer (some ⟨g, 0, none⟩), .int .i64 8, .slice A c.length cc]) 97 Try.func54 rfl rfl rfl ?_
  intro fa F
  have M := Mx.theG hg 0
  replace M := M.argB 1 hv (fun b e => by cases e; exact hd)
  refine wp_seq_k fun K1 hK1 => wp_region_lit ?_
  refine rm rfl F fun a2 F2 => ?_
  refine hK1 _ _ (wp_block ?_)
  refine wp_seq_k fun K3 hK3 => wp_region_lit ?_
  refine exA 2 [(10, .bool false), (9, .bool false)] [] dnil [] F2 (by kernel_rfl) (by kernel_rfl) fun a4 F4 => ?_
  simp only [List.drop_succ_cons, List.drop_zero]
  refine hK3 _ _ (wp_cond_false (F4.get (t := 9) rfl) ?_)
  refine wp_seq_k fun K5 hK5 => wp_region_lit ?_
  refine exA 2 [(20, .bool false), (19, .bool false)] [] dnil [] F4 (by kernel_rfl) (by kernel_rfl) fun a6 F6 => ?_
  simp only [List.drop_succ_cons, List.drop_zero]
  refine hK5 _ _ (wp_cond_false (F6.get (t := 19) rfl) ?_)
  refine wp_seq_k fun K7 hK7 => wp_region_lit ?_
  refine exA 2 [(27, .bool false), (26, .bool false)] [] dnil [] F6 (by kernel_rfl) (by kernel_rfl) fun a8 F8 => ?_
  simp only [List.drop_succ_cons, List.drop_zero]
  refine hK7 _ _ (wp_cond_false (F8.get (t := 26) rfl) ?_)
  refine wp_seq_k fun K9 hK9 => wp_region_lit ?_
  refine exA 2 [(37, .bool false), (36, .bool false)] [] dnil [] F8 (by kernel_rfl) (by kernel_rfl) fun a10 F10 => ?_
  simp only [List.drop_succ_cons, List.drop_zero]
  refine hK9 _ _ (wp_cond_false (F10.get (t := 36) rfl) ?_)
  refine wp_seq_k fun K11 hK11 => wp_region_lit ?_
  refine exA 2 [(47, .bool false), (46, .bool false)] [] dnil [] F10 (by kernel_rfl) (by kernel_rfl) fun a12 F12 => ?_
  simp only [List.drop_succ_cons, List.drop_zero]
  refine hK11 _ _ (wp_cond_false (F12.get (t := 46) rfl) ?_)
  refine wp_seq_k fun K13 hK13 => wp_region_lit ?_
  refine exA 2 [(53, .bool false), (52, .bool false)] [] dnil [] F12 (by kernel_rfl) (by kernel_rfl) fun a14 F14 => ?_
  simp only [List.drop_succ_cons, List.drop_zero]
  refine hK13 _ _ (wp_cond_false (F14.get (t := 52) rfl) ?_)
  refine wp_seq_k fun K15 hK15 => wp_region_lit ?_
  refine exA 2 [(59, .bool false), (58, .bool false)] [] dnil [] F14 (by kernel_rfl) (by kernel_rfl) fun a16 F16 => ?_
  simp only [List.drop_succ_cons, List.drop_zero]
  refine hK15 _ _ (wp_cond_false (F16.get (t := 58) rfl) ?_)
  refine wp_seq_k fun K17 hK17 => wp_region_lit ?_
  refine exA 2 [(65, .bool true), (64, .bool true)] [] dnil [] F16 (by kernel_rfl) (by kernel_rfl) fun a18 F18 => ?_
  simp only [List.drop_succ_cons, List.drop_zero]
  refine hK17 _ _ (wp_cond_true (F18.get (t := 64) rfl) ?_)
  refine wp_region_lit ?_
  refine exS 4 [(67, .slice A c.length cc), (69, .pointer (some ⟨g, 24, none⟩))] [] dnil [] F18 (by kernel_rfl) fun a19 F19 => ?_
  simp only [List.drop_succ_cons, List.drop_zero]
  refine wl_st (wanted_none rfl) rfl F19 M (k := 0) rfl _ _ _ rfl (F19.get rfl) (F19.get rfl) (#[.slice A c.length cc]) (msgA ⟨m.k, m.p, m.c, m.e, m.s, m.a, m.b, m.l5, m.l6, m.l7, c, m.l9⟩ ⟨V.v5, V.v6, V.v7, .slice A c.length cc, V.v9⟩) rfl (Nat.le_of_ble_eq_true rfl) (one_slc rfl) (by kernel_rfl) (by kernel_rfl) ?_
  intro w20 M20
  clear M
  refine wpList_nil ?_
  try simp only [Exit.then, Exit.inBlock, Exit.jump]
  exact bodyPost_end (res0 rfl) F19.defers ⟨rfl, M20.blk (k := 0) rfl, M20.grown⟩
set_option maxRecDepth 100000 in
set_option maxHeartbeats 4000000 in
theorem set_9 (g : Nat) (m : MsgN) (V : MsgV) (c : List UInt8) (v : Value) (hc : c.length ≤ 100000)  (w : World) (hg : w.heap[g]? = some (.cells (msgA m V) 29 (0, 0))) (hv : IsB w c v) (hd : ¬ bfp v g) :
    Calls Try.prog 54 #[.pointer (some ⟨g, 0, none⟩), .int .i64 9, v] w fun e w' => e = .returned (.tuple #[]) ∧ w'.heap[g]? = some (.cells (msgA (setM m 9 c) (setV V 9 v)) 29 (0, 0)) ∧ w.grownBy w' (some g) := by
  obtain ⟨A, cc, rfl⟩ := hv.shape
  refine calls_fx (args := [.pointer (some ⟨g, 0, none⟩), .int .i64 9, .slice A c.length cc]) 97 Try.func54 rfl rfl rfl ?_
  intro fa F
  have M := Mx.theG hg 0
  replace M := M.argB 1 hv (fun b e => by cases e; exact hd)
  refine wp_seq_k fun K1 hK1 => wp_region_lit ?_
  refine rm rfl F fun a2 F2 => ?_
  refine hK1 _ _ (wp_block ?_)
  refine wp_seq_k fun K3 hK3 => wp_region_lit ?_
  refine exA 2 [(10, .bool false), (9, .bool false)] [] dnil [] F2 (by kernel_rfl) (by kernel_rfl) fun a4 F4 => ?_
  simp only [List.drop_succ_cons, List.drop_zero]
  refine hK3 _ _ (wp_cond_false (F4.get (t := 9) rfl) ?_)
  refine wp_seq_k fun K5 hK5 => wp_region_lit ?_
  refine exA 2 [(20, .bool false), (19, .bool false)] [] dnil [] F4 (by kernel_rfl) (by kernel_rfl) fun a6 F6 => ?_
  simp only [List.drop_succ_cons, List.drop_zero]
  refine hK5 _ _ (wp_cond_false (F6.get (t := 19) rfl) ?_)
  refine wp_seq_k fun K7 hK7 => wp_region_lit ?_
  refine exA 2 [(27, .bool false), (26, .bool false)] [] dnil [] F6 (by kernel_rfl) (by kernel_rfl) fun a8 F8 => ?_
  simp only [List.drop_succ_cons, List.drop_zero]
  refine hK7 _ _ (wp_cond_false (F8.get (t := 26) rfl) ?_)
  refine wp_seq_k fun K9 hK9 => wp_region_lit ?_
  refine exA 2 [(37, .bool false), (36, .bool false)] [] dnil [] F8 (by kernel_rfl) (by kernel_rfl) fun a10 F10 => ?_
  simp only [List.drop_succ_cons, List.drop_zero]
  refine hK9 _ _ (wp_cond_false (F10.get (t := 36) rfl) ?_)
  refine wp_seq_k fun K11 hK11 => wp_region_lit ?_
  refine exA 2 [(47, .bool false), (46, .bool false)] [] dnil [] F10 (by kernel_rfl) (by kernel_rfl) fun a12 F12 => ?_
  simp only [List.drop_succ_cons, List.drop_zero]
  refine hK11 _ _ (wp_cond_false (F12.get (t := 46) rfl) ?_)
  refine wp_seq_k fun K13 hK13 => wp_region_lit ?_
  refine exA 2 [(53, .bool false), (52, .bool false)] [] dnil [] F12 (by kernel_rfl) (by kernel_rfl) fun a14 F14 => ?_
  simp only [List.drop_succ_cons, List.drop_zero]
  refine hK13 _ _ (wp_cond_false (F14.get (t := 52) rfl) ?_)
  refine wp_seq_k fun K15 hK15 => wp_region_lit ?_
  refine exA 2 [(59, .bool false), (58, .bool false)] [] dnil [] F14 (by kernel_rfl) (by kernel_rfl) fun a16 F16 => ?_
  simp only [List.drop_succ_cons, List.drop_zero]
  refine hK15 _ _ (wp_cond_false (F16.get (t := 58) rfl) ?_)
  refine wp_seq_k fun K17 hK17 => wp_region_lit ?_
  refine exA 2 [(65, .bool false), (64, .bool false)] [] dnil [] F16 (by kernel_rfl) (by kernel_rfl) fun a18 F18 => ?_
  simp only [List.drop_succ_cons, List.drop_zero]
  refine hK17 _ _ (wp_cond_false (F18.get (t := 64) rfl) ?_)
  refine wp_seq_k fun K19 hK19 => wp_region_lit ?_
  refine exA 2 [(71, .bool true), (70, .bool true)] [] dnil [] F18 (by kernel_rfl) (by kernel_rfl) fun a20 F20 => ?_
  simp only [List.drop_succ_cons, List.drop_zero]
  refine hK19 _ _ (wp_cond_true (F20.get (t := 70) rfl) ?_)
  refine wp_region_lit ?_
  refine exS 4 [(73, .slice A c.length cc), (75, .pointer (some ⟨g, 25, none⟩))] [] dnil [] F20 (by kernel_rfl) fun a21 F21 => ?_
  simp only [List.drop_succ_cons, List.drop_zero]
  refine wl_st (wanted_none rfl) rfl F21 M (k := 0) rfl _ _ _ rfl (F21.get rfl) (F21.get rfl) (#[.slice A c.length cc]) (msgA ⟨m.k, m.p, m.c, m.e, m.s, m.a, m.b, m.l5, m.l6, m.l7, m.l8, c⟩ ⟨V.v5, V.v6, V.v7, V.v8, .slice A c.length cc⟩) rfl (Nat.le_of_ble_eq_true rfl) (one_slc rfl) (by kernel_rfl) (by kernel_rfl) ?_
  intro w22 M22
  clear M
  refine wpList_nil ?_
  try simp only [Exit.then, Exit.inBlock, Exit.jump]
  exact bodyPost_end (res0 rfl) F21.defers ⟨rfl, M22.blk (k := 0) rfl, M22.grown⟩
set_option maxRecDepth 100000 in
set_option maxHeartbeats 4000000 in
theorem set_10 (g : Nat) (m : MsgN) (V : MsgV) (c : List UInt8) (v : Value) (hc : c.length ≤ 100000)  (w : World) (hg : w.heap[g]? = some (.cells (msgA m V) 29 (0, 0))) (hv : IsB w c v) (hd : ¬ bfp v g) :
    Calls Try.prog 54 #[.pointer (some ⟨g, 0, none⟩), .int .i64 10, v] w fun e w' => e = .returned (.tuple #[]) ∧ w'.heap[g]? = some (.cells (msgA (setM m 10 c) (setV V 10 v)) 29 (0, 0)) ∧ w.grownBy w' (some g) := by
  obtain ⟨A, cc, rfl⟩ := hv.shape
  refine calls_fx (args := [.pointer (some ⟨g, 0, none⟩), .int .i64 10, .slice A c.length cc]) 97 Try.func54 rfl rfl rfl ?_
  intro fa F
  have M := Mx.theG hg 0
  replace M := M.argB 1 hv (fun b e => by cases e; exact hd)
  refine wp_seq_k fun K1 hK1 => wp_region_lit ?_
  refine rm rfl F fun a2 F2 => ?_
  refine hK1 _ _ (wp_block ?_)
  refine wp_seq_k fun K3 hK3 => wp_region_lit ?_
  refine exA 2 [(10, .bool false), (9, .bool false)] [] dnil [] F2 (by kernel_rfl) (by kernel_rfl) fun a4 F4 => ?_
  simp only [List.drop_succ_cons, List.drop_zero]
  refine hK3 _ _ (wp_cond_false (F4.get (t := 9) rfl) ?_)
  refine wp_seq_k fun K5 hK5 => wp_region_lit ?_
  refine exA 2 [(20, .bool false), (19, .bool false)] [] dnil [] F4 (by kernel_rfl) (by kernel_rfl) fun a6 F6 => ?_
  simp only [List.drop_succ_cons, List.drop_zero]
  refine hK5 _ _ (wp_cond_false (F6.get (t := 19) rfl) ?_)
  refine wp_seq_k fun K7 hK7 => wp_region_lit ?_
  refine exA 2 [(27, .bool false), (26, .bool false)] [] dnil [] F6 (by kernel_rfl) (by kernel_rfl) fun a8 F8 => ?_
  simp only [List.drop_succ_cons, List.drop_zero]
  refine hK7 _ _ (wp_cond_false (F8.get (t := 26) rfl) ?_)
  refine wp_seq_k fun K9 hK9 => wp_region_lit ?_
  refine exA 2 [(37, .bool false), (36, .bool false)] [] dnil [] F8 (by kernel_rfl) (by kernel_rfl) fun a10 F10 => ?_
  simp only [List.drop_succ_cons, List.drop_zero]
  refine hK9 _ _ (wp_cond_false (F10.get (t := 36) rfl) ?_)
  refine wp_seq_k fun K11 hK11 => wp_region_lit ?_
  refine exA 2 [(47, .bool false), (46, .bool false)] [] dnil [] F10 (by kernel_rfl) (by kernel_rfl) fun a12 F12 => ?_
  simp only [List.drop_succ_cons, List.drop_zero]
  refine hK11 _ _ (wp_cond_false (F12.get (t := 46) rfl) ?_)
  refine wp_seq_k fun K13 hK13 => wp_region_lit ?_
  refine exA 2 [(53, .bool false), (52, .bool false)] [] dnil [] F12 (by kernel_rfl) (by kernel_rfl) fun a14 F14 => ?_
  simp only [List.drop_succ_cons, List.drop_zero]
  refine hK13 _ _ (wp_cond_false (F14.get (t := 52) rfl) ?_)
  refine wp_seq_k fun K15 hK15 => wp_region_lit ?_
  refine exA 2 [(59, .bool false), (58, .bool false)] [] dnil [] F14 (by kernel_rfl) (by kernel_rfl) fun a16 F16 => ?_
  simp only [List.drop_succ_cons, List.drop_zero]
  refine hK15 _ _ (wp_cond_false (F16.get (t := 58) rfl) ?_)
  refine wp_seq_k fun K17 hK17 => wp_region_lit ?_
  refine exA 2 [(65, .bool false), (64, .bool false)] [] dnil [] F16 (by kernel_rfl) (by kernel_rfl) fun a18 F18 => ?_
  simp only [List.drop_succ_cons, List.drop_zero]
  refine hK17 _ _ (wp_cond_false (F18.get (t := 64) rfl) ?_)
  refine wp_seq_k fun K19 hK19 => wp_region_lit ?_
  refine exA 2 [(71, .bool false), (70, .bool false)] [] dnil [] F18 (by kernel_rfl) (by kernel_rfl) fun a20 F20 => ?_
  simp only [List.drop_succ_cons, List.drop_zero]
  refine hK19 _ _ (wp_cond_false (F20.get (t := 70) rfl) ?_)
  refine wp_seq_k fun K21 hK21 => wp_region_lit ?_
  refine exA 2 [(77, .bool true), (76, .bool true)] [] dnil [] F20 (by kernel_rfl) (by kernel_rfl) fun a22 F22 => ?_
  simp only [List.drop_succ_cons, List.drop_zero]
  refine hK21 _ _ (wp_cond_true (F22.get (t := 76) rfl) ?_)
  refine wp_region_lit ?_
  refine rm rfl F22 fun a23 F23 => ?_
  refine rm rfl F23 fun a24 F24 => ?_
  refine wl_call (wanted_none rfl) rfl F24 rfl rfl (enters_of Try.func81 (by kernel_rfl) rfl) #[.slice A c.length cc] (args1 (F24.get rfl)) (call_ex ((number_any c (.slice A c.length cc) hc w (M.isb (k := 1) rfl)))) ?_
  rintro _ w25 a25 ⟨rfl, b25⟩ F25
  have M25 := M.step b25
  refine exS 5 [(82, .int .i64 (numI c)), (85, .pointer (some ⟨g, 2, none⟩))] [] dnil [] F25 (by kernel_rfl) fun a26 F26 => ?_
  simp only [List.drop_succ_cons, List.drop_zero]
  refine wl_st (wanted_none rfl) rfl F26 M25 (k := 0) rfl _ _ _ rfl (F26.get rfl) (F26.get rfl) (#[.int .i64 (numI c)]) (msgA ⟨m.k, m.p, (numI c), m.e, m.s, m.a, m.b, m.l5, m.l6, m.l7, m.l8, m.l9⟩ ⟨V.v5, V.v6, V.v7, V.v8, V.v9⟩) rfl (Nat.le_of_ble_eq_true rfl) (one_int _ _) (by kernel_rfl) (by kernel_rfl) ?_
  intro w27 M27
  clear M25
  refine wpList_nil ?_
  try simp only [Exit.then, Exit.inBlock, Exit.jump]
  exact bodyPost_end (res0 rfl) F26.defers ⟨rfl, M27.blk (k := 0) rfl, M27.grown⟩
set_option maxRecDepth 100000 in
set_option maxHeartbeats 4000000 in
theorem set_11 (g : Nat) (m : MsgN) (V : MsgV) (c : List UInt8) (v : Value) (hc : c.length ≤ 100000)  (w : World) (hg : w.heap[g]? = some (.cells (msgA m V) 29 (0, 0))) (hv : IsB w c v) (hd : ¬ bfp v g) :
    Calls Try.prog 54 #[.pointer (some ⟨g, 0, none⟩), .int .i64 11, v] w fun e w' => e = .returned (.tuple #[]) ∧ w'.heap[g]? = some (.cells (msgA (setM m 11 c) (setV V 11 v)) 29 (0, 0)) ∧ w.grownBy w' (some g) := by
  obtain ⟨A, cc, rfl⟩ := hv.shape
  refine calls_fx (args := [.pointer (some ⟨g, 0, none⟩), .int .i64 11, .slice A c.length cc]) 97 Try.func54 rfl rfl rfl ?_
  intro fa F
  have M := Mx.theG hg 0
  replace M := M.argB 1 hv (fun b e => by cases e; exact hd)
  refine wp_seq_k fun K1 hK1 => wp_region_lit ?_
  refine rm rfl F fun a2 F2 => ?_
  refine hK1 _ _ (wp_block ?_)
  refine wp_seq_k fun K3 hK3 => wp_region_lit ?_
  refine exA 2 [(10, .bool false), (9, .bool false)] [] dnil [] F2 (by kernel_rfl) (by kernel_rfl) fun a4 F4 => ?_
  simp only [List.drop_succ_cons, List.drop_zero]
  refine hK3 _ _ (wp_cond_false (F4.get (t := 9) rfl) ?_)
  refine wp_seq_k fun K5 hK5 => wp_region_lit ?_
  refine exA 2 [(20, .bool false), (19, .bool false)] [] dnil [] F4 (by kernel_rfl) (by kernel_rfl) fun a6 F6 => ?_
  simp only [List.drop_succ_cons, List.drop_zero]
  refine hK5 _ _ (wp_cond_false (F6.get (t := 19) rfl) ?_)
  refine wp_seq_k fun K7 hK7 => wp_region_lit ?_
  refine exA 2 [(27, .bool false), (26, .bool false)] [] dnil [] F6 (by kernel_rfl) (by kernel_rfl) fun a8 F8 => ?_
  simp only [List.drop_succ_cons, List.drop_zero]
  refine hK7 _ _ (wp_cond_false (F8.get (t := 26) rfl) ?_)
  refine wp_seq_k fun K9 hK9 => wp_region_lit ?_
  refine exA 2 [(37, .bool false), (36, .bool false)] [] dnil [] F8 (by kernel_rfl) (by kernel_rfl) fun a10 F10 => ?_
  simp only [List.drop_succ_cons, List.drop_zero]
  refine hK9 _ _ (wp_cond_false (F10.get (t := 36) rfl) ?_)
  refine wp_seq_k fun K11 hK11 => wp_region_lit ?_
  refine exA 2 [(47, .bool false), (46, .bool false)] [] dnil [] F10 (by kernel_rfl) (by kernel_rfl) fun a12 F12 => ?_
  simp only [List.drop_succ_cons, List.drop_zero]
  refine hK11 _ _ (wp_cond_false (F12.get (t := 46) rfl) ?_)
  refine wp_seq_k fun K13 hK13 => wp_region_lit ?_
  refine exA 2 [(53, .bool false), (52, .bool false)] [] dnil [] F12 (by kernel_rfl) (by kernel_rfl) fun a14 F14 => ?_
  simp only [List.drop_succ_cons, List.drop_zero]
  refine hK13 _ _ (wp_cond_false (F14.get (t := 52) rfl) ?_)
  refine wp_seq_k fun K15 hK15 => wp_region_lit ?_
  refine exA 2 [(59, .bool false), (58, .bool false)] [] dnil [] F14 (by kernel_rfl) (by kernel_rfl) fun a16 F16 => ?_
  simp only [List.drop_succ_cons, List.drop_zero]
  refine hK15 _ _ (wp_cond_false (F16.get (t := 58) rfl) ?_)
  refine wp_seq_k fun K17 hK17 => wp_region_lit ?_
  refine exA 2 [(65, .bool false), (64, .bool false)] [] dnil [] F16 (by kernel_rfl) (by kernel_rfl) fun a18 F18 => ?_
  simp only [List.drop_succ_cons, List.drop_zero]
  refine hK17 _ _ (wp_cond_false (F18.get (t := 64) rfl) ?_)
  refine wp_seq_k fun K19 hK19 => wp_region_lit ?_
  refine exA 2 [(71, .bool false), (70, .bool false)] [] dnil [] F18 (by kernel_rfl) (by kernel_rfl) fun a20 F20 => ?_
  simp only [List.drop_succ_cons, List.drop_zero]
  refine hK19 _ _ (wp_cond_false (F20.get (t := 70) rfl) ?_)
  refine wp_seq_k fun K21 hK21 => wp_region_lit ?_
  refine exA 2 [(77, .bool false), (76, .bool false)] [] dnil [] F20 (by kernel_rfl) (by kernel_rfl) fun a22 F22 => ?_
  simp only [List.drop_succ_cons, List.drop_zero]
  refine hK21 _ _ (wp_cond_false (F22.get (t := 76) rfl) ?_)
  refine wp_seq_k fun K23 hK23 => wp_region_lit ?_
  refine rn rfl rfl F22 rfl (.bool true) (y_eqI _ _ _ _ rfl (F22.get rfl) rfl Try.underlying3 (y_beqT (by decide))) fun a24 F24 => ?_
  refine rm rfl F24 fun a25 F25 => ?_
  refine hK23 _ _ (wp_cond_true (F25.get (t := 86) rfl) ?_)
  refine wp_seq_k fun K26 hK26 => wp_region_lit ?_
  refine rm rfl F25 fun a27 F27 => ?_
  refine wl_call (wanted_none rfl) rfl F27 rfl rfl (enters_of Try.func81 (by kernel_rfl) rfl) #[.slice A c.length cc] (args1 (F27.get rfl)) (call_ex ((number_any c (.slice A c.length cc) hc w (M.isb (k := 1) rfl)))) ?_
  rintro _ w28 a28 ⟨rfl, b28⟩ F28
  have M28 := M.step b28
  refine exS 5 [(0, .pointer (some ⟨g, 0, none⟩)), (6, .int .i64 (numI c))] [] dnil [] F28 (by kernel_rfl) fun a29 F29 => ?_
  simp only [List.drop_succ_cons, List.drop_zero]
  refine hK26 _ _ (wp_region_lit ?_)
  refine exS 4 [(94, .int .i64 (numI c)), (96, .pointer (some ⟨g, 3, none⟩))] [] dnil [] F29 (by kernel_rfl) fun a30 F30 => ?_
  simp only [List.drop_succ_cons, List.drop_zero]
  refine wl_st (wanted_none rfl) rfl F30 M28 (k := 0) rfl _ _ _ rfl (F30.get rfl) (F30.get rfl) (#[.int .i64 (numI c)]) (msgA ⟨m.k, m.p, m.c, (numI c), m.s, m.a, m.b, m.l5, m.l6, m.l7, m.l8, m.l9⟩ ⟨V.v5, V.v6, V.v7, V.v8, V.v9⟩) rfl (Nat.le_of_ble_eq_true rfl) (one_int _ _) (by kernel_rfl) (by kernel_rfl) ?_
  intro w31 M31
  clear M28
  refine wpList_nil ?_
  try simp only [Exit.then, Exit.inBlock, Exit.jump]
  exact bodyPost_end (res0 rfl) F30.defers ⟨rfl, M31.blk (k := 0) rfl, M31.grown⟩
set_option maxRecDepth 100000 in
set_option maxHeartbeats 4000000 in
theorem set_no (g : Nat) (m : MsgN) (V : MsgV) (c : List UInt8) (v : Value) (hc : c.length ≤ 100000) (n : Nat) (hn : n < 1 ∨ 11 < n) (w : World) (hg : w.heap[g]? = some (.cells (msgA m V) 29 (0, 0))) (hv : IsB w c v) (hd : ¬ bfp v g) :
    Calls Try.prog 54 #[.pointer (some ⟨g, 0, none⟩), .int .i64 (n : Int), v] w fun e w' => e = .returned (.tuple #[]) ∧ w'.heap[g]? = some (.cells (msgA (setM m n c) (setV V n v)) 29 (0, 0)) ∧ w.grownBy w' (some g) := by
  obtain ⟨A, cc, rfl⟩ := hv.shape
  refine calls_fx (args := [.pointer (some ⟨g, 0, none⟩), .int .i64 (n : Int), .slice A c.length cc]) 97 Try.func54 rfl rfl rfl ?_
  intro fa F
  have M := Mx.theG hg 0
  replace M := M.argB 1 hv (fun b e => by cases e; exact hd)
  refine wp_seq_k fun K1 hK1 => wp_region_lit ?_
  refine rm rfl F fun a2 F2 => ?_
  refine hK1 _ _ (wp_block ?_)
  refine wp_seq_k fun K3 hK3 => wp_region_lit ?_
  refine rn rfl rfl F2 rfl (.bool false) (y_eqI _ _ _ _ rfl (F2.get rfl) rfl Try.underlying3 (y_beqF (by omega))) fun a4 F4 => ?_
  refine rm rfl F4 fun a5 F5 => ?_
  refine hK3 _ _ (wp_cond_false (F5.get (t := 9) rfl) ?_)
  refine wp_seq_k fun K6 hK6 => wp_region_lit ?_
  refine rn rfl rfl F5 rfl (.bool false) (y_eqI _ _ _ _ rfl (F5.get rfl) rfl Try.underlying3 (y_beqF (by omega))) fun a7 F7 => ?_
  refine rm rfl F7 fun a8 F8 => ?_
  refine hK6 _ _ (wp_cond_false (F8.get (t := 19) rfl) ?_)
  refine wp_seq_k fun K9 hK9 => wp_region_lit ?_
  refine rn rfl rfl F8 rfl (.bool false) (y_eqI _ _ _ _ rfl (F8.get rfl) rfl Try.underlying3 (y_beqF (by omega))) fun a10 F10 => ?_
  refine rm rfl F10 fun a11 F11 => ?_
  refine hK9 _ _ (wp_cond_false (F11.get (t := 26) rfl) ?_)
  refine wp_seq_k fun K12 hK12 => wp_region_lit ?_
  refine rn rfl rfl F11 rfl (.bool false) (y_eqI _ _ _ _ rfl (F11.get rfl) rfl Try.underlying3 (y_beqF (by omega))) fun a13 F13 => ?_
  refine rm rfl F13 fun a14 F14 => ?_
  refine hK12 _ _ (wp_cond_false (F14.get (t := 36) rfl) ?_)
  refine wp_seq_k fun K15 hK15 => wp_region_lit ?_
  refine rn rfl rfl F14 rfl (.bool false) (y_eqI _ _ _ _ rfl (F14.get rfl) rfl Try.underlying3 (y_beqF (by omega))) fun a16 F16 => ?_
  refine rm rfl F16 fun a17 F17 => ?_
  refine hK15 _ _ (wp_cond_false (F17.get (t := 46) rfl) ?_)
  refine wp_seq_k fun K18 hK18 => wp_region_lit ?_
  refine rn rfl rfl F17 rfl (.bool false) (y_eqI _ _ _ _ rfl (F17.get rfl) rfl Try.underlying3 (y_beqF (by omega))) fun a19 F19 => ?_
  refine rm rfl F19 fun a20 F20 => ?_
  refine hK18 _ _ (wp_cond_false (F20.get (t := 52) rfl) ?_)
  refine wp_seq_k fun K21 hK21 => wp_region_lit ?_
  refine rn rfl rfl F20 rfl (.bool false) (y_eqI _ _ _ _ rfl (F20.get rfl) rfl Try.underlying3 (y_beqF (by omega))) fun a22 F22 => ?_
  refine rm rfl F22 fun a23 F23 => ?_
  refine hK21 _ _ (wp_cond_false (F23.get (t := 58) rfl) ?_)
  refine wp_seq_k fun K24 hK24 => wp_region_lit ?_
  refine rn rfl rfl F23 rfl (.bool false) (y_eqI _ _ _ _ rfl (F23.get rfl) rfl Try.underlying3 (y_beqF (by omega))) fun a25 F25 => ?_
  refine rm rfl F25 fun a26 F26 => ?_
  refine hK24 _ _ (wp_cond_false (F26.get (t := 64) rfl) ?_)
  refine wp_seq_k fun K27 hK27 => wp_region_lit ?_
  refine rn rfl rfl F26 rfl (.bool false) (y_eqI _ _ _ _ rfl (F26.get rfl) rfl Try.underlying3 (y_beqF (by omega))) fun a28 F28 => ?_
  refine rm rfl F28 fun a29 F29 => ?_
  refine hK27 _ _ (wp_cond_false (F29.get (t := 70) rfl) ?_)
  refine wp_seq_k fun K30 hK30 => wp_region_lit ?_
  refine rn rfl rfl F29 rfl (.bool false) (y_eqI _ _ _ _ rfl (F29.get rfl) rfl Try.underlying3 (y_beqF (by omega))) fun a31 F31 => ?_
  refine rm rfl F31 fun a32 F32 => ?_
  refine hK30 _ _ (wp_cond_false (F32.get (t := 76) rfl) ?_)
  refine wp_seq_k fun K33 hK33 => wp_region_lit ?_
  refine rn rfl rfl F32 rfl (.bool false) (y_eqI _ _ _ _ rfl (F32.get rfl) rfl Try.underlying3 (y_beqF (by omega))) fun a34 F34 => ?_
  refine rm rfl F34 fun a35 F35 => ?_
  refine hK33 _ _ (wp_cond_false (F35.get (t := 86) rfl) ?_)
  refine wp_skip ?_
  try simp only [Exit.then, Exit.inBlock, Exit.jump]
  exact bodyPost_end (res0 rfl) F35.defers ⟨rfl, (by rw [setM_no hn, setV_no hn]; exact M.blk (k := 0) rfl), M.grown⟩
theorem set_any (g : Nat) (m : MsgN) (V : MsgV) (c : List UInt8) (v : Value) (hc : c.length ≤ 100000) (n : Nat) (w : World) (hg : w.heap[g]? = some (.cells (msgA m V) 29 (0, 0))) (hv : IsB w c v) (hd : ¬ bfp v g) :
    Calls Try.prog 54 #[.pointer (some ⟨g, 0, none⟩), .int .i64 (n : Int), v] w fun e w' => e = .returned (.tuple #[]) ∧ w'.heap[g]? = some (.cells (msgA (setM m n c) (setV V n v)) 29 (0, 0)) ∧ w.grownBy w' (some g) := by
  have : n = 1 ∨ n = 2 ∨ n = 3 ∨ n = 4 ∨ n = 5 ∨ n = 6 ∨ n = 7 ∨ n = 8 ∨ n = 9 ∨ n = 10 ∨ n = 11 ∨ (n < 1 ∨ 11 < n) := by omega
  rcases this with rfl | rfl | rfl | rfl | rfl | rfl | rfl | rfl | rfl | rfl | rfl | hn
  · exact set_1 g m V c v hc w hg hv hd
  · exact set_2 g m V c v hc w hg hv hd
  · exact set_3 g m V c v hc w hg hv hd
  · exact set_4 g m V c v hc w hg hv hd
  · exact set_5 g m V c v hc w hg hv hd
  · exact set_6 g m V c v hc w hg hv hd
  · exact set_7 g m V c v hc w hg hv hd
  · exact set_8 g m V c v hc w hg hv hd
  · exact set_9 g m V c v hc w hg hv hd
  · exact set_10 g m V c v hc w hg hv hd
  · exact set_11 g m V c v hc w hg hv hd
  · exact set_no g m V c v hc n hn w hg hv hd
end Go.Proofs.Ytlbkogdmojlpmaa
namespace Go.Proofs.Ytlbkogdmojlpmaa
set_option linter.unusedVariables false
set_option maxRecDepth 20000
set_option linter.unusedSimpArgs false
open Go.ChangeShapes Go.WideShapes Go.ChangeAt Go.RowKit
theorem encode_ex (m : MsgN) (V : MsgV) (ho : MsgOk m) (hs : m.s.size ≤ 1000) (w : World) (hm : MsgIs w m V) : Calls Try.prog 17 #[.agg (msgA m V)] w fun e w' => ∃ t, e = .returned t ∧ ∃ v, t = .tuple #[v, .bool (encOk m)] ∧ Byt w' w.heap.size v (encL m) ∧ Below w.heap.size w w' :=
  (encode_any m V ho hs w hm).mono fun e w' ⟨v, h1, h2, h3⟩ => ⟨_, h1, v, rfl, h2, h3⟩
theorem msgA_one {w : World} {m : MsgN} {V : MsgV} (h : MsgIs w m V) : (msgA m V).all (·.oneCell') = true := by
  obtain ⟨v5, v6, v7, v8, v9⟩ := V
  obtain ⟨A5, c5, rfl⟩ := h.h5.shape
  obtain ⟨A6, c6, rfl⟩ := h.h6.shape
  obtain ⟨A7, c7, rfl⟩ := h.h7.shape
  obtain ⟨A8, c8, rfl⟩ := h.h8.shape
  obtain ⟨A9, c9, rfl⟩ := h.h9.shape
  simp [msgA, numF, Value.oneCell']
def mZero : MsgN := ⟨0, 0, 0, 0, ⟨#[]⟩, 0, 0, [], [], [], [], []⟩
def vZero : MsgV := ⟨.slice none 0 0, .slice none 0 0, .slice none 0 0, .slice none 0 0, .slice none 0 0⟩
theorem vZero_is (w : World) : MsgIs w mZero vZero := ⟨isb_nil _, isb_nil _, isb_nil _, isb_nil _, isb_nil _⟩
theorem vZero_fp (g : Nat) (h : msgfp vZero g) : False := by
  rcases h with h | h | h | h | h <;> exact bfp_nil g h
def subV (V' V : MsgV) (g : Nat) : Prop := (bfp V'.v5 g → bfp V.v5 g) ∧ (bfp V'.v6 g → bfp V.v6 g) ∧ (bfp V'.v7 g → bfp V.v7 g) ∧ (bfp V'.v8 g → bfp V.v8 g) ∧ (bfp V'.v9 g → bfp V.v9 g)
noncomputable def provOk (m : MsgN) (b : List UInt8) : Bool := encOk m && decide (encL m = b)
noncomputable def provM (m : MsgN) (b : List UInt8) : MsgN := if provOk m b = true then m else mZero
set_option maxRecDepth 100000 in
set_option maxHeartbeats 4000000 in
theorem proven_any (m : MsgN) (V : MsgV) (b : List UInt8) (bv : Value) (ho : MsgOk m) (hs : m.s.size ≤ 1000) (w : World) (hm : MsgIs w m V) (hb : IsB w b bv) :
    Calls Try.prog 56 #[.agg (msgA m V), .func (.func 17) #[] #[], bv] w fun e w' => ∃ V', e = .returned (.tuple #[.agg (msgA (provM m b) V'), .bool (provOk m b)]) ∧ MsgIs w' (provM m b) V' ∧ (∀ g, subV V' V g) ∧ Below w.heap.size w w' := by
  obtain ⟨bE, hE⟩ : ∃ x, encOk m = x := ⟨_, rfl⟩
  obtain ⟨bQ, hQ⟩ : ∃ x, decide (encL m = b) = x := ⟨_, rfl⟩
  refine calls_fx (args := [.agg (msgA m V), .func (.func 17) #[] #[], bv]) 27 Try.func56 rfl rfl rfl ?_
  intro fa F
  have M := Mx.start w
  replace M := M.argB 0 hm.h5 (fun g e => by cases e)
  replace M := M.argB 1 hm.h6 (fun g e => by cases e)
  replace M := M.argB 2 hm.h7 (fun g e => by cases e)
  replace M := M.argB 3 hm.h8 (fun g e => by cases e)
  replace M := M.argB 4 hm.h9 (fun g e => by cases e)
  replace M := M.argB 5 hb (fun g e => by cases e)
  refine wp_seq_k fun K1 hK1 => wp_region_lit ?_
  refine wl_alloc (wanted_none rfl) rfl F rfl M 6 (t := 29) (c := msgA m V) (by unfold execOp; simp only [(F.get (t := 0) rfl)]; kernel_rfl) ?_
  intro g2 a2 w2 F2 M2
  clear F M
  refine wl_alloc (wanted_none rfl) rfl F2 rfl M2 7 (t := 29) (c := msgA ⟨0, 0, 0, 0, "".toUTF8, 0, 0, [], [], [], [], []⟩ ⟨.slice none 0 0, .slice none 0 0, .slice none 0 0, .slice none 0 0, .slice none 0 0⟩) (by unfold execOp; kernel_rfl) ?_
  intro g3 a3 w3 F3 M3
  clear F2 M2
  refine rm rfl F3 fun a4 F4 => ?_
  refine hK1 _ _ (wp_seq_k fun K5 hK5 => ?_)
  refine wp_region_lit ?_
  refine rm rfl F4 fun a6 F6 => ?_
  refine rn rfl rfl F6 rfl (.agg (msgA m V)) (y_ldN _ _ rfl (F6.get rfl) (M3.blk (k := 6) rfl) (msgA m V) (y_all rfl) Try.underlying29 rfl (by kernel_rfl)) fun a7 F7 => ?_
  refine wl_callV (wanted_none rfl) rfl F7 rfl rfl (F7.get rfl) (enters_of Try.func17 (by kernel_rfl) rfl) #[.agg (msgA m V)] (show _ ++ _ = _ from by rw [(args1 (F7.get rfl))]; rfl) (hE ▸ encode_ex m V ho hs w3 ⟨M3.isb (k := 0) rfl, M3.isb (k := 1) rfl, M3.isb (k := 2) rfl, M3.isb (k := 3) rfl, M3.isb (k := 4) rfl⟩) ?_
  rintro _ w8 a8 ⟨v8, rfl, hv8, b8⟩ F8
  have M8 := M3.newO b8 8 hv8
  clear M3 b8 hv8
  obtain ⟨A8, c8, rfl⟩ := (M8.isO (k := 8) rfl).shape
  refine exS 5 [(2, bv), (3, .pointer (some ⟨g2, 0, none⟩)), (6, .pointer (some ⟨g3, 0, none⟩)), (7, .bool false), (8, .slice A8 ((encL m)).length c8), (9, .bool bE)] [] dnil [] F8 (by kernel_rfl) fun a9 F9 => ?_
  simp only [List.drop_succ_cons, List.drop_zero]
  refine hK5 _ _ (wp_seq_k fun K10 hK10 => ?_)
  refine wp_seq_k fun K11 hK11 => wp_region_lit ?_
  refine rm rfl F9 fun a12 F12 => ?_
  cases bE
  · refine exS 7 [(3, .pointer (some ⟨g2, 0, none⟩)), (6, .pointer (some ⟨g3, 0, none⟩)), (7, .bool false), (24, .bool true)] [] dnil [] F12 (by kernel_rfl) fun a13 F13 => ?_
    simp only [List.drop_succ_cons, List.drop_zero]
    refine hK11 _ _ (wp_cond_true (F13.get (t := 24) rfl) ?_)
    refine wp_seq_k fun K14 hK14 => wp_region_lit ?_
    refine wl_alloc (wanted_none rfl) rfl F13 rfl M8 9 (t := 29) (c := msgA ⟨0, 0, 0, 0, "".toUTF8, 0, 0, [], [], [], [], []⟩ ⟨.slice none 0 0, .slice none 0 0, .slice none 0 0, .slice none 0 0, .slice none 0 0⟩) (by unfold execOp; kernel_rfl) ?_
    intro g15 a15 w15 F15 M15
    clear F13 M8
    refine hK14 _ _ (wp_seq_k fun K16 hK16 => ?_)
    refine wp_region_lit ?_
    refine rn rfl rfl F15 rfl (.agg (msgA ⟨0, 0, 0, 0, "".toUTF8, 0, 0, [], [], [], [], []⟩ ⟨.slice none 0 0, .slice none 0 0, .slice none 0 0, .slice none 0 0, .slice none 0 0⟩)) (y_ldN _ _ rfl (F15.get rfl) (M15.blk (k := 9) rfl) (msgA ⟨0, 0, 0, 0, "".toUTF8, 0, 0, [], [], [], [], []⟩ ⟨.slice none 0 0, .slice none 0 0, .slice none 0 0, .slice none 0 0, .slice none 0 0⟩) (y_all rfl) Try.underlying29 rfl (by kernel_rfl)) fun a17 F17 => ?_
    refine wl_st (wanted_none rfl) rfl F17 M15 (k := 7) rfl _ _ _ rfl (F17.get rfl) (F17.get rfl) (msgA ⟨0, 0, 0, 0, "".toUTF8, 0, 0, [], [], [], [], []⟩ ⟨.slice none 0 0, .slice none 0 0, .slice none 0 0, .slice none 0 0, .slice none 0 0⟩) (msgA ⟨0, 0, 0, 0, "".toUTF8, 0, 0, [], [], [], [], []⟩ ⟨.slice none 0 0, .slice none 0 0, .slice none 0 0, .slice none 0 0, .slice none 0 0⟩) rfl (Nat.le_of_ble_eq_true rfl) (msgA_one (w := w) ⟨isb_nil _, isb_nil _, isb_nil _, isb_nil _, isb_nil _⟩) (y_put0 rfl) (by kernel_rfl) ?_
    intro w18 M18
    clear M15
    refine rm rfl F17 fun a19 F19 => ?_
    refine hK16 _ _ (wp_ret ?_)
    try simp only [Exit.then, Exit.inBlock, Exit.jump]
    exact bodyPost_ret (resCT rfl (F19.get (t := 6) rfl) (M18.blk (k := 7) rfl) (F19.get (t := 7) rfl) Try.underlying29 rfl (by kernel_rfl)) F19.defers ⟨vZero, by rw [provM, show provOk m b = false from by rw [provOk, hE]; rfl]; rfl, by rw [provM, show provOk m b = false from by rw [provOk, hE]; rfl]; exact vZero_is _, fun g => ⟨fun h => (bfp_nil g h).elim, fun h => (bfp_nil g h).elim, fun h => (bfp_nil g h).elim, fun h => (bfp_nil g h).elim, fun h => (bfp_nil g h).elim⟩, M18.below⟩
  refine exA 4 [(18, .bool false), (19, .bool false), (20, .slice A8 ((encL m)).length c8), (21, bv)] [] dnil [] F12 (by kernel_rfl) (by kernel_rfl) fun a20 F20 => ?_
  simp only [List.drop_succ_cons, List.drop_zero]
  refine wl_call (wanted_yes rfl rfl rfl (F20.get rfl)) rfl F20 rfl rfl (enters_of Try.func83 (by kernel_rfl) rfl) #[.slice A8 ((encL m)).length c8, bv] (args2 (F20.get rfl) (F20.get rfl)) (call_ex ((hQ ▸ equal_any (encL m) b (.slice A8 ((encL m)).length c8) (bv) w8 (M8.isO (k := 8) rfl) (M8.isb (k := 5) rfl)))) ?_
  rintro _ w21 a21 ⟨rfl, b21⟩ F21
  have M21 := M8.step b21
  cases bQ
  rotate_left
  · refine exA 2 [(23, .bool false), (24, .bool false)] [] dnil [] F21 (by kernel_rfl) (by kernel_rfl) fun a29 F29 => ?_
    simp only [List.drop_succ_cons, List.drop_zero]
    refine hK11 _ _ (wp_cond_false (F29.get (t := 24) rfl) ?_)
    refine wp_skip ?_
    refine hK10 _ _ (wp_seq_k fun K30 hK30 => ?_)
    refine wp_region_lit ?_
    refine rn rfl rfl F29 rfl (.agg (msgA m V)) (y_ldN _ _ rfl (F29.get rfl) (M21.blk (k := 6) rfl) (msgA m V) (y_all rfl) Try.underlying29 rfl (by kernel_rfl)) fun a31 F31 => ?_
    refine wl_st (wanted_none rfl) rfl F31 M21 (k := 7) rfl _ _ _ rfl (F31.get rfl) (F31.get rfl) (msgA m V) (msgA m V) rfl (Nat.le_of_ble_eq_true rfl) (msgA_one hm) (y_put0 rfl) (by kernel_rfl) ?_
    intro w32 M32
    clear M21
    refine rm rfl F31 fun a33 F33 => ?_
    refine hK30 _ _ (wp_ret ?_)
    try simp only [Exit.then, Exit.inBlock, Exit.jump]
    exact bodyPost_ret (resCT rfl (F33.get (t := 6) rfl) (M32.blk (k := 7) rfl) (F33.get (t := 7) rfl) Try.underlying29 rfl (by kernel_rfl)) F33.defers ⟨V, by rw [provM, show provOk m b = true from by rw [provOk, hE, hQ]; rfl]; rfl, by rw [provM, show provOk m b = true from by rw [provOk, hE, hQ]; rfl]; exact ⟨M32.isb (k := 0) rfl, M32.isb (k := 1) rfl, M32.isb (k := 2) rfl, M32.isb (k := 3) rfl, M32.isb (k := 4) rfl⟩, fun g => ⟨id, id, id, id, id⟩, M32.below⟩
  refine exA 2 [(23, .bool true), (24, .bool true)] [] dnil [] F21 (by kernel_rfl) (by kernel_rfl) fun a22 F22 => ?_
  simp only [List.drop_succ_cons, List.drop_zero]
  refine hK11 _ _ (wp_cond_true (F22.get (t := 24) rfl) ?_)
  refine wp_seq_k fun K23 hK23 => wp_region_lit ?_
  refine wl_alloc (wanted_none rfl) rfl F22 rfl M21 9 (t := 29) (c := msgA ⟨0, 0, 0, 0, "".toUTF8, 0, 0, [], [], [], [], []⟩ ⟨.slice none 0 0, .slice none 0 0, .slice none 0 0, .slice none 0 0, .slice none 0 0⟩) (by unfold execOp; kernel_rfl) ?_
  intro g24 a24 w24 F24 M24
  clear F22 M21
  refine hK23 _ _ (wp_seq_k fun K25 hK25 => ?_)
  refine wp_region_lit ?_
  refine rn rfl rfl F24 rfl (.agg (msgA ⟨0, 0, 0, 0, "".toUTF8, 0, 0, [], [], [], [], []⟩ ⟨.slice none 0 0, .slice none 0 0, .slice none 0 0, .slice none 0 0, .slice none 0 0⟩)) (y_ldN _ _ rfl (F24.get rfl) (M24.blk (k := 9) rfl) (msgA ⟨0, 0, 0, 0, "".toUTF8, 0, 0, [], [], [], [], []⟩ ⟨.slice none 0 0, .slice none 0 0, .slice none 0 0, .slice none 0 0, .slice none 0 0⟩) (y_all rfl) Try.underlying29 rfl (by kernel_rfl)) fun a26 F26 => ?_
  refine wl_st (wanted_none rfl) rfl F26 M24 (k := 7) rfl _ _ _ rfl (F26.get rfl) (F26.get rfl) (msgA ⟨0, 0, 0, 0, "".toUTF8, 0, 0, [], [], [], [], []⟩ ⟨.slice none 0 0, .slice none 0 0, .slice none 0 0, .slice none 0 0, .slice none 0 0⟩) (msgA ⟨0, 0, 0, 0, "".toUTF8, 0, 0, [], [], [], [], []⟩ ⟨.slice none 0 0, .slice none 0 0, .slice none 0 0, .slice none 0 0, .slice none 0 0⟩) rfl (Nat.le_of_ble_eq_true rfl) (msgA_one (w := w) ⟨isb_nil _, isb_nil _, isb_nil _, isb_nil _, isb_nil _⟩) (y_put0 rfl) (by kernel_rfl) ?_
  intro w27 M27
  clear M24
  refine rm rfl F26 fun a28 F28 => ?_
  refine hK25 _ _ (wp_ret ?_)
  try simp only [Exit.then, Exit.inBlock, Exit.jump]
  exact bodyPost_ret (resCT rfl (F28.get (t := 6) rfl) (M27.blk (k := 7) rfl) (F28.get (t := 7) rfl) Try.underlying29 rfl (by kernel_rfl)) F28.defers ⟨vZero, by rw [provM, show provOk m b = false from by rw [provOk, hE, hQ]; rfl]; rfl, by rw [provM, show provOk m b = false from by rw [provOk, hE, hQ]; rfl]; exact vZero_is _, fun g => ⟨fun h => (bfp_nil g h).elim, fun h => (bfp_nil g h).elim, fun h => (bfp_nil g h).elim, fun h => (bfp_nil g h).elim, fun h => (bfp_nil g h).elim⟩, M27.below⟩
end Go.Proofs.Ytlbkogdmojlpmaa
