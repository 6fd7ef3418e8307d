/- The laws' names: a text's bytes made a name; a token of numbers. -/
import Derived.Test.YtffoekgopooeaaaGdReg
namespace Go.Proofs.Ytffoekgopooeaaa
set_option linter.unusedVariables false
set_option linter.unusedSimpArgs false
open Go.ChangeShapes Go.WideShapes Go.ChangeAt Go.RowKit Go.Shelf
/-- The row that a conversion of a text to bytes laid: these bytes at its head, a mark behind its end. -/
def Own8 (w : World) (b : Nat) (l : List UInt8) : Prop := ∃ C : Array Value, w.heap[b]? = some (.cells C 5 (C.size, C.size + 1)) ∧ l.length ≤ C.size ∧ ∀ (i : Nat) (x : UInt8), l[i]? = some x → C[i]? = some (bv x)
theorem Own8.lt {w : World} {b : Nat} {l : List UInt8} (h : Own8 w b l) : b < w.heap.size := by
  obtain ⟨C, h1, _⟩ := h
  exact (Array.getElem?_eq_some_iff.1 h1).1
theorem Own8.cell {w : World} {b : Nat} {l : List UInt8} (h : Own8 w b l) {i : Nat} {x : UInt8} (hi : l[i]? = some x) : w.cell? ⟨b, i, none⟩ = some (.int .u8 (x.toNat : Int)) := by
  obtain ⟨C, h1, _, h3⟩ := h
  have := h3 i x hi
  simp [World.cell?, h1, this, bv]
theorem Own8.frozen {w : World} {b : Nat} {l : List UInt8} (h : Own8 w b l) {i : Nat} (hi : i < l.length) : w.frozen? ⟨b, i, none⟩ = false := by
  obtain ⟨C, h1, h2, _⟩ := h
  simp [World.frozen?, h1]; omega
theorem Own8.step {w w' : World} {b : Nat} {l : List UInt8} (h : Own8 w b l) (hb : Below w.heap.size w w') : Own8 w' b l := by
  have hl := h.lt
  obtain ⟨C, h1, h2, h3⟩ := h
  exact ⟨C, (hb.block b hl).trans h1, h2, h3⟩
theorem Own8.set {w : World} {b : Nat} {l : List UInt8} (h : Own8 w b l) (k : Nat) (x : UInt8) (hk : k < l.length) {v : Int} (hv : v = (x.toNat : Int)) : Own8 (w.setCell ⟨b, k, none⟩ (.int .u8 v)) b (l.set k x) := by
  subst hv
  obtain ⟨C, h1, h2, h3⟩ := h
  refine ⟨C.setIfInBounds k (bv x), ?_, by simpa using h2, fun i y hi => ?_⟩
  · simp [World.setCell, Array.getElem?_modify, h1, bv]
  · rw [List.getElem?_set] at hi
    rw [Array.getElem?_setIfInBounds]
    split at hi
    · rename_i e; subst e
      first | rw [if_pos hk] at hi | skip
      obtain rfl := Option.some.inj hi
      rw [if_pos rfl, if_pos (by omega)]
    · rename_i e; rw [if_neg e]; exact h3 i y hi
theorem Own8.rd {w : World} {b : Nat} {l : List UInt8} (h : Own8 w b l) : Rd w (some ⟨b, 0, none⟩) l :=
  fun _ => ⟨_, rfl, h.lt, fun j x hj => by rw [addr_add, Nat.zero_add]; exact h.cell hj⟩
def bytW (w : World) (s : ByteArray) : World := w.drew.alloc (.cells (bytesRow s (grownCap w s.size 0 5)) 5 ((bytesRow s (grownCap w s.size 0 5)).size, (bytesRow s (grownCap w s.size 0 5)).size + 1))
theorem run_bytes_str (w : World) (s : ByteArray) : (convert 9 23 (.string s)).run Try.prog w = .ok (.slice (some ⟨w.heap.size, 0, none⟩) s.size (grownCap w s.size 0 5)) (bytW w s) :=
  run_bytes_of_string w _ _ _ s Try.underlying9 Try.underlying23 Try.underlying5
theorem bytW_below (w : World) (s : ByteArray) : Below w.heap.size w (bytW w s) := (step_drew w).trans (step_alloc w.drew _)
theorem bytW_own (w : World) (s : ByteArray) : Own8 (bytW w s) w.heap.size (sB s) := by
  have hc := grownCap_ge w s.size 0 5
  refine ⟨bytesRow s (grownCap w s.size 0 5), ?_, ?_, fun i x hi => ?_⟩
  · unfold bytW
    have := World.alloc_heap_new w.drew (.cells (bytesRow s (grownCap w s.size 0 5)) 5 ((bytesRow s (grownCap w s.size 0 5)).size, (bytesRow s (grownCap w s.size 0 5)).size + 1))
    exact this
  · rw [sB_len]; unfold bytesRow; simp
  · unfold bytesRow sB at *
    rw [Array.getElem?_append]
    have hl := (List.getElem?_eq_some_iff.1 hi).1
    rw [Array.length_toList] at hl
    rw [if_pos (by simpa using hl)]
    rw [Array.getElem?_toList] at hi
    simp [hi, bv]
theorem bytW_cap (w : World) (s : ByteArray) (h : s.size ≤ 1000000) : s.size ≤ grownCap w s.size 0 5 ∧ grownCap w s.size 0 5 ≤ maxLen :=
  ⟨grownCap_ge w s.size 0 _, grownCap_le_maxLen w s.size 0 _ (by unfold maxLen; omega)⟩
theorem bytW_isB (w : World) (s : ByteArray) (h : s.size ≤ 1000000) : IsB (bytW w s) (sB s) (.slice (some ⟨w.heap.size, 0, none⟩) s.size (grownCap w s.size 0 5)) := by
  have := bytW_cap w s h
  exact ⟨_, _, by rw [sB_len], by rw [sB_len]; exact this.1, this.2, (fun h => by cases h), (bytW_own w s).rd⟩
theorem bytW_byt (w : World) (s : ByteArray) : (bytW w s).heap.size = w.heap.size + 1 := by unfold bytW; simp
/-- A name's byte, of any byte. -/
def nmF (x : UInt8) : UInt8 := UInt8.ofNat (33 + x.toNat % 94)
theorem nmF_val (x : UInt8) : ((nmF x).toNat : Int) = 33 + (x.toNat : Int) % 94 := by
  unfold nmF
  have : 33 + x.toNat % 94 < 256 := by omega
  simp [Nat.mod_eq_of_lt this]
def nameL (l : List UInt8) : List UInt8 := if l = [] then [117] else (l.map nmF).take 16
def nameS (s : ByteArray) : ByteArray := ⟨(nameL (sB s)).toArray⟩
theorem nameL_ok (l : List UInt8) : 0 < (nameL l).length ∧ (nameL l).length ≤ 16 ∧ ∀ x ∈ nameL l, 33 ≤ x.toNat ∧ x.toNat ≤ 126 := by
  unfold nameL
  split
  · simp
  · rename_i h
    have : 0 < l.length := List.length_pos_iff.2 h
    refine ⟨by simp; omega, by simp; omega, fun x hx => ?_⟩
    obtain ⟨y, -, rfl⟩ := List.mem_map.1 (List.mem_of_mem_take hx)
    have := nmF_val y
    omega
theorem nameS_sB (s : ByteArray) : sB (nameS s) = nameL (sB s) := by unfold nameS; simp [sB]
theorem nameS_size (s : ByteArray) : (nameS s).size = (nameL (sB s)).length := by rw [← sB_len, nameS_sB]
theorem nameS_ok (s : ByteArray) : NameOk (nameS s) := by
  obtain ⟨h1, h2, h3⟩ := nameL_ok (sB s)
  refine ⟨by rw [nameS_size]; exact h1, by rw [nameS_size]; exact h2, fun i h => ?_⟩
  have := h3 ((nameS s)[i]'h) (by rw [← nameS_sB]; unfold sB; rw [Array.mem_toList_iff]; exact Array.getElem_mem h)
  omega
/-- The first k bytes turned. -/
def turnF (l : List UInt8) (k : Nat) : List UInt8 := (l.take k).map nmF ++ l.drop k
theorem turnF_len (l : List UInt8) (k : Nat) : (turnF l k).length = l.length := by unfold turnF; simp; omega
theorem turnF_zero (l : List UInt8) : turnF l 0 = l := by simp [turnF]
theorem turnF_full (l : List UInt8) : turnF l l.length = l.map nmF := by simp [turnF]
theorem turnF_at (l : List UInt8) {k : Nat} {x : UInt8} (h : l[k]? = some x) : (turnF l k)[k]? = some x := by
  have hk := (List.getElem?_eq_some_iff.1 h).1
  unfold turnF
  rw [List.getElem?_append_right (by simp; omega)]
  simp only [List.length_map, List.length_take, List.getElem?_drop]
  rw [show k + (k - min k l.length) = k by omega]; exact h
theorem turnF_set (l : List UInt8) {k : Nat} {x : UInt8} (h : l[k]? = some x) : (turnF l k).set k (nmF x) = turnF l (k + 1) := by
  have hk := (List.getElem?_eq_some_iff.1 h).1
  unfold turnF
  rw [List.set_append, if_neg (by simp; omega)]
  simp only [List.length_map, List.length_take]
  rw [show k - min k l.length = 0 by omega, List.drop_eq_getElem_cons hk, List.set_cons_zero, List.take_succ_eq_append_getElem hk, List.map_append, List.append_assoc]
  have : l[k] = x := (List.getElem?_eq_some_iff.1 h).2
  simp [this]
set_option maxHeartbeats 400000 in
set_option maxRecDepth 100000 in
theorem within5 (a n : Int) (hn : 0 < n) (hn' : n < 9223372036854775808) (ha : -9223372036854775808 ≤ a) (ha' : a < 9223372036854775808) (w : World) :
    Calls Try.prog 48 #[.int .i64 a, .int .i64 n] w fun e w' => e = .returned (.int .i64 (a % n)) ∧ w = w' := by
  obtain ⟨h1, h2, h3, h4⟩ := tmod_case a n hn
  have hz : (n == 0) = false := by simp; omega
  by_cases h : a.tmod n < 0
  · have H := hid (h2 h)
    clear h1 h2
    go_enter Try.func48, Try.ntmps48
    go_wp2
    go_ret
    exact ⟨congrArg (fun x => Ending.returned (.int .i64 x)) H.out, rfl⟩
  · have H := hid (h1 (by omega))
    clear h1 h2
    go_enter Try.func48, Try.ntmps48
    go_wp2
    go_ret
    exact ⟨congrArg (fun x => Ending.returned (.int .i64 x)) H.out, rfl⟩
set_option maxRecDepth 100000 in
set_option maxHeartbeats 4000000 in
theorem name5_any (s : ByteArray) (hs : s.size ≤ 1000) (w : World) :
    Calls Try.prog 32 #[.string s] w fun e w' => e = .returned (.string (nameS s)) ∧ Below w.heap.size w w' := by
  have cv := run_bytes_str w s
  have ow := bytW_own w s
  have bw := bytW_below w s
  have cp := bytW_cap w s (by omega)
  rw [← turnF_zero (sB s)] at ow
  generalize bytW w s = W at *
  generalize grownCap w s.size 0 5 = cc at *
  obtain ⟨g, hg⟩ : ∃ g, g = w.heap.size := ⟨_, rfl⟩
  rw [← hg] at cv ow
  have HG : Hid (g = w.heap.size) := hid hg
  obtain ⟨n, hn⟩ : ∃ n, n = s.size := ⟨_, rfl⟩
  rw [← hn] at cv cp hs
  have HN := hid hn
  have HL : Hid ((sB s).length = n) := hid (by rw [sB_len, hn])
  clear hg hn
  go_enter Try.func32, Try.ntmps32
  go_wp2_with fail
  go_loopw [4] (fun i wr => ∃ k : Nat, k ≤ n ∧ i = .int .i64 (k : Int) ∧ Own8 wr g (turnF (sB s) k) ∧ Below w.heap.size w wr) (fun i _ => 2000 - (intOf i).toNat)
  case atStart => exact ⟨0, by omega, rfl, ow, bw⟩
  case round =>
    obtain ⟨k, hk, rfl, hO, hB⟩ := hrel
    clear ow bw
    by_cases hlt : k < n
    · obtain ⟨x, hx⟩ : ∃ x, (sB s)[k]? = some x := ⟨_, List.getElem?_eq_getElem (by rw [HL.out]; exact hlt)⟩
      have c1 := hO.cell (turnF_at _ hx)
      have f1 := hO.frozen (i := k) (by rw [turnF_len, HL.out]; exact hlt)
      have x0 : (x.toNat : Int) < 256 := by have := x.toNat_lt; omega
      obtain ⟨X, hX⟩ : ∃ X : Int, (x.toNat : Int) = X := ⟨_, rfl⟩
      have hv : Hid (33 + X % 94 = ((nmF x).toNat : Int)) := hid (by rw [nmF_val, hX])
      have hX0 : 0 ≤ X ∧ X < 256 := by omega
      rw [hX] at c1
      have h5 := hO.set k (nmF x) (by rw [turnF_len, HL.out]; exact hlt) hv.out
      rw [turnF_set _ hx] at h5
      have B5 := hB.setCell (p := ⟨g, k, none⟩) (by rw [HG.out]; exact Nat.le_refl _) (.int .u8 (33 + X % 94))
      have hw5 := within5 X 94 (by omega) (by omega) (by omega) (by omega) wr
      have hwr : IntKind.u8.wrap (33 + X % 94) = 33 + X % 94 := by rw [IntKind.wrap_u8]; omega
      clear hx hX x0
      go_wp2_with fail
      refine hw5.mono ?_
      rintro e w2 ⟨rfl, rfl⟩
      go_wp2_with fail
      go_roundw
      case rel => exact ⟨k + 1, by omega, by go_num, h5, B5⟩
      case measure => simp [intOf]; omega
    · obtain rfl : k = n := by omega
      have hO2 : Own8 wr g ((sB s).map nmF) := by have := turnF_full (sB s); rw [HL.out] at this; rwa [this] at hO
      have HLm : Hid (((sB s).map nmF).length = k) := hid (by rw [List.length_map]; exact HL.out)
      clear hO cv
      by_cases h0 : k = 0
      · have hr : Hid (nameS s = ⟨#[117]⟩) := hid (by
          have : sB s = [] := List.length_eq_zero_iff.1 (HL.out.trans h0)
          unfold nameS nameL; rw [this, if_pos rfl])
        have H0 := hid h0
        clear h0
        have hd1 := decide_eq_false hlt
        go_upto_region 6 with fail
        have hn0 : k = 0 := H0.out
        go_wp2
        · go_ret
          exact ⟨by rw [hr.out]; rfl, hB⟩
        all_goals (exfalso; omega)
      · have hn0 : ((k : Int) == 0) = false := beq_eq_false_iff_ne.2 (by omega)
        have hm : (16 < k ∧ min k 16 = 16) ∨ (¬ 16 < k ∧ min k 16 = k) := by omega
        obtain ⟨K, hK⟩ : ∃ K, min k 16 = K := ⟨_, rfl⟩
        have hcv := fun w' (hw : Own8 w' g ((sB s).map nmF)) => run_string_bytes w' (some ⟨g, 0, none⟩) (((sB s).map nmF).take K) K cc (by rw [List.length_take, HLm.out]; omega) (hw.rd.take K)
        have hr : Hid ((⟨(((sB s).map nmF).take K).toArray⟩ : ByteArray) = nameS s) := hid (by
          unfold nameS nameL
          rw [if_neg (fun e => h0 (by rw [← HL.out, e]; rfl)), ← hK]
          congr 2
          rw [← List.take_take, List.take_of_length_le (by rw [List.length_take, HLm.out]; omega)])
        have hsl := slice_h wr (some ⟨g, 0, none⟩) k cc K (by omega)
        have hcv2 := hcv wr hO2
        rw [hr.out] at hcv2
        have hK16 : K ≤ 16 := by omega
        have hcvD := hcv wr.drew hO2
        rw [hr.out] at hcvD
        have hB2 := hB
        clear hcv h0
        rcases hm with ⟨hm1, hm2⟩ | ⟨hm1, hm2⟩
        · obtain rfl : K = 16 := by omega
          have hm3 : (16 : Int) < (k : Int) := by omega
          go_wp2
          go_ret
          exact ⟨rfl, hB2⟩
        · obtain rfl : K = k := by omega
          have hm3 : ¬ (16 : Int) < (K : Int) := by omega
          go_wp2
          go_ret
          exact ⟨rfl, hB2⟩
theorem tdiv_bd {n d : Int} (h0 : -9223372036854775808 ≤ n) (h1 : n < 9223372036854775808) (hd : 0 < d) : -9223372036854775808 ≤ n.tdiv d ∧ n.tdiv d < 9223372036854775808 := by
  rcases Int.le_total 0 n with h | h
  · rw [Int.tdiv_eq_ediv_of_nonneg h]
    have h2 := Int.ediv_nonneg h (Int.le_of_lt hd)
    have h3 := Int.ediv_le_self d h
    omega
  · have e : n.tdiv d = -((-n).tdiv d) := by rw [Int.neg_tdiv, Int.neg_neg]
    rw [e, Int.tdiv_eq_ediv_of_nonneg (by omega)]
    have h2 := Int.ediv_nonneg (show 0 ≤ -n by omega) (Int.le_of_lt hd)
    have h3 := Int.ediv_le_self d (show 0 ≤ -n by omega)
    omega
set_option maxRecDepth 100000 in
set_option maxHeartbeats 4000000 in
theorem token_any (n : Int) (h0 : -9223372036854775808 ≤ n) (h1 : n < 9223372036854775808) (s : ByteArray) (hs : s.size ≤ 1000) (w : World) :
    Calls Try.prog 26 #[.int .i64 n, .string s] w fun e w' => e = .returned (.agg (tokA4 (nameS s) (n % 1125899906842624) (n.tdiv 3 % 1073741824) (n.tdiv 5 % 5000) (n.tdiv 7 % 100))) ∧ Below w.heap.size w w' := by
  have d3 : -9223372036854775808 ≤ n.tdiv 3 ∧ n.tdiv 3 < 9223372036854775808 := tdiv_bd h0 h1 (by omega)
  have d5 : -9223372036854775808 ≤ n.tdiv 5 ∧ n.tdiv 5 < 9223372036854775808 := tdiv_bd h0 h1 (by omega)
  have d7 : -9223372036854775808 ≤ n.tdiv 7 ∧ n.tdiv 7 < 9223372036854775808 := tdiv_bd h0 h1 (by omega)
  go_enter Try.func26, Try.ntmps26
  have q0 := Blk.new w 41 (tokA4 ⟨#[]⟩ 0 0 0 0)
  have b0 := step_alloc w (.cells (tokA4 ⟨#[]⟩ 0 0 0 0) 41)
  go_upto_region 1 with fail
  obtain ⟨W, hW⟩ : ∃ W, W = w.alloc (.cells (tokA4 ⟨#[]⟩ 0 0 0 0) 41) := ⟨_, rfl⟩
  rw [← hW] at q0 b0 ⊢
  obtain ⟨g, hg⟩ : ∃ g, g = w.heap.size := ⟨_, rfl⟩
  have HG := hid hg
  rw [← hg] at q0 b0 ⊢
  clear hW hg
  go_wp2_with fail
  refine (name5_any s hs _).mono ?_
  rintro e w1 ⟨rfl, b1⟩
  have q1 := q0.step b1
  have b1' : Below g w w1 := b0.trans (b1.mono (by have := b0.size; have := HG.out; omega))
  clear q0 b0 b1
  go_wp2_with fail
  refine (within9 n 1125899906842624 (by omega) (by omega) h0 h1 _).mono ?_
  rintro e w2 ⟨rfl, rfl⟩
  go_wp2_with fail
  refine (within9 (n.tdiv 3) 1073741824 (by omega) (by omega) d3.1 d3.2 _).mono ?_
  rintro e w3 ⟨rfl, rfl⟩
  go_wp2_with fail
  refine (within9 (n.tdiv 5) 5000 (by omega) (by omega) d5.1 d5.2 _).mono ?_
  rintro e w3 ⟨rfl, rfl⟩
  go_wp2_with fail
  refine (within9 (n.tdiv 7) 100 (by omega) (by omega) d7.1 d7.2 _).mono ?_
  rintro e w3 ⟨rfl, rfl⟩
  go_wp2_with (refine wpList_store_blk rfl _ (.tmp 4) _ rfl _ rfl _ rfl (by simp [Value.oneCell']) _ q1 rfl size_tok ?_; intro w5 g5 c5)
  exact bodyPost_ret (results_blk rfl rfl c5 Try.underlying41 rfl size_tok) rfl ⟨rfl, by rw [← HG.out]; exact below_of_grown b1' g5 (Nat.le_of_lt q1.lt) (Nat.le_refl _)⟩
/-- A token of numbers, its numbers named. -/
theorem token_pack (n : Int) (h0 : -9223372036854775808 ≤ n) (h1 : n < 9223372036854775808) (s : ByteArray) (hs : s.size ≤ 1000) : ∃ (nm : ByteArray) (n0 n1 n2 n3 : Nat), nameS s = nm ∧ NameOk nm ∧ ((n0 : Int) = n % 1125899906842624 ∧ (n1 : Int) = n.tdiv 3 % 1073741824 ∧ (n2 : Int) = n.tdiv 5 % 5000 ∧ (n3 : Int) = n.tdiv 7 % 100) ∧ ((n0 : Int) < 1125899906842624 ∧ (n1 : Int) < 1073741824 ∧ (n2 : Int) < 5000 ∧ (n3 : Int) < 100) ∧
    Hid (∀ w, Calls Try.prog 26 #[.int .i64 n, .string s] w fun e w' => e = .returned (.agg (tokA4 nm n0 n1 n2 n3)) ∧ Below w.heap.size w w') := by
  have e0 : (((n % 1125899906842624).toNat : Nat) : Int) = n % 1125899906842624 := Int.toNat_of_nonneg (Int.emod_nonneg _ (by omega))
  have e1 : (((n.tdiv 3 % 1073741824).toNat : Nat) : Int) = n.tdiv 3 % 1073741824 := Int.toNat_of_nonneg (Int.emod_nonneg _ (by omega))
  have e2 : (((n.tdiv 5 % 5000).toNat : Nat) : Int) = n.tdiv 5 % 5000 := Int.toNat_of_nonneg (Int.emod_nonneg _ (by omega))
  have e3 : (((n.tdiv 7 % 100).toNat : Nat) : Int) = n.tdiv 7 % 100 := Int.toNat_of_nonneg (Int.emod_nonneg _ (by omega))
  refine ⟨nameS s, _, _, _, _, rfl, nameS_ok s, ⟨e0, e1, e2, e3⟩, ⟨by rw [e0]; exact Int.emod_lt_of_pos _ (by omega), by rw [e1]; exact Int.emod_lt_of_pos _ (by omega), by rw [e2]; exact Int.emod_lt_of_pos _ (by omega), by rw [e3]; exact Int.emod_lt_of_pos _ (by omega)⟩, hid fun w => ?_⟩
  rw [e0, e1, e2, e3]
  exact token_any n h0 h1 s hs w
end Go.Proofs.Ytffoekgopooeaaa
