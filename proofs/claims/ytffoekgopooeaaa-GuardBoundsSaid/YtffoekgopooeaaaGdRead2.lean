/- guard.Read, of what Issue wrote. -/
import Derived.Test.YtffoekgopooeaaaGdRead
import Derived.Test.YtffoekgopooeaaaGdBucket
import Derived.WalkMore
namespace Go.Proofs.Ytffoekgopooeaaa
set_option linter.unusedVariables false
set_option linter.unusedSimpArgs false
open Go.ChangeShapes Go.WideShapes Go.ChangeAt Go.RowKit Go.Shelf
theorem size_tok : (Try.prog.info? 41).map (·.size) = some 5 := by kernel_rfl
/-- What is left of a token behind k numbers. -/
def restN (ns : List Nat) (tail : List UInt8) (k : Nat) : List UInt8 := ((ns.drop k).map eightL).flatten ++ tail
theorem restN_step {ns : List Nat} {tail : List UInt8} {k m : Nat} (h : ns[k]? = some m) : restN ns tail k = eightL m ++ restN ns tail (k + 1) := by
  obtain ⟨hk, hm⟩ := List.getElem?_eq_some_iff.1 h
  unfold restN
  rw [List.drop_eq_getElem_cons hk, hm]
  simp
def setN (n : Nat) (i k : Nat) : Int := if i < k then (n : Int) else 0
theorem restN_len {ns : List Nat} {tail : List UInt8} {k : Nat} (hk : k ≤ ns.length) : (restN ns tail k).length = 8 * (ns.length - k) + tail.length := by
  unfold restN
  rw [List.length_append, flat_len, List.length_drop]
theorem slice_to8 (w : World) (A : Option Addr) (n c : Nat) (h : 8 ≤ c) : (Instr.sliceAt 23 (.slice A n c) none (some (.int .i64 8)) none).run Try.prog w = .ok (.slice A 8 c) w := slice_h w A n c 8 h
theorem slice_from8 (w : World) (A : Option Addr) (n c : Nat) (h : 8 ≤ n) : (Instr.sliceAt 23 (.slice A n c) (some (.int .i64 8)) none none).run Try.prog w = .ok (.slice (cutA A c 8) (n - 8) (c - 8)) w := slice_from w A n c 8 h
attribute [irreducible] restN
theorem isB_far {w : World} {G k : Nat} {l : List UInt8} {v u : Value} {s : ByteArray} {a b c d : Int} (h : IsB w l v) (hl : 0 < l.length) (hq : Blk w G 41 (tokA4 s a b c d)) : IsB (w.setCell ⟨G, k, none⟩ u) l v := by
  obtain ⟨A, n, e, h1, h2, h3, h4⟩ := h
  obtain ⟨bb, o, rfl, hb, hc⟩ := h4.at hl
  have hne : bb ≠ G := by
    rintro rfl
    have h5 := hc 0 l[0] (List.getElem?_eq_getElem hl)
    unfold Blk at hq
    simp only [World.cell?, hq] at h5
    match o, h5 with
    | 0, h5 => simp at h5
    | 1, h5 => simp at h5
    | 2, h5 => simp at h5
    | 3, h5 => simp at h5
    | 4, h5 => simp at h5
    | o + 5, h5 => simp at h5
  exact ⟨_, n, e, h1, h2, h3, rd_far h4 hne⟩
theorem cutA_none' {A : Option Addr} {c k : Nat} (h : A = none → c = 0) : cutA A c k = none → c - k = 0 := by
  unfold cutA
  split
  · intro _; omega
  · intro e
    rw [Option.map_eq_none_iff] at e
    have := h e
    omega
set_option maxRecDepth 100000 in
set_option maxHeartbeats 16000000 in
theorem read_ok (kv bv : Value) (key : List UInt8) (s : ByteArray) (hs : NameOk s) (n0 n1 n2 n3 : Nat) (h0 : (n0 : Int) < 9223372036854775808) (h1 : (n1 : Int) < 9223372036854775808) (h2 : (n2 : Int) < 9223372036854775808) (h3 : (n3 : Int) < 9223372036854775808) (w : World) (hk : IsB w key kv) (hb : IsB w (issueN key s [n0, n1, n2, n3]) bv) :
    Calls Try.prog 28 #[kv, bv] w fun e w' => e = .returned (.tuple #[.agg (tokA4 s n0 n1 n2 n3), .bool true]) ∧ Below w.heap.size w w' := by
  have hs2 := hs.2.1
  have q4 : Blk ((w.alloc (.cells (tokA4 ⟨#[]⟩ 0 0 0 0) 41)).alloc (.cells (tokA4 ⟨#[]⟩ 0 0 0 0) 41)) w.heap.size 41 (tokA4 ⟨#[]⟩ 0 0 0 0) := (Blk.new w 41 (tokA4 ⟨#[]⟩ 0 0 0 0)).alloc _
  have q6 : Blk ((w.alloc (.cells (tokA4 ⟨#[]⟩ 0 0 0 0) 41)).alloc (.cells (tokA4 ⟨#[]⟩ 0 0 0 0) 41)) (w.heap.size + 1) 41 (tokA4 ⟨#[]⟩ 0 0 0 0) := by
    have := Blk.new (w.alloc (.cells (tokA4 ⟨#[]⟩ 0 0 0 0) 41)) 41 (tokA4 ⟨#[]⟩ 0 0 0 0)
    rwa [World.size_alloc] at this
  have b0 := step_trans (step_alloc w (.cells (tokA4 ⟨#[]⟩ 0 0 0 0) 41)) (step_alloc _ (.cells (tokA4 ⟨#[]⟩ 0 0 0 0) 41))
  have bs : ((w.alloc (.cells (tokA4 ⟨#[]⟩ 0 0 0 0) 41)).alloc (.cells (tokA4 ⟨#[]⟩ 0 0 0 0) 41)).heap.size = w.heap.size + 2 := by simp
  obtain ⟨TL, hTL⟩ : ∃ t, Hid (sumL (macW key [[116, 111, 107, 101, 110], bodyN s [n0, n1, n2, n3]]) = t) := ⟨_, hid rfl⟩
  have hTl : TL.length = 16 := by rw [← hTL.out, sumL_len]
  have hlist : issueN key s [n0, n1, n2, n3] = UInt8.ofNat s.size :: (sB s ++ restN [n0, n1, n2, n3] TL 0) := by
    unfold issueN
    rw [hTL.out]
    unfold bodyN restN
    simp
  obtain ⟨IL, hIL⟩ : ∃ l, Hid (issueN key s [n0, n1, n2, n3] = l) := ⟨_, hid rfl⟩
  rw [hIL.out] at hb hlist
  have HB := hid hb
  have HL := hid hlist
  have hlen : IL.length ≤ 1000 := by rw [hlist]; simp [sB_len, restN, eightL_len, hTl]; omega
  have H0 := hid h0
  have H1 := hid h1
  have H2 := hid h2
  have H3 := hid h3
  clear hlist h0 h1 h2 h3
  go_enter Try.func28, Try.ntmps28
  go_wp2_with fail
  go_step3
  go_wp2_with fail
  refine (named_ok (w.heap.size + 1) ⟨#[]⟩ s 0 0 0 0 bv IL (restN [n0, n1, n2, n3] TL 0) HL.out hs _ (hb.step b0) hlen q6 ?_).mono ?_
  · intro A n c e
    subst e
    obtain ⟨A', c', e', _, _, _, i4⟩ := HB.out
    injection e' with e1 e2 e3
    subst e1
    obtain ⟨ad, e, hlt, _⟩ := i4 (by rw [HL.out]; simp)
    cases e
    omega
  rintro e w2 ⟨u, rfl, iu, g2, r6⟩
  have r4 := q4.grown g2 (ne_some (by omega))
  have B2 : Below w.heap.size w w2 := below_of_grown b0 g2 (by omega) (by omega)
  have hw2 := r4.lt
  obtain ⟨G4, hG4⟩ : ∃ g, g = w.heap.size := ⟨_, rfl⟩
  obtain ⟨G6, hG6⟩ : ∃ g, g = w.heap.size + 1 := ⟨_, rfl⟩
  rw [← hG6] at r6 ⊢
  rw [← hG4] at r4 B2 ⊢
  have HG4 := hid hG4
  have HG6 : Hid (G6 = G4 + 1) := hid (by omega)
  clear q4 q6 b0 bs g2 hb hG4 hG6 hw2
  go_wp2_with fail
  refine (numbers_any G6 w2 r6.lt).mono ?_
  rintro e w3 ⟨rfl, b3, p3⟩
  have s4 := r4.step b3
  have s6 := r6.step b3
  have iu3 := iu.step b3
  have l4 := r4.lt
  have B3 := B2.trans (b3.mono (by omega))
  have lP := p3.lt
  obtain ⟨P, hP⟩ : ∃ P, P = w2.heap.size := ⟨_, rfl⟩
  have hPG : G6 < P := by rw [hP]; exact r6.lt
  rw [← hP] at p3 lP ⊢
  clear r4 r6 iu B2 b3 hP l4
  have HN : Hid (∀ k, k < 4 → ∃ m : Nat, ([n0, n1, n2, n3] : List Nat)[k]? = some m ∧ (m : Int) < 9223372036854775808 ∧ (#[.pointer (some ⟨G6, 1, none⟩), .pointer (some ⟨G6, 2, none⟩), .pointer (some ⟨G6, 3, none⟩), .pointer (some ⟨G6, 4, none⟩)] : Array Value)[k]? = some (.pointer (some ⟨G6, k + 1, none⟩)) ∧ (tokA4 s (setN n0 0 k) (setN n1 1 k) (setN n2 2 k) (setN n3 3 k)).setIfInBounds (k + 1) (.int .i64 (m : Int)) = (tokA4 s (setN n0 0 (k + 1)) (setN n1 1 (k + 1)) (setN n2 2 (k + 1)) (setN n3 3 (k + 1))) ∧ ∃ z, (tokA4 s (setN n0 0 k) (setN n1 1 k) (setN n2 2 k) (setN n3 3 k))[k + 1]? = some (.int .i64 z)) := hid (fun k hk => by
    have : k = 0 ∨ k = 1 ∨ k = 2 ∨ k = 3 := by omega
    rcases this with rfl | rfl | rfl | rfl
    · exact ⟨n0, rfl, H0.out, rfl, by simp [setN], _, rfl⟩
    · exact ⟨n1, rfl, H1.out, rfl, by simp [setN], _, rfl⟩
    · exact ⟨n2, rfl, H2.out, rfl, by simp [setN], _, rfl⟩
    · exact ⟨n3, rfl, H3.out, rfl, by simp [setN], _, rfl⟩)
  have RL : Hid (∀ k, k ≤ 4 → (restN [n0, n1, n2, n3] TL k).length = 8 * (4 - k) + 16) := hid (fun k hk => by rw [restN_len hk, hTl]; rfl)
  have HLN := hid hlen
  have HTL := hid hTl
  clear hlen hTl
  go_wp2
  go_loopw [7, 8, 20] (fun u is i wr => ∃ k : Nat, k ≤ 4 ∧ i = .int .i64 (k : Int) ∧ is = .bool true ∧ IsB wr (restN [n0, n1, n2, n3] TL k) u ∧ Blk wr G6 41 (tokA4 s (setN n0 0 k) (setN n1 1 k) (setN n2 2 k) (setN n3 3 k)) ∧ Blk wr G4 41 (tokA4 ⟨#[]⟩ 0 0 0 0) ∧ Blk wr P 66 #[.pointer (some ⟨G6, 1, none⟩), .pointer (some ⟨G6, 2, none⟩), .pointer (some ⟨G6, 3, none⟩), .pointer (some ⟨G6, 4, none⟩)] ∧ Below G4 w wr) (fun _ _ i _ => 4 - (intOf i).toNat)
  case atStart => exact ⟨0, by omega, rfl, rfl, iu3, by simpa [setN] using s6, s4, p3, B3⟩
  case round =>
    obtain ⟨k, hk4, rfl, rfl, hu, h6, h4, hp, hB⟩ := hrel
    clear iu3 s6 s4 p3 B3
    have lz6 := h6.lt
    have lzp := hp.lt
    by_cases hlt : k < 4
    · obtain ⟨m, hm, hmb, c1, c2, z, c3⟩ := HN.out k hlt
      have kc1 := hp.cell c1
      have rl := RL.out k hk4
      have rs := restN_step (tail := TL) hm
      obtain ⟨A, cc, e, i1, i2, i3, i4⟩ := hu
      subst e
      obtain ⟨n, hn⟩ : ∃ n, (restN [n0, n1, n2, n3] TL k).length = n := ⟨_, rfl⟩
      rw [hn] at i1 ⊢
      have hn8 : 8 ≤ n := by omega
      have i5 : IsB wr (eightL m) (.slice A 8 cc) := by
        have := (i4.take 8).isB' (by rw [List.length_take]; omega) (by omega) i2 i3 (n := 8)
        rwa [rs, List.take_append_of_le_length (by rw [eightL_len]; exact Nat.le_refl _), List.take_of_length_le (by rw [eightL_len]; exact Nat.le_refl _)] at this
      have i6 : IsB wr (restN [n0, n1, n2, n3] TL (k + 1)) (.slice (cutA A cc 8) (n - 8) (cc - 8)) := by
        have := (rd_cut (k := 8) i4 (by omega)).isB' (n := n - 8) (c := cc - 8) (by rw [List.length_drop]; omega) (by omega) (by omega) (cutA_none' i3)
        rwa [rs, List.drop_append_of_le_length (by rw [eightL_len]; exact Nat.le_refl _), List.drop_of_length_le (by rw [eightL_len]; exact Nat.le_refl _), List.nil_append] at this
      have hs1 := fun w' => slice_to8 w' A n cc (by omega)
      have hs2 := fun w' => slice_from8 w' A n cc hn8
      have HM := hid hmb
      have C2 := hid c2
      have hd : ¬ (n : Int) < 8 := by omega
      have hkk : k = 0 ∨ k = 1 ∨ k = 2 ∨ k = 3 := by omega
      clear hm hmb c1 c2 rl rs hn i4 hk4 hlt
      rcases hkk with rfl | rfl | rfl | rfl
      all_goals
        go_wp2_with fail
        refine (number_ok m HM.out _ _ i5).mono ?_
        rintro e w4 ⟨rfl, b4⟩
        have i64 := i6.step b4
        have h64 := h6.step b4
        have h44 := h4.step b4
        have hp4 := hp.step b4
        have k64 := h64.cell c3
        have f1 := h64.frozen 1
        have f2 := h64.frozen 2
        have f3 := h64.frozen 3
        have f4 := h64.frozen 4
        have h65 := h64.set _ _ C2.out
        have hG := HG6.out
        have h45 := fun o => h44.far (a := ⟨G6, o, none⟩) (.int .i64 (m : Int)) (by simp; omega)
        have hp5 := fun o => hp4.far (a := ⟨G6, o, none⟩) (.int .i64 (m : Int)) (by simp; omega)
        have i65 := fun o => isB_far (k := o) (u := .int .i64 (m : Int)) i64 (by have := RL.out; rw [this _ (by omega)]; omega) h64
        have B4 := hB.trans (b4.mono (by have := HG6.out; omega))
        have B5 := fun o => B4.setCell (p := ⟨G6, o, none⟩) (by simp; omega) (.int .i64 (m : Int))
        have H45 := hid h45
        have HP5 := hid hp5
        have I65 := hid i65
        have HB5 := hid B5
        have H65 := hid h65
        clear HN RL C2 h6 h4 hp hB i5 i6 b4 hp4 h44 B4 i64 h64 h45 hp5 i65 B5 h65 hG c3
        go_wp2
        go_roundw
        case rel => exact ⟨_, by omega, by go_num, rfl, I65.out _, H65.out, H45.out _, HP5.out _, HB5.out _⟩
        case measure => simp [intOf]
    · obtain rfl : k = 4 := by omega
      have h6' : Blk wr G6 41 (tokA4 s n0 n1 n2 n3) := by simpa [setN] using h6
      have ik : IsB wr key kv := hk.below hB (by rw [HG4.out]; exact Nat.le_refl _)
      have ib : IsB wr IL bv := HB.out.below hB (by rw [HG4.out]; exact Nat.le_refl _)
      clear h6 HN RL
      go_wp2_with (refine wpList_load_blk rfl _ (.tmp 6) rfl _ rfl _ _ _ h6' Try.underlying41 rfl size_tok ?_)
      refine (issue_any kv key s (by omega) n0 n1 n2 n3 H0.out H1.out H2.out H3.out wr ik).mono ?_
      rintro e w4 ⟨v4, rfl, h4v, b4⟩
      rw [hIL.out] at h4v
      have iv := h4v.isB
      have ib4 := ib.step b4
      have h64 := h6'.step b4
      have h44 := h4.step b4
      have B4 := hB.trans (b4.mono (by have := HG6.out; omega))
      clear h6' h4 hp hB ik ib b4 h4v
      go_wp2_with fail
      refine (same_bytes iv ib4).mono ?_
      rintro e w5 ⟨rfl, b5⟩
      rw [decide_eq_true rfl]
      have h65 := h64.step b5
      have h45 := h44.step b5
      have z4 := h44.lt
      have B5 := B4.trans (b5.mono (by omega))
      go_wp2_with (first | (refine wpList_load_blk rfl _ (.tmp 6) rfl _ rfl _ _ _ h65 Try.underlying41 rfl size_tok ?_) | (refine wpList_store_blk rfl _ (.tmp 4) _ rfl _ rfl _ rfl (by simp [Value.oneCell']) _ h45 rfl size_tok ?_; intro w6 g6 c6))
      rw [Exit.noGoto_ret]
      have zz := B5.size
      have hG := HG6.out
      rw [HG4.out] at g6 B5 c6
      exact bodyPost_ret (results_blk_tmp rfl (by rw [← HG4.out]; rfl) c6 Try.underlying41 rfl size_tok) rfl ⟨rfl, below_of_grown B5 g6 (by have := B5.size; omega) (Nat.le_refl _)⟩
end Go.Proofs.Ytffoekgopooeaaa
