/- guard.Read of bytes that are no token. -/
import Derived.Test.YtffoekgopooeaaaGdRead4
import Derived.ScopeJumps
namespace Go.Proofs.Ytffoekgopooeaaa
set_option linter.unusedVariables false
set_option linter.unusedSimpArgs false
open Go.ChangeShapes Go.WideShapes Go.ChangeAt Go.RowKit Go.Shelf
theorem isB_farz {w : World} {G k : Nat} {l : List UInt8} {v u : Value} {s : ByteArray} {a b c d : Int} (h : IsB w l v) (hq : Blk w G 41 (tokA4 s a b c d)) : IsB (w.setCell ⟨G, k, none⟩ u) l v := by
  by_cases hl : 0 < l.length
  · exact isB_far h hl hq
  · obtain ⟨A, n, e, h1, h2, h3, h4⟩ := h
    exact ⟨A, n, e, h1, h2, h3, fun hp => absurd hp (by simpa using hl)⟩
set_option maxRecDepth 100000 in
set_option maxHeartbeats 16000000 in
theorem read_no (kv bv : Value) (key l : List UInt8) (hlen : l.length ≤ 1000) (hno : NoTok key l) (w : World) (hk : IsB w key kv) (hb : IsB w l bv) :
    Calls Try.prog 28 #[kv, bv] w fun e w' => e = .returned (.tuple #[.agg (tokA4 ⟨#[]⟩ 0 0 0 0), .bool false]) ∧ Below w.heap.size w w' := by
  have q4 : Blk ((w.alloc (.cells (tokA4 ⟨#[]⟩ 0 0 0 0) 41)).alloc (.cells (tokA4 ⟨#[]⟩ 0 0 0 0) 41)) w.heap.size 41 (tokA4 ⟨#[]⟩ 0 0 0 0) := (Blk.new w 41 (tokA4 ⟨#[]⟩ 0 0 0 0)).alloc _
  have q6 : Blk ((w.alloc (.cells (tokA4 ⟨#[]⟩ 0 0 0 0) 41)).alloc (.cells (tokA4 ⟨#[]⟩ 0 0 0 0) 41)) (w.heap.size + 1) 41 (tokA4 ⟨#[]⟩ 0 0 0 0) := by
    have := Blk.new (w.alloc (.cells (tokA4 ⟨#[]⟩ 0 0 0 0) 41)) 41 (tokA4 ⟨#[]⟩ 0 0 0 0)
    rwa [World.size_alloc] at this
  have b0 := step_trans (step_alloc w (.cells (tokA4 ⟨#[]⟩ 0 0 0 0) 41)) (step_alloc _ (.cells (tokA4 ⟨#[]⟩ 0 0 0 0) 41))
  have bs : ((w.alloc (.cells (tokA4 ⟨#[]⟩ 0 0 0 0) 41)).alloc (.cells (tokA4 ⟨#[]⟩ 0 0 0 0) 41)).heap.size = w.heap.size + 2 := by simp
  have HNO := hid hno
  clear hno
  rcases head_of l with hh | ⟨s, r, hl, hs⟩
  · clear q6
    go_enter Try.func28, Try.ntmps28
    go_wp2_with fail
    refine wp_scope_jumps 0 (fun a' w' => ∃ x0 x1 x2 x3 x5 x6 x7 x8 x9 x10 x11 x12 x13 x14 x15 x16 x17 x18 x19 x20 x21 x22 x23 x24 x25 x26 x27 x28 x29 x30 x31 x32 x33 x34 x35 x36 x37 x38 x39 x40 x41 x42 x43 x44 x45 x46, a' = { tmps := #[x0, x1, x2, x3, .pointer (some ⟨w.heap.size, 0, none⟩), x5, x6, x7, x8, x9, x10, x11, x12, x13, x14, x15, x16, x17, x18, x19, x20, x21, x22, x23, x24, x25, x26, x27, x28, x29, x30, x31, x32, x33, x34, x35, x36, x37, x38, x39, x40, x41, x42, x43, x44, x45, x46], defers := [] } ∧ Blk w' w.heap.size 41 (tokA4 ⟨#[]⟩ 0 0 0 0) ∧ Below w.heap.size w w') (fun _ _ => 0) rfl ?_ ?_
    rotate_left
    · rintro a' w' ⟨x0, x1, x2, x3, x5, x6, x7, x8, x9, x10, x11, x12, x13, x14, x15, x16, x17, x18, x19, x20, x21, x22, x23, x24, x25, x26, x27, x28, x29, x30, x31, x32, x33, x34, x35, x36, x37, x38, x39, x40, x41, x42, x43, x44, x45, x46, rfl, cc, bb⟩
      clear q4 b0
      go_wp2_with (refine wpList_store_blk rfl _ (.tmp 4) _ rfl _ rfl _ rfl (by simp [Value.oneCell']) _ cc rfl size_tok ?_; intro w9 g9 c9)
      simp only [Exit.jump]
      have zz := bb.size
      exact bodyPost_ret (results_blk_tmp rfl rfl c9 Try.underlying41 rfl size_tok) rfl ⟨rfl, below_of_grown bb g9 bb.size (Nat.le_refl _)⟩
    go_wp2_with fail
    refine (named_no (w.heap.size + 1) l hh hlen bv _ (hb.step b0)).mono ?_
    rintro e w2 ⟨rfl, b2⟩
    have q42 := q4.step b2
    have B2 := step_trans b0 b2
    clear q4 b2 b0 hh bs
    go_wp2_with fail
    go_step3
    exact ⟨rfl, _, _, _, _, _, _, _, _, _, _, _, _, _, _, _, _, _, _, _, _, _, _, _, _, _, _, _, _, _, _, _, _, _, _, _, _, _, _, _, _, _, _, _, _, _, _, rfl, q42, B2⟩
  · have HB := hid hb
    have HL := hid hl
    have hgl : ∀ A n c, bv = .slice (some A) n c → A.block ≠ w.heap.size + 1 := by
      intro A n c e
      subst e
      obtain ⟨A', c', e', _, _, _, i4⟩ := HB.out
      injection e' with e1 e2 e3
      subst e1
      obtain ⟨ad, e, hlt, _⟩ := i4 (by rw [HL.out]; simp)
      cases e
      omega
    by_cases hnm : NameOk s
    · have HNM : Hid (∀ w, Calls Try.prog 55 #[.string s] w fun e w' => e = .returned (.bool true) ∧ Below w.heap.size w w') := hid (fun w => isname_ok s hnm w)
      have HOK := hid hnm
      clear hnm
      go_enter Try.func28, Try.ntmps28
      go_wp2_with fail
      refine wp_scope_jumps 0 (fun a' w' => ∃ x0 x1 x2 x3 x5 x6 x7 x8 x9 x10 x11 x12 x13 x14 x15 x16 x17 x18 x19 x20 x21 x22 x23 x24 x25 x26 x27 x28 x29 x30 x31 x32 x33 x34 x35 x36 x37 x38 x39 x40 x41 x42 x43 x44 x45 x46, a' = { tmps := #[x0, x1, x2, x3, .pointer (some ⟨w.heap.size, 0, none⟩), x5, x6, x7, x8, x9, x10, x11, x12, x13, x14, x15, x16, x17, x18, x19, x20, x21, x22, x23, x24, x25, x26, x27, x28, x29, x30, x31, x32, x33, x34, x35, x36, x37, x38, x39, x40, x41, x42, x43, x44, x45, x46], defers := [] } ∧ Blk w' w.heap.size 41 (tokA4 ⟨#[]⟩ 0 0 0 0) ∧ Below w.heap.size w w') (fun _ _ => 0) rfl ?_ ?_
      rotate_left
      · rintro a' w' ⟨x0, x1, x2, x3, x5, x6, x7, x8, x9, x10, x11, x12, x13, x14, x15, x16, x17, x18, x19, x20, x21, x22, x23, x24, x25, x26, x27, x28, x29, x30, x31, x32, x33, x34, x35, x36, x37, x38, x39, x40, x41, x42, x43, x44, x45, x46, rfl, cc, bb⟩
        clear q4 b0
        go_wp2_with (refine wpList_store_blk rfl _ (.tmp 4) _ rfl _ rfl _ rfl (by simp [Value.oneCell']) _ cc rfl size_tok ?_; intro w9 g9 c9)
        simp only [Exit.jump]
        have zz := bb.size
        exact bodyPost_ret (results_blk_tmp rfl rfl c9 Try.underlying41 rfl size_tok) rfl ⟨rfl, below_of_grown bb g9 bb.size (Nat.le_refl _)⟩
      go_wp2_with fail
      refine (named_gen (w.heap.size + 1) ⟨#[]⟩ s 0 0 0 0 bv l r hl hs true HNM _ (hb.step b0) hlen q6 hgl).mono ?_
      rintro e w2 ⟨u, rfl, iu, g2, r6⟩
      have r4 := q4.grown g2 (ne_some (by omega))
      have B2 : Below w.heap.size w w2 := below_of_grown b0 g2 (by omega) (by omega)
      have hw2 := r4.lt
      obtain ⟨G4, hG4⟩ : ∃ g, g = w.heap.size := ⟨_, rfl⟩
      obtain ⟨G6, hG6⟩ : ∃ g, g = w.heap.size + 1 := ⟨_, rfl⟩
      rw [← hG6] at r6 ⊢
      rw [← hG4] at r4 B2 ⊢
      have HG4 := hid hG4
      have HG6 : Hid (G6 = G4 + 1) := hid (by omega)
      clear q4 q6 b0 bs g2 hb hG4 hG6 hw2 hgl
      go_wp2_with fail
      refine (numbers_any G6 w2 r6.lt).mono ?_
      rintro e w3 ⟨rfl, b3, p3⟩
      have s4 := r4.step b3
      have s6 := r6.step b3
      have iu3 := iu.step b3
      have l4 := r4.lt
      have B3 := B2.trans (b3.mono (by omega))
      have lP := p3.lt
      obtain ⟨P, hP⟩ : ∃ P, P = w2.heap.size := ⟨_, rfl⟩
      have hPG : G6 < P := by rw [hP]; exact r6.lt
      rw [← hP] at p3 lP ⊢
      clear r4 r6 iu B2 b3 hP l4
      have HN : Hid (∀ (ns : List Nat) (m : Nat), ns.length < 4 → (#[.pointer (some ⟨G6, 1, none⟩), .pointer (some ⟨G6, 2, none⟩), .pointer (some ⟨G6, 3, none⟩), .pointer (some ⟨G6, 4, none⟩)] : Array Value)[ns.length]? = some (.pointer (some ⟨G6, ns.length + 1, none⟩)) ∧ (tokA4 s (gI ns 0) (gI ns 1) (gI ns 2) (gI ns 3)).setIfInBounds (ns.length + 1) (.int .i64 (m : Int)) = tokA4 s (gI (ns ++ [m]) 0) (gI (ns ++ [m]) 1) (gI (ns ++ [m]) 2) (gI (ns ++ [m]) 3) ∧ ∃ z, (tokA4 s (gI ns 0) (gI ns 1) (gI ns 2) (gI ns 3))[ns.length + 1]? = some (.int .i64 z)) := hid (fun ns m hl => by
        match ns, hl with
        | [], _ => exact ⟨rfl, by simp [gI], _, rfl⟩
        | [a], _ => exact ⟨rfl, by simp [gI], _, rfl⟩
        | [a, b], _ => exact ⟨rfl, by simp [gI], _, rfl⟩
        | [a, b, c], _ => exact ⟨rfl, by simp [gI], _, rfl⟩
        | a :: b :: c :: d :: e, h => simp at h; omega)
      have HLN := hid hlen
      clear hlen hs hl
      go_wp2
      go_loopw [7, 8, 20] (fun u is i wr => ∃ (k : Nat) (ns : List Nat) (R : List UInt8), k ≤ 4 ∧ Hid (ns.length = k) ∧ i = .int .i64 (k : Int) ∧ is = .bool true ∧ Hid (∀ n ∈ ns, (n : Int) < 9223372036854775808) ∧ Hid (r = (ns.map eightL).flatten ++ R) ∧ IsB wr R u ∧ Blk wr G6 41 (tokA4 s (gI ns 0) (gI ns 1) (gI ns 2) (gI ns 3)) ∧ Blk wr G4 41 (tokA4 ⟨#[]⟩ 0 0 0 0) ∧ Blk wr P 66 #[.pointer (some ⟨G6, 1, none⟩), .pointer (some ⟨G6, 2, none⟩), .pointer (some ⟨G6, 3, none⟩), .pointer (some ⟨G6, 4, none⟩)] ∧ Below G4 w wr) (fun _ _ i _ => 4 - (intOf i).toNat)
      case atStart => exact ⟨0, [], r, by omega, hid rfl, rfl, rfl, hid (fun n h => by cases h), hid rfl, iu3, by simpa [gI] using s6, s4, p3, B3⟩
      case round =>
        obtain ⟨k, ns, R, hk4, HK, rfl, rfl, HB4, HR, hu, h6, h4, hp, hB⟩ := hrel
        clear iu3 s6 s4 p3 B3
        have lz6 := h6.lt
        have lzp := hp.lt
        by_cases hlt : k < 4
        · obtain ⟨A, cc, e, i1, i2, i3, i4⟩ := id hu
          subst e
          have q1 := fun m => (HN.out ns m (by rw [HK.out]; exact hlt)).1
          rw [HK.out] at q1
          have kc1 := hp.cell (q1 0)
          obtain ⟨n, hn⟩ : ∃ n, R.length = n := ⟨_, rfl⟩
          rw [hn] at i1 ⊢
          by_cases hn8 : n < 8
          · have hd : (n : Int) < 8 := by omega
            have hkk : k = 0 ∨ k = 1 ∨ k = 2 ∨ k = 3 := by omega
            clear HN hlt hk4 q1 hu i4 hn8 h6 hp hn
            rcases hkk with rfl | rfl | rfl | rfl
            all_goals
              go_wp2_with fail
              rw [HG4.out]
              go_step3
              exact ⟨rfl, _, _, _, _, _, _, _, _, _, _, _, _, _, _, _, _, _, _, _, _, _, _, _, _, _, _, _, _, _, _, _, _, _, _, _, _, _, _, _, _, _, _, _, _, _, _, rfl, by rw [← HG4.out]; exact h4, by rw [← HG4.out]; exact hB⟩
          · have hd : ¬ (n : Int) < 8 := by omega
            have i5 : IsB wr (R.take 8) (.slice A 8 cc) := (i4.take 8).isB' (by rw [List.length_take]; omega) (by omega) i2 i3
            have i6 : IsB wr (R.drop 8) (.slice (cutA A cc 8) (n - 8) (cc - 8)) := (rd_cut (k := 8) i4 (by omega)).isB' (n := n - 8) (c := cc - 8) (by rw [List.length_drop]; omega) (by omega) (by omega) (cutA_none' i3)
            have h8 : (R.take 8).length = 8 := by rw [List.length_take]; omega
            obtain ⟨x, hx⟩ : ∃ x, (R.take 8)[0]? = some x := ⟨_, List.getElem?_eq_getElem (by omega)⟩
            have hs1 := fun w' => slice_to8 w' A n cc (by omega)
            have hs2 := fun w' => slice_from8 w' A n cc (by omega)
            by_cases hx7 : (x.toNat : Int) ≤ 127
            · obtain ⟨m, hm, hc8⟩ := eight_of (R.take 8) h8 (fun y hy => by rw [hx] at hy; cases hy; exact hx7)
              rw [hc8] at i5
              obtain ⟨-, c2, z, c3⟩ := HN.out ns m (by rw [HK.out]; exact hlt)
              rw [HK.out] at c2 c3
              have HM := hid hm
              have C2 := hid c2
              have HC8 := hid hc8
              have HN8 := hid hn8
              have HRL : Hid (R.length = n) := hid hn
              have hkk : k = 0 ∨ k = 1 ∨ k = 2 ∨ k = 3 := by omega
              clear hm c2 hn i4 hk4 hlt hc8 q1 hu hx hx7 h8 hn8 HN
              rcases hkk with rfl | rfl | rfl | rfl
              all_goals
                go_wp2_with fail
                refine (number_ok m HM.out _ _ i5).mono ?_
                rintro e w4 ⟨rfl, b4⟩
                have i64 := i6.step b4
                have h64 := h6.step b4
                have h44 := h4.step b4
                have hp4 := hp.step b4
                have k64 := h64.cell c3
                have f1 := h64.frozen 1
                have f2 := h64.frozen 2
                have f3 := h64.frozen 3
                have f4 := h64.frozen 4
                have h65 := h64.set _ _ C2.out
                have hG := HG6.out
                have h45 := fun o => h44.far (a := ⟨G6, o, none⟩) (.int .i64 (m : Int)) (by simp; omega)
                have hp5 := fun o => hp4.far (a := ⟨G6, o, none⟩) (.int .i64 (m : Int)) (by simp; omega)
                have i65 := fun o => isB_farz (k := o) (u := .int .i64 (m : Int)) i64 h64
                have B4 := hB.trans (b4.mono (by have := HG6.out; omega))
                have B5 := fun o => B4.setCell (p := ⟨G6, o, none⟩) (by simp; omega) (.int .i64 (m : Int))
                have H45 := hid h45
                have HP5 := hid hp5
                have I65 := hid i65
                have HB5 := hid B5
                have H65 := hid h65
                clear C2 h6 h4 hp hB i5 i6 b4 hp4 h44 B4 i64 h64 h45 hp5 i65 B5 h65 hG c3
                go_wp2
                go_roundw
                case rel =>
                  have HRR : Hid (r = ((ns ++ [m]).map eightL).flatten ++ R.drop 8) := hid (by
                    have : R = eightL m ++ R.drop 8 := by rw [← HC8.out, List.take_append_drop]
                    rw [HR.out, List.map_append, List.flatten_append, List.append_assoc]
                    simp only [List.map_cons, List.map_nil, List.flatten_cons, List.flatten_nil, List.append_nil]
                    exact congrArg _ this)
                  first | exact ⟨1, ns ++ [m], R.drop 8, by omega, hid (by rw [List.length_append, HK.out]; rfl), by go_num, rfl, hid (fun n h => by rcases List.mem_append.1 h with h | h; exact HB4.out n h; rw [List.mem_singleton.1 h]; exact HM.out), HRR, I65.out _, H65.out, H45.out _, HP5.out _, HB5.out _⟩ | exact ⟨2, ns ++ [m], R.drop 8, by omega, hid (by rw [List.length_append, HK.out]; rfl), by go_num, rfl, hid (fun n h => by rcases List.mem_append.1 h with h | h; exact HB4.out n h; rw [List.mem_singleton.1 h]; exact HM.out), HRR, I65.out _, H65.out, H45.out _, HP5.out _, HB5.out _⟩ | exact ⟨3, ns ++ [m], R.drop 8, by omega, hid (by rw [List.length_append, HK.out]; rfl), by go_num, rfl, hid (fun n h => by rcases List.mem_append.1 h with h | h; exact HB4.out n h; rw [List.mem_singleton.1 h]; exact HM.out), HRR, I65.out _, H65.out, H45.out _, HP5.out _, HB5.out _⟩ | exact ⟨4, ns ++ [m], R.drop 8, by omega, hid (by rw [List.length_append, HK.out]; rfl), by go_num, rfl, hid (fun n h => by rcases List.mem_append.1 h with h | h; exact HB4.out n h; rw [List.mem_singleton.1 h]; exact HM.out), HRR, I65.out _, H65.out, H45.out _, HP5.out _, HB5.out _⟩
                case measure => simp [intOf]
            · have hx7 : 127 < (x.toNat : Int) := by omega
              obtain ⟨-, c2, z, c3⟩ := HN.out ns 0 (by rw [HK.out]; exact hlt)
              rw [HK.out] at c3
              have H8 := hid h8
              have HX := hid hx
              have HX7 := hid hx7
              have hkk : k = 0 ∨ k = 1 ∨ k = 2 ∨ k = 3 := by omega
              clear c2 hn i4 hk4 hlt q1 hu hx hx7 h8 hn8 HN i6
              rcases hkk with rfl | rfl | rfl | rfl
              all_goals
                go_wp2_with fail
                refine (number_no _ H8.out x HX.out HX7.out _ _ i5).mono ?_
                rintro e w4 ⟨rfl, b4⟩
                have h64 := h6.step b4
                have h44 := h4.step b4
                have k64 := h64.cell c3
                have f1 := h64.frozen 1
                have f2 := h64.frozen 2
                have f3 := h64.frozen 3
                have f4 := h64.frozen 4
                have hG := HG6.out
                have h45 := fun o => h44.far (a := ⟨G6, o, none⟩) (.int .i64 0) (by simp; omega)
                have B4 := hB.trans (b4.mono (by have := HG6.out; omega))
                have B5 := fun o => B4.setCell (p := ⟨G6, o, none⟩) (by simp; omega) (.int .i64 0)
                have H45 := hid h45
                have HB5 := hid B5
                clear h6 h4 hp hB i5 b4 h44 B4 h64 h45 B5 hG c3
                go_wp2_with fail
                rw [HG4.out]
                go_step3
                exact ⟨rfl, _, _, _, _, _, _, _, _, _, _, _, _, _, _, _, _, _, _, _, _, _, _, _, _, _, _, _, _, _, _, _, _, _, _, _, _, _, _, _, _, _, _, _, _, _, _, rfl, by rw [← HG4.out]; exact H45.out _, by rw [← HG4.out]; exact HB5.out _⟩
        · obtain rfl : k = 4 := by omega
          obtain ⟨a, b, c, d, rfl⟩ : ∃ a b c d, ns = [a, b, c, d] := by
            match ns, HK.out with
            | [a, b, c, d], _ => exact ⟨a, b, c, d, rfl⟩
          have h6' : Blk wr G6 41 (tokA4 s a b c d) := h6
          have ik : IsB wr key kv := hk.below hB (by rw [HG4.out]; exact Nat.le_refl _)
          have ib : IsB wr l bv := HB.out.below hB (by rw [HG4.out]; exact Nat.le_refl _)
          have b0 := HB4.out a (by simp)
          have b1 := HB4.out b (by simp)
          have b2 := HB4.out c (by simp)
          have b3 := HB4.out d (by simp)
          have hdf : Hid (decide (issueN key s [a, b, c, d] = l) = false) := hid (decide_eq_false fun h => HNO.out s a b c d ⟨HOK.out, ⟨b0, b1, b2, b3⟩, h.symm⟩)
          have M0 := hid b0
          have M1 := hid b1
          have M2 := hid b2
          have M3 := hid b3
          clear h6 HN b0 b1 b2 b3
          go_wp2_with (refine wpList_load_blk rfl _ (.tmp 6) rfl _ rfl _ _ _ h6' Try.underlying41 rfl size_tok ?_)
          refine (issue_any kv key s (by have := HOK.out.2.1; omega) a b c d M0.out M1.out M2.out M3.out wr ik).mono ?_
          rintro e w4 ⟨v4, rfl, h4v, b4⟩
          have iv := h4v.isB
          have ib4 := ib.step b4
          have h44 := h4.step b4
          have B4 := hB.trans (b4.mono (by have := HG6.out; omega))
          clear h6' h4 hp hB ik ib b4 h4v
          go_wp2_with fail
          refine (same_bytes iv ib4).mono ?_
          rintro e w5 ⟨rfl, b5⟩
          rw [hdf.out]
          have h45 := h44.step b5
          have z4 := h44.lt
          have B5 := B4.trans (b5.mono (by omega))
          go_wp2_with fail
          go_step3
          go_wp2_with (refine wpList_store_blk rfl _ (.tmp 4) _ rfl _ rfl _ rfl (by simp [Value.oneCell']) _ h45 rfl size_tok ?_; intro w6 g6 c6)
          try simp only [Exit.jump]
          have zz := B5.size
          have hG := HG6.out
          rw [HG4.out] at g6 B5 c6
          exact bodyPost_ret (results_blk_tmp rfl (by rw [← HG4.out]; rfl) c6 Try.underlying41 rfl size_tok) rfl ⟨rfl, below_of_grown B5 g6 (by have := B5.size; omega) (Nat.le_refl _)⟩
    · have hN : Hid (∀ w, Calls Try.prog 55 #[.string s] w fun e w' => e = .returned (.bool false) ∧ Below w.heap.size w w') := hid (fun w => isname_no s (by omega) hnm w)
      clear hnm
      go_enter Try.func28, Try.ntmps28
      go_wp2_with fail
      refine wp_scope_jumps 0 (fun a' w' => ∃ x0 x1 x2 x3 x5 x6 x7 x8 x9 x10 x11 x12 x13 x14 x15 x16 x17 x18 x19 x20 x21 x22 x23 x24 x25 x26 x27 x28 x29 x30 x31 x32 x33 x34 x35 x36 x37 x38 x39 x40 x41 x42 x43 x44 x45 x46, a' = { tmps := #[x0, x1, x2, x3, .pointer (some ⟨w.heap.size, 0, none⟩), x5, x6, x7, x8, x9, x10, x11, x12, x13, x14, x15, x16, x17, x18, x19, x20, x21, x22, x23, x24, x25, x26, x27, x28, x29, x30, x31, x32, x33, x34, x35, x36, x37, x38, x39, x40, x41, x42, x43, x44, x45, x46], defers := [] } ∧ Blk w' w.heap.size 41 (tokA4 ⟨#[]⟩ 0 0 0 0) ∧ Below w.heap.size w w') (fun _ _ => 0) rfl ?_ ?_
      rotate_left
      · rintro a' w' ⟨x0, x1, x2, x3, x5, x6, x7, x8, x9, x10, x11, x12, x13, x14, x15, x16, x17, x18, x19, x20, x21, x22, x23, x24, x25, x26, x27, x28, x29, x30, x31, x32, x33, x34, x35, x36, x37, x38, x39, x40, x41, x42, x43, x44, x45, x46, rfl, cc, bb⟩
        clear q4 b0
        go_wp2_with (refine wpList_store_blk rfl _ (.tmp 4) _ rfl _ rfl _ rfl (by simp [Value.oneCell']) _ cc rfl size_tok ?_; intro w9 g9 c9)
        simp only [Exit.jump]
        have zz := bb.size
        exact bodyPost_ret (results_blk_tmp rfl rfl c9 Try.underlying41 rfl size_tok) rfl ⟨rfl, below_of_grown bb g9 bb.size (Nat.le_refl _)⟩
      go_wp2_with fail
      refine (named_gen (w.heap.size + 1) ⟨#[]⟩ s 0 0 0 0 bv l r hl hs false hN _ (hb.step b0) hlen q6 hgl).mono ?_
      rintro e w2 ⟨u, rfl, iu, g2, r6⟩
      have q42 := q4.grown g2 (ne_some (by omega))
      have B2 : Below w.heap.size w w2 := below_of_grown b0 g2 (by omega) (by omega)
      clear q4 g2 b0 bs r6 q6 iu
      go_wp2_with fail
      go_step3
      exact ⟨rfl, _, _, _, _, _, _, _, _, _, _, _, _, _, _, _, _, _, _, _, _, _, _, _, _, _, _, _, _, _, _, _, _, _, _, _, _, _, _, _, _, _, _, _, _, _, _, rfl, q42, B2⟩
end Go.Proofs.Ytffoekgopooeaaa
