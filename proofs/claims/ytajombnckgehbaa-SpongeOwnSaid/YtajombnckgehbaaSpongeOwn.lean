/- sentinellaw3.SpongeOwn: the walk. -/
import Derived.Test.YtajombnckgehbaaSReg
import Derived.Test.YtajombnckgehbaaGenO
import Derived.Test.YtajombnckgehbaaGenQ
namespace Go.Proofs.Ytajombnckgehbaa
set_option linter.unusedVariables false
set_option linter.unusedSimpArgs false
open Go.ChangeShapes Go.WideShapes Go.ChangeAt Go.RowKit Go.Shelf
attribute [local go_sem] eq16_same
theorem src_of {w1 w : World} {A : Option Addr} {l : List UInt8} {p : Nat} (h : Rd w1 A l) (hb : Below w1.heap.size w1 w) (hp : w1.heap.size ≤ p) : Src w.heap.size p w A l := fun hl => by
  obtain ⟨b, o, e, h1, h2⟩ := h.at hl
  exact ⟨b, o, e, Nat.lt_of_lt_of_le h1 hb.size, by omega, fun j x hx => by rw [hb.cell (p := ⟨b, o + j, none⟩) h1]; exact h2 j x hx⟩
set_option maxRecDepth 100000 in
set_option maxHeartbeats 16000000 in
theorem SpongeOwn_walk (A0 : Option Addr) (n0 cap0 : Nat) (l0 : List UInt8) (hn0 : l0.length = n0) (hc0 : n0 ≤ cap0) (hm0 : cap0 ≤ maxLen) (hz0 : A0 = none → cap0 = 0)
    (A1 : Option Addr) (n1 cap1 : Nat) (l1 : List UInt8) (hn1 : l1.length = n1) (hc1 : n1 ≤ cap1) (hm1 : cap1 ≤ maxLen) (hz1 : A1 = none → cap1 = 0)
    (A2 : Option Addr) (n2 cap2 : Nat) (l2 : List UInt8) (hn2 : l2.length = n2) (hc2 : n2 ≤ cap2) (hm2 : cap2 ≤ maxLen) (hz2 : A2 = none → cap2 = 0) (w : World) (hr0 : Rd w A0 l0) (hr1 : Rd w A1 l1) (hr2 : Rd w A2 l2) :
    Calls Try.prog 9 #[.slice A0 n0 cap0, .slice A1 n1 cap1, .slice A2 n2 cap2] w fun e w' => e = .returned (.bool true) ∧ Below w.heap.size w w' := by
  go_enter Try.func9, Try.ntmps9
  go_wp2_with fail
  refine (known_any _).mono ?_
  rintro e w1 ⟨rfl, b1⟩
  by_cases g0 : 60 < n0
  · go_wp2
    go_ret
    exact ⟨rfl, b1⟩
  by_cases g1 : 100 < n1
  · go_wp2
    go_ret
    exact ⟨rfl, b1⟩
  by_cases g2 : 100 < n2
  · go_wp2
    go_ret
    exact ⟨rfl, b1⟩
  have C0 := hid hz0
  have C1 := hid hz1
  have C2 := hid hz2
  have r0 := hr0.step b1
  have r1 := hr1.step b1
  have r2 := hr2.step b1
  have he := byt_empty w1
  have R0 := r0.step (step_alloc w1 (.cells #[] 5))
  go_wp2_with (first | (refine wpList_append_bytes rfl (.tmp 29) (.tmp 30) rfl w1.heap.size _ _ l0 rfl he A0 n0 cap0 rfl hn0 C0.out R0 (by rw [hn0]; simp; omega) (by simp) ?_; intro v7 w2 h2 k2 g_; have B_w2 : Below w1.heap.size w1 w2 := step_app3 k2 (Nat.le_refl _); clear g_ k2; have he2 := byt_empty w2; have R1 := (r1.below B_w2 (Nat.le_refl _)).step (step_alloc w2 (.cells #[] 5))) | (refine wpList_append_bytes rfl (.tmp 32) (.tmp 33) rfl w2.heap.size _ _ l1 rfl he2 A1 n1 cap1 rfl hn1 C1.out R1 (by rw [hn1]; simp; omega) (by simp) ?_; intro v8 w3 h3 k3 g_; have B_w3 : Below w2.heap.size w2 w3 := step_app3 k3 (Nat.le_refl _); clear g_ k3; have he3 := byt_empty w3; have R2 := ((r2.below B_w2 (Nat.le_refl _)).step B_w3).step (step_alloc w3 (.cells #[] 5))) | (refine wpList_append_bytes rfl (.tmp 35) (.tmp 36) rfl w3.heap.size _ _ l2 rfl he3 A2 n2 cap2 rfl hn2 C2.out R2 (by rw [hn2]; simp; omega) (by simp) ?_; intro v9 w4 h4 k4 g_; have B_w4 : Below w3.heap.size w3 w4 := step_app3 k4 (Nat.le_refl _); clear g_ k4))
  rw [List.nil_append] at h2 h3 h4
  have s12 := B_w2.size
  have s23 := B_w3.size
  have s34 := B_w4.size
  have BB : Below w1.heap.size w1 w4 := (B_w2.trans (B_w3.mono s12)).trans (B_w4.mono (Nat.le_trans s12 s23))
  have KL : Hid (∀ b, v7.ownBlock = some b → w1.heap.size ≤ b ∧ b < w2.heap.size) := hid h2.lt
  have XL : Hid (∀ b, v8.ownBlock = some b → w2.heap.size ≤ b ∧ b < w3.heap.size) := hid h3.lt
  have YL : Hid (∀ b, v9.ownBlock = some b → w3.heap.size ≤ b ∧ b < w4.heap.size) := hid h4.lt
  have bk := (h2.step B_w3).step B_w4
  have bx := h3.step B_w4
  have bY := h4
  obtain ⟨Ak, ck, rfl, ck1, ck2, Rk, -⟩ := bk.slice
  obtain ⟨Ax, cx, rfl, cx1, cx2, Rx, -⟩ := bx.slice
  obtain ⟨Ay, cy, rfl, cy1, cy2, Ry, -⟩ := bY.slice
  have nk := hid bk.none0
  have nx := hid bx.none0
  have ny := hid bY.none0
  rw [hn0] at ck1 KL bk ⊢
  rw [hn1] at cx1 XL bx ⊢
  rw [hn2] at cy1 YL bY ⊢
  have HK2 := hid ck2
  have HX2 := hid cx2
  have HY2 := hid cy2
  clear he he2 he3 R0 R1 R2 B_w2 B_w3 B_w4 h2 h3 h4 ck2 cx2 cy2
  have hb01 := b1
  clear b1
  refine (new_any Ak l0 n0 ck hn0 ck1 HK2.out nk.out _ Rk).mono ?_
  rintro e w5 ⟨p, rfl, hp, Sp, b5⟩
  replace bk := bk.step b5
  replace bx := bx.step b5
  replace bY := bY.step b5
  replace Rk := Rk.step b5
  replace Rx := Rx.step b5
  replace Ry := Ry.step b5
  replace BB := BB.trans (b5.mono BB.size)
  have s45 := b5.size
  clear b5
  go_wp2_with fail
  refine (new_any Ak l0 n0 ck hn0 ck1 HK2.out nk.out _ Rk).mono ?_
  rintro e w6 ⟨q, rfl, hq, Sq, b6⟩
  have hpq : p < q := Nat.lt_of_lt_of_le Sp.lt hq
  replace Sp := Sp.of_block (b6.block p Sp.lt)
  replace bk := bk.step b6
  replace bx := bx.step b6
  replace bY := bY.step b6
  replace Rx := Rx.step b6
  replace Ry := Ry.step b6
  replace BB := BB.trans (b6.mono BB.size)
  clear b6 Rk
  have xb : Hid (∀ b o, Ax = some ⟨b, o, none⟩ → w2.heap.size ≤ b ∧ b < w3.heap.size) := hid (fun b o e => XL.out b (by rw [e]; rfl))
  have yb : Hid (∀ b o, Ay = some ⟨b, o, none⟩ → w3.heap.size ≤ b ∧ b < w4.heap.size) := hid (fun b o e => YL.out b (by rw [e]; rfl))
  have hwp : w1.heap.size ≤ p := by omega
  have hwq : w1.heap.size ≤ q := by omega
  obtain ⟨F1, hF1⟩ : ∃ F, Hid (outF (sumW (initW l0) (l1 ++ l2)) = F) := ⟨_, hid rfl⟩
  obtain ⟨F2, hF2⟩ : ∃ F, Hid (outF (sumW (initW l0) l2) = F) := ⟨_, hid rfl⟩
  have E1 : Hid (outF (sumW (feed (feed (initW l0) ([] ++ l1)).1 ((feed (initW l0) ([] ++ l1)).2 ++ l2)).1 (feed (feed (initW l0) ([] ++ l1)).1 ((feed (initW l0) ([] ++ l1)).2 ++ l2)).2) = F1) := hid (by rw [List.nil_append, ← feed_append, sumW_feed]; exact hF1.out)
  have E2 : Hid (outF (sumW (feed (initW l0) ([] ++ l2)).1 (feed (initW l0) ([] ++ l2)).2) = F2) := hid (by rw [List.nil_append, sumW_feed]; exact hF2.out)
  go_wp2_with fail
  refine (write_any p _ _ Ax l1 n1 cx hn1 cx1 HX2.out nx.out _ Sp (Src.of_rd Rx (fun b o e => by have := xb.out b o e; omega))).mono ?_
  rintro e w7 ⟨rfl, g7, Sp⟩
  replace Sq := Sq.of_block (g7.block q Sq.lt (fun e => by cases e; omega))
  replace bk := bk.far g7 (fun k hk e => by cases e; have := KL.out _ hk; omega)
  replace bx := bx.far g7 (fun k hk e => by cases e; have := XL.out _ hk; omega)
  replace Ry := Ry.far g7 (fun b o e h => by cases h; have := yb.out _ o e; omega)
  replace BB := BB.grown g7 BB.size (fun k e => by cases e; exact hwp)
  clear g7 Rx bY
  go_wp2_with fail
  refine (write_any q _ _ Ay l2 n2 cy hn2 cy1 HY2.out ny.out _ Sq (Src.of_rd Ry (fun b o e => by have := yb.out b o e; omega))).mono ?_
  rintro e w8 ⟨rfl, g8, Sq⟩
  replace Sp := Sp.of_block (g8.block p Sp.lt (fun e => by cases e; omega))
  replace bk := bk.far g8 (fun k hk e => by cases e; have := KL.out _ hk; omega)
  replace bx := bx.far g8 (fun k hk e => by cases e; have := XL.out _ hk; omega)
  replace Ry := Ry.far g8 (fun b o e h => by cases h; have := yb.out _ o e; omega)
  replace BB := BB.grown g8 BB.size (fun k e => by cases e; exact hwq)
  clear g8
  have HXZ : (l1.length = n1) ∧ (0 < n1 → ∃ g, Ax = some ⟨g, 0, none⟩ ∧ OwnZ w8 g l1) := ⟨hn1, fun h => by
    obtain ⟨g, c, e, -, -, -, ho⟩ := bx.ownZ (by omega)
    injection e with e1
    exact ⟨g, e1, ho⟩⟩
  clear bx
  go_wp2_with fail
  go_loopw [12] (fun i wr => ∃ (j : Nat) (lz : List UInt8), j ≤ n1 ∧ i = .int .i64 (j : Int) ∧ Hid (lz.length = n1) ∧ Hid (0 < n1 → ∃ g, Ax = some ⟨g, 0, none⟩ ∧ OwnZ wr g lz) ∧ w8.grownBy wr (Value.slice Ax n1 cx).ownBlock) (fun i _ => 200 - (intOf i).toNat)
  case atStart => exact ⟨0, l1, by omega, rfl, hid HXZ.1, hid HXZ.2, World.grownBy.refl _ _⟩
  case round =>
    obtain ⟨j, lz, hjn, rfl, HLZ, HZ, hG⟩ := hrel
    by_cases hlt : j < n1
    · obtain ⟨g, rfl, hO⟩ := HZ.out (by omega)
      obtain ⟨y, hy⟩ : ∃ x, lz[j]? = some x := ⟨_, List.getElem?_eq_getElem (by rw [HLZ.out]; exact hlt)⟩
      have cz := hO.2.2 j y hy
      have fz := hO.2.1 j
      obtain ⟨Y, hY⟩ : ∃ Y : Int, (y.toNat : Int) = Y := ⟨_, rfl⟩
      have Y0 : 0 ≤ Y ∧ Y < 256 := by have := y.toNat_lt; omega
      unfold bv at cz
      rw [hY] at cz
      have dj : (j : Int) < (n1 : Int) := by omega
      obtain ⟨S, hS⟩ : ∃ S : Int, (Y + 1) % 256 = S := ⟨_, rfl⟩
      have hSv : Hid ((.int .u8 S : Value) = bv (UInt8.ofNat S.toNat)) := hid (by
        unfold bv
        rw [show (UInt8.ofNat S.toNat).toNat = S.toNat by simp; omega, Int.toNat_of_nonneg (by omega)])
      have hO2 := hO.set (k := j) (by rw [HLZ.out]; exact hlt) (UInt8.ofNat S.toNat) hSv.out
      have hG2 := grown_set hG (p := ⟨g, j, none⟩) rfl (.int .u8 S)
      clear hy hY hO hG
      go_wp2
      go_roundw
      case rel => exact ⟨j + 1, _, by omega, by go_num, hid (by rw [List.length_set]; exact HLZ.out), hid (fun _ => ⟨g, rfl, hO2⟩), hG2⟩
      case measure => simp [intOf]; omega
    · have dj : ¬ (j : Int) < (n1 : Int) := by omega
      clear hlt hjn HZ HLZ
      replace Sp := Sp.of_block (hG.block p Sp.lt (fun e => by have := XL.out p e.symm; omega))
      replace Sq := Sq.of_block (hG.block q Sq.lt (fun e => by have := XL.out q e.symm; omega))
      replace bk := bk.far hG (fun k hk e => by have := KL.out k hk; have := XL.out k e.symm; omega)
      replace Ry := Ry.far hG (fun b o e h => by have := yb.out b o e; have := XL.out b h.symm; omega)
      replace BB := BB.grown hG BB.size (fun k e => by have := XL.out k e; omega)
      clear hG
      obtain ⟨W9, rfl⟩ : ∃ W, W = wr := ⟨_, rfl⟩
      have HKZ : (l0.length = n0) ∧ (0 < n0 → ∃ g, Ak = some ⟨g, 0, none⟩ ∧ OwnZ W9 g l0) := ⟨hn0, fun h => by
        obtain ⟨g, c, e, -, -, -, ho⟩ := bk.ownZ (by omega)
        injection e with e1
        exact ⟨g, e1, ho⟩⟩
      clear bk
      go_wp2_with fail
      go_loopw [13] (fun i wr => ∃ (j : Nat) (lz : List UInt8), j ≤ n0 ∧ i = .int .i64 (j : Int) ∧ Hid (lz.length = n0) ∧ Hid (0 < n0 → ∃ g, Ak = some ⟨g, 0, none⟩ ∧ OwnZ wr g lz) ∧ W9.grownBy wr (Value.slice Ak n0 ck).ownBlock) (fun i _ => 200 - (intOf i).toNat)
      case atStart => exact ⟨0, l0, by omega, rfl, hid HKZ.1, hid HKZ.2, World.grownBy.refl _ _⟩
      case round =>
        obtain ⟨j, lz, hjn, rfl, HLZ, HZ, hG⟩ := hrel
        by_cases hlt : j < n0
        · obtain ⟨g, rfl, hO⟩ := HZ.out (by omega)
          obtain ⟨y, hy⟩ : ∃ x, lz[j]? = some x := ⟨_, List.getElem?_eq_getElem (by rw [HLZ.out]; exact hlt)⟩
          have cz := hO.2.2 j y hy
          have fz := hO.2.1 j
          obtain ⟨Y, hY⟩ : ∃ Y : Int, (y.toNat : Int) = Y := ⟨_, rfl⟩
          have Y0 : 0 ≤ Y ∧ Y < 256 := by have := y.toNat_lt; omega
          unfold bv at cz
          rw [hY] at cz
          have dj : (j : Int) < (n0 : Int) := by omega
          obtain ⟨S, hS⟩ : ∃ S : Int, (Y + 1) % 256 = S := ⟨_, rfl⟩
          have hSv : Hid ((.int .u8 S : Value) = bv (UInt8.ofNat S.toNat)) := hid (by
            unfold bv
            rw [show (UInt8.ofNat S.toNat).toNat = S.toNat by simp; omega, Int.toNat_of_nonneg (by omega)])
          have hO2 := hO.set (k := j) (by rw [HLZ.out]; exact hlt) (UInt8.ofNat S.toNat) hSv.out
          have hG2 := grown_set hG (p := ⟨g, j, none⟩) rfl (.int .u8 S)
          clear hy hY hO hG
          go_wp2
          go_roundw
          case rel => exact ⟨j + 1, _, by omega, by go_num, hid (by rw [List.length_set]; exact HLZ.out), hid (fun _ => ⟨g, rfl, hO2⟩), hG2⟩
          case measure => simp [intOf]; omega
        · have dj : ¬ (j : Int) < (n0 : Int) := by omega
          clear hlt hjn HZ HLZ
          replace Sp := Sp.of_block (hG.block p Sp.lt (fun e => by have := KL.out p e.symm; omega))
          replace Sq := Sq.of_block (hG.block q Sq.lt (fun e => by have := KL.out q e.symm; omega))
          replace Ry := Ry.far hG (fun b o e h => by have := yb.out b o e; have := KL.out b h.symm; omega)
          replace BB := BB.grown hG BB.size (fun k e => (KL.out k e).1)
          clear hG
          go_wp2_with fail
          refine (write_any p _ _ A2 l2 n2 cap2 hn2 hc2 hm2 C2.out _ Sp (src_of r2 BB hwp)).mono ?_
          rintro e w10 ⟨rfl, g10, Sp⟩
          replace Sq := Sq.of_block (g10.block q Sq.lt (fun e => by cases e; omega))
          replace Ry := Ry.far g10 (fun b o e h => by cases h; have := yb.out _ o e; omega)
          replace BB := BB.grown g10 BB.size (fun k e => by cases e; exact hwp)
          clear g10
          have R2 := r2.below BB (Nat.le_refl _)
          have cvy := run_string_bytes w10 Ay l2 n2 cy hn2 Ry
          have cvb := run_string_bytes w10 A2 l2 n2 cap2 hn2 R2
          obtain ⟨TT, hTT⟩ : ∃ T : ByteArray, (⟨l2.toArray⟩ : ByteArray) = T := ⟨_, rfl⟩
          rw [hTT] at cvy cvb
          clear hTT Ry R2
          go_wp2_with fail
          refine (sum_any p _ _ _ Sp).mono ?_
          rintro e w11 ⟨rfl, b11⟩
          rw [E1.out]
          replace Sq := Sq.of_block (b11.block q Sq.lt)
          replace BB := BB.trans (b11.mono BB.size)
          clear b11 cvy cvb Sp
          have he := byt_empty w11
          have R1 := (r1.below BB (Nat.le_refl _)).step (step_alloc w11 (.cells #[] 5))
          go_wp2_with (first | (refine wpList_append_G (by kernel_rfl) (.tmp 90) (.tmp 91) rfl w11.heap.size _ [] l1 rfl he A1 n1 cap1 rfl hn1 C1.out R1 (by rw [hn1]; simp; omega) (by simp) ?_; intro v12 w12 h12 b12; have B12 : Below w11.heap.size w11 w12 := step_app3 b12 (Nat.le_refl _); have R2 := (r2.below BB (Nat.le_refl _)).step B12; rw [List.nil_append] at h12) | (refine wpList_append_G (by kernel_rfl) (.tmp 92) (.tmp 93) rfl w11.heap.size _ l1 l2 rfl h12 A2 n2 cap2 rfl hn2 C2.out R2 (by rw [hn1, hn2]; omega) B12.size ?_; intro v13 w13 h13 b13))
          replace BB := (BB.trans (B12.mono BB.size)).trans (b13.mono BB.size)
          replace Sq := (Sq.of_block (B12.block q Sq.lt)).of_block (b13.block q Sq.lt)
          have hl12 : (l1 ++ l2).length = n1 + n2 := by rw [List.length_append, hn1, hn2]
          obtain ⟨Ab, cb, rfl, cb1, cb2, Rb, -⟩ := h13.slice
          have nb := h13.none0
          rw [hl12] at cb1 ⊢
          clear he R1 h12 b12 B12 R2 h13 b13
          refine (rraw_any A0 l0 n0 cap0 hn0 C0.out (by omega) Ab (l1 ++ l2) (n1 + n2) cb hl12 nb (by omega) _ (r0.below BB (Nat.le_refl _)) Rb).mono ?_
          rintro e w14 ⟨rfl, b14⟩
          rw [hF1.out]
          replace Sq := Sq.of_block (b14.block q Sq.lt)
          replace BB := BB.trans (b14.mono BB.size)
          clear b14 Rb cb1
          go_wp2_with fail
          refine (sum_any q _ _ _ Sq).mono ?_
          rintro e w15 ⟨rfl, b15⟩
          rw [E2.out]
          replace BB := BB.trans (b15.mono BB.size)
          clear b15 Sq
          go_wp2_with fail
          refine (rraw_any A0 l0 n0 cap0 hn0 C0.out (by omega) A2 l2 n2 cap2 hn2 C2.out (by omega) _ (r0.below BB (Nat.le_refl _)) (r2.below BB (Nat.le_refl _))).mono ?_
          rintro e w16 ⟨rfl, b16⟩
          rw [hF2.out]
          replace BB := BB.trans (b16.mono BB.size)
          clear b16
          go_wp2
          go_ret
          exact ⟨rfl, hb01.trans (BB.mono hb01.size)⟩
end Go.Proofs.Ytajombnckgehbaa
