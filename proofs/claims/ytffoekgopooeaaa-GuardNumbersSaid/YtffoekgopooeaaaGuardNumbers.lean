/- sentinellaw9.GuardNumbers: the walk. -/
import Derived.Test.YtffoekgopooeaaaGdZ
namespace Go.Proofs.Ytffoekgopooeaaa
set_option linter.unusedVariables false
set_option linter.unusedSimpArgs false
open Go.ChangeShapes Go.WideShapes Go.ChangeAt Go.RowKit Go.Shelf
set_option maxRecDepth 100000 in
set_option maxHeartbeats 16000000 in
theorem GuardNumbers_walk (A0 : Option Addr) (n0 cap0 : Nat) (l0 : List UInt8) (hn0 : l0.length = n0) (hc0 : n0 ≤ cap0) (hm0 : cap0 ≤ maxLen) (hz0 : A0 = none → cap0 = 0)
    (a1 : Int) (hk1 : -9223372036854775808 ≤ a1) (hl1 : a1 < 9223372036854775808)
    (a2 : ByteArray) (hS2 : a2.size ≤ maxLen)
    (a3 : Int) (hk3 : -9223372036854775808 ≤ a3) (hl3 : a3 < 9223372036854775808)
    (a4 : Int) (hk4 : -9223372036854775808 ≤ a4) (hl4 : a4 < 9223372036854775808)
    (a5 : ByteArray) (hS5 : a5.size ≤ maxLen) (w : World) (hr0 : Rd w A0 l0) :
    Calls Try.prog 14 #[.slice A0 n0 cap0, .int .i64 a1, .string a2, .int .i64 a3, .int .i64 a4, .string a5] w fun e w' => e = .returned (.bool true) ∧ Below w.heap.size w w' := by
  go_enter Try.func14, Try.ntmps14
  go_wp2_with fail
  refine (known_any _).mono ?_
  rintro e w1 ⟨rfl, b1⟩
  by_cases g0 : 60 < n0
  · go_wp2
    go_ret
    exact ⟨rfl, b1⟩
  by_cases g2 : 40 < a2.size
  · go_wp2
    go_ret
    exact ⟨rfl, b1⟩
  by_cases g5 : 100 < a5.size
  · go_wp2
    go_ret
    exact ⟨rfl, b1⟩
  go_wp2_with fail
  obtain ⟨nm, N0, N1, N2, N3, -, NMO, -, nb, HT⟩ := token_pack a1 hk1 hl1 a2 (by omega)
  have nmo := hid NMO
  have ns : Hid (nm.size ≤ 255) := hid (by have := NMO.2.1; omega)
  have m0 : Hid ((N0 : Int) < 9223372036854775808) := hid (by omega)
  have m1 : Hid ((N1 : Int) < 9223372036854775808) := hid (by omega)
  have m2 : Hid ((N2 : Int) < 9223372036854775808) := hid (by omega)
  have m3 : Hid ((N3 : Int) < 9223372036854775808) := hid (by omega)
  have NB := hid nb
  clear NMO nb
  have i1 := (hr0.step b1).isB' hn0 hc0 hm0 hz0
  have C0 := hid hz0
  refine (HT.out _).mono ?_
  rintro e w2 ⟨rfl, b2⟩
  have B2 := step_trans b1 b2
  have z2 := Blk.new w2 41 (tokA4 ⟨#[]⟩ 0 0 0 0)
  obtain ⟨g, hg⟩ : ∃ g, g = w2.heap.size := ⟨_, rfl⟩
  have hgw : w.heap.size ≤ g := by rw [hg]; exact B2.size
  obtain ⟨W, hW⟩ : ∃ W : Int, Hid (a3 % 5 = W) := ⟨_, hid rfl⟩
  have hc : W = 0 ∨ W = 1 ∨ W = 2 ∨ W = 3 ∨ W = 4 := by have := hW.out; omega
  have A4 : Hid (-9223372036854775808 ≤ a4 ∧ a4 < 9223372036854775808) := hid ⟨hk4, hl4⟩
  clear b1 b2 i1 HT
  go_wp2_with (refine wpList_store_blk rfl _ (.tmp 13) _ rfl _ rfl _ rfl (by simp [tokA4, Value.oneCell']) _ z2 rfl size_tok ?_; intro w3 g3 c3)
  have B3 := step_trans B2 (step_new g3)
  rw [← hg] at c3 ⊢
  refine (within_eq hW.out (by omega) (by omega) hk3 hl3 _).mono ?_
  rintro e w4 ⟨rfl, b4⟩
  have c4 := c3.step b4
  have B4 := step_trans B3 b4
  clear z2 g3 c3 b4 B3 B2 hg hW
  rcases hc with rfl | rfl | rfl | rfl | rfl
  · have kk := c4.cell (k := 1) (v := .int .i64 (N0 : Int)) rfl
    have ff := c4.frozen 1
    have c5 := c4.set 1 (.int .i64 a4) (c' := #[.string nm, .int .i64 a4, .int .i64 (N1 : Int), .int .i64 (N2 : Int), .int .i64 (N3 : Int)]) rfl
    have B5 := B4.setCell (p := ⟨g, 1, none⟩) hgw (.int .i64 a4)
    go_upto_region 17 with (fail)
    generalize World.setCell w4 _ _ = w5 at *
    clear kk ff c4 B4
    have i5 := (hr0.below B5 (Nat.le_refl _)).isB' hn0 hc0 hm0 C0.out
    obtain ⟨LL, hLL⟩ : ∃ L, Hid (issueZ l0 nm [a4, (N1 : Int), (N2 : Int), (N3 : Int)] = L) := ⟨_, hid rfl⟩
    obtain ⟨t, r1, r2, r3, r4, ok, hok, G1, G2⟩ := z_pack l0 (by omega) nm (by have := nmo.out.2.1; omega) a4 (N1 : Int) (N2 : Int) (N3 : Int) (A4.out) ⟨by omega, m1.out⟩ ⟨by omega, m2.out⟩ ⟨by omega, m3.out⟩ hLL.out
    have HOK := hid hok
    clear hok
    go_wp2_with (refine wpList_load_blk rfl _ (.tmp 13) rfl _ rfl _ _ _ c5 Try.underlying41 rfl size_tok ?_)
    refine (rissue_z _ l0 (by omega) nm (by have := ns.out; omega) a4 (N1 : Int) (N2 : Int) (N3 : Int) (A4.out) ⟨by omega, m1.out⟩ ⟨by omega, m2.out⟩ ⟨by omega, m3.out⟩ _ i5).mono ?_
    rintro e w6 ⟨vb, rfl, h6, b6⟩
    have j6 := h6.isB
    rw [hLL.out] at j6
    have i6 := i5.step b6
    have c6 := c5.step b6
    have B6 := step_trans B5 b6
    clear c5 i5 B5 b6 h6
    go_wp2_with fail
    refine (G1.out _ _ _ i6 j6).mono ?_
    rintro e w7 ⟨rfl, b7⟩
    replace i6 := i6.step b7
    replace j6 := j6.step b7
    replace c6 := c6.step b7
    replace B6 := step_trans B6 b7
    have z7 := Blk.new w7 41 (tokA4 ⟨#[]⟩ 0 0 0 0)
    clear b7
    go_wp2_with (refine wpList_store_blk rfl _ (.tmp 15) _ rfl _ rfl _ rfl (by simp [tokA4, Value.oneCell']) _ z7 rfl size_tok ?_; intro w8 g8 c15; replace i6 := i6.step (step_new g8); replace j6 := j6.step (step_new g8); replace c6 := c6.step (step_new g8); replace B6 := step_trans B6 (step_new g8); clear g8 z7)
    refine (G2.out _ _ _ i6 j6).mono ?_
    rintro e w9 ⟨rfl, b9⟩
    replace c15 := c15.step b9
    replace c6 := c6.step b9
    replace B6 := step_trans B6 b9
    have z9 := Blk.new w9 41 (tokA4 ⟨#[]⟩ 0 0 0 0)
    clear b9 i6 j6
    go_upto_region 20 with (refine wpList_store_blk rfl _ (.tmp 17) _ rfl _ rfl _ rfl (by simp [tokA4, Value.oneCell']) _ z9 rfl size_tok ?_; intro w10 g10 c17; replace c15 := c15.step (step_new g10); replace c6 := c6.step (step_new g10); replace B6 := step_trans B6 (step_new g10); clear g10 z9)
    obtain ⟨g15, hg15⟩ : ∃ g, g = w7.heap.size := ⟨_, rfl⟩
    rw [← hg15] at c15 ⊢
    obtain ⟨g17, hg17⟩ : ∃ g, g = w9.heap.size := ⟨_, rfl⟩
    rw [← hg17] at c17 ⊢
    clear hg15 hg17
    have HNM : Hid (∀ w, Calls Try.prog 34 #[.string nm] w fun e w' => e = .returned (.bool true) ∧ Below w.heap.size w w') := hid (fun w => rname_ok nm nmo.out w)
    by_cases hv : 0 ≤ a4
    · have HV := hid hv
      obtain rfl : ok = true := HOK.out.2 ⟨nmo.out, hv, by omega, by omega, by omega⟩
      clear hv HOK
      refine wp_region_stU ((StK.eq (.bool true)) :: (StK.eq (.bool true)) :: (StK.eq (.bool true)) :: (StK.eq (.bool true)) :: (StK.eq (.agg #[.string t, .int .i64 r1, .int .i64 r2, .int .i64 r3, .int .i64 r4])) :: (StK.eq (.agg #[.string t, .int .i64 r1, .int .i64 r2, .int .i64 r3, .int .i64 r4])) :: (StK.eq (.bool true)) :: (StK.eq (.bool true)) :: (StK.eq (.bool true)) :: (StK.eq (.bool true)) :: (StK.eq (.pointer (some ⟨g, 0, none⟩))) :: (StK.eq (.string nm)) :: (StK.eq (.bool true)) :: (StK.eq (.bool true)) :: (StK.eq (.pointer (some ⟨g, 1, none⟩))) :: (StK.eq (.int .i64 a4)) :: (StK.eq (.bool true)) :: (StK.eq (.bool true)) :: (StK.eq (.bool true)) :: (StK.eq (.pointer (some ⟨g, 2, none⟩))) :: (StK.eq (.int .i64 (N1 : Int))) :: (StK.eq (.bool true)) :: (StK.eq (.bool true)) :: (StK.eq (.bool true)) :: (StK.eq (.pointer (some ⟨g, 3, none⟩))) :: (StK.eq (.int .i64 (N2 : Int))) :: (StK.eq (.bool true)) :: (StK.eq (.bool true)) :: (StK.eq (.bool true)) :: (StK.eq (.pointer (some ⟨g, 4, none⟩))) :: (StK.eq (.int .i64 (N3 : Int))) :: (StK.eq (.bool true)) :: (StK.eq (.bool true)) :: (StK.eq (.bool true)) :: (StK.eq (.bool true)) :: (StK.eq (.bool true)) :: []) 36 109 rfl (by kernel_rfl) (by decide) ⟨?_, ?_, ?_, ?_, ?_, ?_, ?_, ?_, ?_, ?_, ?_, ?_, ?_, ?_, ?_, ?_, ?_, ?_, ?_, ?_, ?_, ?_, ?_, ?_, ?_, ?_, ?_, ?_, ?_, ?_, ?_, ?_, ?_, ?_, ?_, ?_, trivial⟩ ?_
      · intro a w hb hd
        have e16 : a.eval (.tmp 16) = .bool true := hd 16 (by decide)
        exact hop_runK (F := (StK.eq (.bool true)).F) (wanted_none rfl) _ (run_mv _ (.inl rfl) e16) rfl
      · intro a w hb hd
        have e18 : a.eval (.tmp 18) = .bool true := hd 18 (by decide)
        exact hop_runK (F := (StK.eq (.bool true)).F) (wanted_none rfl) _ (run_mv _ (.inl rfl) e18) rfl
      · intro a w hb hd
        have e74 : a.eval (.tmp 74) = .bool true := hd 74 (by decide)
        have e75 : a.eval (.tmp 75) = .bool true := hd 75 (by decide)
        exact hop_runK (F := (StK.eq (.bool true)).F) (wanted_none rfl) _ (run_eqBool _ _ rfl e74 e75 (rfl)) rfl
      · intro a w hb hd
        have e76 : a.eval (.tmp 76) = .bool true := hd 76 (by decide)
        exact hop_runK (F := (StK.eq (.bool true)).F) (wanted_none rfl) _ (run_mv _ (.inl rfl) e76) rfl
      · intro a w hb hd
        have eg : a.eval (.tmp 77) = .bool true := hd 77 (by decide)
        have e15 : a.eval (.tmp 15) = .pointer (some ⟨g15, 0, none⟩) := hd 15 (by decide)
        exact hop_runK (F := (StK.eq (.agg #[.string t, .int .i64 r1, .int .i64 r2, .int .i64 r3, .int .i64 r4])).F) (wanted_yes rfl rfl rfl eg) _ (run_ldAll _ _ rfl e15 (c15.step hb) Try.underlying41 rfl (by kernel_rfl)) rfl
      · intro a w hb hd
        have eg : a.eval (.tmp 77) = .bool true := hd 77 (by decide)
        have e17 : a.eval (.tmp 17) = .pointer (some ⟨g17, 0, none⟩) := hd 17 (by decide)
        exact hop_runK (F := (StK.eq (.agg #[.string t, .int .i64 r1, .int .i64 r2, .int .i64 r3, .int .i64 r4])).F) (wanted_yes rfl rfl rfl eg) _ (run_ldAll _ _ rfl e17 (c17.step hb) Try.underlying41 rfl (by kernel_rfl)) rfl
      · intro a w hb hd
        have eg : a.eval (.tmp 77) = .bool true := hd 77 (by decide)
        have e78 : a.eval (.tmp 78) = .agg #[.string t, .int .i64 r1, .int .i64 r2, .int .i64 r3, .int .i64 r4] := hd 78 (by decide)
        have e79 : a.eval (.tmp 79) = .agg #[.string t, .int .i64 r1, .int .i64 r2, .int .i64 r3, .int .i64 r4] := hd 79 (by decide)
        exact hop_runK (F := (StK.eq (.bool true)).F) (wanted_yes rfl rfl rfl eg) _ (run_eqTok _ _ rfl e78 e79 (by simp [tokEq])) rfl
      · intro a w hb hd
        have e77 : a.eval (.tmp 77) = .bool true := hd 77 (by decide)
        have e80 : a.eval (.tmp 80) = .bool true := hd 80 (by decide)
        exact hop_runK (F := (StK.eq (.bool true)).F) (wanted_none rfl) (.bool true) (run_pick_t rfl e77 e80) rfl
      · intro a w hb hd
        have e81 : a.eval (.tmp 81) = .bool true := hd 81 (by decide)
        exact hop_runK (F := (StK.eq (.bool true)).F) (wanted_none rfl) _ (run_mv _ (.inl rfl) e81) rfl
      · intro a w hb hd
        have eg : a.eval (.tmp 82) = .bool true := hd 82 (by decide)
        have e16 : a.eval (.tmp 16) = .bool true := hd 16 (by decide)
        exact hop_runK (F := (StK.eq (.bool true)).F) (wanted_yes rfl rfl rfl eg) _ (run_mv _ (.inl rfl) e16) rfl
      · intro a w hb hd
        have eg : a.eval (.tmp 82) = .bool true := hd 82 (by decide)
        have e13 : a.eval (.tmp 13) = .pointer (some ⟨g, 0, none⟩) := hd 13 (by decide)
        exact hop_runK (F := (StK.eq (.pointer (some ⟨g, 0, none⟩))).F) (wanted_yes rfl rfl rfl eg) _ (by unfold execOp; simp only [e13]; kernel_rfl) rfl
      · intro a w hb hd
        have eg : a.eval (.tmp 82) = .bool true := hd 82 (by decide)
        have e84 : a.eval (.tmp 84) = .pointer (some ⟨g, 0, none⟩) := hd 84 (by decide)
        exact hop_runK (F := (StK.eq (.string nm)).F) (wanted_yes rfl rfl rfl eg) _ (run_ldCell _ _ rfl e84 Try.underlying9 rfl ((c6.step hb).cell (k := 0) rfl)) rfl
      · intro a w hb hd
        have eg : a.eval (.tmp 82) = .bool true := hd 82 (by decide)
        have e85 : a.eval (.tmp 85) = .string nm := hd 85 (by decide)
        exact hop_callK (F := (StK.eq (.bool true)).F) (wanted_yes rfl rfl rfl eg) hb.size rfl #[a.eval (.tmp 85)] (by first | (simp only [List.map_toArray, List.map_cons, List.map_nil]; done) | (simp only [List.map_toArray, List.map_cons, List.map_nil]; rfl)) (enters_of Try.func34 (by kernel_rfl) rfl) (by rw [e85]; exact call_eq (HNM.out w))
      · intro a w hb hd
        have eg : a.eval (.tmp 82) = .bool true := hd 82 (by decide)
        have e86 : a.eval (.tmp 86) = .bool true := hd 86 (by decide)
        exact hop_runK (F := (StK.eq (.bool true)).F) (wanted_yes rfl rfl rfl eg) _ (run_mv _ (.inl rfl) e86) rfl
      · intro a w hb hd
        have eg : a.eval (.tmp 87) = .bool true := hd 87 (by decide)
        have e13 : a.eval (.tmp 13) = .pointer (some ⟨g, 0, none⟩) := hd 13 (by decide)
        exact hop_runK (F := (StK.eq (.pointer (some ⟨g, 1, none⟩))).F) (wanted_yes rfl rfl rfl eg) _ (by unfold execOp; simp only [e13]; kernel_rfl) rfl
      · intro a w hb hd
        have eg : a.eval (.tmp 87) = .bool true := hd 87 (by decide)
        have e88 : a.eval (.tmp 88) = .pointer (some ⟨g, 1, none⟩) := hd 88 (by decide)
        exact hop_runK (F := (StK.eq (.int .i64 a4)).F) (wanted_yes rfl rfl rfl eg) _ (run_ldCell _ _ rfl e88 Try.underlying3 rfl ((c6.step hb).cell (k := 1) rfl)) rfl
      · intro a w hb hd
        have eg : a.eval (.tmp 87) = .bool true := hd 87 (by decide)
        have e89 : a.eval (.tmp 89) = .int .i64 a4 := hd 89 (by decide)
        exact hop_runK (F := (StK.eq (.bool true)).F) (wanted_yes rfl rfl rfl eg) _ (run_geI _ _ rfl e89 rfl (decide_eq_true HV.out)) rfl
      · intro a w hb hd
        have eg : a.eval (.tmp 82) = .bool true := hd 82 (by decide)
        have e87 : a.eval (.tmp 87) = .bool true := hd 87 (by decide)
        have e90 : a.eval (.tmp 90) = .bool true := hd 90 (by decide)
        exact hop_runK (F := (StK.eq (.bool true)).F) (wanted_yes rfl rfl rfl eg) (.bool true) (run_pick_t rfl e87 e90) rfl
      · intro a w hb hd
        have eg : a.eval (.tmp 82) = .bool true := hd 82 (by decide)
        have e91 : a.eval (.tmp 91) = .bool true := hd 91 (by decide)
        exact hop_runK (F := (StK.eq (.bool true)).F) (wanted_yes rfl rfl rfl eg) _ (run_mv _ (.inl rfl) e91) rfl
      · intro a w hb hd
        have eg : a.eval (.tmp 92) = .bool true := hd 92 (by decide)
        have e13 : a.eval (.tmp 13) = .pointer (some ⟨g, 0, none⟩) := hd 13 (by decide)
        exact hop_runK (F := (StK.eq (.pointer (some ⟨g, 2, none⟩))).F) (wanted_yes rfl rfl rfl eg) _ (by unfold execOp; simp only [e13]; kernel_rfl) rfl
      · intro a w hb hd
        have eg : a.eval (.tmp 92) = .bool true := hd 92 (by decide)
        have e93 : a.eval (.tmp 93) = .pointer (some ⟨g, 2, none⟩) := hd 93 (by decide)
        exact hop_runK (F := (StK.eq (.int .i64 (N1 : Int))).F) (wanted_yes rfl rfl rfl eg) _ (run_ldCell _ _ rfl e93 Try.underlying3 rfl ((c6.step hb).cell (k := 2) rfl)) rfl
      · intro a w hb hd
        have eg : a.eval (.tmp 92) = .bool true := hd 92 (by decide)
        have e94 : a.eval (.tmp 94) = .int .i64 (N1 : Int) := hd 94 (by decide)
        exact hop_runK (F := (StK.eq (.bool true)).F) (wanted_yes rfl rfl rfl eg) _ (run_geI _ _ rfl e94 rfl (decide_eq_true (by omega))) rfl
      · intro a w hb hd
        have eg : a.eval (.tmp 82) = .bool true := hd 82 (by decide)
        have e92 : a.eval (.tmp 92) = .bool true := hd 92 (by decide)
        have e95 : a.eval (.tmp 95) = .bool true := hd 95 (by decide)
        exact hop_runK (F := (StK.eq (.bool true)).F) (wanted_yes rfl rfl rfl eg) (.bool true) (run_pick_t rfl e92 e95) rfl
      · intro a w hb hd
        have eg : a.eval (.tmp 82) = .bool true := hd 82 (by decide)
        have e96 : a.eval (.tmp 96) = .bool true := hd 96 (by decide)
        exact hop_runK (F := (StK.eq (.bool true)).F) (wanted_yes rfl rfl rfl eg) _ (run_mv _ (.inl rfl) e96) rfl
      · intro a w hb hd
        have eg : a.eval (.tmp 97) = .bool true := hd 97 (by decide)
        have e13 : a.eval (.tmp 13) = .pointer (some ⟨g, 0, none⟩) := hd 13 (by decide)
        exact hop_runK (F := (StK.eq (.pointer (some ⟨g, 3, none⟩))).F) (wanted_yes rfl rfl rfl eg) _ (by unfold execOp; simp only [e13]; kernel_rfl) rfl
      · intro a w hb hd
        have eg : a.eval (.tmp 97) = .bool true := hd 97 (by decide)
        have e98 : a.eval (.tmp 98) = .pointer (some ⟨g, 3, none⟩) := hd 98 (by decide)
        exact hop_runK (F := (StK.eq (.int .i64 (N2 : Int))).F) (wanted_yes rfl rfl rfl eg) _ (run_ldCell _ _ rfl e98 Try.underlying3 rfl ((c6.step hb).cell (k := 3) rfl)) rfl
      · intro a w hb hd
        have eg : a.eval (.tmp 97) = .bool true := hd 97 (by decide)
        have e99 : a.eval (.tmp 99) = .int .i64 (N2 : Int) := hd 99 (by decide)
        exact hop_runK (F := (StK.eq (.bool true)).F) (wanted_yes rfl rfl rfl eg) _ (run_geI _ _ rfl e99 rfl (decide_eq_true (by omega))) rfl
      · intro a w hb hd
        have eg : a.eval (.tmp 82) = .bool true := hd 82 (by decide)
        have e97 : a.eval (.tmp 97) = .bool true := hd 97 (by decide)
        have e100 : a.eval (.tmp 100) = .bool true := hd 100 (by decide)
        exact hop_runK (F := (StK.eq (.bool true)).F) (wanted_yes rfl rfl rfl eg) (.bool true) (run_pick_t rfl e97 e100) rfl
      · intro a w hb hd
        have eg : a.eval (.tmp 82) = .bool true := hd 82 (by decide)
        have e101 : a.eval (.tmp 101) = .bool true := hd 101 (by decide)
        exact hop_runK (F := (StK.eq (.bool true)).F) (wanted_yes rfl rfl rfl eg) _ (run_mv _ (.inl rfl) e101) rfl
      · intro a w hb hd
        have eg : a.eval (.tmp 102) = .bool true := hd 102 (by decide)
        have e13 : a.eval (.tmp 13) = .pointer (some ⟨g, 0, none⟩) := hd 13 (by decide)
        exact hop_runK (F := (StK.eq (.pointer (some ⟨g, 4, none⟩))).F) (wanted_yes rfl rfl rfl eg) _ (by unfold execOp; simp only [e13]; kernel_rfl) rfl
      · intro a w hb hd
        have eg : a.eval (.tmp 102) = .bool true := hd 102 (by decide)
        have e103 : a.eval (.tmp 103) = .pointer (some ⟨g, 4, none⟩) := hd 103 (by decide)
        exact hop_runK (F := (StK.eq (.int .i64 (N3 : Int))).F) (wanted_yes rfl rfl rfl eg) _ (run_ldCell _ _ rfl e103 Try.underlying3 rfl ((c6.step hb).cell (k := 4) rfl)) rfl
      · intro a w hb hd
        have eg : a.eval (.tmp 102) = .bool true := hd 102 (by decide)
        have e104 : a.eval (.tmp 104) = .int .i64 (N3 : Int) := hd 104 (by decide)
        exact hop_runK (F := (StK.eq (.bool true)).F) (wanted_yes rfl rfl rfl eg) _ (run_geI _ _ rfl e104 rfl (decide_eq_true (by omega))) rfl
      · intro a w hb hd
        have eg : a.eval (.tmp 82) = .bool true := hd 82 (by decide)
        have e102 : a.eval (.tmp 102) = .bool true := hd 102 (by decide)
        have e105 : a.eval (.tmp 105) = .bool true := hd 105 (by decide)
        exact hop_runK (F := (StK.eq (.bool true)).F) (wanted_yes rfl rfl rfl eg) (.bool true) (run_pick_t rfl e102 e105) rfl
      · intro a w hb hd
        have eg : a.eval (.tmp 82) = .bool true := hd 82 (by decide)
        have e83 : a.eval (.tmp 83) = .bool true := hd 83 (by decide)
        have e106 : a.eval (.tmp 106) = .bool true := hd 106 (by decide)
        exact hop_runK (F := (StK.eq (.bool true)).F) (wanted_yes rfl rfl rfl eg) _ (run_eqBool _ _ rfl e83 e106 (rfl)) rfl
      · intro a w hb hd
        have e82 : a.eval (.tmp 82) = .bool true := hd 82 (by decide)
        have e107 : a.eval (.tmp 107) = .bool true := hd 107 (by decide)
        exact hop_runK (F := (StK.eq (.bool true)).F) (wanted_none rfl) (.bool true) (run_pick_t rfl e82 e107) rfl
      · intro a w hb hd
        have e108 : a.eval (.tmp 108) = .bool true := hd 108 (by decide)
        exact hop_runK (F := (StK.eq (.bool true)).F) (wanted_none rfl) _ (run_mv _ (.inr rfl) e108) rfl
      intro pwz wz bwz hp
      obtain ⟨-, -, -, -, -, -, -, -, -, -, -, -, -, -, -, -, -, -, -, -, -, -, -, -, -, -, -, -, -, -, -, -, -, -, -, q35, -⟩ := hp
      have e35 : pwz 35 = .bool true := q35 (by decide)
      simp only [List.take_succ_cons, List.take_zero, List.drop_succ_cons, List.drop_zero, layAll, Act.put, List.setIfInBounds_toArray, List.set_cons_zero, List.set_cons_succ, Nat.zero_add, Nat.reduceAdd, e35]
      clear q35 e35
      go_wp2
      go_ret
      exact ⟨rfl, step_trans B6 bwz⟩
    · have HV := hid hv
      obtain rfl : ok = false := by
        cases ok with
        | false => rfl
        | true => exact absurd (HOK.out.1 rfl).2.1 hv
      clear hv HOK
      refine wp_region_stU ((StK.eq (.bool false)) :: (StK.eq (.bool false)) :: (StK.eq (.bool true)) :: (StK.eq (.bool true)) :: (StK.eq (.agg #[.string t, .int .i64 r1, .int .i64 r2, .int .i64 r3, .int .i64 r4])) :: (StK.eq (.agg #[.string t, .int .i64 r1, .int .i64 r2, .int .i64 r3, .int .i64 r4])) :: (StK.eq (.bool true)) :: (StK.eq (.bool true)) :: (StK.eq (.bool true)) :: (StK.eq (.bool false)) :: (StK.eq (.pointer (some ⟨g, 0, none⟩))) :: (StK.eq (.string nm)) :: (StK.eq (.bool true)) :: (StK.eq (.bool true)) :: (StK.eq (.pointer (some ⟨g, 1, none⟩))) :: (StK.eq (.int .i64 a4)) :: (StK.eq (.bool false)) :: (StK.eq (.bool false)) :: (StK.eq (.bool false)) :: (StK.any) :: (StK.any) :: (StK.any) :: (StK.eq (.bool false)) :: (StK.eq (.bool false)) :: (StK.any) :: (StK.any) :: (StK.any) :: (StK.eq (.bool false)) :: (StK.eq (.bool false)) :: (StK.any) :: (StK.any) :: (StK.any) :: (StK.eq (.bool false)) :: (StK.eq (.bool true)) :: (StK.eq (.bool true)) :: (StK.eq (.bool true)) :: []) 36 109 rfl (by kernel_rfl) (by decide) ⟨?_, ?_, ?_, ?_, ?_, ?_, ?_, ?_, ?_, ?_, ?_, ?_, ?_, ?_, ?_, ?_, ?_, ?_, ?_, ?_, ?_, ?_, ?_, ?_, ?_, ?_, ?_, ?_, ?_, ?_, ?_, ?_, ?_, ?_, ?_, ?_, trivial⟩ ?_
      · intro a w hb hd
        have e16 : a.eval (.tmp 16) = .bool false := hd 16 (by decide)
        exact hop_runK (F := (StK.eq (.bool false)).F) (wanted_none rfl) _ (run_mv _ (.inl rfl) e16) rfl
      · intro a w hb hd
        have e18 : a.eval (.tmp 18) = .bool false := hd 18 (by decide)
        exact hop_runK (F := (StK.eq (.bool false)).F) (wanted_none rfl) _ (run_mv _ (.inl rfl) e18) rfl
      · intro a w hb hd
        have e74 : a.eval (.tmp 74) = .bool false := hd 74 (by decide)
        have e75 : a.eval (.tmp 75) = .bool false := hd 75 (by decide)
        exact hop_runK (F := (StK.eq (.bool true)).F) (wanted_none rfl) _ (run_eqBool _ _ rfl e74 e75 (rfl)) rfl
      · intro a w hb hd
        have e76 : a.eval (.tmp 76) = .bool true := hd 76 (by decide)
        exact hop_runK (F := (StK.eq (.bool true)).F) (wanted_none rfl) _ (run_mv _ (.inl rfl) e76) rfl
      · intro a w hb hd
        have eg : a.eval (.tmp 77) = .bool true := hd 77 (by decide)
        have e15 : a.eval (.tmp 15) = .pointer (some ⟨g15, 0, none⟩) := hd 15 (by decide)
        exact hop_runK (F := (StK.eq (.agg #[.string t, .int .i64 r1, .int .i64 r2, .int .i64 r3, .int .i64 r4])).F) (wanted_yes rfl rfl rfl eg) _ (run_ldAll _ _ rfl e15 (c15.step hb) Try.underlying41 rfl (by kernel_rfl)) rfl
      · intro a w hb hd
        have eg : a.eval (.tmp 77) = .bool true := hd 77 (by decide)
        have e17 : a.eval (.tmp 17) = .pointer (some ⟨g17, 0, none⟩) := hd 17 (by decide)
        exact hop_runK (F := (StK.eq (.agg #[.string t, .int .i64 r1, .int .i64 r2, .int .i64 r3, .int .i64 r4])).F) (wanted_yes rfl rfl rfl eg) _ (run_ldAll _ _ rfl e17 (c17.step hb) Try.underlying41 rfl (by kernel_rfl)) rfl
      · intro a w hb hd
        have eg : a.eval (.tmp 77) = .bool true := hd 77 (by decide)
        have e78 : a.eval (.tmp 78) = .agg #[.string t, .int .i64 r1, .int .i64 r2, .int .i64 r3, .int .i64 r4] := hd 78 (by decide)
        have e79 : a.eval (.tmp 79) = .agg #[.string t, .int .i64 r1, .int .i64 r2, .int .i64 r3, .int .i64 r4] := hd 79 (by decide)
        exact hop_runK (F := (StK.eq (.bool true)).F) (wanted_yes rfl rfl rfl eg) _ (run_eqTok _ _ rfl e78 e79 (by simp [tokEq])) rfl
      · intro a w hb hd
        have e77 : a.eval (.tmp 77) = .bool true := hd 77 (by decide)
        have e80 : a.eval (.tmp 80) = .bool true := hd 80 (by decide)
        exact hop_runK (F := (StK.eq (.bool true)).F) (wanted_none rfl) (.bool true) (run_pick_t rfl e77 e80) rfl
      · intro a w hb hd
        have e81 : a.eval (.tmp 81) = .bool true := hd 81 (by decide)
        exact hop_runK (F := (StK.eq (.bool true)).F) (wanted_none rfl) _ (run_mv _ (.inl rfl) e81) rfl
      · intro a w hb hd
        have eg : a.eval (.tmp 82) = .bool true := hd 82 (by decide)
        have e16 : a.eval (.tmp 16) = .bool false := hd 16 (by decide)
        exact hop_runK (F := (StK.eq (.bool false)).F) (wanted_yes rfl rfl rfl eg) _ (run_mv _ (.inl rfl) e16) rfl
      · intro a w hb hd
        have eg : a.eval (.tmp 82) = .bool true := hd 82 (by decide)
        have e13 : a.eval (.tmp 13) = .pointer (some ⟨g, 0, none⟩) := hd 13 (by decide)
        exact hop_runK (F := (StK.eq (.pointer (some ⟨g, 0, none⟩))).F) (wanted_yes rfl rfl rfl eg) _ (by unfold execOp; simp only [e13]; kernel_rfl) rfl
      · intro a w hb hd
        have eg : a.eval (.tmp 82) = .bool true := hd 82 (by decide)
        have e84 : a.eval (.tmp 84) = .pointer (some ⟨g, 0, none⟩) := hd 84 (by decide)
        exact hop_runK (F := (StK.eq (.string nm)).F) (wanted_yes rfl rfl rfl eg) _ (run_ldCell _ _ rfl e84 Try.underlying9 rfl ((c6.step hb).cell (k := 0) rfl)) rfl
      · intro a w hb hd
        have eg : a.eval (.tmp 82) = .bool true := hd 82 (by decide)
        have e85 : a.eval (.tmp 85) = .string nm := hd 85 (by decide)
        exact hop_callK (F := (StK.eq (.bool true)).F) (wanted_yes rfl rfl rfl eg) hb.size rfl #[a.eval (.tmp 85)] (by first | (simp only [List.map_toArray, List.map_cons, List.map_nil]; done) | (simp only [List.map_toArray, List.map_cons, List.map_nil]; rfl)) (enters_of Try.func34 (by kernel_rfl) rfl) (by rw [e85]; exact call_eq (HNM.out w))
      · intro a w hb hd
        have eg : a.eval (.tmp 82) = .bool true := hd 82 (by decide)
        have e86 : a.eval (.tmp 86) = .bool true := hd 86 (by decide)
        exact hop_runK (F := (StK.eq (.bool true)).F) (wanted_yes rfl rfl rfl eg) _ (run_mv _ (.inl rfl) e86) rfl
      · intro a w hb hd
        have eg : a.eval (.tmp 87) = .bool true := hd 87 (by decide)
        have e13 : a.eval (.tmp 13) = .pointer (some ⟨g, 0, none⟩) := hd 13 (by decide)
        exact hop_runK (F := (StK.eq (.pointer (some ⟨g, 1, none⟩))).F) (wanted_yes rfl rfl rfl eg) _ (by unfold execOp; simp only [e13]; kernel_rfl) rfl
      · intro a w hb hd
        have eg : a.eval (.tmp 87) = .bool true := hd 87 (by decide)
        have e88 : a.eval (.tmp 88) = .pointer (some ⟨g, 1, none⟩) := hd 88 (by decide)
        exact hop_runK (F := (StK.eq (.int .i64 a4)).F) (wanted_yes rfl rfl rfl eg) _ (run_ldCell _ _ rfl e88 Try.underlying3 rfl ((c6.step hb).cell (k := 1) rfl)) rfl
      · intro a w hb hd
        have eg : a.eval (.tmp 87) = .bool true := hd 87 (by decide)
        have e89 : a.eval (.tmp 89) = .int .i64 a4 := hd 89 (by decide)
        exact hop_runK (F := (StK.eq (.bool false)).F) (wanted_yes rfl rfl rfl eg) _ (run_geI _ _ rfl e89 rfl (decide_eq_false HV.out)) rfl
      · intro a w hb hd
        have eg : a.eval (.tmp 82) = .bool true := hd 82 (by decide)
        have e87 : a.eval (.tmp 87) = .bool true := hd 87 (by decide)
        have e90 : a.eval (.tmp 90) = .bool false := hd 90 (by decide)
        exact hop_runK (F := (StK.eq (.bool false)).F) (wanted_yes rfl rfl rfl eg) (.bool false) (run_pick_t rfl e87 e90) rfl
      · intro a w hb hd
        have eg : a.eval (.tmp 82) = .bool true := hd 82 (by decide)
        have e91 : a.eval (.tmp 91) = .bool false := hd 91 (by decide)
        exact hop_runK (F := (StK.eq (.bool false)).F) (wanted_yes rfl rfl rfl eg) _ (run_mv _ (.inl rfl) e91) rfl
      · intro a w hb hd
        have eg : a.eval (.tmp 92) = .bool false := hd 92 (by decide)
        exact hop_skipK (F := StK.any.F) rfl rfl rfl eg trivial
      · intro a w hb hd
        have eg : a.eval (.tmp 92) = .bool false := hd 92 (by decide)
        exact hop_skipK (F := StK.any.F) rfl rfl rfl eg trivial
      · intro a w hb hd
        have eg : a.eval (.tmp 92) = .bool false := hd 92 (by decide)
        exact hop_skipK (F := StK.any.F) rfl rfl rfl eg trivial
      · intro a w hb hd
        have eg : a.eval (.tmp 82) = .bool true := hd 82 (by decide)
        have e92 : a.eval (.tmp 92) = .bool false := hd 92 (by decide)
        exact hop_runK (F := (StK.eq (.bool false)).F) (wanted_yes rfl rfl rfl eg) (.bool false) (run_pick_f rfl e92 rfl) rfl
      · intro a w hb hd
        have eg : a.eval (.tmp 82) = .bool true := hd 82 (by decide)
        have e96 : a.eval (.tmp 96) = .bool false := hd 96 (by decide)
        exact hop_runK (F := (StK.eq (.bool false)).F) (wanted_yes rfl rfl rfl eg) _ (run_mv _ (.inl rfl) e96) rfl
      · intro a w hb hd
        have eg : a.eval (.tmp 97) = .bool false := hd 97 (by decide)
        exact hop_skipK (F := StK.any.F) rfl rfl rfl eg trivial
      · intro a w hb hd
        have eg : a.eval (.tmp 97) = .bool false := hd 97 (by decide)
        exact hop_skipK (F := StK.any.F) rfl rfl rfl eg trivial
      · intro a w hb hd
        have eg : a.eval (.tmp 97) = .bool false := hd 97 (by decide)
        exact hop_skipK (F := StK.any.F) rfl rfl rfl eg trivial
      · intro a w hb hd
        have eg : a.eval (.tmp 82) = .bool true := hd 82 (by decide)
        have e97 : a.eval (.tmp 97) = .bool false := hd 97 (by decide)
        exact hop_runK (F := (StK.eq (.bool false)).F) (wanted_yes rfl rfl rfl eg) (.bool false) (run_pick_f rfl e97 rfl) rfl
      · intro a w hb hd
        have eg : a.eval (.tmp 82) = .bool true := hd 82 (by decide)
        have e101 : a.eval (.tmp 101) = .bool false := hd 101 (by decide)
        exact hop_runK (F := (StK.eq (.bool false)).F) (wanted_yes rfl rfl rfl eg) _ (run_mv _ (.inl rfl) e101) rfl
      · intro a w hb hd
        have eg : a.eval (.tmp 102) = .bool false := hd 102 (by decide)
        exact hop_skipK (F := StK.any.F) rfl rfl rfl eg trivial
      · intro a w hb hd
        have eg : a.eval (.tmp 102) = .bool false := hd 102 (by decide)
        exact hop_skipK (F := StK.any.F) rfl rfl rfl eg trivial
      · intro a w hb hd
        have eg : a.eval (.tmp 102) = .bool false := hd 102 (by decide)
        exact hop_skipK (F := StK.any.F) rfl rfl rfl eg trivial
      · intro a w hb hd
        have eg : a.eval (.tmp 82) = .bool true := hd 82 (by decide)
        have e102 : a.eval (.tmp 102) = .bool false := hd 102 (by decide)
        exact hop_runK (F := (StK.eq (.bool false)).F) (wanted_yes rfl rfl rfl eg) (.bool false) (run_pick_f rfl e102 rfl) rfl
      · intro a w hb hd
        have eg : a.eval (.tmp 82) = .bool true := hd 82 (by decide)
        have e83 : a.eval (.tmp 83) = .bool false := hd 83 (by decide)
        have e106 : a.eval (.tmp 106) = .bool false := hd 106 (by decide)
        exact hop_runK (F := (StK.eq (.bool true)).F) (wanted_yes rfl rfl rfl eg) _ (run_eqBool _ _ rfl e83 e106 (rfl)) rfl
      · intro a w hb hd
        have e82 : a.eval (.tmp 82) = .bool true := hd 82 (by decide)
        have e107 : a.eval (.tmp 107) = .bool true := hd 107 (by decide)
        exact hop_runK (F := (StK.eq (.bool true)).F) (wanted_none rfl) (.bool true) (run_pick_t rfl e82 e107) rfl
      · intro a w hb hd
        have e108 : a.eval (.tmp 108) = .bool true := hd 108 (by decide)
        exact hop_runK (F := (StK.eq (.bool true)).F) (wanted_none rfl) _ (run_mv _ (.inr rfl) e108) rfl
      intro pwz wz bwz hp
      obtain ⟨-, -, -, -, -, -, -, -, -, -, -, -, -, -, -, -, -, -, -, -, -, -, -, -, -, -, -, -, -, -, -, -, -, -, -, q35, -⟩ := hp
      have e35 : pwz 35 = .bool true := q35 (by decide)
      simp only [List.take_succ_cons, List.take_zero, List.drop_succ_cons, List.drop_zero, layAll, Act.put, List.setIfInBounds_toArray, List.set_cons_zero, List.set_cons_succ, Nat.zero_add, Nat.reduceAdd, e35]
      clear q35 e35
      go_wp2
      go_ret
      exact ⟨rfl, step_trans B6 bwz⟩
  · have kk := c4.cell (k := 2) (v := .int .i64 (N1 : Int)) rfl
    have ff := c4.frozen 2
    have c5 := c4.set 2 (.int .i64 a4) (c' := #[.string nm, .int .i64 (N0 : Int), .int .i64 a4, .int .i64 (N2 : Int), .int .i64 (N3 : Int)]) rfl
    have B5 := B4.setCell (p := ⟨g, 2, none⟩) hgw (.int .i64 a4)
    go_upto_region 17 with (fail)
    generalize World.setCell w4 _ _ = w5 at *
    clear kk ff c4 B4
    have i5 := (hr0.below B5 (Nat.le_refl _)).isB' hn0 hc0 hm0 C0.out
    obtain ⟨LL, hLL⟩ : ∃ L, Hid (issueZ l0 nm [(N0 : Int), a4, (N2 : Int), (N3 : Int)] = L) := ⟨_, hid rfl⟩
    obtain ⟨t, r1, r2, r3, r4, ok, hok, G1, G2⟩ := z_pack l0 (by omega) nm (by have := nmo.out.2.1; omega) (N0 : Int) a4 (N2 : Int) (N3 : Int) ⟨by omega, m0.out⟩ (A4.out) ⟨by omega, m2.out⟩ ⟨by omega, m3.out⟩ hLL.out
    have HOK := hid hok
    clear hok
    go_wp2_with (refine wpList_load_blk rfl _ (.tmp 13) rfl _ rfl _ _ _ c5 Try.underlying41 rfl size_tok ?_)
    refine (rissue_z _ l0 (by omega) nm (by have := ns.out; omega) (N0 : Int) a4 (N2 : Int) (N3 : Int) ⟨by omega, m0.out⟩ (A4.out) ⟨by omega, m2.out⟩ ⟨by omega, m3.out⟩ _ i5).mono ?_
    rintro e w6 ⟨vb, rfl, h6, b6⟩
    have j6 := h6.isB
    rw [hLL.out] at j6
    have i6 := i5.step b6
    have c6 := c5.step b6
    have B6 := step_trans B5 b6
    clear c5 i5 B5 b6 h6
    go_wp2_with fail
    refine (G1.out _ _ _ i6 j6).mono ?_
    rintro e w7 ⟨rfl, b7⟩
    replace i6 := i6.step b7
    replace j6 := j6.step b7
    replace c6 := c6.step b7
    replace B6 := step_trans B6 b7
    have z7 := Blk.new w7 41 (tokA4 ⟨#[]⟩ 0 0 0 0)
    clear b7
    go_wp2_with (refine wpList_store_blk rfl _ (.tmp 15) _ rfl _ rfl _ rfl (by simp [tokA4, Value.oneCell']) _ z7 rfl size_tok ?_; intro w8 g8 c15; replace i6 := i6.step (step_new g8); replace j6 := j6.step (step_new g8); replace c6 := c6.step (step_new g8); replace B6 := step_trans B6 (step_new g8); clear g8 z7)
    refine (G2.out _ _ _ i6 j6).mono ?_
    rintro e w9 ⟨rfl, b9⟩
    replace c15 := c15.step b9
    replace c6 := c6.step b9
    replace B6 := step_trans B6 b9
    have z9 := Blk.new w9 41 (tokA4 ⟨#[]⟩ 0 0 0 0)
    clear b9 i6 j6
    go_upto_region 20 with (refine wpList_store_blk rfl _ (.tmp 17) _ rfl _ rfl _ rfl (by simp [tokA4, Value.oneCell']) _ z9 rfl size_tok ?_; intro w10 g10 c17; replace c15 := c15.step (step_new g10); replace c6 := c6.step (step_new g10); replace B6 := step_trans B6 (step_new g10); clear g10 z9)
    obtain ⟨g15, hg15⟩ : ∃ g, g = w7.heap.size := ⟨_, rfl⟩
    rw [← hg15] at c15 ⊢
    obtain ⟨g17, hg17⟩ : ∃ g, g = w9.heap.size := ⟨_, rfl⟩
    rw [← hg17] at c17 ⊢
    clear hg15 hg17
    have HNM : Hid (∀ w, Calls Try.prog 34 #[.string nm] w fun e w' => e = .returned (.bool true) ∧ Below w.heap.size w w') := hid (fun w => rname_ok nm nmo.out w)
    by_cases hv : 0 ≤ a4
    · have HV := hid hv
      obtain rfl : ok = true := HOK.out.2 ⟨nmo.out, by omega, hv, by omega, by omega⟩
      clear hv HOK
      refine wp_region_stU ((StK.eq (.bool true)) :: (StK.eq (.bool true)) :: (StK.eq (.bool true)) :: (StK.eq (.bool true)) :: (StK.eq (.agg #[.string t, .int .i64 r1, .int .i64 r2, .int .i64 r3, .int .i64 r4])) :: (StK.eq (.agg #[.string t, .int .i64 r1, .int .i64 r2, .int .i64 r3, .int .i64 r4])) :: (StK.eq (.bool true)) :: (StK.eq (.bool true)) :: (StK.eq (.bool true)) :: (StK.eq (.bool true)) :: (StK.eq (.pointer (some ⟨g, 0, none⟩))) :: (StK.eq (.string nm)) :: (StK.eq (.bool true)) :: (StK.eq (.bool true)) :: (StK.eq (.pointer (some ⟨g, 1, none⟩))) :: (StK.eq (.int .i64 (N0 : Int))) :: (StK.eq (.bool true)) :: (StK.eq (.bool true)) :: (StK.eq (.bool true)) :: (StK.eq (.pointer (some ⟨g, 2, none⟩))) :: (StK.eq (.int .i64 a4)) :: (StK.eq (.bool true)) :: (StK.eq (.bool true)) :: (StK.eq (.bool true)) :: (StK.eq (.pointer (some ⟨g, 3, none⟩))) :: (StK.eq (.int .i64 (N2 : Int))) :: (StK.eq (.bool true)) :: (StK.eq (.bool true)) :: (StK.eq (.bool true)) :: (StK.eq (.pointer (some ⟨g, 4, none⟩))) :: (StK.eq (.int .i64 (N3 : Int))) :: (StK.eq (.bool true)) :: (StK.eq (.bool true)) :: (StK.eq (.bool true)) :: (StK.eq (.bool true)) :: (StK.eq (.bool true)) :: []) 36 109 rfl (by kernel_rfl) (by decide) ⟨?_, ?_, ?_, ?_, ?_, ?_, ?_, ?_, ?_, ?_, ?_, ?_, ?_, ?_, ?_, ?_, ?_, ?_, ?_, ?_, ?_, ?_, ?_, ?_, ?_, ?_, ?_, ?_, ?_, ?_, ?_, ?_, ?_, ?_, ?_, ?_, trivial⟩ ?_
      · intro a w hb hd
        have e16 : a.eval (.tmp 16) = .bool true := hd 16 (by decide)
        exact hop_runK (F := (StK.eq (.bool true)).F) (wanted_none rfl) _ (run_mv _ (.inl rfl) e16) rfl
      · intro a w hb hd
        have e18 : a.eval (.tmp 18) = .bool true := hd 18 (by decide)
        exact hop_runK (F := (StK.eq (.bool true)).F) (wanted_none rfl) _ (run_mv _ (.inl rfl) e18) rfl
      · intro a w hb hd
        have e74 : a.eval (.tmp 74) = .bool true := hd 74 (by decide)
        have e75 : a.eval (.tmp 75) = .bool true := hd 75 (by decide)
        exact hop_runK (F := (StK.eq (.bool true)).F) (wanted_none rfl) _ (run_eqBool _ _ rfl e74 e75 (rfl)) rfl
      · intro a w hb hd
        have e76 : a.eval (.tmp 76) = .bool true := hd 76 (by decide)
        exact hop_runK (F := (StK.eq (.bool true)).F) (wanted_none rfl) _ (run_mv _ (.inl rfl) e76) rfl
      · intro a w hb hd
        have eg : a.eval (.tmp 77) = .bool true := hd 77 (by decide)
        have e15 : a.eval (.tmp 15) = .pointer (some ⟨g15, 0, none⟩) := hd 15 (by decide)
        exact hop_runK (F := (StK.eq (.agg #[.string t, .int .i64 r1, .int .i64 r2, .int .i64 r3, .int .i64 r4])).F) (wanted_yes rfl rfl rfl eg) _ (run_ldAll _ _ rfl e15 (c15.step hb) Try.underlying41 rfl (by kernel_rfl)) rfl
      · intro a w hb hd
        have eg : a.eval (.tmp 77) = .bool true := hd 77 (by decide)
        have e17 : a.eval (.tmp 17) = .pointer (some ⟨g17, 0, none⟩) := hd 17 (by decide)
        exact hop_runK (F := (StK.eq (.agg #[.string t, .int .i64 r1, .int .i64 r2, .int .i64 r3, .int .i64 r4])).F) (wanted_yes rfl rfl rfl eg) _ (run_ldAll _ _ rfl e17 (c17.step hb) Try.underlying41 rfl (by kernel_rfl)) rfl
      · intro a w hb hd
        have eg : a.eval (.tmp 77) = .bool true := hd 77 (by decide)
        have e78 : a.eval (.tmp 78) = .agg #[.string t, .int .i64 r1, .int .i64 r2, .int .i64 r3, .int .i64 r4] := hd 78 (by decide)
        have e79 : a.eval (.tmp 79) = .agg #[.string t, .int .i64 r1, .int .i64 r2, .int .i64 r3, .int .i64 r4] := hd 79 (by decide)
        exact hop_runK (F := (StK.eq (.bool true)).F) (wanted_yes rfl rfl rfl eg) _ (run_eqTok _ _ rfl e78 e79 (by simp [tokEq])) rfl
      · intro a w hb hd
        have e77 : a.eval (.tmp 77) = .bool true := hd 77 (by decide)
        have e80 : a.eval (.tmp 80) = .bool true := hd 80 (by decide)
        exact hop_runK (F := (StK.eq (.bool true)).F) (wanted_none rfl) (.bool true) (run_pick_t rfl e77 e80) rfl
      · intro a w hb hd
        have e81 : a.eval (.tmp 81) = .bool true := hd 81 (by decide)
        exact hop_runK (F := (StK.eq (.bool true)).F) (wanted_none rfl) _ (run_mv _ (.inl rfl) e81) rfl
      · intro a w hb hd
        have eg : a.eval (.tmp 82) = .bool true := hd 82 (by decide)
        have e16 : a.eval (.tmp 16) = .bool true := hd 16 (by decide)
        exact hop_runK (F := (StK.eq (.bool true)).F) (wanted_yes rfl rfl rfl eg) _ (run_mv _ (.inl rfl) e16) rfl
      · intro a w hb hd
        have eg : a.eval (.tmp 82) = .bool true := hd 82 (by decide)
        have e13 : a.eval (.tmp 13) = .pointer (some ⟨g, 0, none⟩) := hd 13 (by decide)
        exact hop_runK (F := (StK.eq (.pointer (some ⟨g, 0, none⟩))).F) (wanted_yes rfl rfl rfl eg) _ (by unfold execOp; simp only [e13]; kernel_rfl) rfl
      · intro a w hb hd
        have eg : a.eval (.tmp 82) = .bool true := hd 82 (by decide)
        have e84 : a.eval (.tmp 84) = .pointer (some ⟨g, 0, none⟩) := hd 84 (by decide)
        exact hop_runK (F := (StK.eq (.string nm)).F) (wanted_yes rfl rfl rfl eg) _ (run_ldCell _ _ rfl e84 Try.underlying9 rfl ((c6.step hb).cell (k := 0) rfl)) rfl
      · intro a w hb hd
        have eg : a.eval (.tmp 82) = .bool true := hd 82 (by decide)
        have e85 : a.eval (.tmp 85) = .string nm := hd 85 (by decide)
        exact hop_callK (F := (StK.eq (.bool true)).F) (wanted_yes rfl rfl rfl eg) hb.size rfl #[a.eval (.tmp 85)] (by first | (simp only [List.map_toArray, List.map_cons, List.map_nil]; done) | (simp only [List.map_toArray, List.map_cons, List.map_nil]; rfl)) (enters_of Try.func34 (by kernel_rfl) rfl) (by rw [e85]; exact call_eq (HNM.out w))
      · intro a w hb hd
        have eg : a.eval (.tmp 82) = .bool true := hd 82 (by decide)
        have e86 : a.eval (.tmp 86) = .bool true := hd 86 (by decide)
        exact hop_runK (F := (StK.eq (.bool true)).F) (wanted_yes rfl rfl rfl eg) _ (run_mv _ (.inl rfl) e86) rfl
      · intro a w hb hd
        have eg : a.eval (.tmp 87) = .bool true := hd 87 (by decide)
        have e13 : a.eval (.tmp 13) = .pointer (some ⟨g, 0, none⟩) := hd 13 (by decide)
        exact hop_runK (F := (StK.eq (.pointer (some ⟨g, 1, none⟩))).F) (wanted_yes rfl rfl rfl eg) _ (by unfold execOp; simp only [e13]; kernel_rfl) rfl
      · intro a w hb hd
        have eg : a.eval (.tmp 87) = .bool true := hd 87 (by decide)
        have e88 : a.eval (.tmp 88) = .pointer (some ⟨g, 1, none⟩) := hd 88 (by decide)
        exact hop_runK (F := (StK.eq (.int .i64 (N0 : Int))).F) (wanted_yes rfl rfl rfl eg) _ (run_ldCell _ _ rfl e88 Try.underlying3 rfl ((c6.step hb).cell (k := 1) rfl)) rfl
      · intro a w hb hd
        have eg : a.eval (.tmp 87) = .bool true := hd 87 (by decide)
        have e89 : a.eval (.tmp 89) = .int .i64 (N0 : Int) := hd 89 (by decide)
        exact hop_runK (F := (StK.eq (.bool true)).F) (wanted_yes rfl rfl rfl eg) _ (run_geI _ _ rfl e89 rfl (decide_eq_true (by omega))) rfl
      · intro a w hb hd
        have eg : a.eval (.tmp 82) = .bool true := hd 82 (by decide)
        have e87 : a.eval (.tmp 87) = .bool true := hd 87 (by decide)
        have e90 : a.eval (.tmp 90) = .bool true := hd 90 (by decide)
        exact hop_runK (F := (StK.eq (.bool true)).F) (wanted_yes rfl rfl rfl eg) (.bool true) (run_pick_t rfl e87 e90) rfl
      · intro a w hb hd
        have eg : a.eval (.tmp 82) = .bool true := hd 82 (by decide)
        have e91 : a.eval (.tmp 91) = .bool true := hd 91 (by decide)
        exact hop_runK (F := (StK.eq (.bool true)).F) (wanted_yes rfl rfl rfl eg) _ (run_mv _ (.inl rfl) e91) rfl
      · intro a w hb hd
        have eg : a.eval (.tmp 92) = .bool true := hd 92 (by decide)
        have e13 : a.eval (.tmp 13) = .pointer (some ⟨g, 0, none⟩) := hd 13 (by decide)
        exact hop_runK (F := (StK.eq (.pointer (some ⟨g, 2, none⟩))).F) (wanted_yes rfl rfl rfl eg) _ (by unfold execOp; simp only [e13]; kernel_rfl) rfl
      · intro a w hb hd
        have eg : a.eval (.tmp 92) = .bool true := hd 92 (by decide)
        have e93 : a.eval (.tmp 93) = .pointer (some ⟨g, 2, none⟩) := hd 93 (by decide)
        exact hop_runK (F := (StK.eq (.int .i64 a4)).F) (wanted_yes rfl rfl rfl eg) _ (run_ldCell _ _ rfl e93 Try.underlying3 rfl ((c6.step hb).cell (k := 2) rfl)) rfl
      · intro a w hb hd
        have eg : a.eval (.tmp 92) = .bool true := hd 92 (by decide)
        have e94 : a.eval (.tmp 94) = .int .i64 a4 := hd 94 (by decide)
        exact hop_runK (F := (StK.eq (.bool true)).F) (wanted_yes rfl rfl rfl eg) _ (run_geI _ _ rfl e94 rfl (decide_eq_true HV.out)) rfl
      · intro a w hb hd
        have eg : a.eval (.tmp 82) = .bool true := hd 82 (by decide)
        have e92 : a.eval (.tmp 92) = .bool true := hd 92 (by decide)
        have e95 : a.eval (.tmp 95) = .bool true := hd 95 (by decide)
        exact hop_runK (F := (StK.eq (.bool true)).F) (wanted_yes rfl rfl rfl eg) (.bool true) (run_pick_t rfl e92 e95) rfl
      · intro a w hb hd
        have eg : a.eval (.tmp 82) = .bool true := hd 82 (by decide)
        have e96 : a.eval (.tmp 96) = .bool true := hd 96 (by decide)
        exact hop_runK (F := (StK.eq (.bool true)).F) (wanted_yes rfl rfl rfl eg) _ (run_mv _ (.inl rfl) e96) rfl
      · intro a w hb hd
        have eg : a.eval (.tmp 97) = .bool true := hd 97 (by decide)
        have e13 : a.eval (.tmp 13) = .pointer (some ⟨g, 0, none⟩) := hd 13 (by decide)
        exact hop_runK (F := (StK.eq (.pointer (some ⟨g, 3, none⟩))).F) (wanted_yes rfl rfl rfl eg) _ (by unfold execOp; simp only [e13]; kernel_rfl) rfl
      · intro a w hb hd
        have eg : a.eval (.tmp 97) = .bool true := hd 97 (by decide)
        have e98 : a.eval (.tmp 98) = .pointer (some ⟨g, 3, none⟩) := hd 98 (by decide)
        exact hop_runK (F := (StK.eq (.int .i64 (N2 : Int))).F) (wanted_yes rfl rfl rfl eg) _ (run_ldCell _ _ rfl e98 Try.underlying3 rfl ((c6.step hb).cell (k := 3) rfl)) rfl
      · intro a w hb hd
        have eg : a.eval (.tmp 97) = .bool true := hd 97 (by decide)
        have e99 : a.eval (.tmp 99) = .int .i64 (N2 : Int) := hd 99 (by decide)
        exact hop_runK (F := (StK.eq (.bool true)).F) (wanted_yes rfl rfl rfl eg) _ (run_geI _ _ rfl e99 rfl (decide_eq_true (by omega))) rfl
      · intro a w hb hd
        have eg : a.eval (.tmp 82) = .bool true := hd 82 (by decide)
        have e97 : a.eval (.tmp 97) = .bool true := hd 97 (by decide)
        have e100 : a.eval (.tmp 100) = .bool true := hd 100 (by decide)
        exact hop_runK (F := (StK.eq (.bool true)).F) (wanted_yes rfl rfl rfl eg) (.bool true) (run_pick_t rfl e97 e100) rfl
      · intro a w hb hd
        have eg : a.eval (.tmp 82) = .bool true := hd 82 (by decide)
        have e101 : a.eval (.tmp 101) = .bool true := hd 101 (by decide)
        exact hop_runK (F := (StK.eq (.bool true)).F) (wanted_yes rfl rfl rfl eg) _ (run_mv _ (.inl rfl) e101) rfl
      · intro a w hb hd
        have eg : a.eval (.tmp 102) = .bool true := hd 102 (by decide)
        have e13 : a.eval (.tmp 13) = .pointer (some ⟨g, 0, none⟩) := hd 13 (by decide)
        exact hop_runK (F := (StK.eq (.pointer (some ⟨g, 4, none⟩))).F) (wanted_yes rfl rfl rfl eg) _ (by unfold execOp; simp only [e13]; kernel_rfl) rfl
      · intro a w hb hd
        have eg : a.eval (.tmp 102) = .bool true := hd 102 (by decide)
        have e103 : a.eval (.tmp 103) = .pointer (some ⟨g, 4, none⟩) := hd 103 (by decide)
        exact hop_runK (F := (StK.eq (.int .i64 (N3 : Int))).F) (wanted_yes rfl rfl rfl eg) _ (run_ldCell _ _ rfl e103 Try.underlying3 rfl ((c6.step hb).cell (k := 4) rfl)) rfl
      · intro a w hb hd
        have eg : a.eval (.tmp 102) = .bool true := hd 102 (by decide)
        have e104 : a.eval (.tmp 104) = .int .i64 (N3 : Int) := hd 104 (by decide)
        exact hop_runK (F := (StK.eq (.bool true)).F) (wanted_yes rfl rfl rfl eg) _ (run_geI _ _ rfl e104 rfl (decide_eq_true (by omega))) rfl
      · intro a w hb hd
        have eg : a.eval (.tmp 82) = .bool true := hd 82 (by decide)
        have e102 : a.eval (.tmp 102) = .bool true := hd 102 (by decide)
        have e105 : a.eval (.tmp 105) = .bool true := hd 105 (by decide)
        exact hop_runK (F := (StK.eq (.bool true)).F) (wanted_yes rfl rfl rfl eg) (.bool true) (run_pick_t rfl e102 e105) rfl
      · intro a w hb hd
        have eg : a.eval (.tmp 82) = .bool true := hd 82 (by decide)
        have e83 : a.eval (.tmp 83) = .bool true := hd 83 (by decide)
        have e106 : a.eval (.tmp 106) = .bool true := hd 106 (by decide)
        exact hop_runK (F := (StK.eq (.bool true)).F) (wanted_yes rfl rfl rfl eg) _ (run_eqBool _ _ rfl e83 e106 (rfl)) rfl
      · intro a w hb hd
        have e82 : a.eval (.tmp 82) = .bool true := hd 82 (by decide)
        have e107 : a.eval (.tmp 107) = .bool true := hd 107 (by decide)
        exact hop_runK (F := (StK.eq (.bool true)).F) (wanted_none rfl) (.bool true) (run_pick_t rfl e82 e107) rfl
      · intro a w hb hd
        have e108 : a.eval (.tmp 108) = .bool true := hd 108 (by decide)
        exact hop_runK (F := (StK.eq (.bool true)).F) (wanted_none rfl) _ (run_mv _ (.inr rfl) e108) rfl
      intro pwz wz bwz hp
      obtain ⟨-, -, -, -, -, -, -, -, -, -, -, -, -, -, -, -, -, -, -, -, -, -, -, -, -, -, -, -, -, -, -, -, -, -, -, q35, -⟩ := hp
      have e35 : pwz 35 = .bool true := q35 (by decide)
      simp only [List.take_succ_cons, List.take_zero, List.drop_succ_cons, List.drop_zero, layAll, Act.put, List.setIfInBounds_toArray, List.set_cons_zero, List.set_cons_succ, Nat.zero_add, Nat.reduceAdd, e35]
      clear q35 e35
      go_wp2
      go_ret
      exact ⟨rfl, step_trans B6 bwz⟩
    · have HV := hid hv
      obtain rfl : ok = false := by
        cases ok with
        | false => rfl
        | true => exact absurd (HOK.out.1 rfl).2.2.1 hv
      clear hv HOK
      refine wp_region_stU ((StK.eq (.bool false)) :: (StK.eq (.bool false)) :: (StK.eq (.bool true)) :: (StK.eq (.bool true)) :: (StK.eq (.agg #[.string t, .int .i64 r1, .int .i64 r2, .int .i64 r3, .int .i64 r4])) :: (StK.eq (.agg #[.string t, .int .i64 r1, .int .i64 r2, .int .i64 r3, .int .i64 r4])) :: (StK.eq (.bool true)) :: (StK.eq (.bool true)) :: (StK.eq (.bool true)) :: (StK.eq (.bool false)) :: (StK.eq (.pointer (some ⟨g, 0, none⟩))) :: (StK.eq (.string nm)) :: (StK.eq (.bool true)) :: (StK.eq (.bool true)) :: (StK.eq (.pointer (some ⟨g, 1, none⟩))) :: (StK.eq (.int .i64 (N0 : Int))) :: (StK.eq (.bool true)) :: (StK.eq (.bool true)) :: (StK.eq (.bool true)) :: (StK.eq (.pointer (some ⟨g, 2, none⟩))) :: (StK.eq (.int .i64 a4)) :: (StK.eq (.bool false)) :: (StK.eq (.bool false)) :: (StK.eq (.bool false)) :: (StK.any) :: (StK.any) :: (StK.any) :: (StK.eq (.bool false)) :: (StK.eq (.bool false)) :: (StK.any) :: (StK.any) :: (StK.any) :: (StK.eq (.bool false)) :: (StK.eq (.bool true)) :: (StK.eq (.bool true)) :: (StK.eq (.bool true)) :: []) 36 109 rfl (by kernel_rfl) (by decide) ⟨?_, ?_, ?_, ?_, ?_, ?_, ?_, ?_, ?_, ?_, ?_, ?_, ?_, ?_, ?_, ?_, ?_, ?_, ?_, ?_, ?_, ?_, ?_, ?_, ?_, ?_, ?_, ?_, ?_, ?_, ?_, ?_, ?_, ?_, ?_, ?_, trivial⟩ ?_
      · intro a w hb hd
        have e16 : a.eval (.tmp 16) = .bool false := hd 16 (by decide)
        exact hop_runK (F := (StK.eq (.bool false)).F) (wanted_none rfl) _ (run_mv _ (.inl rfl) e16) rfl
      · intro a w hb hd
        have e18 : a.eval (.tmp 18) = .bool false := hd 18 (by decide)
        exact hop_runK (F := (StK.eq (.bool false)).F) (wanted_none rfl) _ (run_mv _ (.inl rfl) e18) rfl
      · intro a w hb hd
        have e74 : a.eval (.tmp 74) = .bool false := hd 74 (by decide)
        have e75 : a.eval (.tmp 75) = .bool false := hd 75 (by decide)
        exact hop_runK (F := (StK.eq (.bool true)).F) (wanted_none rfl) _ (run_eqBool _ _ rfl e74 e75 (rfl)) rfl
      · intro a w hb hd
        have e76 : a.eval (.tmp 76) = .bool true := hd 76 (by decide)
        exact hop_runK (F := (StK.eq (.bool true)).F) (wanted_none rfl) _ (run_mv _ (.inl rfl) e76) rfl
      · intro a w hb hd
        have eg : a.eval (.tmp 77) = .bool true := hd 77 (by decide)
        have e15 : a.eval (.tmp 15) = .pointer (some ⟨g15, 0, none⟩) := hd 15 (by decide)
        exact hop_runK (F := (StK.eq (.agg #[.string t, .int .i64 r1, .int .i64 r2, .int .i64 r3, .int .i64 r4])).F) (wanted_yes rfl rfl rfl eg) _ (run_ldAll _ _ rfl e15 (c15.step hb) Try.underlying41 rfl (by kernel_rfl)) rfl
      · intro a w hb hd
        have eg : a.eval (.tmp 77) = .bool true := hd 77 (by decide)
        have e17 : a.eval (.tmp 17) = .pointer (some ⟨g17, 0, none⟩) := hd 17 (by decide)
        exact hop_runK (F := (StK.eq (.agg #[.string t, .int .i64 r1, .int .i64 r2, .int .i64 r3, .int .i64 r4])).F) (wanted_yes rfl rfl rfl eg) _ (run_ldAll _ _ rfl e17 (c17.step hb) Try.underlying41 rfl (by kernel_rfl)) rfl
      · intro a w hb hd
        have eg : a.eval (.tmp 77) = .bool true := hd 77 (by decide)
        have e78 : a.eval (.tmp 78) = .agg #[.string t, .int .i64 r1, .int .i64 r2, .int .i64 r3, .int .i64 r4] := hd 78 (by decide)
        have e79 : a.eval (.tmp 79) = .agg #[.string t, .int .i64 r1, .int .i64 r2, .int .i64 r3, .int .i64 r4] := hd 79 (by decide)
        exact hop_runK (F := (StK.eq (.bool true)).F) (wanted_yes rfl rfl rfl eg) _ (run_eqTok _ _ rfl e78 e79 (by simp [tokEq])) rfl
      · intro a w hb hd
        have e77 : a.eval (.tmp 77) = .bool true := hd 77 (by decide)
        have e80 : a.eval (.tmp 80) = .bool true := hd 80 (by decide)
        exact hop_runK (F := (StK.eq (.bool true)).F) (wanted_none rfl) (.bool true) (run_pick_t rfl e77 e80) rfl
      · intro a w hb hd
        have e81 : a.eval (.tmp 81) = .bool true := hd 81 (by decide)
        exact hop_runK (F := (StK.eq (.bool true)).F) (wanted_none rfl) _ (run_mv _ (.inl rfl) e81) rfl
      · intro a w hb hd
        have eg : a.eval (.tmp 82) = .bool true := hd 82 (by decide)
        have e16 : a.eval (.tmp 16) = .bool false := hd 16 (by decide)
        exact hop_runK (F := (StK.eq (.bool false)).F) (wanted_yes rfl rfl rfl eg) _ (run_mv _ (.inl rfl) e16) rfl
      · intro a w hb hd
        have eg : a.eval (.tmp 82) = .bool true := hd 82 (by decide)
        have e13 : a.eval (.tmp 13) = .pointer (some ⟨g, 0, none⟩) := hd 13 (by decide)
        exact hop_runK (F := (StK.eq (.pointer (some ⟨g, 0, none⟩))).F) (wanted_yes rfl rfl rfl eg) _ (by unfold execOp; simp only [e13]; kernel_rfl) rfl
      · intro a w hb hd
        have eg : a.eval (.tmp 82) = .bool true := hd 82 (by decide)
        have e84 : a.eval (.tmp 84) = .pointer (some ⟨g, 0, none⟩) := hd 84 (by decide)
        exact hop_runK (F := (StK.eq (.string nm)).F) (wanted_yes rfl rfl rfl eg) _ (run_ldCell _ _ rfl e84 Try.underlying9 rfl ((c6.step hb).cell (k := 0) rfl)) rfl
      · intro a w hb hd
        have eg : a.eval (.tmp 82) = .bool true := hd 82 (by decide)
        have e85 : a.eval (.tmp 85) = .string nm := hd 85 (by decide)
        exact hop_callK (F := (StK.eq (.bool true)).F) (wanted_yes rfl rfl rfl eg) hb.size rfl #[a.eval (.tmp 85)] (by first | (simp only [List.map_toArray, List.map_cons, List.map_nil]; done) | (simp only [List.map_toArray, List.map_cons, List.map_nil]; rfl)) (enters_of Try.func34 (by kernel_rfl) rfl) (by rw [e85]; exact call_eq (HNM.out w))
      · intro a w hb hd
        have eg : a.eval (.tmp 82) = .bool true := hd 82 (by decide)
        have e86 : a.eval (.tmp 86) = .bool true := hd 86 (by decide)
        exact hop_runK (F := (StK.eq (.bool true)).F) (wanted_yes rfl rfl rfl eg) _ (run_mv _ (.inl rfl) e86) rfl
      · intro a w hb hd
        have eg : a.eval (.tmp 87) = .bool true := hd 87 (by decide)
        have e13 : a.eval (.tmp 13) = .pointer (some ⟨g, 0, none⟩) := hd 13 (by decide)
        exact hop_runK (F := (StK.eq (.pointer (some ⟨g, 1, none⟩))).F) (wanted_yes rfl rfl rfl eg) _ (by unfold execOp; simp only [e13]; kernel_rfl) rfl
      · intro a w hb hd
        have eg : a.eval (.tmp 87) = .bool true := hd 87 (by decide)
        have e88 : a.eval (.tmp 88) = .pointer (some ⟨g, 1, none⟩) := hd 88 (by decide)
        exact hop_runK (F := (StK.eq (.int .i64 (N0 : Int))).F) (wanted_yes rfl rfl rfl eg) _ (run_ldCell _ _ rfl e88 Try.underlying3 rfl ((c6.step hb).cell (k := 1) rfl)) rfl
      · intro a w hb hd
        have eg : a.eval (.tmp 87) = .bool true := hd 87 (by decide)
        have e89 : a.eval (.tmp 89) = .int .i64 (N0 : Int) := hd 89 (by decide)
        exact hop_runK (F := (StK.eq (.bool true)).F) (wanted_yes rfl rfl rfl eg) _ (run_geI _ _ rfl e89 rfl (decide_eq_true (by omega))) rfl
      · intro a w hb hd
        have eg : a.eval (.tmp 82) = .bool true := hd 82 (by decide)
        have e87 : a.eval (.tmp 87) = .bool true := hd 87 (by decide)
        have e90 : a.eval (.tmp 90) = .bool true := hd 90 (by decide)
        exact hop_runK (F := (StK.eq (.bool true)).F) (wanted_yes rfl rfl rfl eg) (.bool true) (run_pick_t rfl e87 e90) rfl
      · intro a w hb hd
        have eg : a.eval (.tmp 82) = .bool true := hd 82 (by decide)
        have e91 : a.eval (.tmp 91) = .bool true := hd 91 (by decide)
        exact hop_runK (F := (StK.eq (.bool true)).F) (wanted_yes rfl rfl rfl eg) _ (run_mv _ (.inl rfl) e91) rfl
      · intro a w hb hd
        have eg : a.eval (.tmp 92) = .bool true := hd 92 (by decide)
        have e13 : a.eval (.tmp 13) = .pointer (some ⟨g, 0, none⟩) := hd 13 (by decide)
        exact hop_runK (F := (StK.eq (.pointer (some ⟨g, 2, none⟩))).F) (wanted_yes rfl rfl rfl eg) _ (by unfold execOp; simp only [e13]; kernel_rfl) rfl
      · intro a w hb hd
        have eg : a.eval (.tmp 92) = .bool true := hd 92 (by decide)
        have e93 : a.eval (.tmp 93) = .pointer (some ⟨g, 2, none⟩) := hd 93 (by decide)
        exact hop_runK (F := (StK.eq (.int .i64 a4)).F) (wanted_yes rfl rfl rfl eg) _ (run_ldCell _ _ rfl e93 Try.underlying3 rfl ((c6.step hb).cell (k := 2) rfl)) rfl
      · intro a w hb hd
        have eg : a.eval (.tmp 92) = .bool true := hd 92 (by decide)
        have e94 : a.eval (.tmp 94) = .int .i64 a4 := hd 94 (by decide)
        exact hop_runK (F := (StK.eq (.bool false)).F) (wanted_yes rfl rfl rfl eg) _ (run_geI _ _ rfl e94 rfl (decide_eq_false HV.out)) rfl
      · intro a w hb hd
        have eg : a.eval (.tmp 82) = .bool true := hd 82 (by decide)
        have e92 : a.eval (.tmp 92) = .bool true := hd 92 (by decide)
        have e95 : a.eval (.tmp 95) = .bool false := hd 95 (by decide)
        exact hop_runK (F := (StK.eq (.bool false)).F) (wanted_yes rfl rfl rfl eg) (.bool false) (run_pick_t rfl e92 e95) rfl
      · intro a w hb hd
        have eg : a.eval (.tmp 82) = .bool true := hd 82 (by decide)
        have e96 : a.eval (.tmp 96) = .bool false := hd 96 (by decide)
        exact hop_runK (F := (StK.eq (.bool false)).F) (wanted_yes rfl rfl rfl eg) _ (run_mv _ (.inl rfl) e96) rfl
      · intro a w hb hd
        have eg : a.eval (.tmp 97) = .bool false := hd 97 (by decide)
        exact hop_skipK (F := StK.any.F) rfl rfl rfl eg trivial
      · intro a w hb hd
        have eg : a.eval (.tmp 97) = .bool false := hd 97 (by decide)
        exact hop_skipK (F := StK.any.F) rfl rfl rfl eg trivial
      · intro a w hb hd
        have eg : a.eval (.tmp 97) = .bool false := hd 97 (by decide)
        exact hop_skipK (F := StK.any.F) rfl rfl rfl eg trivial
      · intro a w hb hd
        have eg : a.eval (.tmp 82) = .bool true := hd 82 (by decide)
        have e97 : a.eval (.tmp 97) = .bool false := hd 97 (by decide)
        exact hop_runK (F := (StK.eq (.bool false)).F) (wanted_yes rfl rfl rfl eg) (.bool false) (run_pick_f rfl e97 rfl) rfl
      · intro a w hb hd
        have eg : a.eval (.tmp 82) = .bool true := hd 82 (by decide)
        have e101 : a.eval (.tmp 101) = .bool false := hd 101 (by decide)
        exact hop_runK (F := (StK.eq (.bool false)).F) (wanted_yes rfl rfl rfl eg) _ (run_mv _ (.inl rfl) e101) rfl
      · intro a w hb hd
        have eg : a.eval (.tmp 102) = .bool false := hd 102 (by decide)
        exact hop_skipK (F := StK.any.F) rfl rfl rfl eg trivial
      · intro a w hb hd
        have eg : a.eval (.tmp 102) = .bool false := hd 102 (by decide)
        exact hop_skipK (F := StK.any.F) rfl rfl rfl eg trivial
      · intro a w hb hd
        have eg : a.eval (.tmp 102) = .bool false := hd 102 (by decide)
        exact hop_skipK (F := StK.any.F) rfl rfl rfl eg trivial
      · intro a w hb hd
        have eg : a.eval (.tmp 82) = .bool true := hd 82 (by decide)
        have e102 : a.eval (.tmp 102) = .bool false := hd 102 (by decide)
        exact hop_runK (F := (StK.eq (.bool false)).F) (wanted_yes rfl rfl rfl eg) (.bool false) (run_pick_f rfl e102 rfl) rfl
      · intro a w hb hd
        have eg : a.eval (.tmp 82) = .bool true := hd 82 (by decide)
        have e83 : a.eval (.tmp 83) = .bool false := hd 83 (by decide)
        have e106 : a.eval (.tmp 106) = .bool false := hd 106 (by decide)
        exact hop_runK (F := (StK.eq (.bool true)).F) (wanted_yes rfl rfl rfl eg) _ (run_eqBool _ _ rfl e83 e106 (rfl)) rfl
      · intro a w hb hd
        have e82 : a.eval (.tmp 82) = .bool true := hd 82 (by decide)
        have e107 : a.eval (.tmp 107) = .bool true := hd 107 (by decide)
        exact hop_runK (F := (StK.eq (.bool true)).F) (wanted_none rfl) (.bool true) (run_pick_t rfl e82 e107) rfl
      · intro a w hb hd
        have e108 : a.eval (.tmp 108) = .bool true := hd 108 (by decide)
        exact hop_runK (F := (StK.eq (.bool true)).F) (wanted_none rfl) _ (run_mv _ (.inr rfl) e108) rfl
      intro pwz wz bwz hp
      obtain ⟨-, -, -, -, -, -, -, -, -, -, -, -, -, -, -, -, -, -, -, -, -, -, -, -, -, -, -, -, -, -, -, -, -, -, -, q35, -⟩ := hp
      have e35 : pwz 35 = .bool true := q35 (by decide)
      simp only [List.take_succ_cons, List.take_zero, List.drop_succ_cons, List.drop_zero, layAll, Act.put, List.setIfInBounds_toArray, List.set_cons_zero, List.set_cons_succ, Nat.zero_add, Nat.reduceAdd, e35]
      clear q35 e35
      go_wp2
      go_ret
      exact ⟨rfl, step_trans B6 bwz⟩
  · have kk := c4.cell (k := 3) (v := .int .i64 (N2 : Int)) rfl
    have ff := c4.frozen 3
    have c5 := c4.set 3 (.int .i64 a4) (c' := #[.string nm, .int .i64 (N0 : Int), .int .i64 (N1 : Int), .int .i64 a4, .int .i64 (N3 : Int)]) rfl
    have B5 := B4.setCell (p := ⟨g, 3, none⟩) hgw (.int .i64 a4)
    go_upto_region 17 with (fail)
    generalize World.setCell w4 _ _ = w5 at *
    clear kk ff c4 B4
    have i5 := (hr0.below B5 (Nat.le_refl _)).isB' hn0 hc0 hm0 C0.out
    obtain ⟨LL, hLL⟩ : ∃ L, Hid (issueZ l0 nm [(N0 : Int), (N1 : Int), a4, (N3 : Int)] = L) := ⟨_, hid rfl⟩
    obtain ⟨t, r1, r2, r3, r4, ok, hok, G1, G2⟩ := z_pack l0 (by omega) nm (by have := nmo.out.2.1; omega) (N0 : Int) (N1 : Int) a4 (N3 : Int) ⟨by omega, m0.out⟩ ⟨by omega, m1.out⟩ (A4.out) ⟨by omega, m3.out⟩ hLL.out
    have HOK := hid hok
    clear hok
    go_wp2_with (refine wpList_load_blk rfl _ (.tmp 13) rfl _ rfl _ _ _ c5 Try.underlying41 rfl size_tok ?_)
    refine (rissue_z _ l0 (by omega) nm (by have := ns.out; omega) (N0 : Int) (N1 : Int) a4 (N3 : Int) ⟨by omega, m0.out⟩ ⟨by omega, m1.out⟩ (A4.out) ⟨by omega, m3.out⟩ _ i5).mono ?_
    rintro e w6 ⟨vb, rfl, h6, b6⟩
    have j6 := h6.isB
    rw [hLL.out] at j6
    have i6 := i5.step b6
    have c6 := c5.step b6
    have B6 := step_trans B5 b6
    clear c5 i5 B5 b6 h6
    go_wp2_with fail
    refine (G1.out _ _ _ i6 j6).mono ?_
    rintro e w7 ⟨rfl, b7⟩
    replace i6 := i6.step b7
    replace j6 := j6.step b7
    replace c6 := c6.step b7
    replace B6 := step_trans B6 b7
    have z7 := Blk.new w7 41 (tokA4 ⟨#[]⟩ 0 0 0 0)
    clear b7
    go_wp2_with (refine wpList_store_blk rfl _ (.tmp 15) _ rfl _ rfl _ rfl (by simp [tokA4, Value.oneCell']) _ z7 rfl size_tok ?_; intro w8 g8 c15; replace i6 := i6.step (step_new g8); replace j6 := j6.step (step_new g8); replace c6 := c6.step (step_new g8); replace B6 := step_trans B6 (step_new g8); clear g8 z7)
    refine (G2.out _ _ _ i6 j6).mono ?_
    rintro e w9 ⟨rfl, b9⟩
    replace c15 := c15.step b9
    replace c6 := c6.step b9
    replace B6 := step_trans B6 b9
    have z9 := Blk.new w9 41 (tokA4 ⟨#[]⟩ 0 0 0 0)
    clear b9 i6 j6
    go_upto_region 20 with (refine wpList_store_blk rfl _ (.tmp 17) _ rfl _ rfl _ rfl (by simp [tokA4, Value.oneCell']) _ z9 rfl size_tok ?_; intro w10 g10 c17; replace c15 := c15.step (step_new g10); replace c6 := c6.step (step_new g10); replace B6 := step_trans B6 (step_new g10); clear g10 z9)
    obtain ⟨g15, hg15⟩ : ∃ g, g = w7.heap.size := ⟨_, rfl⟩
    rw [← hg15] at c15 ⊢
    obtain ⟨g17, hg17⟩ : ∃ g, g = w9.heap.size := ⟨_, rfl⟩
    rw [← hg17] at c17 ⊢
    clear hg15 hg17
    have HNM : Hid (∀ w, Calls Try.prog 34 #[.string nm] w fun e w' => e = .returned (.bool true) ∧ Below w.heap.size w w') := hid (fun w => rname_ok nm nmo.out w)
    by_cases hv : 0 ≤ a4
    · have HV := hid hv
      obtain rfl : ok = true := HOK.out.2 ⟨nmo.out, by omega, by omega, hv, by omega⟩
      clear hv HOK
      refine wp_region_stU ((StK.eq (.bool true)) :: (StK.eq (.bool true)) :: (StK.eq (.bool true)) :: (StK.eq (.bool true)) :: (StK.eq (.agg #[.string t, .int .i64 r1, .int .i64 r2, .int .i64 r3, .int .i64 r4])) :: (StK.eq (.agg #[.string t, .int .i64 r1, .int .i64 r2, .int .i64 r3, .int .i64 r4])) :: (StK.eq (.bool true)) :: (StK.eq (.bool true)) :: (StK.eq (.bool true)) :: (StK.eq (.bool true)) :: (StK.eq (.pointer (some ⟨g, 0, none⟩))) :: (StK.eq (.string nm)) :: (StK.eq (.bool true)) :: (StK.eq (.bool true)) :: (StK.eq (.pointer (some ⟨g, 1, none⟩))) :: (StK.eq (.int .i64 (N0 : Int))) :: (StK.eq (.bool true)) :: (StK.eq (.bool true)) :: (StK.eq (.bool true)) :: (StK.eq (.pointer (some ⟨g, 2, none⟩))) :: (StK.eq (.int .i64 (N1 : Int))) :: (StK.eq (.bool true)) :: (StK.eq (.bool true)) :: (StK.eq (.bool true)) :: (StK.eq (.pointer (some ⟨g, 3, none⟩))) :: (StK.eq (.int .i64 a4)) :: (StK.eq (.bool true)) :: (StK.eq (.bool true)) :: (StK.eq (.bool true)) :: (StK.eq (.pointer (some ⟨g, 4, none⟩))) :: (StK.eq (.int .i64 (N3 : Int))) :: (StK.eq (.bool true)) :: (StK.eq (.bool true)) :: (StK.eq (.bool true)) :: (StK.eq (.bool true)) :: (StK.eq (.bool true)) :: []) 36 109 rfl (by kernel_rfl) (by decide) ⟨?_, ?_, ?_, ?_, ?_, ?_, ?_, ?_, ?_, ?_, ?_, ?_, ?_, ?_, ?_, ?_, ?_, ?_, ?_, ?_, ?_, ?_, ?_, ?_, ?_, ?_, ?_, ?_, ?_, ?_, ?_, ?_, ?_, ?_, ?_, ?_, trivial⟩ ?_
      · intro a w hb hd
        have e16 : a.eval (.tmp 16) = .bool true := hd 16 (by decide)
        exact hop_runK (F := (StK.eq (.bool true)).F) (wanted_none rfl) _ (run_mv _ (.inl rfl) e16) rfl
      · intro a w hb hd
        have e18 : a.eval (.tmp 18) = .bool true := hd 18 (by decide)
        exact hop_runK (F := (StK.eq (.bool true)).F) (wanted_none rfl) _ (run_mv _ (.inl rfl) e18) rfl
      · intro a w hb hd
        have e74 : a.eval (.tmp 74) = .bool true := hd 74 (by decide)
        have e75 : a.eval (.tmp 75) = .bool true := hd 75 (by decide)
        exact hop_runK (F := (StK.eq (.bool true)).F) (wanted_none rfl) _ (run_eqBool _ _ rfl e74 e75 (rfl)) rfl
      · intro a w hb hd
        have e76 : a.eval (.tmp 76) = .bool true := hd 76 (by decide)
        exact hop_runK (F := (StK.eq (.bool true)).F) (wanted_none rfl) _ (run_mv _ (.inl rfl) e76) rfl
      · intro a w hb hd
        have eg : a.eval (.tmp 77) = .bool true := hd 77 (by decide)
        have e15 : a.eval (.tmp 15) = .pointer (some ⟨g15, 0, none⟩) := hd 15 (by decide)
        exact hop_runK (F := (StK.eq (.agg #[.string t, .int .i64 r1, .int .i64 r2, .int .i64 r3, .int .i64 r4])).F) (wanted_yes rfl rfl rfl eg) _ (run_ldAll _ _ rfl e15 (c15.step hb) Try.underlying41 rfl (by kernel_rfl)) rfl
      · intro a w hb hd
        have eg : a.eval (.tmp 77) = .bool true := hd 77 (by decide)
        have e17 : a.eval (.tmp 17) = .pointer (some ⟨g17, 0, none⟩) := hd 17 (by decide)
        exact hop_runK (F := (StK.eq (.agg #[.string t, .int .i64 r1, .int .i64 r2, .int .i64 r3, .int .i64 r4])).F) (wanted_yes rfl rfl rfl eg) _ (run_ldAll _ _ rfl e17 (c17.step hb) Try.underlying41 rfl (by kernel_rfl)) rfl
      · intro a w hb hd
        have eg : a.eval (.tmp 77) = .bool true := hd 77 (by decide)
        have e78 : a.eval (.tmp 78) = .agg #[.string t, .int .i64 r1, .int .i64 r2, .int .i64 r3, .int .i64 r4] := hd 78 (by decide)
        have e79 : a.eval (.tmp 79) = .agg #[.string t, .int .i64 r1, .int .i64 r2, .int .i64 r3, .int .i64 r4] := hd 79 (by decide)
        exact hop_runK (F := (StK.eq (.bool true)).F) (wanted_yes rfl rfl rfl eg) _ (run_eqTok _ _ rfl e78 e79 (by simp [tokEq])) rfl
      · intro a w hb hd
        have e77 : a.eval (.tmp 77) = .bool true := hd 77 (by decide)
        have e80 : a.eval (.tmp 80) = .bool true := hd 80 (by decide)
        exact hop_runK (F := (StK.eq (.bool true)).F) (wanted_none rfl) (.bool true) (run_pick_t rfl e77 e80) rfl
      · intro a w hb hd
        have e81 : a.eval (.tmp 81) = .bool true := hd 81 (by decide)
        exact hop_runK (F := (StK.eq (.bool true)).F) (wanted_none rfl) _ (run_mv _ (.inl rfl) e81) rfl
      · intro a w hb hd
        have eg : a.eval (.tmp 82) = .bool true := hd 82 (by decide)
        have e16 : a.eval (.tmp 16) = .bool true := hd 16 (by decide)
        exact hop_runK (F := (StK.eq (.bool true)).F) (wanted_yes rfl rfl rfl eg) _ (run_mv _ (.inl rfl) e16) rfl
      · intro a w hb hd
        have eg : a.eval (.tmp 82) = .bool true := hd 82 (by decide)
        have e13 : a.eval (.tmp 13) = .pointer (some ⟨g, 0, none⟩) := hd 13 (by decide)
        exact hop_runK (F := (StK.eq (.pointer (some ⟨g, 0, none⟩))).F) (wanted_yes rfl rfl rfl eg) _ (by unfold execOp; simp only [e13]; kernel_rfl) rfl
      · intro a w hb hd
        have eg : a.eval (.tmp 82) = .bool true := hd 82 (by decide)
        have e84 : a.eval (.tmp 84) = .pointer (some ⟨g, 0, none⟩) := hd 84 (by decide)
        exact hop_runK (F := (StK.eq (.string nm)).F) (wanted_yes rfl rfl rfl eg) _ (run_ldCell _ _ rfl e84 Try.underlying9 rfl ((c6.step hb).cell (k := 0) rfl)) rfl
      · intro a w hb hd
        have eg : a.eval (.tmp 82) = .bool true := hd 82 (by decide)
        have e85 : a.eval (.tmp 85) = .string nm := hd 85 (by decide)
        exact hop_callK (F := (StK.eq (.bool true)).F) (wanted_yes rfl rfl rfl eg) hb.size rfl #[a.eval (.tmp 85)] (by first | (simp only [List.map_toArray, List.map_cons, List.map_nil]; done) | (simp only [List.map_toArray, List.map_cons, List.map_nil]; rfl)) (enters_of Try.func34 (by kernel_rfl) rfl) (by rw [e85]; exact call_eq (HNM.out w))
      · intro a w hb hd
        have eg : a.eval (.tmp 82) = .bool true := hd 82 (by decide)
        have e86 : a.eval (.tmp 86) = .bool true := hd 86 (by decide)
        exact hop_runK (F := (StK.eq (.bool true)).F) (wanted_yes rfl rfl rfl eg) _ (run_mv _ (.inl rfl) e86) rfl
      · intro a w hb hd
        have eg : a.eval (.tmp 87) = .bool true := hd 87 (by decide)
        have e13 : a.eval (.tmp 13) = .pointer (some ⟨g, 0, none⟩) := hd 13 (by decide)
        exact hop_runK (F := (StK.eq (.pointer (some ⟨g, 1, none⟩))).F) (wanted_yes rfl rfl rfl eg) _ (by unfold execOp; simp only [e13]; kernel_rfl) rfl
      · intro a w hb hd
        have eg : a.eval (.tmp 87) = .bool true := hd 87 (by decide)
        have e88 : a.eval (.tmp 88) = .pointer (some ⟨g, 1, none⟩) := hd 88 (by decide)
        exact hop_runK (F := (StK.eq (.int .i64 (N0 : Int))).F) (wanted_yes rfl rfl rfl eg) _ (run_ldCell _ _ rfl e88 Try.underlying3 rfl ((c6.step hb).cell (k := 1) rfl)) rfl
      · intro a w hb hd
        have eg : a.eval (.tmp 87) = .bool true := hd 87 (by decide)
        have e89 : a.eval (.tmp 89) = .int .i64 (N0 : Int) := hd 89 (by decide)
        exact hop_runK (F := (StK.eq (.bool true)).F) (wanted_yes rfl rfl rfl eg) _ (run_geI _ _ rfl e89 rfl (decide_eq_true (by omega))) rfl
      · intro a w hb hd
        have eg : a.eval (.tmp 82) = .bool true := hd 82 (by decide)
        have e87 : a.eval (.tmp 87) = .bool true := hd 87 (by decide)
        have e90 : a.eval (.tmp 90) = .bool true := hd 90 (by decide)
        exact hop_runK (F := (StK.eq (.bool true)).F) (wanted_yes rfl rfl rfl eg) (.bool true) (run_pick_t rfl e87 e90) rfl
      · intro a w hb hd
        have eg : a.eval (.tmp 82) = .bool true := hd 82 (by decide)
        have e91 : a.eval (.tmp 91) = .bool true := hd 91 (by decide)
        exact hop_runK (F := (StK.eq (.bool true)).F) (wanted_yes rfl rfl rfl eg) _ (run_mv _ (.inl rfl) e91) rfl
      · intro a w hb hd
        have eg : a.eval (.tmp 92) = .bool true := hd 92 (by decide)
        have e13 : a.eval (.tmp 13) = .pointer (some ⟨g, 0, none⟩) := hd 13 (by decide)
        exact hop_runK (F := (StK.eq (.pointer (some ⟨g, 2, none⟩))).F) (wanted_yes rfl rfl rfl eg) _ (by unfold execOp; simp only [e13]; kernel_rfl) rfl
      · intro a w hb hd
        have eg : a.eval (.tmp 92) = .bool true := hd 92 (by decide)
        have e93 : a.eval (.tmp 93) = .pointer (some ⟨g, 2, none⟩) := hd 93 (by decide)
        exact hop_runK (F := (StK.eq (.int .i64 (N1 : Int))).F) (wanted_yes rfl rfl rfl eg) _ (run_ldCell _ _ rfl e93 Try.underlying3 rfl ((c6.step hb).cell (k := 2) rfl)) rfl
      · intro a w hb hd
        have eg : a.eval (.tmp 92) = .bool true := hd 92 (by decide)
        have e94 : a.eval (.tmp 94) = .int .i64 (N1 : Int) := hd 94 (by decide)
        exact hop_runK (F := (StK.eq (.bool true)).F) (wanted_yes rfl rfl rfl eg) _ (run_geI _ _ rfl e94 rfl (decide_eq_true (by omega))) rfl
      · intro a w hb hd
        have eg : a.eval (.tmp 82) = .bool true := hd 82 (by decide)
        have e92 : a.eval (.tmp 92) = .bool true := hd 92 (by decide)
        have e95 : a.eval (.tmp 95) = .bool true := hd 95 (by decide)
        exact hop_runK (F := (StK.eq (.bool true)).F) (wanted_yes rfl rfl rfl eg) (.bool true) (run_pick_t rfl e92 e95) rfl
      · intro a w hb hd
        have eg : a.eval (.tmp 82) = .bool true := hd 82 (by decide)
        have e96 : a.eval (.tmp 96) = .bool true := hd 96 (by decide)
        exact hop_runK (F := (StK.eq (.bool true)).F) (wanted_yes rfl rfl rfl eg) _ (run_mv _ (.inl rfl) e96) rfl
      · intro a w hb hd
        have eg : a.eval (.tmp 97) = .bool true := hd 97 (by decide)
        have e13 : a.eval (.tmp 13) = .pointer (some ⟨g, 0, none⟩) := hd 13 (by decide)
        exact hop_runK (F := (StK.eq (.pointer (some ⟨g, 3, none⟩))).F) (wanted_yes rfl rfl rfl eg) _ (by unfold execOp; simp only [e13]; kernel_rfl) rfl
      · intro a w hb hd
        have eg : a.eval (.tmp 97) = .bool true := hd 97 (by decide)
        have e98 : a.eval (.tmp 98) = .pointer (some ⟨g, 3, none⟩) := hd 98 (by decide)
        exact hop_runK (F := (StK.eq (.int .i64 a4)).F) (wanted_yes rfl rfl rfl eg) _ (run_ldCell _ _ rfl e98 Try.underlying3 rfl ((c6.step hb).cell (k := 3) rfl)) rfl
      · intro a w hb hd
        have eg : a.eval (.tmp 97) = .bool true := hd 97 (by decide)
        have e99 : a.eval (.tmp 99) = .int .i64 a4 := hd 99 (by decide)
        exact hop_runK (F := (StK.eq (.bool true)).F) (wanted_yes rfl rfl rfl eg) _ (run_geI _ _ rfl e99 rfl (decide_eq_true HV.out)) rfl
      · intro a w hb hd
        have eg : a.eval (.tmp 82) = .bool true := hd 82 (by decide)
        have e97 : a.eval (.tmp 97) = .bool true := hd 97 (by decide)
        have e100 : a.eval (.tmp 100) = .bool true := hd 100 (by decide)
        exact hop_runK (F := (StK.eq (.bool true)).F) (wanted_yes rfl rfl rfl eg) (.bool true) (run_pick_t rfl e97 e100) rfl
      · intro a w hb hd
        have eg : a.eval (.tmp 82) = .bool true := hd 82 (by decide)
        have e101 : a.eval (.tmp 101) = .bool true := hd 101 (by decide)
        exact hop_runK (F := (StK.eq (.bool true)).F) (wanted_yes rfl rfl rfl eg) _ (run_mv _ (.inl rfl) e101) rfl
      · intro a w hb hd
        have eg : a.eval (.tmp 102) = .bool true := hd 102 (by decide)
        have e13 : a.eval (.tmp 13) = .pointer (some ⟨g, 0, none⟩) := hd 13 (by decide)
        exact hop_runK (F := (StK.eq (.pointer (some ⟨g, 4, none⟩))).F) (wanted_yes rfl rfl rfl eg) _ (by unfold execOp; simp only [e13]; kernel_rfl) rfl
      · intro a w hb hd
        have eg : a.eval (.tmp 102) = .bool true := hd 102 (by decide)
        have e103 : a.eval (.tmp 103) = .pointer (some ⟨g, 4, none⟩) := hd 103 (by decide)
        exact hop_runK (F := (StK.eq (.int .i64 (N3 : Int))).F) (wanted_yes rfl rfl rfl eg) _ (run_ldCell _ _ rfl e103 Try.underlying3 rfl ((c6.step hb).cell (k := 4) rfl)) rfl
      · intro a w hb hd
        have eg : a.eval (.tmp 102) = .bool true := hd 102 (by decide)
        have e104 : a.eval (.tmp 104) = .int .i64 (N3 : Int) := hd 104 (by decide)
        exact hop_runK (F := (StK.eq (.bool true)).F) (wanted_yes rfl rfl rfl eg) _ (run_geI _ _ rfl e104 rfl (decide_eq_true (by omega))) rfl
      · intro a w hb hd
        have eg : a.eval (.tmp 82) = .bool true := hd 82 (by decide)
        have e102 : a.eval (.tmp 102) = .bool true := hd 102 (by decide)
        have e105 : a.eval (.tmp 105) = .bool true := hd 105 (by decide)
        exact hop_runK (F := (StK.eq (.bool true)).F) (wanted_yes rfl rfl rfl eg) (.bool true) (run_pick_t rfl e102 e105) rfl
      · intro a w hb hd
        have eg : a.eval (.tmp 82) = .bool true := hd 82 (by decide)
        have e83 : a.eval (.tmp 83) = .bool true := hd 83 (by decide)
        have e106 : a.eval (.tmp 106) = .bool true := hd 106 (by decide)
        exact hop_runK (F := (StK.eq (.bool true)).F) (wanted_yes rfl rfl rfl eg) _ (run_eqBool _ _ rfl e83 e106 (rfl)) rfl
      · intro a w hb hd
        have e82 : a.eval (.tmp 82) = .bool true := hd 82 (by decide)
        have e107 : a.eval (.tmp 107) = .bool true := hd 107 (by decide)
        exact hop_runK (F := (StK.eq (.bool true)).F) (wanted_none rfl) (.bool true) (run_pick_t rfl e82 e107) rfl
      · intro a w hb hd
        have e108 : a.eval (.tmp 108) = .bool true := hd 108 (by decide)
        exact hop_runK (F := (StK.eq (.bool true)).F) (wanted_none rfl) _ (run_mv _ (.inr rfl) e108) rfl
      intro pwz wz bwz hp
      obtain ⟨-, -, -, -, -, -, -, -, -, -, -, -, -, -, -, -, -, -, -, -, -, -, -, -, -, -, -, -, -, -, -, -, -, -, -, q35, -⟩ := hp
      have e35 : pwz 35 = .bool true := q35 (by decide)
      simp only [List.take_succ_cons, List.take_zero, List.drop_succ_cons, List.drop_zero, layAll, Act.put, List.setIfInBounds_toArray, List.set_cons_zero, List.set_cons_succ, Nat.zero_add, Nat.reduceAdd, e35]
      clear q35 e35
      go_wp2
      go_ret
      exact ⟨rfl, step_trans B6 bwz⟩
    · have HV := hid hv
      obtain rfl : ok = false := by
        cases ok with
        | false => rfl
        | true => exact absurd (HOK.out.1 rfl).2.2.2.1 hv
      clear hv HOK
      refine wp_region_stU ((StK.eq (.bool false)) :: (StK.eq (.bool false)) :: (StK.eq (.bool true)) :: (StK.eq (.bool true)) :: (StK.eq (.agg #[.string t, .int .i64 r1, .int .i64 r2, .int .i64 r3, .int .i64 r4])) :: (StK.eq (.agg #[.string t, .int .i64 r1, .int .i64 r2, .int .i64 r3, .int .i64 r4])) :: (StK.eq (.bool true)) :: (StK.eq (.bool true)) :: (StK.eq (.bool true)) :: (StK.eq (.bool false)) :: (StK.eq (.pointer (some ⟨g, 0, none⟩))) :: (StK.eq (.string nm)) :: (StK.eq (.bool true)) :: (StK.eq (.bool true)) :: (StK.eq (.pointer (some ⟨g, 1, none⟩))) :: (StK.eq (.int .i64 (N0 : Int))) :: (StK.eq (.bool true)) :: (StK.eq (.bool true)) :: (StK.eq (.bool true)) :: (StK.eq (.pointer (some ⟨g, 2, none⟩))) :: (StK.eq (.int .i64 (N1 : Int))) :: (StK.eq (.bool true)) :: (StK.eq (.bool true)) :: (StK.eq (.bool true)) :: (StK.eq (.pointer (some ⟨g, 3, none⟩))) :: (StK.eq (.int .i64 a4)) :: (StK.eq (.bool false)) :: (StK.eq (.bool false)) :: (StK.eq (.bool false)) :: (StK.any) :: (StK.any) :: (StK.any) :: (StK.eq (.bool false)) :: (StK.eq (.bool true)) :: (StK.eq (.bool true)) :: (StK.eq (.bool true)) :: []) 36 109 rfl (by kernel_rfl) (by decide) ⟨?_, ?_, ?_, ?_, ?_, ?_, ?_, ?_, ?_, ?_, ?_, ?_, ?_, ?_, ?_, ?_, ?_, ?_, ?_, ?_, ?_, ?_, ?_, ?_, ?_, ?_, ?_, ?_, ?_, ?_, ?_, ?_, ?_, ?_, ?_, ?_, trivial⟩ ?_
      · intro a w hb hd
        have e16 : a.eval (.tmp 16) = .bool false := hd 16 (by decide)
        exact hop_runK (F := (StK.eq (.bool false)).F) (wanted_none rfl) _ (run_mv _ (.inl rfl) e16) rfl
      · intro a w hb hd
        have e18 : a.eval (.tmp 18) = .bool false := hd 18 (by decide)
        exact hop_runK (F := (StK.eq (.bool false)).F) (wanted_none rfl) _ (run_mv _ (.inl rfl) e18) rfl
      · intro a w hb hd
        have e74 : a.eval (.tmp 74) = .bool false := hd 74 (by decide)
        have e75 : a.eval (.tmp 75) = .bool false := hd 75 (by decide)
        exact hop_runK (F := (StK.eq (.bool true)).F) (wanted_none rfl) _ (run_eqBool _ _ rfl e74 e75 (rfl)) rfl
      · intro a w hb hd
        have e76 : a.eval (.tmp 76) = .bool true := hd 76 (by decide)
        exact hop_runK (F := (StK.eq (.bool true)).F) (wanted_none rfl) _ (run_mv _ (.inl rfl) e76) rfl
      · intro a w hb hd
        have eg : a.eval (.tmp 77) = .bool true := hd 77 (by decide)
        have e15 : a.eval (.tmp 15) = .pointer (some ⟨g15, 0, none⟩) := hd 15 (by decide)
        exact hop_runK (F := (StK.eq (.agg #[.string t, .int .i64 r1, .int .i64 r2, .int .i64 r3, .int .i64 r4])).F) (wanted_yes rfl rfl rfl eg) _ (run_ldAll _ _ rfl e15 (c15.step hb) Try.underlying41 rfl (by kernel_rfl)) rfl
      · intro a w hb hd
        have eg : a.eval (.tmp 77) = .bool true := hd 77 (by decide)
        have e17 : a.eval (.tmp 17) = .pointer (some ⟨g17, 0, none⟩) := hd 17 (by decide)
        exact hop_runK (F := (StK.eq (.agg #[.string t, .int .i64 r1, .int .i64 r2, .int .i64 r3, .int .i64 r4])).F) (wanted_yes rfl rfl rfl eg) _ (run_ldAll _ _ rfl e17 (c17.step hb) Try.underlying41 rfl (by kernel_rfl)) rfl
      · intro a w hb hd
        have eg : a.eval (.tmp 77) = .bool true := hd 77 (by decide)
        have e78 : a.eval (.tmp 78) = .agg #[.string t, .int .i64 r1, .int .i64 r2, .int .i64 r3, .int .i64 r4] := hd 78 (by decide)
        have e79 : a.eval (.tmp 79) = .agg #[.string t, .int .i64 r1, .int .i64 r2, .int .i64 r3, .int .i64 r4] := hd 79 (by decide)
        exact hop_runK (F := (StK.eq (.bool true)).F) (wanted_yes rfl rfl rfl eg) _ (run_eqTok _ _ rfl e78 e79 (by simp [tokEq])) rfl
      · intro a w hb hd
        have e77 : a.eval (.tmp 77) = .bool true := hd 77 (by decide)
        have e80 : a.eval (.tmp 80) = .bool true := hd 80 (by decide)
        exact hop_runK (F := (StK.eq (.bool true)).F) (wanted_none rfl) (.bool true) (run_pick_t rfl e77 e80) rfl
      · intro a w hb hd
        have e81 : a.eval (.tmp 81) = .bool true := hd 81 (by decide)
        exact hop_runK (F := (StK.eq (.bool true)).F) (wanted_none rfl) _ (run_mv _ (.inl rfl) e81) rfl
      · intro a w hb hd
        have eg : a.eval (.tmp 82) = .bool true := hd 82 (by decide)
        have e16 : a.eval (.tmp 16) = .bool false := hd 16 (by decide)
        exact hop_runK (F := (StK.eq (.bool false)).F) (wanted_yes rfl rfl rfl eg) _ (run_mv _ (.inl rfl) e16) rfl
      · intro a w hb hd
        have eg : a.eval (.tmp 82) = .bool true := hd 82 (by decide)
        have e13 : a.eval (.tmp 13) = .pointer (some ⟨g, 0, none⟩) := hd 13 (by decide)
        exact hop_runK (F := (StK.eq (.pointer (some ⟨g, 0, none⟩))).F) (wanted_yes rfl rfl rfl eg) _ (by unfold execOp; simp only [e13]; kernel_rfl) rfl
      · intro a w hb hd
        have eg : a.eval (.tmp 82) = .bool true := hd 82 (by decide)
        have e84 : a.eval (.tmp 84) = .pointer (some ⟨g, 0, none⟩) := hd 84 (by decide)
        exact hop_runK (F := (StK.eq (.string nm)).F) (wanted_yes rfl rfl rfl eg) _ (run_ldCell _ _ rfl e84 Try.underlying9 rfl ((c6.step hb).cell (k := 0) rfl)) rfl
      · intro a w hb hd
        have eg : a.eval (.tmp 82) = .bool true := hd 82 (by decide)
        have e85 : a.eval (.tmp 85) = .string nm := hd 85 (by decide)
        exact hop_callK (F := (StK.eq (.bool true)).F) (wanted_yes rfl rfl rfl eg) hb.size rfl #[a.eval (.tmp 85)] (by first | (simp only [List.map_toArray, List.map_cons, List.map_nil]; done) | (simp only [List.map_toArray, List.map_cons, List.map_nil]; rfl)) (enters_of Try.func34 (by kernel_rfl) rfl) (by rw [e85]; exact call_eq (HNM.out w))
      · intro a w hb hd
        have eg : a.eval (.tmp 82) = .bool true := hd 82 (by decide)
        have e86 : a.eval (.tmp 86) = .bool true := hd 86 (by decide)
        exact hop_runK (F := (StK.eq (.bool true)).F) (wanted_yes rfl rfl rfl eg) _ (run_mv _ (.inl rfl) e86) rfl
      · intro a w hb hd
        have eg : a.eval (.tmp 87) = .bool true := hd 87 (by decide)
        have e13 : a.eval (.tmp 13) = .pointer (some ⟨g, 0, none⟩) := hd 13 (by decide)
        exact hop_runK (F := (StK.eq (.pointer (some ⟨g, 1, none⟩))).F) (wanted_yes rfl rfl rfl eg) _ (by unfold execOp; simp only [e13]; kernel_rfl) rfl
      · intro a w hb hd
        have eg : a.eval (.tmp 87) = .bool true := hd 87 (by decide)
        have e88 : a.eval (.tmp 88) = .pointer (some ⟨g, 1, none⟩) := hd 88 (by decide)
        exact hop_runK (F := (StK.eq (.int .i64 (N0 : Int))).F) (wanted_yes rfl rfl rfl eg) _ (run_ldCell _ _ rfl e88 Try.underlying3 rfl ((c6.step hb).cell (k := 1) rfl)) rfl
      · intro a w hb hd
        have eg : a.eval (.tmp 87) = .bool true := hd 87 (by decide)
        have e89 : a.eval (.tmp 89) = .int .i64 (N0 : Int) := hd 89 (by decide)
        exact hop_runK (F := (StK.eq (.bool true)).F) (wanted_yes rfl rfl rfl eg) _ (run_geI _ _ rfl e89 rfl (decide_eq_true (by omega))) rfl
      · intro a w hb hd
        have eg : a.eval (.tmp 82) = .bool true := hd 82 (by decide)
        have e87 : a.eval (.tmp 87) = .bool true := hd 87 (by decide)
        have e90 : a.eval (.tmp 90) = .bool true := hd 90 (by decide)
        exact hop_runK (F := (StK.eq (.bool true)).F) (wanted_yes rfl rfl rfl eg) (.bool true) (run_pick_t rfl e87 e90) rfl
      · intro a w hb hd
        have eg : a.eval (.tmp 82) = .bool true := hd 82 (by decide)
        have e91 : a.eval (.tmp 91) = .bool true := hd 91 (by decide)
        exact hop_runK (F := (StK.eq (.bool true)).F) (wanted_yes rfl rfl rfl eg) _ (run_mv _ (.inl rfl) e91) rfl
      · intro a w hb hd
        have eg : a.eval (.tmp 92) = .bool true := hd 92 (by decide)
        have e13 : a.eval (.tmp 13) = .pointer (some ⟨g, 0, none⟩) := hd 13 (by decide)
        exact hop_runK (F := (StK.eq (.pointer (some ⟨g, 2, none⟩))).F) (wanted_yes rfl rfl rfl eg) _ (by unfold execOp; simp only [e13]; kernel_rfl) rfl
      · intro a w hb hd
        have eg : a.eval (.tmp 92) = .bool true := hd 92 (by decide)
        have e93 : a.eval (.tmp 93) = .pointer (some ⟨g, 2, none⟩) := hd 93 (by decide)
        exact hop_runK (F := (StK.eq (.int .i64 (N1 : Int))).F) (wanted_yes rfl rfl rfl eg) _ (run_ldCell _ _ rfl e93 Try.underlying3 rfl ((c6.step hb).cell (k := 2) rfl)) rfl
      · intro a w hb hd
        have eg : a.eval (.tmp 92) = .bool true := hd 92 (by decide)
        have e94 : a.eval (.tmp 94) = .int .i64 (N1 : Int) := hd 94 (by decide)
        exact hop_runK (F := (StK.eq (.bool true)).F) (wanted_yes rfl rfl rfl eg) _ (run_geI _ _ rfl e94 rfl (decide_eq_true (by omega))) rfl
      · intro a w hb hd
        have eg : a.eval (.tmp 82) = .bool true := hd 82 (by decide)
        have e92 : a.eval (.tmp 92) = .bool true := hd 92 (by decide)
        have e95 : a.eval (.tmp 95) = .bool true := hd 95 (by decide)
        exact hop_runK (F := (StK.eq (.bool true)).F) (wanted_yes rfl rfl rfl eg) (.bool true) (run_pick_t rfl e92 e95) rfl
      · intro a w hb hd
        have eg : a.eval (.tmp 82) = .bool true := hd 82 (by decide)
        have e96 : a.eval (.tmp 96) = .bool true := hd 96 (by decide)
        exact hop_runK (F := (StK.eq (.bool true)).F) (wanted_yes rfl rfl rfl eg) _ (run_mv _ (.inl rfl) e96) rfl
      · intro a w hb hd
        have eg : a.eval (.tmp 97) = .bool true := hd 97 (by decide)
        have e13 : a.eval (.tmp 13) = .pointer (some ⟨g, 0, none⟩) := hd 13 (by decide)
        exact hop_runK (F := (StK.eq (.pointer (some ⟨g, 3, none⟩))).F) (wanted_yes rfl rfl rfl eg) _ (by unfold execOp; simp only [e13]; kernel_rfl) rfl
      · intro a w hb hd
        have eg : a.eval (.tmp 97) = .bool true := hd 97 (by decide)
        have e98 : a.eval (.tmp 98) = .pointer (some ⟨g, 3, none⟩) := hd 98 (by decide)
        exact hop_runK (F := (StK.eq (.int .i64 a4)).F) (wanted_yes rfl rfl rfl eg) _ (run_ldCell _ _ rfl e98 Try.underlying3 rfl ((c6.step hb).cell (k := 3) rfl)) rfl
      · intro a w hb hd
        have eg : a.eval (.tmp 97) = .bool true := hd 97 (by decide)
        have e99 : a.eval (.tmp 99) = .int .i64 a4 := hd 99 (by decide)
        exact hop_runK (F := (StK.eq (.bool false)).F) (wanted_yes rfl rfl rfl eg) _ (run_geI _ _ rfl e99 rfl (decide_eq_false HV.out)) rfl
      · intro a w hb hd
        have eg : a.eval (.tmp 82) = .bool true := hd 82 (by decide)
        have e97 : a.eval (.tmp 97) = .bool true := hd 97 (by decide)
        have e100 : a.eval (.tmp 100) = .bool false := hd 100 (by decide)
        exact hop_runK (F := (StK.eq (.bool false)).F) (wanted_yes rfl rfl rfl eg) (.bool false) (run_pick_t rfl e97 e100) rfl
      · intro a w hb hd
        have eg : a.eval (.tmp 82) = .bool true := hd 82 (by decide)
        have e101 : a.eval (.tmp 101) = .bool false := hd 101 (by decide)
        exact hop_runK (F := (StK.eq (.bool false)).F) (wanted_yes rfl rfl rfl eg) _ (run_mv _ (.inl rfl) e101) rfl
      · intro a w hb hd
        have eg : a.eval (.tmp 102) = .bool false := hd 102 (by decide)
        exact hop_skipK (F := StK.any.F) rfl rfl rfl eg trivial
      · intro a w hb hd
        have eg : a.eval (.tmp 102) = .bool false := hd 102 (by decide)
        exact hop_skipK (F := StK.any.F) rfl rfl rfl eg trivial
      · intro a w hb hd
        have eg : a.eval (.tmp 102) = .bool false := hd 102 (by decide)
        exact hop_skipK (F := StK.any.F) rfl rfl rfl eg trivial
      · intro a w hb hd
        have eg : a.eval (.tmp 82) = .bool true := hd 82 (by decide)
        have e102 : a.eval (.tmp 102) = .bool false := hd 102 (by decide)
        exact hop_runK (F := (StK.eq (.bool false)).F) (wanted_yes rfl rfl rfl eg) (.bool false) (run_pick_f rfl e102 rfl) rfl
      · intro a w hb hd
        have eg : a.eval (.tmp 82) = .bool true := hd 82 (by decide)
        have e83 : a.eval (.tmp 83) = .bool false := hd 83 (by decide)
        have e106 : a.eval (.tmp 106) = .bool false := hd 106 (by decide)
        exact hop_runK (F := (StK.eq (.bool true)).F) (wanted_yes rfl rfl rfl eg) _ (run_eqBool _ _ rfl e83 e106 (rfl)) rfl
      · intro a w hb hd
        have e82 : a.eval (.tmp 82) = .bool true := hd 82 (by decide)
        have e107 : a.eval (.tmp 107) = .bool true := hd 107 (by decide)
        exact hop_runK (F := (StK.eq (.bool true)).F) (wanted_none rfl) (.bool true) (run_pick_t rfl e82 e107) rfl
      · intro a w hb hd
        have e108 : a.eval (.tmp 108) = .bool true := hd 108 (by decide)
        exact hop_runK (F := (StK.eq (.bool true)).F) (wanted_none rfl) _ (run_mv _ (.inr rfl) e108) rfl
      intro pwz wz bwz hp
      obtain ⟨-, -, -, -, -, -, -, -, -, -, -, -, -, -, -, -, -, -, -, -, -, -, -, -, -, -, -, -, -, -, -, -, -, -, -, q35, -⟩ := hp
      have e35 : pwz 35 = .bool true := q35 (by decide)
      simp only [List.take_succ_cons, List.take_zero, List.drop_succ_cons, List.drop_zero, layAll, Act.put, List.setIfInBounds_toArray, List.set_cons_zero, List.set_cons_succ, Nat.zero_add, Nat.reduceAdd, e35]
      clear q35 e35
      go_wp2
      go_ret
      exact ⟨rfl, step_trans B6 bwz⟩
  · have kk := c4.cell (k := 4) (v := .int .i64 (N3 : Int)) rfl
    have ff := c4.frozen 4
    have c5 := c4.set 4 (.int .i64 a4) (c' := #[.string nm, .int .i64 (N0 : Int), .int .i64 (N1 : Int), .int .i64 (N2 : Int), .int .i64 a4]) rfl
    have B5 := B4.setCell (p := ⟨g, 4, none⟩) hgw (.int .i64 a4)
    go_upto_region 17 with (fail)
    generalize World.setCell w4 _ _ = w5 at *
    clear kk ff c4 B4
    have i5 := (hr0.below B5 (Nat.le_refl _)).isB' hn0 hc0 hm0 C0.out
    obtain ⟨LL, hLL⟩ : ∃ L, Hid (issueZ l0 nm [(N0 : Int), (N1 : Int), (N2 : Int), a4] = L) := ⟨_, hid rfl⟩
    obtain ⟨t, r1, r2, r3, r4, ok, hok, G1, G2⟩ := z_pack l0 (by omega) nm (by have := nmo.out.2.1; omega) (N0 : Int) (N1 : Int) (N2 : Int) a4 ⟨by omega, m0.out⟩ ⟨by omega, m1.out⟩ ⟨by omega, m2.out⟩ (A4.out) hLL.out
    have HOK := hid hok
    clear hok
    go_wp2_with (refine wpList_load_blk rfl _ (.tmp 13) rfl _ rfl _ _ _ c5 Try.underlying41 rfl size_tok ?_)
    refine (rissue_z _ l0 (by omega) nm (by have := ns.out; omega) (N0 : Int) (N1 : Int) (N2 : Int) a4 ⟨by omega, m0.out⟩ ⟨by omega, m1.out⟩ ⟨by omega, m2.out⟩ (A4.out) _ i5).mono ?_
    rintro e w6 ⟨vb, rfl, h6, b6⟩
    have j6 := h6.isB
    rw [hLL.out] at j6
    have i6 := i5.step b6
    have c6 := c5.step b6
    have B6 := step_trans B5 b6
    clear c5 i5 B5 b6 h6
    go_wp2_with fail
    refine (G1.out _ _ _ i6 j6).mono ?_
    rintro e w7 ⟨rfl, b7⟩
    replace i6 := i6.step b7
    replace j6 := j6.step b7
    replace c6 := c6.step b7
    replace B6 := step_trans B6 b7
    have z7 := Blk.new w7 41 (tokA4 ⟨#[]⟩ 0 0 0 0)
    clear b7
    go_wp2_with (refine wpList_store_blk rfl _ (.tmp 15) _ rfl _ rfl _ rfl (by simp [tokA4, Value.oneCell']) _ z7 rfl size_tok ?_; intro w8 g8 c15; replace i6 := i6.step (step_new g8); replace j6 := j6.step (step_new g8); replace c6 := c6.step (step_new g8); replace B6 := step_trans B6 (step_new g8); clear g8 z7)
    refine (G2.out _ _ _ i6 j6).mono ?_
    rintro e w9 ⟨rfl, b9⟩
    replace c15 := c15.step b9
    replace c6 := c6.step b9
    replace B6 := step_trans B6 b9
    have z9 := Blk.new w9 41 (tokA4 ⟨#[]⟩ 0 0 0 0)
    clear b9 i6 j6
    go_upto_region 20 with (refine wpList_store_blk rfl _ (.tmp 17) _ rfl _ rfl _ rfl (by simp [tokA4, Value.oneCell']) _ z9 rfl size_tok ?_; intro w10 g10 c17; replace c15 := c15.step (step_new g10); replace c6 := c6.step (step_new g10); replace B6 := step_trans B6 (step_new g10); clear g10 z9)
    obtain ⟨g15, hg15⟩ : ∃ g, g = w7.heap.size := ⟨_, rfl⟩
    rw [← hg15] at c15 ⊢
    obtain ⟨g17, hg17⟩ : ∃ g, g = w9.heap.size := ⟨_, rfl⟩
    rw [← hg17] at c17 ⊢
    clear hg15 hg17
    have HNM : Hid (∀ w, Calls Try.prog 34 #[.string nm] w fun e w' => e = .returned (.bool true) ∧ Below w.heap.size w w') := hid (fun w => rname_ok nm nmo.out w)
    by_cases hv : 0 ≤ a4
    · have HV := hid hv
      obtain rfl : ok = true := HOK.out.2 ⟨nmo.out, by omega, by omega, by omega, hv⟩
      clear hv HOK
      refine wp_region_stU ((StK.eq (.bool true)) :: (StK.eq (.bool true)) :: (StK.eq (.bool true)) :: (StK.eq (.bool true)) :: (StK.eq (.agg #[.string t, .int .i64 r1, .int .i64 r2, .int .i64 r3, .int .i64 r4])) :: (StK.eq (.agg #[.string t, .int .i64 r1, .int .i64 r2, .int .i64 r3, .int .i64 r4])) :: (StK.eq (.bool true)) :: (StK.eq (.bool true)) :: (StK.eq (.bool true)) :: (StK.eq (.bool true)) :: (StK.eq (.pointer (some ⟨g, 0, none⟩))) :: (StK.eq (.string nm)) :: (StK.eq (.bool true)) :: (StK.eq (.bool true)) :: (StK.eq (.pointer (some ⟨g, 1, none⟩))) :: (StK.eq (.int .i64 (N0 : Int))) :: (StK.eq (.bool true)) :: (StK.eq (.bool true)) :: (StK.eq (.bool true)) :: (StK.eq (.pointer (some ⟨g, 2, none⟩))) :: (StK.eq (.int .i64 (N1 : Int))) :: (StK.eq (.bool true)) :: (StK.eq (.bool true)) :: (StK.eq (.bool true)) :: (StK.eq (.pointer (some ⟨g, 3, none⟩))) :: (StK.eq (.int .i64 (N2 : Int))) :: (StK.eq (.bool true)) :: (StK.eq (.bool true)) :: (StK.eq (.bool true)) :: (StK.eq (.pointer (some ⟨g, 4, none⟩))) :: (StK.eq (.int .i64 a4)) :: (StK.eq (.bool true)) :: (StK.eq (.bool true)) :: (StK.eq (.bool true)) :: (StK.eq (.bool true)) :: (StK.eq (.bool true)) :: []) 36 109 rfl (by kernel_rfl) (by decide) ⟨?_, ?_, ?_, ?_, ?_, ?_, ?_, ?_, ?_, ?_, ?_, ?_, ?_, ?_, ?_, ?_, ?_, ?_, ?_, ?_, ?_, ?_, ?_, ?_, ?_, ?_, ?_, ?_, ?_, ?_, ?_, ?_, ?_, ?_, ?_, ?_, trivial⟩ ?_
      · intro a w hb hd
        have e16 : a.eval (.tmp 16) = .bool true := hd 16 (by decide)
        exact hop_runK (F := (StK.eq (.bool true)).F) (wanted_none rfl) _ (run_mv _ (.inl rfl) e16) rfl
      · intro a w hb hd
        have e18 : a.eval (.tmp 18) = .bool true := hd 18 (by decide)
        exact hop_runK (F := (StK.eq (.bool true)).F) (wanted_none rfl) _ (run_mv _ (.inl rfl) e18) rfl
      · intro a w hb hd
        have e74 : a.eval (.tmp 74) = .bool true := hd 74 (by decide)
        have e75 : a.eval (.tmp 75) = .bool true := hd 75 (by decide)
        exact hop_runK (F := (StK.eq (.bool true)).F) (wanted_none rfl) _ (run_eqBool _ _ rfl e74 e75 (rfl)) rfl
      · intro a w hb hd
        have e76 : a.eval (.tmp 76) = .bool true := hd 76 (by decide)
        exact hop_runK (F := (StK.eq (.bool true)).F) (wanted_none rfl) _ (run_mv _ (.inl rfl) e76) rfl
      · intro a w hb hd
        have eg : a.eval (.tmp 77) = .bool true := hd 77 (by decide)
        have e15 : a.eval (.tmp 15) = .pointer (some ⟨g15, 0, none⟩) := hd 15 (by decide)
        exact hop_runK (F := (StK.eq (.agg #[.string t, .int .i64 r1, .int .i64 r2, .int .i64 r3, .int .i64 r4])).F) (wanted_yes rfl rfl rfl eg) _ (run_ldAll _ _ rfl e15 (c15.step hb) Try.underlying41 rfl (by kernel_rfl)) rfl
      · intro a w hb hd
        have eg : a.eval (.tmp 77) = .bool true := hd 77 (by decide)
        have e17 : a.eval (.tmp 17) = .pointer (some ⟨g17, 0, none⟩) := hd 17 (by decide)
        exact hop_runK (F := (StK.eq (.agg #[.string t, .int .i64 r1, .int .i64 r2, .int .i64 r3, .int .i64 r4])).F) (wanted_yes rfl rfl rfl eg) _ (run_ldAll _ _ rfl e17 (c17.step hb) Try.underlying41 rfl (by kernel_rfl)) rfl
      · intro a w hb hd
        have eg : a.eval (.tmp 77) = .bool true := hd 77 (by decide)
        have e78 : a.eval (.tmp 78) = .agg #[.string t, .int .i64 r1, .int .i64 r2, .int .i64 r3, .int .i64 r4] := hd 78 (by decide)
        have e79 : a.eval (.tmp 79) = .agg #[.string t, .int .i64 r1, .int .i64 r2, .int .i64 r3, .int .i64 r4] := hd 79 (by decide)
        exact hop_runK (F := (StK.eq (.bool true)).F) (wanted_yes rfl rfl rfl eg) _ (run_eqTok _ _ rfl e78 e79 (by simp [tokEq])) rfl
      · intro a w hb hd
        have e77 : a.eval (.tmp 77) = .bool true := hd 77 (by decide)
        have e80 : a.eval (.tmp 80) = .bool true := hd 80 (by decide)
        exact hop_runK (F := (StK.eq (.bool true)).F) (wanted_none rfl) (.bool true) (run_pick_t rfl e77 e80) rfl
      · intro a w hb hd
        have e81 : a.eval (.tmp 81) = .bool true := hd 81 (by decide)
        exact hop_runK (F := (StK.eq (.bool true)).F) (wanted_none rfl) _ (run_mv _ (.inl rfl) e81) rfl
      · intro a w hb hd
        have eg : a.eval (.tmp 82) = .bool true := hd 82 (by decide)
        have e16 : a.eval (.tmp 16) = .bool true := hd 16 (by decide)
        exact hop_runK (F := (StK.eq (.bool true)).F) (wanted_yes rfl rfl rfl eg) _ (run_mv _ (.inl rfl) e16) rfl
      · intro a w hb hd
        have eg : a.eval (.tmp 82) = .bool true := hd 82 (by decide)
        have e13 : a.eval (.tmp 13) = .pointer (some ⟨g, 0, none⟩) := hd 13 (by decide)
        exact hop_runK (F := (StK.eq (.pointer (some ⟨g, 0, none⟩))).F) (wanted_yes rfl rfl rfl eg) _ (by unfold execOp; simp only [e13]; kernel_rfl) rfl
      · intro a w hb hd
        have eg : a.eval (.tmp 82) = .bool true := hd 82 (by decide)
        have e84 : a.eval (.tmp 84) = .pointer (some ⟨g, 0, none⟩) := hd 84 (by decide)
        exact hop_runK (F := (StK.eq (.string nm)).F) (wanted_yes rfl rfl rfl eg) _ (run_ldCell _ _ rfl e84 Try.underlying9 rfl ((c6.step hb).cell (k := 0) rfl)) rfl
      · intro a w hb hd
        have eg : a.eval (.tmp 82) = .bool true := hd 82 (by decide)
        have e85 : a.eval (.tmp 85) = .string nm := hd 85 (by decide)
        exact hop_callK (F := (StK.eq (.bool true)).F) (wanted_yes rfl rfl rfl eg) hb.size rfl #[a.eval (.tmp 85)] (by first | (simp only [List.map_toArray, List.map_cons, List.map_nil]; done) | (simp only [List.map_toArray, List.map_cons, List.map_nil]; rfl)) (enters_of Try.func34 (by kernel_rfl) rfl) (by rw [e85]; exact call_eq (HNM.out w))
      · intro a w hb hd
        have eg : a.eval (.tmp 82) = .bool true := hd 82 (by decide)
        have e86 : a.eval (.tmp 86) = .bool true := hd 86 (by decide)
        exact hop_runK (F := (StK.eq (.bool true)).F) (wanted_yes rfl rfl rfl eg) _ (run_mv _ (.inl rfl) e86) rfl
      · intro a w hb hd
        have eg : a.eval (.tmp 87) = .bool true := hd 87 (by decide)
        have e13 : a.eval (.tmp 13) = .pointer (some ⟨g, 0, none⟩) := hd 13 (by decide)
        exact hop_runK (F := (StK.eq (.pointer (some ⟨g, 1, none⟩))).F) (wanted_yes rfl rfl rfl eg) _ (by unfold execOp; simp only [e13]; kernel_rfl) rfl
      · intro a w hb hd
        have eg : a.eval (.tmp 87) = .bool true := hd 87 (by decide)
        have e88 : a.eval (.tmp 88) = .pointer (some ⟨g, 1, none⟩) := hd 88 (by decide)
        exact hop_runK (F := (StK.eq (.int .i64 (N0 : Int))).F) (wanted_yes rfl rfl rfl eg) _ (run_ldCell _ _ rfl e88 Try.underlying3 rfl ((c6.step hb).cell (k := 1) rfl)) rfl
      · intro a w hb hd
        have eg : a.eval (.tmp 87) = .bool true := hd 87 (by decide)
        have e89 : a.eval (.tmp 89) = .int .i64 (N0 : Int) := hd 89 (by decide)
        exact hop_runK (F := (StK.eq (.bool true)).F) (wanted_yes rfl rfl rfl eg) _ (run_geI _ _ rfl e89 rfl (decide_eq_true (by omega))) rfl
      · intro a w hb hd
        have eg : a.eval (.tmp 82) = .bool true := hd 82 (by decide)
        have e87 : a.eval (.tmp 87) = .bool true := hd 87 (by decide)
        have e90 : a.eval (.tmp 90) = .bool true := hd 90 (by decide)
        exact hop_runK (F := (StK.eq (.bool true)).F) (wanted_yes rfl rfl rfl eg) (.bool true) (run_pick_t rfl e87 e90) rfl
      · intro a w hb hd
        have eg : a.eval (.tmp 82) = .bool true := hd 82 (by decide)
        have e91 : a.eval (.tmp 91) = .bool true := hd 91 (by decide)
        exact hop_runK (F := (StK.eq (.bool true)).F) (wanted_yes rfl rfl rfl eg) _ (run_mv _ (.inl rfl) e91) rfl
      · intro a w hb hd
        have eg : a.eval (.tmp 92) = .bool true := hd 92 (by decide)
        have e13 : a.eval (.tmp 13) = .pointer (some ⟨g, 0, none⟩) := hd 13 (by decide)
        exact hop_runK (F := (StK.eq (.pointer (some ⟨g, 2, none⟩))).F) (wanted_yes rfl rfl rfl eg) _ (by unfold execOp; simp only [e13]; kernel_rfl) rfl
      · intro a w hb hd
        have eg : a.eval (.tmp 92) = .bool true := hd 92 (by decide)
        have e93 : a.eval (.tmp 93) = .pointer (some ⟨g, 2, none⟩) := hd 93 (by decide)
        exact hop_runK (F := (StK.eq (.int .i64 (N1 : Int))).F) (wanted_yes rfl rfl rfl eg) _ (run_ldCell _ _ rfl e93 Try.underlying3 rfl ((c6.step hb).cell (k := 2) rfl)) rfl
      · intro a w hb hd
        have eg : a.eval (.tmp 92) = .bool true := hd 92 (by decide)
        have e94 : a.eval (.tmp 94) = .int .i64 (N1 : Int) := hd 94 (by decide)
        exact hop_runK (F := (StK.eq (.bool true)).F) (wanted_yes rfl rfl rfl eg) _ (run_geI _ _ rfl e94 rfl (decide_eq_true (by omega))) rfl
      · intro a w hb hd
        have eg : a.eval (.tmp 82) = .bool true := hd 82 (by decide)
        have e92 : a.eval (.tmp 92) = .bool true := hd 92 (by decide)
        have e95 : a.eval (.tmp 95) = .bool true := hd 95 (by decide)
        exact hop_runK (F := (StK.eq (.bool true)).F) (wanted_yes rfl rfl rfl eg) (.bool true) (run_pick_t rfl e92 e95) rfl
      · intro a w hb hd
        have eg : a.eval (.tmp 82) = .bool true := hd 82 (by decide)
        have e96 : a.eval (.tmp 96) = .bool true := hd 96 (by decide)
        exact hop_runK (F := (StK.eq (.bool true)).F) (wanted_yes rfl rfl rfl eg) _ (run_mv _ (.inl rfl) e96) rfl
      · intro a w hb hd
        have eg : a.eval (.tmp 97) = .bool true := hd 97 (by decide)
        have e13 : a.eval (.tmp 13) = .pointer (some ⟨g, 0, none⟩) := hd 13 (by decide)
        exact hop_runK (F := (StK.eq (.pointer (some ⟨g, 3, none⟩))).F) (wanted_yes rfl rfl rfl eg) _ (by unfold execOp; simp only [e13]; kernel_rfl) rfl
      · intro a w hb hd
        have eg : a.eval (.tmp 97) = .bool true := hd 97 (by decide)
        have e98 : a.eval (.tmp 98) = .pointer (some ⟨g, 3, none⟩) := hd 98 (by decide)
        exact hop_runK (F := (StK.eq (.int .i64 (N2 : Int))).F) (wanted_yes rfl rfl rfl eg) _ (run_ldCell _ _ rfl e98 Try.underlying3 rfl ((c6.step hb).cell (k := 3) rfl)) rfl
      · intro a w hb hd
        have eg : a.eval (.tmp 97) = .bool true := hd 97 (by decide)
        have e99 : a.eval (.tmp 99) = .int .i64 (N2 : Int) := hd 99 (by decide)
        exact hop_runK (F := (StK.eq (.bool true)).F) (wanted_yes rfl rfl rfl eg) _ (run_geI _ _ rfl e99 rfl (decide_eq_true (by omega))) rfl
      · intro a w hb hd
        have eg : a.eval (.tmp 82) = .bool true := hd 82 (by decide)
        have e97 : a.eval (.tmp 97) = .bool true := hd 97 (by decide)
        have e100 : a.eval (.tmp 100) = .bool true := hd 100 (by decide)
        exact hop_runK (F := (StK.eq (.bool true)).F) (wanted_yes rfl rfl rfl eg) (.bool true) (run_pick_t rfl e97 e100) rfl
      · intro a w hb hd
        have eg : a.eval (.tmp 82) = .bool true := hd 82 (by decide)
        have e101 : a.eval (.tmp 101) = .bool true := hd 101 (by decide)
        exact hop_runK (F := (StK.eq (.bool true)).F) (wanted_yes rfl rfl rfl eg) _ (run_mv _ (.inl rfl) e101) rfl
      · intro a w hb hd
        have eg : a.eval (.tmp 102) = .bool true := hd 102 (by decide)
        have e13 : a.eval (.tmp 13) = .pointer (some ⟨g, 0, none⟩) := hd 13 (by decide)
        exact hop_runK (F := (StK.eq (.pointer (some ⟨g, 4, none⟩))).F) (wanted_yes rfl rfl rfl eg) _ (by unfold execOp; simp only [e13]; kernel_rfl) rfl
      · intro a w hb hd
        have eg : a.eval (.tmp 102) = .bool true := hd 102 (by decide)
        have e103 : a.eval (.tmp 103) = .pointer (some ⟨g, 4, none⟩) := hd 103 (by decide)
        exact hop_runK (F := (StK.eq (.int .i64 a4)).F) (wanted_yes rfl rfl rfl eg) _ (run_ldCell _ _ rfl e103 Try.underlying3 rfl ((c6.step hb).cell (k := 4) rfl)) rfl
      · intro a w hb hd
        have eg : a.eval (.tmp 102) = .bool true := hd 102 (by decide)
        have e104 : a.eval (.tmp 104) = .int .i64 a4 := hd 104 (by decide)
        exact hop_runK (F := (StK.eq (.bool true)).F) (wanted_yes rfl rfl rfl eg) _ (run_geI _ _ rfl e104 rfl (decide_eq_true HV.out)) rfl
      · intro a w hb hd
        have eg : a.eval (.tmp 82) = .bool true := hd 82 (by decide)
        have e102 : a.eval (.tmp 102) = .bool true := hd 102 (by decide)
        have e105 : a.eval (.tmp 105) = .bool true := hd 105 (by decide)
        exact hop_runK (F := (StK.eq (.bool true)).F) (wanted_yes rfl rfl rfl eg) (.bool true) (run_pick_t rfl e102 e105) rfl
      · intro a w hb hd
        have eg : a.eval (.tmp 82) = .bool true := hd 82 (by decide)
        have e83 : a.eval (.tmp 83) = .bool true := hd 83 (by decide)
        have e106 : a.eval (.tmp 106) = .bool true := hd 106 (by decide)
        exact hop_runK (F := (StK.eq (.bool true)).F) (wanted_yes rfl rfl rfl eg) _ (run_eqBool _ _ rfl e83 e106 (rfl)) rfl
      · intro a w hb hd
        have e82 : a.eval (.tmp 82) = .bool true := hd 82 (by decide)
        have e107 : a.eval (.tmp 107) = .bool true := hd 107 (by decide)
        exact hop_runK (F := (StK.eq (.bool true)).F) (wanted_none rfl) (.bool true) (run_pick_t rfl e82 e107) rfl
      · intro a w hb hd
        have e108 : a.eval (.tmp 108) = .bool true := hd 108 (by decide)
        exact hop_runK (F := (StK.eq (.bool true)).F) (wanted_none rfl) _ (run_mv _ (.inr rfl) e108) rfl
      intro pwz wz bwz hp
      obtain ⟨-, -, -, -, -, -, -, -, -, -, -, -, -, -, -, -, -, -, -, -, -, -, -, -, -, -, -, -, -, -, -, -, -, -, -, q35, -⟩ := hp
      have e35 : pwz 35 = .bool true := q35 (by decide)
      simp only [List.take_succ_cons, List.take_zero, List.drop_succ_cons, List.drop_zero, layAll, Act.put, List.setIfInBounds_toArray, List.set_cons_zero, List.set_cons_succ, Nat.zero_add, Nat.reduceAdd, e35]
      clear q35 e35
      go_wp2
      go_ret
      exact ⟨rfl, step_trans B6 bwz⟩
    · have HV := hid hv
      obtain rfl : ok = false := by
        cases ok with
        | false => rfl
        | true => exact absurd (HOK.out.1 rfl).2.2.2.2 hv
      clear hv HOK
      refine wp_region_stU ((StK.eq (.bool false)) :: (StK.eq (.bool false)) :: (StK.eq (.bool true)) :: (StK.eq (.bool true)) :: (StK.eq (.agg #[.string t, .int .i64 r1, .int .i64 r2, .int .i64 r3, .int .i64 r4])) :: (StK.eq (.agg #[.string t, .int .i64 r1, .int .i64 r2, .int .i64 r3, .int .i64 r4])) :: (StK.eq (.bool true)) :: (StK.eq (.bool true)) :: (StK.eq (.bool true)) :: (StK.eq (.bool false)) :: (StK.eq (.pointer (some ⟨g, 0, none⟩))) :: (StK.eq (.string nm)) :: (StK.eq (.bool true)) :: (StK.eq (.bool true)) :: (StK.eq (.pointer (some ⟨g, 1, none⟩))) :: (StK.eq (.int .i64 (N0 : Int))) :: (StK.eq (.bool true)) :: (StK.eq (.bool true)) :: (StK.eq (.bool true)) :: (StK.eq (.pointer (some ⟨g, 2, none⟩))) :: (StK.eq (.int .i64 (N1 : Int))) :: (StK.eq (.bool true)) :: (StK.eq (.bool true)) :: (StK.eq (.bool true)) :: (StK.eq (.pointer (some ⟨g, 3, none⟩))) :: (StK.eq (.int .i64 (N2 : Int))) :: (StK.eq (.bool true)) :: (StK.eq (.bool true)) :: (StK.eq (.bool true)) :: (StK.eq (.pointer (some ⟨g, 4, none⟩))) :: (StK.eq (.int .i64 a4)) :: (StK.eq (.bool false)) :: (StK.eq (.bool false)) :: (StK.eq (.bool true)) :: (StK.eq (.bool true)) :: (StK.eq (.bool true)) :: []) 36 109 rfl (by kernel_rfl) (by decide) ⟨?_, ?_, ?_, ?_, ?_, ?_, ?_, ?_, ?_, ?_, ?_, ?_, ?_, ?_, ?_, ?_, ?_, ?_, ?_, ?_, ?_, ?_, ?_, ?_, ?_, ?_, ?_, ?_, ?_, ?_, ?_, ?_, ?_, ?_, ?_, ?_, trivial⟩ ?_
      · intro a w hb hd
        have e16 : a.eval (.tmp 16) = .bool false := hd 16 (by decide)
        exact hop_runK (F := (StK.eq (.bool false)).F) (wanted_none rfl) _ (run_mv _ (.inl rfl) e16) rfl
      · intro a w hb hd
        have e18 : a.eval (.tmp 18) = .bool false := hd 18 (by decide)
        exact hop_runK (F := (StK.eq (.bool false)).F) (wanted_none rfl) _ (run_mv _ (.inl rfl) e18) rfl
      · intro a w hb hd
        have e74 : a.eval (.tmp 74) = .bool false := hd 74 (by decide)
        have e75 : a.eval (.tmp 75) = .bool false := hd 75 (by decide)
        exact hop_runK (F := (StK.eq (.bool true)).F) (wanted_none rfl) _ (run_eqBool _ _ rfl e74 e75 (rfl)) rfl
      · intro a w hb hd
        have e76 : a.eval (.tmp 76) = .bool true := hd 76 (by decide)
        exact hop_runK (F := (StK.eq (.bool true)).F) (wanted_none rfl) _ (run_mv _ (.inl rfl) e76) rfl
      · intro a w hb hd
        have eg : a.eval (.tmp 77) = .bool true := hd 77 (by decide)
        have e15 : a.eval (.tmp 15) = .pointer (some ⟨g15, 0, none⟩) := hd 15 (by decide)
        exact hop_runK (F := (StK.eq (.agg #[.string t, .int .i64 r1, .int .i64 r2, .int .i64 r3, .int .i64 r4])).F) (wanted_yes rfl rfl rfl eg) _ (run_ldAll _ _ rfl e15 (c15.step hb) Try.underlying41 rfl (by kernel_rfl)) rfl
      · intro a w hb hd
        have eg : a.eval (.tmp 77) = .bool true := hd 77 (by decide)
        have e17 : a.eval (.tmp 17) = .pointer (some ⟨g17, 0, none⟩) := hd 17 (by decide)
        exact hop_runK (F := (StK.eq (.agg #[.string t, .int .i64 r1, .int .i64 r2, .int .i64 r3, .int .i64 r4])).F) (wanted_yes rfl rfl rfl eg) _ (run_ldAll _ _ rfl e17 (c17.step hb) Try.underlying41 rfl (by kernel_rfl)) rfl
      · intro a w hb hd
        have eg : a.eval (.tmp 77) = .bool true := hd 77 (by decide)
        have e78 : a.eval (.tmp 78) = .agg #[.string t, .int .i64 r1, .int .i64 r2, .int .i64 r3, .int .i64 r4] := hd 78 (by decide)
        have e79 : a.eval (.tmp 79) = .agg #[.string t, .int .i64 r1, .int .i64 r2, .int .i64 r3, .int .i64 r4] := hd 79 (by decide)
        exact hop_runK (F := (StK.eq (.bool true)).F) (wanted_yes rfl rfl rfl eg) _ (run_eqTok _ _ rfl e78 e79 (by simp [tokEq])) rfl
      · intro a w hb hd
        have e77 : a.eval (.tmp 77) = .bool true := hd 77 (by decide)
        have e80 : a.eval (.tmp 80) = .bool true := hd 80 (by decide)
        exact hop_runK (F := (StK.eq (.bool true)).F) (wanted_none rfl) (.bool true) (run_pick_t rfl e77 e80) rfl
      · intro a w hb hd
        have e81 : a.eval (.tmp 81) = .bool true := hd 81 (by decide)
        exact hop_runK (F := (StK.eq (.bool true)).F) (wanted_none rfl) _ (run_mv _ (.inl rfl) e81) rfl
      · intro a w hb hd
        have eg : a.eval (.tmp 82) = .bool true := hd 82 (by decide)
        have e16 : a.eval (.tmp 16) = .bool false := hd 16 (by decide)
        exact hop_runK (F := (StK.eq (.bool false)).F) (wanted_yes rfl rfl rfl eg) _ (run_mv _ (.inl rfl) e16) rfl
      · intro a w hb hd
        have eg : a.eval (.tmp 82) = .bool true := hd 82 (by decide)
        have e13 : a.eval (.tmp 13) = .pointer (some ⟨g, 0, none⟩) := hd 13 (by decide)
        exact hop_runK (F := (StK.eq (.pointer (some ⟨g, 0, none⟩))).F) (wanted_yes rfl rfl rfl eg) _ (by unfold execOp; simp only [e13]; kernel_rfl) rfl
      · intro a w hb hd
        have eg : a.eval (.tmp 82) = .bool true := hd 82 (by decide)
        have e84 : a.eval (.tmp 84) = .pointer (some ⟨g, 0, none⟩) := hd 84 (by decide)
        exact hop_runK (F := (StK.eq (.string nm)).F) (wanted_yes rfl rfl rfl eg) _ (run_ldCell _ _ rfl e84 Try.underlying9 rfl ((c6.step hb).cell (k := 0) rfl)) rfl
      · intro a w hb hd
        have eg : a.eval (.tmp 82) = .bool true := hd 82 (by decide)
        have e85 : a.eval (.tmp 85) = .string nm := hd 85 (by decide)
        exact hop_callK (F := (StK.eq (.bool true)).F) (wanted_yes rfl rfl rfl eg) hb.size rfl #[a.eval (.tmp 85)] (by first | (simp only [List.map_toArray, List.map_cons, List.map_nil]; done) | (simp only [List.map_toArray, List.map_cons, List.map_nil]; rfl)) (enters_of Try.func34 (by kernel_rfl) rfl) (by rw [e85]; exact call_eq (HNM.out w))
      · intro a w hb hd
        have eg : a.eval (.tmp 82) = .bool true := hd 82 (by decide)
        have e86 : a.eval (.tmp 86) = .bool true := hd 86 (by decide)
        exact hop_runK (F := (StK.eq (.bool true)).F) (wanted_yes rfl rfl rfl eg) _ (run_mv _ (.inl rfl) e86) rfl
      · intro a w hb hd
        have eg : a.eval (.tmp 87) = .bool true := hd 87 (by decide)
        have e13 : a.eval (.tmp 13) = .pointer (some ⟨g, 0, none⟩) := hd 13 (by decide)
        exact hop_runK (F := (StK.eq (.pointer (some ⟨g, 1, none⟩))).F) (wanted_yes rfl rfl rfl eg) _ (by unfold execOp; simp only [e13]; kernel_rfl) rfl
      · intro a w hb hd
        have eg : a.eval (.tmp 87) = .bool true := hd 87 (by decide)
        have e88 : a.eval (.tmp 88) = .pointer (some ⟨g, 1, none⟩) := hd 88 (by decide)
        exact hop_runK (F := (StK.eq (.int .i64 (N0 : Int))).F) (wanted_yes rfl rfl rfl eg) _ (run_ldCell _ _ rfl e88 Try.underlying3 rfl ((c6.step hb).cell (k := 1) rfl)) rfl
      · intro a w hb hd
        have eg : a.eval (.tmp 87) = .bool true := hd 87 (by decide)
        have e89 : a.eval (.tmp 89) = .int .i64 (N0 : Int) := hd 89 (by decide)
        exact hop_runK (F := (StK.eq (.bool true)).F) (wanted_yes rfl rfl rfl eg) _ (run_geI _ _ rfl e89 rfl (decide_eq_true (by omega))) rfl
      · intro a w hb hd
        have eg : a.eval (.tmp 82) = .bool true := hd 82 (by decide)
        have e87 : a.eval (.tmp 87) = .bool true := hd 87 (by decide)
        have e90 : a.eval (.tmp 90) = .bool true := hd 90 (by decide)
        exact hop_runK (F := (StK.eq (.bool true)).F) (wanted_yes rfl rfl rfl eg) (.bool true) (run_pick_t rfl e87 e90) rfl
      · intro a w hb hd
        have eg : a.eval (.tmp 82) = .bool true := hd 82 (by decide)
        have e91 : a.eval (.tmp 91) = .bool true := hd 91 (by decide)
        exact hop_runK (F := (StK.eq (.bool true)).F) (wanted_yes rfl rfl rfl eg) _ (run_mv _ (.inl rfl) e91) rfl
      · intro a w hb hd
        have eg : a.eval (.tmp 92) = .bool true := hd 92 (by decide)
        have e13 : a.eval (.tmp 13) = .pointer (some ⟨g, 0, none⟩) := hd 13 (by decide)
        exact hop_runK (F := (StK.eq (.pointer (some ⟨g, 2, none⟩))).F) (wanted_yes rfl rfl rfl eg) _ (by unfold execOp; simp only [e13]; kernel_rfl) rfl
      · intro a w hb hd
        have eg : a.eval (.tmp 92) = .bool true := hd 92 (by decide)
        have e93 : a.eval (.tmp 93) = .pointer (some ⟨g, 2, none⟩) := hd 93 (by decide)
        exact hop_runK (F := (StK.eq (.int .i64 (N1 : Int))).F) (wanted_yes rfl rfl rfl eg) _ (run_ldCell _ _ rfl e93 Try.underlying3 rfl ((c6.step hb).cell (k := 2) rfl)) rfl
      · intro a w hb hd
        have eg : a.eval (.tmp 92) = .bool true := hd 92 (by decide)
        have e94 : a.eval (.tmp 94) = .int .i64 (N1 : Int) := hd 94 (by decide)
        exact hop_runK (F := (StK.eq (.bool true)).F) (wanted_yes rfl rfl rfl eg) _ (run_geI _ _ rfl e94 rfl (decide_eq_true (by omega))) rfl
      · intro a w hb hd
        have eg : a.eval (.tmp 82) = .bool true := hd 82 (by decide)
        have e92 : a.eval (.tmp 92) = .bool true := hd 92 (by decide)
        have e95 : a.eval (.tmp 95) = .bool true := hd 95 (by decide)
        exact hop_runK (F := (StK.eq (.bool true)).F) (wanted_yes rfl rfl rfl eg) (.bool true) (run_pick_t rfl e92 e95) rfl
      · intro a w hb hd
        have eg : a.eval (.tmp 82) = .bool true := hd 82 (by decide)
        have e96 : a.eval (.tmp 96) = .bool true := hd 96 (by decide)
        exact hop_runK (F := (StK.eq (.bool true)).F) (wanted_yes rfl rfl rfl eg) _ (run_mv _ (.inl rfl) e96) rfl
      · intro a w hb hd
        have eg : a.eval (.tmp 97) = .bool true := hd 97 (by decide)
        have e13 : a.eval (.tmp 13) = .pointer (some ⟨g, 0, none⟩) := hd 13 (by decide)
        exact hop_runK (F := (StK.eq (.pointer (some ⟨g, 3, none⟩))).F) (wanted_yes rfl rfl rfl eg) _ (by unfold execOp; simp only [e13]; kernel_rfl) rfl
      · intro a w hb hd
        have eg : a.eval (.tmp 97) = .bool true := hd 97 (by decide)
        have e98 : a.eval (.tmp 98) = .pointer (some ⟨g, 3, none⟩) := hd 98 (by decide)
        exact hop_runK (F := (StK.eq (.int .i64 (N2 : Int))).F) (wanted_yes rfl rfl rfl eg) _ (run_ldCell _ _ rfl e98 Try.underlying3 rfl ((c6.step hb).cell (k := 3) rfl)) rfl
      · intro a w hb hd
        have eg : a.eval (.tmp 97) = .bool true := hd 97 (by decide)
        have e99 : a.eval (.tmp 99) = .int .i64 (N2 : Int) := hd 99 (by decide)
        exact hop_runK (F := (StK.eq (.bool true)).F) (wanted_yes rfl rfl rfl eg) _ (run_geI _ _ rfl e99 rfl (decide_eq_true (by omega))) rfl
      · intro a w hb hd
        have eg : a.eval (.tmp 82) = .bool true := hd 82 (by decide)
        have e97 : a.eval (.tmp 97) = .bool true := hd 97 (by decide)
        have e100 : a.eval (.tmp 100) = .bool true := hd 100 (by decide)
        exact hop_runK (F := (StK.eq (.bool true)).F) (wanted_yes rfl rfl rfl eg) (.bool true) (run_pick_t rfl e97 e100) rfl
      · intro a w hb hd
        have eg : a.eval (.tmp 82) = .bool true := hd 82 (by decide)
        have e101 : a.eval (.tmp 101) = .bool true := hd 101 (by decide)
        exact hop_runK (F := (StK.eq (.bool true)).F) (wanted_yes rfl rfl rfl eg) _ (run_mv _ (.inl rfl) e101) rfl
      · intro a w hb hd
        have eg : a.eval (.tmp 102) = .bool true := hd 102 (by decide)
        have e13 : a.eval (.tmp 13) = .pointer (some ⟨g, 0, none⟩) := hd 13 (by decide)
        exact hop_runK (F := (StK.eq (.pointer (some ⟨g, 4, none⟩))).F) (wanted_yes rfl rfl rfl eg) _ (by unfold execOp; simp only [e13]; kernel_rfl) rfl
      · intro a w hb hd
        have eg : a.eval (.tmp 102) = .bool true := hd 102 (by decide)
        have e103 : a.eval (.tmp 103) = .pointer (some ⟨g, 4, none⟩) := hd 103 (by decide)
        exact hop_runK (F := (StK.eq (.int .i64 a4)).F) (wanted_yes rfl rfl rfl eg) _ (run_ldCell _ _ rfl e103 Try.underlying3 rfl ((c6.step hb).cell (k := 4) rfl)) rfl
      · intro a w hb hd
        have eg : a.eval (.tmp 102) = .bool true := hd 102 (by decide)
        have e104 : a.eval (.tmp 104) = .int .i64 a4 := hd 104 (by decide)
        exact hop_runK (F := (StK.eq (.bool false)).F) (wanted_yes rfl rfl rfl eg) _ (run_geI _ _ rfl e104 rfl (decide_eq_false HV.out)) rfl
      · intro a w hb hd
        have eg : a.eval (.tmp 82) = .bool true := hd 82 (by decide)
        have e102 : a.eval (.tmp 102) = .bool true := hd 102 (by decide)
        have e105 : a.eval (.tmp 105) = .bool false := hd 105 (by decide)
        exact hop_runK (F := (StK.eq (.bool false)).F) (wanted_yes rfl rfl rfl eg) (.bool false) (run_pick_t rfl e102 e105) rfl
      · intro a w hb hd
        have eg : a.eval (.tmp 82) = .bool true := hd 82 (by decide)
        have e83 : a.eval (.tmp 83) = .bool false := hd 83 (by decide)
        have e106 : a.eval (.tmp 106) = .bool false := hd 106 (by decide)
        exact hop_runK (F := (StK.eq (.bool true)).F) (wanted_yes rfl rfl rfl eg) _ (run_eqBool _ _ rfl e83 e106 (rfl)) rfl
      · intro a w hb hd
        have e82 : a.eval (.tmp 82) = .bool true := hd 82 (by decide)
        have e107 : a.eval (.tmp 107) = .bool true := hd 107 (by decide)
        exact hop_runK (F := (StK.eq (.bool true)).F) (wanted_none rfl) (.bool true) (run_pick_t rfl e82 e107) rfl
      · intro a w hb hd
        have e108 : a.eval (.tmp 108) = .bool true := hd 108 (by decide)
        exact hop_runK (F := (StK.eq (.bool true)).F) (wanted_none rfl) _ (run_mv _ (.inr rfl) e108) rfl
      intro pwz wz bwz hp
      obtain ⟨-, -, -, -, -, -, -, -, -, -, -, -, -, -, -, -, -, -, -, -, -, -, -, -, -, -, -, -, -, -, -, -, -, -, -, q35, -⟩ := hp
      have e35 : pwz 35 = .bool true := q35 (by decide)
      simp only [List.take_succ_cons, List.take_zero, List.drop_succ_cons, List.drop_zero, layAll, Act.put, List.setIfInBounds_toArray, List.set_cons_zero, List.set_cons_succ, Nat.zero_add, Nat.reduceAdd, e35]
      clear q35 e35
      go_wp2
      go_ret
      exact ⟨rfl, step_trans B6 bwz⟩
  · have kk := c4.cell (k := 0) (v := .string nm) rfl
    have ff := c4.frozen 0
    have c5 := c4.set 0 (.string a5) (c' := #[.string a5, .int .i64 (N0 : Int), .int .i64 (N1 : Int), .int .i64 (N2 : Int), .int .i64 (N3 : Int)]) rfl
    have B5 := B4.setCell (p := ⟨g, 0, none⟩) hgw (.string a5)
    go_upto_region 17 with (fail)
    generalize World.setCell w4 _ _ = w5 at *
    clear kk ff c4 B4
    have i5 := (hr0.below B5 (Nat.le_refl _)).isB' hn0 hc0 hm0 C0.out
    obtain ⟨LL, hLL⟩ : ∃ L, Hid (issueZ l0 a5 [(N0 : Int), (N1 : Int), (N2 : Int), (N3 : Int)] = L) := ⟨_, hid rfl⟩
    obtain ⟨t, r1, r2, r3, r4, ok, hok, G1, G2⟩ := z_pack l0 (by omega) a5 (by omega) (N0 : Int) (N1 : Int) (N2 : Int) (N3 : Int) ⟨by omega, m0.out⟩ ⟨by omega, m1.out⟩ ⟨by omega, m2.out⟩ ⟨by omega, m3.out⟩ hLL.out
    have HOK := hid hok
    clear hok
    go_wp2_with (refine wpList_load_blk rfl _ (.tmp 13) rfl _ rfl _ _ _ c5 Try.underlying41 rfl size_tok ?_)
    refine (rissue_z _ l0 (by omega) a5 (by omega) (N0 : Int) (N1 : Int) (N2 : Int) (N3 : Int) ⟨by omega, m0.out⟩ ⟨by omega, m1.out⟩ ⟨by omega, m2.out⟩ ⟨by omega, m3.out⟩ _ i5).mono ?_
    rintro e w6 ⟨vb, rfl, h6, b6⟩
    have j6 := h6.isB
    rw [hLL.out] at j6
    have i6 := i5.step b6
    have c6 := c5.step b6
    have B6 := step_trans B5 b6
    clear c5 i5 B5 b6 h6
    go_wp2_with fail
    refine (G1.out _ _ _ i6 j6).mono ?_
    rintro e w7 ⟨rfl, b7⟩
    replace i6 := i6.step b7
    replace j6 := j6.step b7
    replace c6 := c6.step b7
    replace B6 := step_trans B6 b7
    have z7 := Blk.new w7 41 (tokA4 ⟨#[]⟩ 0 0 0 0)
    clear b7
    go_wp2_with (refine wpList_store_blk rfl _ (.tmp 15) _ rfl _ rfl _ rfl (by simp [tokA4, Value.oneCell']) _ z7 rfl size_tok ?_; intro w8 g8 c15; replace i6 := i6.step (step_new g8); replace j6 := j6.step (step_new g8); replace c6 := c6.step (step_new g8); replace B6 := step_trans B6 (step_new g8); clear g8 z7)
    refine (G2.out _ _ _ i6 j6).mono ?_
    rintro e w9 ⟨rfl, b9⟩
    replace c15 := c15.step b9
    replace c6 := c6.step b9
    replace B6 := step_trans B6 b9
    have z9 := Blk.new w9 41 (tokA4 ⟨#[]⟩ 0 0 0 0)
    clear b9 i6 j6
    go_upto_region 20 with (refine wpList_store_blk rfl _ (.tmp 17) _ rfl _ rfl _ rfl (by simp [tokA4, Value.oneCell']) _ z9 rfl size_tok ?_; intro w10 g10 c17; replace c15 := c15.step (step_new g10); replace c6 := c6.step (step_new g10); replace B6 := step_trans B6 (step_new g10); clear g10 z9)
    obtain ⟨g15, hg15⟩ : ∃ g, g = w7.heap.size := ⟨_, rfl⟩
    rw [← hg15] at c15 ⊢
    obtain ⟨g17, hg17⟩ : ∃ g, g = w9.heap.size := ⟨_, rfl⟩
    rw [← hg17] at c17 ⊢
    clear hg15 hg17
    by_cases hv : NameOk a5
    · have HNM : Hid (∀ w, Calls Try.prog 34 #[.string a5] w fun e w' => e = .returned (.bool true) ∧ Below w.heap.size w w') := hid (fun w => rname_ok a5 hv w)
      obtain rfl : ok = true := HOK.out.2 ⟨hv, by omega, by omega, by omega, by omega⟩
      clear hv HOK
      refine wp_region_stU ((StK.eq (.bool true)) :: (StK.eq (.bool true)) :: (StK.eq (.bool true)) :: (StK.eq (.bool true)) :: (StK.eq (.agg #[.string t, .int .i64 r1, .int .i64 r2, .int .i64 r3, .int .i64 r4])) :: (StK.eq (.agg #[.string t, .int .i64 r1, .int .i64 r2, .int .i64 r3, .int .i64 r4])) :: (StK.eq (.bool true)) :: (StK.eq (.bool true)) :: (StK.eq (.bool true)) :: (StK.eq (.bool true)) :: (StK.eq (.pointer (some ⟨g, 0, none⟩))) :: (StK.eq (.string a5)) :: (StK.eq (.bool true)) :: (StK.eq (.bool true)) :: (StK.eq (.pointer (some ⟨g, 1, none⟩))) :: (StK.eq (.int .i64 (N0 : Int))) :: (StK.eq (.bool true)) :: (StK.eq (.bool true)) :: (StK.eq (.bool true)) :: (StK.eq (.pointer (some ⟨g, 2, none⟩))) :: (StK.eq (.int .i64 (N1 : Int))) :: (StK.eq (.bool true)) :: (StK.eq (.bool true)) :: (StK.eq (.bool true)) :: (StK.eq (.pointer (some ⟨g, 3, none⟩))) :: (StK.eq (.int .i64 (N2 : Int))) :: (StK.eq (.bool true)) :: (StK.eq (.bool true)) :: (StK.eq (.bool true)) :: (StK.eq (.pointer (some ⟨g, 4, none⟩))) :: (StK.eq (.int .i64 (N3 : Int))) :: (StK.eq (.bool true)) :: (StK.eq (.bool true)) :: (StK.eq (.bool true)) :: (StK.eq (.bool true)) :: (StK.eq (.bool true)) :: []) 36 109 rfl (by kernel_rfl) (by decide) ⟨?_, ?_, ?_, ?_, ?_, ?_, ?_, ?_, ?_, ?_, ?_, ?_, ?_, ?_, ?_, ?_, ?_, ?_, ?_, ?_, ?_, ?_, ?_, ?_, ?_, ?_, ?_, ?_, ?_, ?_, ?_, ?_, ?_, ?_, ?_, ?_, trivial⟩ ?_
      · intro a w hb hd
        have e16 : a.eval (.tmp 16) = .bool true := hd 16 (by decide)
        exact hop_runK (F := (StK.eq (.bool true)).F) (wanted_none rfl) _ (run_mv _ (.inl rfl) e16) rfl
      · intro a w hb hd
        have e18 : a.eval (.tmp 18) = .bool true := hd 18 (by decide)
        exact hop_runK (F := (StK.eq (.bool true)).F) (wanted_none rfl) _ (run_mv _ (.inl rfl) e18) rfl
      · intro a w hb hd
        have e74 : a.eval (.tmp 74) = .bool true := hd 74 (by decide)
        have e75 : a.eval (.tmp 75) = .bool true := hd 75 (by decide)
        exact hop_runK (F := (StK.eq (.bool true)).F) (wanted_none rfl) _ (run_eqBool _ _ rfl e74 e75 (rfl)) rfl
      · intro a w hb hd
        have e76 : a.eval (.tmp 76) = .bool true := hd 76 (by decide)
        exact hop_runK (F := (StK.eq (.bool true)).F) (wanted_none rfl) _ (run_mv _ (.inl rfl) e76) rfl
      · intro a w hb hd
        have eg : a.eval (.tmp 77) = .bool true := hd 77 (by decide)
        have e15 : a.eval (.tmp 15) = .pointer (some ⟨g15, 0, none⟩) := hd 15 (by decide)
        exact hop_runK (F := (StK.eq (.agg #[.string t, .int .i64 r1, .int .i64 r2, .int .i64 r3, .int .i64 r4])).F) (wanted_yes rfl rfl rfl eg) _ (run_ldAll _ _ rfl e15 (c15.step hb) Try.underlying41 rfl (by kernel_rfl)) rfl
      · intro a w hb hd
        have eg : a.eval (.tmp 77) = .bool true := hd 77 (by decide)
        have e17 : a.eval (.tmp 17) = .pointer (some ⟨g17, 0, none⟩) := hd 17 (by decide)
        exact hop_runK (F := (StK.eq (.agg #[.string t, .int .i64 r1, .int .i64 r2, .int .i64 r3, .int .i64 r4])).F) (wanted_yes rfl rfl rfl eg) _ (run_ldAll _ _ rfl e17 (c17.step hb) Try.underlying41 rfl (by kernel_rfl)) rfl
      · intro a w hb hd
        have eg : a.eval (.tmp 77) = .bool true := hd 77 (by decide)
        have e78 : a.eval (.tmp 78) = .agg #[.string t, .int .i64 r1, .int .i64 r2, .int .i64 r3, .int .i64 r4] := hd 78 (by decide)
        have e79 : a.eval (.tmp 79) = .agg #[.string t, .int .i64 r1, .int .i64 r2, .int .i64 r3, .int .i64 r4] := hd 79 (by decide)
        exact hop_runK (F := (StK.eq (.bool true)).F) (wanted_yes rfl rfl rfl eg) _ (run_eqTok _ _ rfl e78 e79 (by simp [tokEq])) rfl
      · intro a w hb hd
        have e77 : a.eval (.tmp 77) = .bool true := hd 77 (by decide)
        have e80 : a.eval (.tmp 80) = .bool true := hd 80 (by decide)
        exact hop_runK (F := (StK.eq (.bool true)).F) (wanted_none rfl) (.bool true) (run_pick_t rfl e77 e80) rfl
      · intro a w hb hd
        have e81 : a.eval (.tmp 81) = .bool true := hd 81 (by decide)
        exact hop_runK (F := (StK.eq (.bool true)).F) (wanted_none rfl) _ (run_mv _ (.inl rfl) e81) rfl
      · intro a w hb hd
        have eg : a.eval (.tmp 82) = .bool true := hd 82 (by decide)
        have e16 : a.eval (.tmp 16) = .bool true := hd 16 (by decide)
        exact hop_runK (F := (StK.eq (.bool true)).F) (wanted_yes rfl rfl rfl eg) _ (run_mv _ (.inl rfl) e16) rfl
      · intro a w hb hd
        have eg : a.eval (.tmp 82) = .bool true := hd 82 (by decide)
        have e13 : a.eval (.tmp 13) = .pointer (some ⟨g, 0, none⟩) := hd 13 (by decide)
        exact hop_runK (F := (StK.eq (.pointer (some ⟨g, 0, none⟩))).F) (wanted_yes rfl rfl rfl eg) _ (by unfold execOp; simp only [e13]; kernel_rfl) rfl
      · intro a w hb hd
        have eg : a.eval (.tmp 82) = .bool true := hd 82 (by decide)
        have e84 : a.eval (.tmp 84) = .pointer (some ⟨g, 0, none⟩) := hd 84 (by decide)
        exact hop_runK (F := (StK.eq (.string a5)).F) (wanted_yes rfl rfl rfl eg) _ (run_ldCell _ _ rfl e84 Try.underlying9 rfl ((c6.step hb).cell (k := 0) rfl)) rfl
      · intro a w hb hd
        have eg : a.eval (.tmp 82) = .bool true := hd 82 (by decide)
        have e85 : a.eval (.tmp 85) = .string a5 := hd 85 (by decide)
        exact hop_callK (F := (StK.eq (.bool true)).F) (wanted_yes rfl rfl rfl eg) hb.size rfl #[a.eval (.tmp 85)] (by first | (simp only [List.map_toArray, List.map_cons, List.map_nil]; done) | (simp only [List.map_toArray, List.map_cons, List.map_nil]; rfl)) (enters_of Try.func34 (by kernel_rfl) rfl) (by rw [e85]; exact call_eq (HNM.out w))
      · intro a w hb hd
        have eg : a.eval (.tmp 82) = .bool true := hd 82 (by decide)
        have e86 : a.eval (.tmp 86) = .bool true := hd 86 (by decide)
        exact hop_runK (F := (StK.eq (.bool true)).F) (wanted_yes rfl rfl rfl eg) _ (run_mv _ (.inl rfl) e86) rfl
      · intro a w hb hd
        have eg : a.eval (.tmp 87) = .bool true := hd 87 (by decide)
        have e13 : a.eval (.tmp 13) = .pointer (some ⟨g, 0, none⟩) := hd 13 (by decide)
        exact hop_runK (F := (StK.eq (.pointer (some ⟨g, 1, none⟩))).F) (wanted_yes rfl rfl rfl eg) _ (by unfold execOp; simp only [e13]; kernel_rfl) rfl
      · intro a w hb hd
        have eg : a.eval (.tmp 87) = .bool true := hd 87 (by decide)
        have e88 : a.eval (.tmp 88) = .pointer (some ⟨g, 1, none⟩) := hd 88 (by decide)
        exact hop_runK (F := (StK.eq (.int .i64 (N0 : Int))).F) (wanted_yes rfl rfl rfl eg) _ (run_ldCell _ _ rfl e88 Try.underlying3 rfl ((c6.step hb).cell (k := 1) rfl)) rfl
      · intro a w hb hd
        have eg : a.eval (.tmp 87) = .bool true := hd 87 (by decide)
        have e89 : a.eval (.tmp 89) = .int .i64 (N0 : Int) := hd 89 (by decide)
        exact hop_runK (F := (StK.eq (.bool true)).F) (wanted_yes rfl rfl rfl eg) _ (run_geI _ _ rfl e89 rfl (decide_eq_true (by omega))) rfl
      · intro a w hb hd
        have eg : a.eval (.tmp 82) = .bool true := hd 82 (by decide)
        have e87 : a.eval (.tmp 87) = .bool true := hd 87 (by decide)
        have e90 : a.eval (.tmp 90) = .bool true := hd 90 (by decide)
        exact hop_runK (F := (StK.eq (.bool true)).F) (wanted_yes rfl rfl rfl eg) (.bool true) (run_pick_t rfl e87 e90) rfl
      · intro a w hb hd
        have eg : a.eval (.tmp 82) = .bool true := hd 82 (by decide)
        have e91 : a.eval (.tmp 91) = .bool true := hd 91 (by decide)
        exact hop_runK (F := (StK.eq (.bool true)).F) (wanted_yes rfl rfl rfl eg) _ (run_mv _ (.inl rfl) e91) rfl
      · intro a w hb hd
        have eg : a.eval (.tmp 92) = .bool true := hd 92 (by decide)
        have e13 : a.eval (.tmp 13) = .pointer (some ⟨g, 0, none⟩) := hd 13 (by decide)
        exact hop_runK (F := (StK.eq (.pointer (some ⟨g, 2, none⟩))).F) (wanted_yes rfl rfl rfl eg) _ (by unfold execOp; simp only [e13]; kernel_rfl) rfl
      · intro a w hb hd
        have eg : a.eval (.tmp 92) = .bool true := hd 92 (by decide)
        have e93 : a.eval (.tmp 93) = .pointer (some ⟨g, 2, none⟩) := hd 93 (by decide)
        exact hop_runK (F := (StK.eq (.int .i64 (N1 : Int))).F) (wanted_yes rfl rfl rfl eg) _ (run_ldCell _ _ rfl e93 Try.underlying3 rfl ((c6.step hb).cell (k := 2) rfl)) rfl
      · intro a w hb hd
        have eg : a.eval (.tmp 92) = .bool true := hd 92 (by decide)
        have e94 : a.eval (.tmp 94) = .int .i64 (N1 : Int) := hd 94 (by decide)
        exact hop_runK (F := (StK.eq (.bool true)).F) (wanted_yes rfl rfl rfl eg) _ (run_geI _ _ rfl e94 rfl (decide_eq_true (by omega))) rfl
      · intro a w hb hd
        have eg : a.eval (.tmp 82) = .bool true := hd 82 (by decide)
        have e92 : a.eval (.tmp 92) = .bool true := hd 92 (by decide)
        have e95 : a.eval (.tmp 95) = .bool true := hd 95 (by decide)
        exact hop_runK (F := (StK.eq (.bool true)).F) (wanted_yes rfl rfl rfl eg) (.bool true) (run_pick_t rfl e92 e95) rfl
      · intro a w hb hd
        have eg : a.eval (.tmp 82) = .bool true := hd 82 (by decide)
        have e96 : a.eval (.tmp 96) = .bool true := hd 96 (by decide)
        exact hop_runK (F := (StK.eq (.bool true)).F) (wanted_yes rfl rfl rfl eg) _ (run_mv _ (.inl rfl) e96) rfl
      · intro a w hb hd
        have eg : a.eval (.tmp 97) = .bool true := hd 97 (by decide)
        have e13 : a.eval (.tmp 13) = .pointer (some ⟨g, 0, none⟩) := hd 13 (by decide)
        exact hop_runK (F := (StK.eq (.pointer (some ⟨g, 3, none⟩))).F) (wanted_yes rfl rfl rfl eg) _ (by unfold execOp; simp only [e13]; kernel_rfl) rfl
      · intro a w hb hd
        have eg : a.eval (.tmp 97) = .bool true := hd 97 (by decide)
        have e98 : a.eval (.tmp 98) = .pointer (some ⟨g, 3, none⟩) := hd 98 (by decide)
        exact hop_runK (F := (StK.eq (.int .i64 (N2 : Int))).F) (wanted_yes rfl rfl rfl eg) _ (run_ldCell _ _ rfl e98 Try.underlying3 rfl ((c6.step hb).cell (k := 3) rfl)) rfl
      · intro a w hb hd
        have eg : a.eval (.tmp 97) = .bool true := hd 97 (by decide)
        have e99 : a.eval (.tmp 99) = .int .i64 (N2 : Int) := hd 99 (by decide)
        exact hop_runK (F := (StK.eq (.bool true)).F) (wanted_yes rfl rfl rfl eg) _ (run_geI _ _ rfl e99 rfl (decide_eq_true (by omega))) rfl
      · intro a w hb hd
        have eg : a.eval (.tmp 82) = .bool true := hd 82 (by decide)
        have e97 : a.eval (.tmp 97) = .bool true := hd 97 (by decide)
        have e100 : a.eval (.tmp 100) = .bool true := hd 100 (by decide)
        exact hop_runK (F := (StK.eq (.bool true)).F) (wanted_yes rfl rfl rfl eg) (.bool true) (run_pick_t rfl e97 e100) rfl
      · intro a w hb hd
        have eg : a.eval (.tmp 82) = .bool true := hd 82 (by decide)
        have e101 : a.eval (.tmp 101) = .bool true := hd 101 (by decide)
        exact hop_runK (F := (StK.eq (.bool true)).F) (wanted_yes rfl rfl rfl eg) _ (run_mv _ (.inl rfl) e101) rfl
      · intro a w hb hd
        have eg : a.eval (.tmp 102) = .bool true := hd 102 (by decide)
        have e13 : a.eval (.tmp 13) = .pointer (some ⟨g, 0, none⟩) := hd 13 (by decide)
        exact hop_runK (F := (StK.eq (.pointer (some ⟨g, 4, none⟩))).F) (wanted_yes rfl rfl rfl eg) _ (by unfold execOp; simp only [e13]; kernel_rfl) rfl
      · intro a w hb hd
        have eg : a.eval (.tmp 102) = .bool true := hd 102 (by decide)
        have e103 : a.eval (.tmp 103) = .pointer (some ⟨g, 4, none⟩) := hd 103 (by decide)
        exact hop_runK (F := (StK.eq (.int .i64 (N3 : Int))).F) (wanted_yes rfl rfl rfl eg) _ (run_ldCell _ _ rfl e103 Try.underlying3 rfl ((c6.step hb).cell (k := 4) rfl)) rfl
      · intro a w hb hd
        have eg : a.eval (.tmp 102) = .bool true := hd 102 (by decide)
        have e104 : a.eval (.tmp 104) = .int .i64 (N3 : Int) := hd 104 (by decide)
        exact hop_runK (F := (StK.eq (.bool true)).F) (wanted_yes rfl rfl rfl eg) _ (run_geI _ _ rfl e104 rfl (decide_eq_true (by omega))) rfl
      · intro a w hb hd
        have eg : a.eval (.tmp 82) = .bool true := hd 82 (by decide)
        have e102 : a.eval (.tmp 102) = .bool true := hd 102 (by decide)
        have e105 : a.eval (.tmp 105) = .bool true := hd 105 (by decide)
        exact hop_runK (F := (StK.eq (.bool true)).F) (wanted_yes rfl rfl rfl eg) (.bool true) (run_pick_t rfl e102 e105) rfl
      · intro a w hb hd
        have eg : a.eval (.tmp 82) = .bool true := hd 82 (by decide)
        have e83 : a.eval (.tmp 83) = .bool true := hd 83 (by decide)
        have e106 : a.eval (.tmp 106) = .bool true := hd 106 (by decide)
        exact hop_runK (F := (StK.eq (.bool true)).F) (wanted_yes rfl rfl rfl eg) _ (run_eqBool _ _ rfl e83 e106 (rfl)) rfl
      · intro a w hb hd
        have e82 : a.eval (.tmp 82) = .bool true := hd 82 (by decide)
        have e107 : a.eval (.tmp 107) = .bool true := hd 107 (by decide)
        exact hop_runK (F := (StK.eq (.bool true)).F) (wanted_none rfl) (.bool true) (run_pick_t rfl e82 e107) rfl
      · intro a w hb hd
        have e108 : a.eval (.tmp 108) = .bool true := hd 108 (by decide)
        exact hop_runK (F := (StK.eq (.bool true)).F) (wanted_none rfl) _ (run_mv _ (.inr rfl) e108) rfl
      intro pwz wz bwz hp
      obtain ⟨-, -, -, -, -, -, -, -, -, -, -, -, -, -, -, -, -, -, -, -, -, -, -, -, -, -, -, -, -, -, -, -, -, -, -, q35, -⟩ := hp
      have e35 : pwz 35 = .bool true := q35 (by decide)
      simp only [List.take_succ_cons, List.take_zero, List.drop_succ_cons, List.drop_zero, layAll, Act.put, List.setIfInBounds_toArray, List.set_cons_zero, List.set_cons_succ, Nat.zero_add, Nat.reduceAdd, e35]
      clear q35 e35
      go_wp2
      go_ret
      exact ⟨rfl, step_trans B6 bwz⟩
    · have HNM : Hid (∀ w, Calls Try.prog 34 #[.string a5] w fun e w' => e = .returned (.bool false) ∧ Below w.heap.size w w') := hid (fun w => rname_no a5 (by omega) hv w)
      obtain rfl : ok = false := by
        cases ok with
        | false => rfl
        | true => exact absurd (HOK.out.1 rfl).1 hv
      clear hv HOK
      refine wp_region_stU ((StK.eq (.bool false)) :: (StK.eq (.bool false)) :: (StK.eq (.bool true)) :: (StK.eq (.bool true)) :: (StK.eq (.agg #[.string t, .int .i64 r1, .int .i64 r2, .int .i64 r3, .int .i64 r4])) :: (StK.eq (.agg #[.string t, .int .i64 r1, .int .i64 r2, .int .i64 r3, .int .i64 r4])) :: (StK.eq (.bool true)) :: (StK.eq (.bool true)) :: (StK.eq (.bool true)) :: (StK.eq (.bool false)) :: (StK.eq (.pointer (some ⟨g, 0, none⟩))) :: (StK.eq (.string a5)) :: (StK.eq (.bool false)) :: (StK.eq (.bool false)) :: (StK.any) :: (StK.any) :: (StK.any) :: (StK.eq (.bool false)) :: (StK.eq (.bool false)) :: (StK.any) :: (StK.any) :: (StK.any) :: (StK.eq (.bool false)) :: (StK.eq (.bool false)) :: (StK.any) :: (StK.any) :: (StK.any) :: (StK.eq (.bool false)) :: (StK.eq (.bool false)) :: (StK.any) :: (StK.any) :: (StK.any) :: (StK.eq (.bool false)) :: (StK.eq (.bool true)) :: (StK.eq (.bool true)) :: (StK.eq (.bool true)) :: []) 36 109 rfl (by kernel_rfl) (by decide) ⟨?_, ?_, ?_, ?_, ?_, ?_, ?_, ?_, ?_, ?_, ?_, ?_, ?_, ?_, ?_, ?_, ?_, ?_, ?_, ?_, ?_, ?_, ?_, ?_, ?_, ?_, ?_, ?_, ?_, ?_, ?_, ?_, ?_, ?_, ?_, ?_, trivial⟩ ?_
      · intro a w hb hd
        have e16 : a.eval (.tmp 16) = .bool false := hd 16 (by decide)
        exact hop_runK (F := (StK.eq (.bool false)).F) (wanted_none rfl) _ (run_mv _ (.inl rfl) e16) rfl
      · intro a w hb hd
        have e18 : a.eval (.tmp 18) = .bool false := hd 18 (by decide)
        exact hop_runK (F := (StK.eq (.bool false)).F) (wanted_none rfl) _ (run_mv _ (.inl rfl) e18) rfl
      · intro a w hb hd
        have e74 : a.eval (.tmp 74) = .bool false := hd 74 (by decide)
        have e75 : a.eval (.tmp 75) = .bool false := hd 75 (by decide)
        exact hop_runK (F := (StK.eq (.bool true)).F) (wanted_none rfl) _ (run_eqBool _ _ rfl e74 e75 (rfl)) rfl
      · intro a w hb hd
        have e76 : a.eval (.tmp 76) = .bool true := hd 76 (by decide)
        exact hop_runK (F := (StK.eq (.bool true)).F) (wanted_none rfl) _ (run_mv _ (.inl rfl) e76) rfl
      · intro a w hb hd
        have eg : a.eval (.tmp 77) = .bool true := hd 77 (by decide)
        have e15 : a.eval (.tmp 15) = .pointer (some ⟨g15, 0, none⟩) := hd 15 (by decide)
        exact hop_runK (F := (StK.eq (.agg #[.string t, .int .i64 r1, .int .i64 r2, .int .i64 r3, .int .i64 r4])).F) (wanted_yes rfl rfl rfl eg) _ (run_ldAll _ _ rfl e15 (c15.step hb) Try.underlying41 rfl (by kernel_rfl)) rfl
      · intro a w hb hd
        have eg : a.eval (.tmp 77) = .bool true := hd 77 (by decide)
        have e17 : a.eval (.tmp 17) = .pointer (some ⟨g17, 0, none⟩) := hd 17 (by decide)
        exact hop_runK (F := (StK.eq (.agg #[.string t, .int .i64 r1, .int .i64 r2, .int .i64 r3, .int .i64 r4])).F) (wanted_yes rfl rfl rfl eg) _ (run_ldAll _ _ rfl e17 (c17.step hb) Try.underlying41 rfl (by kernel_rfl)) rfl
      · intro a w hb hd
        have eg : a.eval (.tmp 77) = .bool true := hd 77 (by decide)
        have e78 : a.eval (.tmp 78) = .agg #[.string t, .int .i64 r1, .int .i64 r2, .int .i64 r3, .int .i64 r4] := hd 78 (by decide)
        have e79 : a.eval (.tmp 79) = .agg #[.string t, .int .i64 r1, .int .i64 r2, .int .i64 r3, .int .i64 r4] := hd 79 (by decide)
        exact hop_runK (F := (StK.eq (.bool true)).F) (wanted_yes rfl rfl rfl eg) _ (run_eqTok _ _ rfl e78 e79 (by simp [tokEq])) rfl
      · intro a w hb hd
        have e77 : a.eval (.tmp 77) = .bool true := hd 77 (by decide)
        have e80 : a.eval (.tmp 80) = .bool true := hd 80 (by decide)
        exact hop_runK (F := (StK.eq (.bool true)).F) (wanted_none rfl) (.bool true) (run_pick_t rfl e77 e80) rfl
      · intro a w hb hd
        have e81 : a.eval (.tmp 81) = .bool true := hd 81 (by decide)
        exact hop_runK (F := (StK.eq (.bool true)).F) (wanted_none rfl) _ (run_mv _ (.inl rfl) e81) rfl
      · intro a w hb hd
        have eg : a.eval (.tmp 82) = .bool true := hd 82 (by decide)
        have e16 : a.eval (.tmp 16) = .bool false := hd 16 (by decide)
        exact hop_runK (F := (StK.eq (.bool false)).F) (wanted_yes rfl rfl rfl eg) _ (run_mv _ (.inl rfl) e16) rfl
      · intro a w hb hd
        have eg : a.eval (.tmp 82) = .bool true := hd 82 (by decide)
        have e13 : a.eval (.tmp 13) = .pointer (some ⟨g, 0, none⟩) := hd 13 (by decide)
        exact hop_runK (F := (StK.eq (.pointer (some ⟨g, 0, none⟩))).F) (wanted_yes rfl rfl rfl eg) _ (by unfold execOp; simp only [e13]; kernel_rfl) rfl
      · intro a w hb hd
        have eg : a.eval (.tmp 82) = .bool true := hd 82 (by decide)
        have e84 : a.eval (.tmp 84) = .pointer (some ⟨g, 0, none⟩) := hd 84 (by decide)
        exact hop_runK (F := (StK.eq (.string a5)).F) (wanted_yes rfl rfl rfl eg) _ (run_ldCell _ _ rfl e84 Try.underlying9 rfl ((c6.step hb).cell (k := 0) rfl)) rfl
      · intro a w hb hd
        have eg : a.eval (.tmp 82) = .bool true := hd 82 (by decide)
        have e85 : a.eval (.tmp 85) = .string a5 := hd 85 (by decide)
        exact hop_callK (F := (StK.eq (.bool false)).F) (wanted_yes rfl rfl rfl eg) hb.size rfl #[a.eval (.tmp 85)] (by first | (simp only [List.map_toArray, List.map_cons, List.map_nil]; done) | (simp only [List.map_toArray, List.map_cons, List.map_nil]; rfl)) (enters_of Try.func34 (by kernel_rfl) rfl) (by rw [e85]; exact call_eq (HNM.out w))
      · intro a w hb hd
        have eg : a.eval (.tmp 82) = .bool true := hd 82 (by decide)
        have e86 : a.eval (.tmp 86) = .bool false := hd 86 (by decide)
        exact hop_runK (F := (StK.eq (.bool false)).F) (wanted_yes rfl rfl rfl eg) _ (run_mv _ (.inl rfl) e86) rfl
      · intro a w hb hd
        have eg : a.eval (.tmp 87) = .bool false := hd 87 (by decide)
        exact hop_skipK (F := StK.any.F) rfl rfl rfl eg trivial
      · intro a w hb hd
        have eg : a.eval (.tmp 87) = .bool false := hd 87 (by decide)
        exact hop_skipK (F := StK.any.F) rfl rfl rfl eg trivial
      · intro a w hb hd
        have eg : a.eval (.tmp 87) = .bool false := hd 87 (by decide)
        exact hop_skipK (F := StK.any.F) rfl rfl rfl eg trivial
      · intro a w hb hd
        have eg : a.eval (.tmp 82) = .bool true := hd 82 (by decide)
        have e87 : a.eval (.tmp 87) = .bool false := hd 87 (by decide)
        exact hop_runK (F := (StK.eq (.bool false)).F) (wanted_yes rfl rfl rfl eg) (.bool false) (run_pick_f rfl e87 rfl) rfl
      · intro a w hb hd
        have eg : a.eval (.tmp 82) = .bool true := hd 82 (by decide)
        have e91 : a.eval (.tmp 91) = .bool false := hd 91 (by decide)
        exact hop_runK (F := (StK.eq (.bool false)).F) (wanted_yes rfl rfl rfl eg) _ (run_mv _ (.inl rfl) e91) rfl
      · intro a w hb hd
        have eg : a.eval (.tmp 92) = .bool false := hd 92 (by decide)
        exact hop_skipK (F := StK.any.F) rfl rfl rfl eg trivial
      · intro a w hb hd
        have eg : a.eval (.tmp 92) = .bool false := hd 92 (by decide)
        exact hop_skipK (F := StK.any.F) rfl rfl rfl eg trivial
      · intro a w hb hd
        have eg : a.eval (.tmp 92) = .bool false := hd 92 (by decide)
        exact hop_skipK (F := StK.any.F) rfl rfl rfl eg trivial
      · intro a w hb hd
        have eg : a.eval (.tmp 82) = .bool true := hd 82 (by decide)
        have e92 : a.eval (.tmp 92) = .bool false := hd 92 (by decide)
        exact hop_runK (F := (StK.eq (.bool false)).F) (wanted_yes rfl rfl rfl eg) (.bool false) (run_pick_f rfl e92 rfl) rfl
      · intro a w hb hd
        have eg : a.eval (.tmp 82) = .bool true := hd 82 (by decide)
        have e96 : a.eval (.tmp 96) = .bool false := hd 96 (by decide)
        exact hop_runK (F := (StK.eq (.bool false)).F) (wanted_yes rfl rfl rfl eg) _ (run_mv _ (.inl rfl) e96) rfl
      · intro a w hb hd
        have eg : a.eval (.tmp 97) = .bool false := hd 97 (by decide)
        exact hop_skipK (F := StK.any.F) rfl rfl rfl eg trivial
      · intro a w hb hd
        have eg : a.eval (.tmp 97) = .bool false := hd 97 (by decide)
        exact hop_skipK (F := StK.any.F) rfl rfl rfl eg trivial
      · intro a w hb hd
        have eg : a.eval (.tmp 97) = .bool false := hd 97 (by decide)
        exact hop_skipK (F := StK.any.F) rfl rfl rfl eg trivial
      · intro a w hb hd
        have eg : a.eval (.tmp 82) = .bool true := hd 82 (by decide)
        have e97 : a.eval (.tmp 97) = .bool false := hd 97 (by decide)
        exact hop_runK (F := (StK.eq (.bool false)).F) (wanted_yes rfl rfl rfl eg) (.bool false) (run_pick_f rfl e97 rfl) rfl
      · intro a w hb hd
        have eg : a.eval (.tmp 82) = .bool true := hd 82 (by decide)
        have e101 : a.eval (.tmp 101) = .bool false := hd 101 (by decide)
        exact hop_runK (F := (StK.eq (.bool false)).F) (wanted_yes rfl rfl rfl eg) _ (run_mv _ (.inl rfl) e101) rfl
      · intro a w hb hd
        have eg : a.eval (.tmp 102) = .bool false := hd 102 (by decide)
        exact hop_skipK (F := StK.any.F) rfl rfl rfl eg trivial
      · intro a w hb hd
        have eg : a.eval (.tmp 102) = .bool false := hd 102 (by decide)
        exact hop_skipK (F := StK.any.F) rfl rfl rfl eg trivial
      · intro a w hb hd
        have eg : a.eval (.tmp 102) = .bool false := hd 102 (by decide)
        exact hop_skipK (F := StK.any.F) rfl rfl rfl eg trivial
      · intro a w hb hd
        have eg : a.eval (.tmp 82) = .bool true := hd 82 (by decide)
        have e102 : a.eval (.tmp 102) = .bool false := hd 102 (by decide)
        exact hop_runK (F := (StK.eq (.bool false)).F) (wanted_yes rfl rfl rfl eg) (.bool false) (run_pick_f rfl e102 rfl) rfl
      · intro a w hb hd
        have eg : a.eval (.tmp 82) = .bool true := hd 82 (by decide)
        have e83 : a.eval (.tmp 83) = .bool false := hd 83 (by decide)
        have e106 : a.eval (.tmp 106) = .bool false := hd 106 (by decide)
        exact hop_runK (F := (StK.eq (.bool true)).F) (wanted_yes rfl rfl rfl eg) _ (run_eqBool _ _ rfl e83 e106 (rfl)) rfl
      · intro a w hb hd
        have e82 : a.eval (.tmp 82) = .bool true := hd 82 (by decide)
        have e107 : a.eval (.tmp 107) = .bool true := hd 107 (by decide)
        exact hop_runK (F := (StK.eq (.bool true)).F) (wanted_none rfl) (.bool true) (run_pick_t rfl e82 e107) rfl
      · intro a w hb hd
        have e108 : a.eval (.tmp 108) = .bool true := hd 108 (by decide)
        exact hop_runK (F := (StK.eq (.bool true)).F) (wanted_none rfl) _ (run_mv _ (.inr rfl) e108) rfl
      intro pwz wz bwz hp
      obtain ⟨-, -, -, -, -, -, -, -, -, -, -, -, -, -, -, -, -, -, -, -, -, -, -, -, -, -, -, -, -, -, -, -, -, -, -, q35, -⟩ := hp
      have e35 : pwz 35 = .bool true := q35 (by decide)
      simp only [List.take_succ_cons, List.take_zero, List.drop_succ_cons, List.drop_zero, layAll, Act.put, List.setIfInBounds_toArray, List.set_cons_zero, List.set_cons_succ, Nat.zero_add, Nat.reduceAdd, e35]
      clear q35 e35
      go_wp2
      go_ret
      exact ⟨rfl, step_trans B6 bwz⟩
end Go.Proofs.Ytffoekgopooeaaa
