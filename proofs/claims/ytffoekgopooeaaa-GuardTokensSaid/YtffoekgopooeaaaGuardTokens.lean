/- sentinellaw9.GuardTokens: the walk. -/
import Derived.Test.YtffoekgopooeaaaGdEq
namespace Go.Proofs.Ytffoekgopooeaaa
set_option linter.unusedVariables false
set_option linter.unusedSimpArgs false
open Go.ChangeShapes Go.WideShapes Go.ChangeAt Go.RowKit Go.Shelf
set_option maxRecDepth 100000 in
set_option maxHeartbeats 16000000 in
theorem GuardTokens_walk (A0 : Option Addr) (n0 cap0 : Nat) (l0 : List UInt8) (hn0 : l0.length = n0) (hc0 : n0 ≤ cap0) (hm0 : cap0 ≤ maxLen) (hz0 : A0 = none → cap0 = 0)
    (a1 : Int) (hk1 : -9223372036854775808 ≤ a1) (hl1 : a1 < 9223372036854775808)
    (a2 : ByteArray) (hS2 : a2.size ≤ maxLen) (w : World) (hr0 : Rd w A0 l0) :
    Calls Try.prog 6 #[.slice A0 n0 cap0, .int .i64 a1, .string a2] w fun e w' => e = .returned (.bool true) ∧ Below w.heap.size w w' := by
  go_enter Try.func6, Try.ntmps6
  go_wp2_with fail
  refine (known_any _).mono ?_
  rintro e w1 ⟨rfl, b1⟩
  by_cases g0 : 60 < n0
  · go_wp2
    go_ret
    exact ⟨rfl, b1⟩
  by_cases g2 : 40 < a2.size
  · go_wp2
    go_ret
    exact ⟨rfl, b1⟩
  go_wp2_with fail
  obtain ⟨nm, N0, N1, N2, N3, -, NMO, -, nb, HT⟩ := token_pack a1 hk1 hl1 a2 (by omega)
  have nmo := hid NMO
  have ns : Hid (nm.size ≤ 255) := hid (by have := NMO.2.1; omega)
  have m0 : Hid ((N0 : Int) < 9223372036854775808) := hid (by omega)
  have m1 : Hid ((N1 : Int) < 9223372036854775808) := hid (by omega)
  have m2 : Hid ((N2 : Int) < 9223372036854775808) := hid (by omega)
  have m3 : Hid ((N3 : Int) < 9223372036854775808) := hid (by omega)
  have NB := hid nb
  clear NMO nb
  have i1 := (hr0.step b1).isB' hn0 hc0 hm0 hz0
  have HIL : Hid ((issueN l0 nm [N0, N1, N2, N3]).length ≤ 80) := hid (by have := nmo.out.2.1; unfold issueN; rw [List.length_append, sumL_len, bodyN_len]; simp; omega)
  obtain ⟨IL, hIL⟩ : ∃ k : Nat, Hid ((issueN l0 nm [N0, N1, N2, N3]).length = k) := ⟨_, hid rfl⟩
  have hIL80 : IL ≤ 80 := by rw [← hIL.out]; exact HIL.out
  refine (HT.out _).mono ?_
  rintro e w2 ⟨rfl, b2⟩
  have B2 := step_trans b1 b2
  have i2 := i1.step b2
  have z2 := Blk.new w2 41 (tokA4 ⟨#[]⟩ 0 0 0 0)
  obtain ⟨g7, hg7⟩ : ∃ g, g = w2.heap.size := ⟨_, rfl⟩
  rw [← hg7] at z2
  have HG7 : Hid (g7 = w2.heap.size) := hid hg7
  clear b1 b2 i1 HT HIL
  rw [hg7] at z2
  go_wp2_with (first | (refine wpList_store_blk rfl _ (.tmp 7) _ rfl _ rfl _ rfl (by simp [tokA4, Value.oneCell']) _ z2 rfl size_tok ?_; intro w3 g3 c3; have b3 := step_new g3) | (refine wpList_load_blk rfl _ (.tmp 7) rfl _ rfl _ _ _ c3 Try.underlying41 rfl size_tok ?_))
  have i3 := i2.step b3
  have B3 := step_trans B2 b3
  refine (issue_any _ l0 nm ns.out N0 N1 N2 N3 m0.out m1.out m2.out m3.out _ i3).mono ?_
  rintro e w4 ⟨vb, rfl, h4, b4⟩
  have i4 := i3.step b4
  have j4 := h4.isB
  have B4 := step_trans B3 b4
  have c4 := c3.step b4
  clear z2 g3 i2 i3 b3 b4 B2 B3 h4 c3
  go_wp2_with fail
  refine (read_ok _ vb l0 nm nmo.out N0 N1 N2 N3 m0.out m1.out m2.out m3.out _ i4 j4).mono ?_
  rintro e w5 ⟨rfl, b5⟩
  have i5 := i4.step b5
  have j5 := j4.step b5
  have B5 := step_trans B4 b5
  have c5 := c4.step b5
  have z5 := Blk.new w5 41 (tokA4 ⟨#[]⟩ 0 0 0 0)
  clear i4 j4 b5 B4 c4
  go_upto_region 8 with (refine wpList_store_blk rfl _ (.tmp 9) _ rfl _ rfl _ rfl (by simp [tokA4, Value.oneCell']) _ z5 rfl size_tok ?_; intro w6 g6 d6; have b6 := step_new g6)
  have i6 := i5.step b6
  have j6 := j5.step b6
  have B6 := step_trans B5 b6
  have c6 := c5.step b6
  obtain ⟨g9, hg9⟩ : ∃ g, g = w5.heap.size := ⟨_, rfl⟩
  rw [← hg9] at d6 ⊢
  rw [← hg7] at c6 ⊢
  clear i5 j5 b6 B5 c5 z5 g6 hg9 hg7
  refine wp_region_stT [StK.bytes (issueN l0 nm [N0, N1, N2, N3]), StK.eq (.string ⟨(issueN l0 nm [N0, N1, N2, N3]).toArray⟩), StK.bytes (l0), StK.eq (.agg #[.string nm, .int .i64 (N0 : Int), .int .i64 (N1 : Int), .int .i64 (N2 : Int), .int .i64 (N3 : Int)]), StK.bytes (issueN l0 nm [N0, N1, N2, N3]), StK.eq (.string ⟨(issueN l0 nm [N0, N1, N2, N3]).toArray⟩), StK.eq (.bool true), StK.eq (.bool true), StK.eq (.bool true), StK.eq (.bool true), StK.eq (.bool true), StK.eq (.agg #[.string nm, .int .i64 (N0 : Int), .int .i64 (N1 : Int), .int .i64 (N2 : Int), .int .i64 (N3 : Int)]), StK.eq (.agg #[.string nm, .int .i64 (N0 : Int), .int .i64 (N1 : Int), .int .i64 (N2 : Int), .int .i64 (N3 : Int)]), StK.eq (.bool true), StK.eq (.bool true), StK.eq (.bool true), StK.bytes (issueN l0 nm [N0, N1, N2, N3]), StK.eq (.int .i64 (IL : Int)), StK.eq (.bool true), StK.eq (.bool true), StK.eq (.bool true)] 21 53 rfl (by kernel_rfl) (by kernel_rfl) ⟨?_, ?_, ?_, ?_, ?_, ?_, ?_, ?_, ?_, ?_, ?_, ?_, ?_, ?_, ?_, ?_, ?_, ?_, ?_, ?_, ?_, trivial⟩ ?_
  · intro a w hb hd
    have e8 : IsB w (issueN l0 nm [N0, N1, N2, N3]) (a.eval (.tmp 8)) := by rw [show a.eval (.tmp 8) = vb from hd 8 (by decide)]; exact (j6).step hb
    exact hop_runK (F := (StK.bytes (issueN l0 nm [N0, N1, N2, N3])).F) (wanted_none rfl) _ (run_mv _ (.inl rfl) rfl) e8
  · intro a w hb hd
    have e33 : IsB w (issueN l0 nm [N0, N1, N2, N3]) (a.eval (.tmp 33)) := hd 33 (by decide)
    exact hop_runK (F := (StK.eq (.string ⟨(issueN l0 nm [N0, N1, N2, N3]).toArray⟩)).F) (wanted_none rfl) _ (run_str _ rfl e33) rfl
  · intro a w hb hd
    have e0 : IsB w (l0) (a.eval (.tmp 0)) := by rw [show a.eval (.tmp 0) = .slice A0 n0 cap0 from hd 0 (by decide)]; exact (i6).step hb
    exact hop_runK (F := (StK.bytes (l0)).F) (wanted_none rfl) _ (run_mv _ (.inl rfl) rfl) e0
  · intro a w hb hd
    have e7 : a.eval (.tmp 7) = .pointer (some ⟨g7, 0, none⟩) := hd 7 (by decide)
    exact hop_runK (F := (StK.eq (.agg #[.string nm, .int .i64 (N0 : Int), .int .i64 (N1 : Int), .int .i64 (N2 : Int), .int .i64 (N3 : Int)])).F) (wanted_none rfl) _ (run_ldAll _ _ rfl e7 (c6.step hb) Try.underlying41 rfl (by kernel_rfl)) rfl
  · intro a w hb hd
    have e35 : IsB w (l0) (a.eval (.tmp 35)) := hd 35 (by decide)
    have e36 : a.eval (.tmp 36) = .agg #[.string nm, .int .i64 (N0 : Int), .int .i64 (N1 : Int), .int .i64 (N2 : Int), .int .i64 (N3 : Int)] := hd 36 (by decide)
    exact hop_callK (F := (StK.bytes (issueN l0 nm [N0, N1, N2, N3])).F) (wanted_none rfl) hb.size rfl #[a.eval (.tmp 35), a.eval (.tmp 36)] (by first | (simp only [List.map_toArray, List.map_cons, List.map_nil]; done) | (simp only [List.map_toArray, List.map_cons, List.map_nil]; rfl)) (enters_of Try.func29 (by kernel_rfl) rfl) (by rw [e36]; exact (rissue_any _ l0 (by omega) nm ns.out N0 N1 N2 N3 m0.out m1.out m2.out m3.out _ e35).mono fun e w2 ⟨v, h1, h2, h3⟩ => ⟨v, h1, h3, h2.isB⟩)
  · intro a w hb hd
    have e37 : IsB w (issueN l0 nm [N0, N1, N2, N3]) (a.eval (.tmp 37)) := hd 37 (by decide)
    exact hop_runK (F := (StK.eq (.string ⟨(issueN l0 nm [N0, N1, N2, N3]).toArray⟩)).F) (wanted_none rfl) _ (run_str _ rfl e37) rfl
  · intro a w hb hd
    have e34 : a.eval (.tmp 34) = .string ⟨(issueN l0 nm [N0, N1, N2, N3]).toArray⟩ := hd 34 (by decide)
    have e38 : a.eval (.tmp 38) = .string ⟨(issueN l0 nm [N0, N1, N2, N3]).toArray⟩ := hd 38 (by decide)
    exact hop_runK (F := (StK.eq (.bool true)).F) (wanted_none rfl) _ (run_eqStr _ _ rfl e34 e38 (by simp)) rfl
  · intro a w hb hd
    have e39 : a.eval (.tmp 39) = .bool true := hd 39 (by decide)
    exact hop_runK (F := (StK.eq (.bool true)).F) (wanted_none rfl) _ (run_mv _ (.inl rfl) e39) rfl
  · intro a w hb hd
    have eg : a.eval (.tmp 40) = .bool true := hd 40 (by decide)
    have e10 : a.eval (.tmp 10) = .bool true := hd 10 (by decide)
    exact hop_runK (F := (StK.eq (.bool true)).F) (wanted_yes rfl rfl rfl eg) _ (run_mv _ (.inl rfl) e10) rfl
  · intro a w hb hd
    have e40 : a.eval (.tmp 40) = .bool true := hd 40 (by decide)
    have e41 : a.eval (.tmp 41) = .bool true := hd 41 (by decide)
    exact hop_runK (F := (StK.eq (.bool true)).F) (wanted_none rfl) (.bool true) (run_pick_t rfl e40 e41) rfl
  · intro a w hb hd
    have e42 : a.eval (.tmp 42) = .bool true := hd 42 (by decide)
    exact hop_runK (F := (StK.eq (.bool true)).F) (wanted_none rfl) _ (run_mv _ (.inl rfl) e42) rfl
  · intro a w hb hd
    have eg : a.eval (.tmp 43) = .bool true := hd 43 (by decide)
    have e7 : a.eval (.tmp 7) = .pointer (some ⟨g7, 0, none⟩) := hd 7 (by decide)
    exact hop_runK (F := (StK.eq (.agg #[.string nm, .int .i64 (N0 : Int), .int .i64 (N1 : Int), .int .i64 (N2 : Int), .int .i64 (N3 : Int)])).F) (wanted_yes rfl rfl rfl eg) _ (run_ldAll _ _ rfl e7 (c6.step hb) Try.underlying41 rfl (by kernel_rfl)) rfl
  · intro a w hb hd
    have eg : a.eval (.tmp 43) = .bool true := hd 43 (by decide)
    have e9 : a.eval (.tmp 9) = .pointer (some ⟨g9, 0, none⟩) := hd 9 (by decide)
    exact hop_runK (F := (StK.eq (.agg #[.string nm, .int .i64 (N0 : Int), .int .i64 (N1 : Int), .int .i64 (N2 : Int), .int .i64 (N3 : Int)])).F) (wanted_yes rfl rfl rfl eg) _ (run_ldAll _ _ rfl e9 (d6.step hb) Try.underlying41 rfl (by kernel_rfl)) rfl
  · intro a w hb hd
    have eg : a.eval (.tmp 43) = .bool true := hd 43 (by decide)
    have e44 : a.eval (.tmp 44) = .agg #[.string nm, .int .i64 (N0 : Int), .int .i64 (N1 : Int), .int .i64 (N2 : Int), .int .i64 (N3 : Int)] := hd 44 (by decide)
    have e45 : a.eval (.tmp 45) = .agg #[.string nm, .int .i64 (N0 : Int), .int .i64 (N1 : Int), .int .i64 (N2 : Int), .int .i64 (N3 : Int)] := hd 45 (by decide)
    exact hop_runK (F := (StK.eq (.bool true)).F) (wanted_yes rfl rfl rfl eg) _ (run_eqTok _ _ rfl e44 e45 (by simp [tokEq])) rfl
  · intro a w hb hd
    have e43 : a.eval (.tmp 43) = .bool true := hd 43 (by decide)
    have e46 : a.eval (.tmp 46) = .bool true := hd 46 (by decide)
    exact hop_runK (F := (StK.eq (.bool true)).F) (wanted_none rfl) (.bool true) (run_pick_t rfl e43 e46) rfl
  · intro a w hb hd
    have e47 : a.eval (.tmp 47) = .bool true := hd 47 (by decide)
    exact hop_runK (F := (StK.eq (.bool true)).F) (wanted_none rfl) _ (run_mv _ (.inl rfl) e47) rfl
  · intro a w hb hd
    have eg : a.eval (.tmp 48) = .bool true := hd 48 (by decide)
    have e8 : IsB w (issueN l0 nm [N0, N1, N2, N3]) (a.eval (.tmp 8)) := by rw [show a.eval (.tmp 8) = vb from hd 8 (by decide)]; exact (j6).step hb
    exact hop_runK (F := (StK.bytes (issueN l0 nm [N0, N1, N2, N3])).F) (wanted_yes rfl rfl rfl eg) _ (run_mv _ (.inl rfl) rfl) e8
  · intro a w hb hd
    have eg : a.eval (.tmp 48) = .bool true := hd 48 (by decide)
    have e49 : IsB w (issueN l0 nm [N0, N1, N2, N3]) (a.eval (.tmp 49)) := hd 49 (by decide)
    exact hop_runK (F := (StK.eq (.int .i64 (IL : Int))).F) (wanted_yes rfl rfl rfl eg) _ (run_lenZ _ rfl e49 (by rw [hIL.out])) rfl
  · intro a w hb hd
    have eg : a.eval (.tmp 48) = .bool true := hd 48 (by decide)
    have e50 : a.eval (.tmp 50) = .int .i64 (IL : Int) := hd 50 (by decide)
    exact hop_runK (F := (StK.eq (.bool true)).F) (wanted_yes rfl rfl rfl eg) _ (run_leI _ _ rfl e50 rfl (decide_eq_true (by omega))) rfl
  · intro a w hb hd
    have e48 : a.eval (.tmp 48) = .bool true := hd 48 (by decide)
    have e51 : a.eval (.tmp 51) = .bool true := hd 51 (by decide)
    exact hop_runK (F := (StK.eq (.bool true)).F) (wanted_none rfl) (.bool true) (run_pick_t rfl e48 e51) rfl
  · intro a w hb hd
    have e52 : a.eval (.tmp 52) = .bool true := hd 52 (by decide)
    exact hop_runK (F := (StK.eq (.bool true)).F) (wanted_none rfl) _ (run_mv _ (.inr rfl) e52) rfl
  intro pw7 w7 bw7 hp
  obtain ⟨-, -, -, -, -, -, -, -, -, -, -, -, -, -, -, -, -, -, -, -, q20, -⟩ := hp
  have e20 : pw7 20 = .bool true := q20 (by decide)
  simp only [List.take_succ_cons, List.take_zero, List.drop_succ_cons, List.drop_zero, layAll, Act.put, List.setIfInBounds_toArray, List.set_cons_zero, List.set_cons_succ, Nat.zero_add, Nat.reduceAdd, e20]
  clear q20 e20
  go_wp2
  go_ret
  exact ⟨rfl, step_trans B6 bw7⟩
end Go.Proofs.Ytffoekgopooeaaa
