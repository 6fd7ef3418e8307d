/- sentinellaw9.GuardApart: the walk. -/
import Derived.Test.YtffoekgopooeaaaGdEq
namespace Go.Proofs.Ytffoekgopooeaaa
set_option linter.unusedVariables false
set_option linter.unusedSimpArgs false
open Go.ChangeShapes Go.WideShapes Go.ChangeAt Go.RowKit Go.Shelf
theorem eightL_inj {m n : Nat} (hm : (m : Int) < 9223372036854775808) (hn : (n : Int) < 9223372036854775808) (h : eightL m = eightL n) : m = n := by
  obtain ⟨a0, a8, aq⟩ := up_pack hm
  obtain ⟨b0, b8, bs⟩ := up_pack hn
  have : ∀ k, k ≤ 8 → upI m k = upI n k := fun k => by
    induction k with
    | zero => intro _; rw [a0, b0]
    | succ k ih =>
      intro hk
      obtain ⟨x, c, e1, e2, -, -, -, -, e3, -⟩ := aq k (by omega)
      obtain ⟨y, d, f1, f2, -, -, -, -, f3, -⟩ := bs k (by omega)
      rw [h] at e1
      have : x = y := Option.some.inj (e1.symm.trans f1)
      subst this
      rw [← e3, ← f3, ih (by omega), ← e2, ← f2]
  have h8 := this 8 (Nat.le_refl _)
  rw [a8, b8] at h8
  omega
theorem bodyN_inj {s t : ByteArray} (hs : s.size ≤ 255) (ht : t.size ≤ 255) {n0 n1 n2 n3 k0 k1 k2 k3 : Nat}
    (h0 : (n0 : Int) < 9223372036854775808) (h1 : (n1 : Int) < 9223372036854775808) (h2 : (n2 : Int) < 9223372036854775808) (h3 : (n3 : Int) < 9223372036854775808)
    (g0 : (k0 : Int) < 9223372036854775808) (g1 : (k1 : Int) < 9223372036854775808) (g2 : (k2 : Int) < 9223372036854775808) (g3 : (k3 : Int) < 9223372036854775808)
    {r q : List UInt8} (h : bodyN s [n0, n1, n2, n3] ++ r = bodyN t [k0, k1, k2, k3] ++ q) : s = t ∧ n0 = k0 ∧ n1 = k1 ∧ n2 = k2 ∧ n3 = k3 := by
  unfold bodyN at h
  simp only [List.cons_append, List.append_assoc, List.map_cons, List.map_nil, List.flatten_cons, List.flatten_nil, List.nil_append] at h
  obtain ⟨e, h⟩ := List.cons.inj h
  have es : s.size = t.size := by
    have := congrArg UInt8.toNat e
    simp at this; omega
  obtain ⟨e1, h⟩ := List.append_inj h (by rw [sB_len, sB_len, es])
  obtain ⟨e2, h⟩ := List.append_inj h (by rw [eightL_len, eightL_len])
  obtain ⟨e3, h⟩ := List.append_inj h (by rw [eightL_len, eightL_len])
  obtain ⟨e4, h⟩ := List.append_inj h (by rw [eightL_len, eightL_len])
  obtain ⟨e5, h⟩ := List.append_inj h (by rw [eightL_len, eightL_len])
  refine ⟨?_, eightL_inj h0 g0 e2, eightL_inj h1 g1 e3, eightL_inj h2 g2 e4, eightL_inj h3 g3 e5⟩
  unfold sB at e1
  cases s; cases t
  simp only [Array.toList_inj] at e1
  rw [e1]
set_option maxRecDepth 100000 in
set_option maxHeartbeats 16000000 in
theorem GuardApart_walk (A0 : Option Addr) (n0 cap0 : Nat) (l0 : List UInt8) (hn0 : l0.length = n0) (hc0 : n0 ≤ cap0) (hm0 : cap0 ≤ maxLen) (hz0 : A0 = none → cap0 = 0)
    (a1 : Int) (hk1 : -9223372036854775808 ≤ a1) (hl1 : a1 < 9223372036854775808)
    (a2 : Int) (hk2 : -9223372036854775808 ≤ a2) (hl2 : a2 < 9223372036854775808)
    (a3 : ByteArray) (hS3 : a3.size ≤ maxLen)
    (a4 : ByteArray) (hS4 : a4.size ≤ maxLen) (w : World) (hr0 : Rd w A0 l0) :
    Calls Try.prog 13 #[.slice A0 n0 cap0, .int .i64 a1, .int .i64 a2, .string a3, .string a4] w fun e w' => e = .returned (.bool true) ∧ Below w.heap.size w w' := by
  go_enter Try.func13, Try.ntmps13
  go_wp2_with fail
  refine (known_any _).mono ?_
  rintro e w1 ⟨rfl, b1⟩
  by_cases g0 : 60 < n0
  · go_wp2
    go_ret
    exact ⟨rfl, b1⟩
  by_cases g3 : 40 < a3.size
  · go_wp2
    go_ret
    exact ⟨rfl, b1⟩
  by_cases g4 : 40 < a4.size
  · go_wp2
    go_ret
    exact ⟨rfl, b1⟩
  go_wp2_with fail
  obtain ⟨nm, N0, N1, N2, N3, -, NMO, -, nb, HT⟩ := token_pack a1 hk1 hl1 a3 (by omega)
  have nmo := hid NMO
  have ns : Hid (nm.size ≤ 255) := hid (by have := NMO.2.1; omega)
  have m0 : Hid ((N0 : Int) < 9223372036854775808) := hid (by omega)
  have m1 : Hid ((N1 : Int) < 9223372036854775808) := hid (by omega)
  have m2 : Hid ((N2 : Int) < 9223372036854775808) := hid (by omega)
  have m3 : Hid ((N3 : Int) < 9223372036854775808) := hid (by omega)
  have NB := hid nb
  clear NMO nb
  obtain ⟨nmb, N0b, N1b, N2b, N3b, -, NMOb, -, nbb, HTb⟩ := token_pack a2 hk2 hl2 a4 (by omega)
  have nmob := hid NMOb
  have nsb : Hid (nmb.size ≤ 255) := hid (by have := NMOb.2.1; omega)
  have m0b : Hid ((N0b : Int) < 9223372036854775808) := hid (by omega)
  have m1b : Hid ((N1b : Int) < 9223372036854775808) := hid (by omega)
  have m2b : Hid ((N2b : Int) < 9223372036854775808) := hid (by omega)
  have m3b : Hid ((N3b : Int) < 9223372036854775808) := hid (by omega)
  have NBb := hid nbb
  clear NMOb nbb
  have i1 := (hr0.step b1).isB' hn0 hc0 hm0 hz0
  obtain ⟨IL, hIL⟩ : ∃ k : Nat, Hid ((issueN l0 nm [N0, N1, N2, N3]).length = k) := ⟨_, hid rfl⟩
  have hI2 : Hid ((nm.size : Int) + 49 = (IL : Int)) := hid (by rw [← hIL.out]; unfold issueN; rw [List.length_append, sumL_len, bodyN_len]; simp; omega)
  obtain ⟨S, hS⟩ : ∃ k : Int, Hid ((nm.size : Int) = k) := ⟨_, hid rfl⟩
  have hS2 : Hid (0 ≤ S ∧ S ≤ 255 ∧ S + 49 = (IL : Int)) := hid (by have := hI2.out; have := hS.out; have := ns.out; omega)
  obtain ⟨B, hB⟩ : ∃ b, Hid (tokEq nm N0 N1 N2 N3 nmb N0b N1b N2b N3b = b) := ⟨_, hid rfl⟩
  obtain ⟨T1, hT1⟩ : ∃ t : ByteArray, Hid (⟨(issueN l0 nm [N0, N1, N2, N3]).toArray⟩ = t) := ⟨_, hid rfl⟩
  obtain ⟨T2, hT2⟩ : ∃ t : ByteArray, Hid (⟨(issueN l0 nmb [N0b, N1b, N2b, N3b]).toArray⟩ = t) := ⟨_, hid rfl⟩
  have hBT : Hid (decide (T1.toList = T2.toList) = B) := hid (by
    rw [← hB.out]
    refine Bool.eq_iff_iff.2 ⟨fun h => ?_, fun h => ?_⟩
    · have h := ba_ext (of_decide_eq_true h)
      rw [← hT1.out, ← hT2.out] at h
      injection h with h
      have h := congrArg Array.toList h
      simp only [] at h
      obtain ⟨e, e0, e1, e2, e3⟩ := bodyN_inj ns.out nsb.out m0.out m1.out m2.out m3.out m0b.out m1b.out m2b.out m3b.out h
      subst e e0 e1 e2 e3
      simp [tokEq]
    · unfold tokEq at h
      simp only [Bool.and_eq_true, beq_iff_eq, decide_eq_true_eq] at h
      obtain ⟨⟨⟨⟨e, e0⟩, e1⟩, e2⟩, e3⟩ := h
      have e := ba_ext e
      have e0 : N0 = N0b := by omega
      have e1 : N1 = N1b := by omega
      have e2 : N2 = N2b := by omega
      have e3 : N3 = N3b := by omega
      subst e e0 e1 e2 e3
      exact decide_eq_true (by rw [← hT1.out, ← hT2.out]))
  refine (HT.out _).mono ?_
  rintro e w2 ⟨rfl, b2⟩
  have B2 := step_trans b1 b2
  have i2 := i1.step b2
  clear b1 b2 i1 HT
  go_wp2_with fail
  refine (HTb.out _).mono ?_
  rintro e w3 ⟨rfl, b3⟩
  have B3 := step_trans B2 b3
  have i3 := i2.step b3
  have z3 := (Blk.new w3 41 (tokA4 ⟨#[]⟩ 0 0 0 0)).alloc (.cells (tokA4 ⟨#[]⟩ 0 0 0 0) 41)
  have y3 := Blk.new (w3.alloc (.cells (tokA4 ⟨#[]⟩ 0 0 0 0) 41)) 41 (tokA4 ⟨#[]⟩ 0 0 0 0)
  rw [World.size_alloc] at y3
  have a3 := step_trans (step_alloc w3 (.cells (tokA4 ⟨#[]⟩ 0 0 0 0) 41)) (step_alloc _ (.cells (tokA4 ⟨#[]⟩ 0 0 0 0) 41))
  clear B2 b3 i2 HTb
  go_upto_region 6 with (first | (refine wpList_store_blk rfl _ (.tmp 11) _ rfl _ rfl _ rfl (by simp [tokA4, Value.oneCell']) _ z3 rfl size_tok ?_; intro w4 g4 c4; have y4 := y3.grown g4 (ne_some (by omega))) | (refine wpList_store_blk rfl _ (.tmp 12) _ rfl _ rfl _ rfl (by simp [tokA4, Value.oneCell']) _ y4 rfl size_tok ?_; intro w5 g5 d5; have c5 := c4.grown g5 (ne_some (by omega))))
  have B5 := B3.trans ((below_of_grown (below_of_grown a3 g4 a3.size (Nat.le_refl _)) g5 (Nat.le_trans a3.size g4.size) (by omega)).mono B3.size)
  have i5 := i3.step (below_of_grown (below_of_grown a3 g4 a3.size (Nat.le_refl _)) g5 (Nat.le_trans a3.size g4.size) (by omega))
  obtain ⟨g, hg⟩ : ∃ g, g = w3.heap.size := ⟨_, rfl⟩
  rw [← hg] at c5 d5 ⊢
  clear c4 y4 y3 z3 a3 g4 g5 B3 i3 hg
  refine wp_region_stT [StK.bytes (l0), StK.eq (.agg #[.string nm, .int .i64 (N0 : Int), .int .i64 (N1 : Int), .int .i64 (N2 : Int), .int .i64 (N3 : Int)]), StK.bytes (issueN l0 nm [N0, N1, N2, N3]), StK.bytes (l0), StK.eq (.agg #[.string nmb, .int .i64 (N0b : Int), .int .i64 (N1b : Int), .int .i64 (N2b : Int), .int .i64 (N3b : Int)]), StK.bytes (issueN l0 nmb [N0b, N1b, N2b, N3b]), StK.bytes (issueN l0 nm [N0, N1, N2, N3]), StK.bytes (issueN l0 nmb [N0b, N1b, N2b, N3b])] 8 61 rfl (by kernel_rfl) (by kernel_rfl) ⟨?_, ?_, ?_, ?_, ?_, ?_, ?_, ?_, trivial⟩ ?_
  · intro a w hb hd
    have e0 : IsB w (l0) (a.eval (.tmp 0)) := by rw [show a.eval (.tmp 0) = .slice A0 n0 cap0 from hd 0 (by decide)]; exact (i5).step hb
    exact hop_runK (F := (StK.bytes (l0)).F) (wanted_none rfl) _ (run_mv _ (.inl rfl) rfl) e0
  · intro a w hb hd
    have e11 : a.eval (.tmp 11) = .pointer (some ⟨g, 0, none⟩) := hd 11 (by decide)
    exact hop_runK (F := (StK.eq (.agg #[.string nm, .int .i64 (N0 : Int), .int .i64 (N1 : Int), .int .i64 (N2 : Int), .int .i64 (N3 : Int)])).F) (wanted_none rfl) _ (run_ldAll _ _ rfl e11 (c5.step hb) Try.underlying41 rfl (by kernel_rfl)) rfl
  · intro a w hb hd
    have e36 : IsB w (l0) (a.eval (.tmp 36)) := hd 36 (by decide)
    have e37 : a.eval (.tmp 37) = .agg #[.string nm, .int .i64 (N0 : Int), .int .i64 (N1 : Int), .int .i64 (N2 : Int), .int .i64 (N3 : Int)] := hd 37 (by decide)
    exact hop_callK (F := (StK.bytes (issueN l0 nm [N0, N1, N2, N3])).F) (wanted_none rfl) hb.size rfl #[a.eval (.tmp 36), a.eval (.tmp 37)] (by first | (simp only [List.map_toArray, List.map_cons, List.map_nil]; done) | (simp only [List.map_toArray, List.map_cons, List.map_nil]; rfl)) (enters_of Try.func27 (by kernel_rfl) rfl) (by rw [e37]; exact (issue_any _ l0 nm ns.out N0 N1 N2 N3 m0.out m1.out m2.out m3.out _ e36).mono fun e w2 ⟨v, h1, h2, h3⟩ => ⟨v, h1, h3, h2.isB⟩)
  · intro a w hb hd
    have e0 : IsB w (l0) (a.eval (.tmp 0)) := by rw [show a.eval (.tmp 0) = .slice A0 n0 cap0 from hd 0 (by decide)]; exact (i5).step hb
    exact hop_runK (F := (StK.bytes (l0)).F) (wanted_none rfl) _ (run_mv _ (.inl rfl) rfl) e0
  · intro a w hb hd
    have e12 : a.eval (.tmp 12) = .pointer (some ⟨(g + 1), 0, none⟩) := hd 12 (by decide)
    exact hop_runK (F := (StK.eq (.agg #[.string nmb, .int .i64 (N0b : Int), .int .i64 (N1b : Int), .int .i64 (N2b : Int), .int .i64 (N3b : Int)])).F) (wanted_none rfl) _ (run_ldAll _ _ rfl e12 (d5.step hb) Try.underlying41 rfl (by kernel_rfl)) rfl
  · intro a w hb hd
    have e39 : IsB w (l0) (a.eval (.tmp 39)) := hd 39 (by decide)
    have e40 : a.eval (.tmp 40) = .agg #[.string nmb, .int .i64 (N0b : Int), .int .i64 (N1b : Int), .int .i64 (N2b : Int), .int .i64 (N3b : Int)] := hd 40 (by decide)
    exact hop_callK (F := (StK.bytes (issueN l0 nmb [N0b, N1b, N2b, N3b])).F) (wanted_none rfl) hb.size rfl #[a.eval (.tmp 39), a.eval (.tmp 40)] (by first | (simp only [List.map_toArray, List.map_cons, List.map_nil]; done) | (simp only [List.map_toArray, List.map_cons, List.map_nil]; rfl)) (enters_of Try.func27 (by kernel_rfl) rfl) (by rw [e40]; exact (issue_any _ l0 nmb nsb.out N0b N1b N2b N3b m0b.out m1b.out m2b.out m3b.out _ e39).mono fun e w2 ⟨v, h1, h2, h3⟩ => ⟨v, h1, h3, h2.isB⟩)
  · intro a w hb hd
    have e38 : IsB w (issueN l0 nm [N0, N1, N2, N3]) (a.eval (.tmp 38)) := hd 38 (by decide)
    exact hop_runK (F := (StK.bytes (issueN l0 nm [N0, N1, N2, N3])).F) (wanted_none rfl) _ (run_mv _ (.inr rfl) rfl) e38
  · intro a w hb hd
    have e41 : IsB w (issueN l0 nmb [N0b, N1b, N2b, N3b]) (a.eval (.tmp 41)) := hd 41 (by decide)
    exact hop_runK (F := (StK.bytes (issueN l0 nmb [N0b, N1b, N2b, N3b])).F) (wanted_none rfl) _ (run_mv _ (.inr rfl) rfl) e41
  intro pw6 w6 bw6 hp
  obtain ⟨-, -, -, -, -, -, q6, q7, -⟩ := hp
  have f13 : IsB w6 (issueN l0 nm [N0, N1, N2, N3]) (pw6 6) := q6 (by decide)
  have f14 : IsB w6 (issueN l0 nmb [N0b, N1b, N2b, N3b]) (pw6 7) := q7 (by decide)
  simp only [List.take_succ_cons, List.take_zero, List.drop_succ_cons, List.drop_zero, layAll, Act.put, List.setIfInBounds_toArray, List.set_cons_zero, List.set_cons_succ, Nat.zero_add, Nat.reduceAdd]
  clear q6 q7
  generalize pw6 6 = v13 at *
  generalize pw6 7 = v14 at *
  have B6 := B5.trans (bw6.mono B5.size)
  have c6 := c5.step bw6
  have d6 := d5.step bw6
  clear B5 c5 d5 i5 bw6
  go_upto_region 7 with (fail)
  refine wp_region_stT [StK.bytes (issueN l0 nm [N0, N1, N2, N3]), StK.eq (.string ⟨(issueN l0 nm [N0, N1, N2, N3]).toArray⟩), StK.bytes (issueN l0 nmb [N0b, N1b, N2b, N3b]), StK.eq (.string ⟨(issueN l0 nmb [N0b, N1b, N2b, N3b]).toArray⟩), StK.eq (.bool B), StK.eq (.agg #[.string nm, .int .i64 (N0 : Int), .int .i64 (N1 : Int), .int .i64 (N2 : Int), .int .i64 (N3 : Int)]), StK.eq (.agg #[.string nmb, .int .i64 (N0b : Int), .int .i64 (N1b : Int), .int .i64 (N2b : Int), .int .i64 (N3b : Int)]), StK.eq (.bool B), StK.eq (.bool true), StK.eq (.bool true), StK.bytes (issueN l0 nm [N0, N1, N2, N3]), StK.eq (.int .i64 (IL : Int)), StK.eq (.pointer (some ⟨g, 0, none⟩)), StK.eq (.string nm), StK.eq (.int .i64 S), StK.eq (.int .i64 (1 + S)), StK.eq (.int .i64 (IL : Int)), StK.eq (.bool true), StK.eq (.bool true), StK.eq (.bool true)] 20 61 rfl (by kernel_rfl) (by kernel_rfl) ⟨?_, ?_, ?_, ?_, ?_, ?_, ?_, ?_, ?_, ?_, ?_, ?_, ?_, ?_, ?_, ?_, ?_, ?_, ?_, ?_, trivial⟩ ?_
  · intro a w hb hd
    have e13 : IsB w (issueN l0 nm [N0, N1, N2, N3]) (a.eval (.tmp 13)) := by rw [show a.eval (.tmp 13) = v13 from hd 13 (by decide)]; exact (f13).step hb
    exact hop_runK (F := (StK.bytes (issueN l0 nm [N0, N1, N2, N3])).F) (wanted_none rfl) _ (run_mv _ (.inl rfl) rfl) e13
  · intro a w hb hd
    have e42 : IsB w (issueN l0 nm [N0, N1, N2, N3]) (a.eval (.tmp 42)) := hd 42 (by decide)
    exact hop_runK (F := (StK.eq (.string ⟨(issueN l0 nm [N0, N1, N2, N3]).toArray⟩)).F) (wanted_none rfl) _ (run_str _ rfl e42) rfl
  · intro a w hb hd
    have e14 : IsB w (issueN l0 nmb [N0b, N1b, N2b, N3b]) (a.eval (.tmp 14)) := by rw [show a.eval (.tmp 14) = v14 from hd 14 (by decide)]; exact (f14).step hb
    exact hop_runK (F := (StK.bytes (issueN l0 nmb [N0b, N1b, N2b, N3b])).F) (wanted_none rfl) _ (run_mv _ (.inl rfl) rfl) e14
  · intro a w hb hd
    have e44 : IsB w (issueN l0 nmb [N0b, N1b, N2b, N3b]) (a.eval (.tmp 44)) := hd 44 (by decide)
    exact hop_runK (F := (StK.eq (.string ⟨(issueN l0 nmb [N0b, N1b, N2b, N3b]).toArray⟩)).F) (wanted_none rfl) _ (run_str _ rfl e44) rfl
  · intro a w hb hd
    have e43 : a.eval (.tmp 43) = .string ⟨(issueN l0 nm [N0, N1, N2, N3]).toArray⟩ := hd 43 (by decide)
    have e45 : a.eval (.tmp 45) = .string ⟨(issueN l0 nmb [N0b, N1b, N2b, N3b]).toArray⟩ := hd 45 (by decide)
    exact hop_runK (F := (StK.eq (.bool B)).F) (wanted_none rfl) _ (run_eqStr _ _ rfl e43 e45 (by rw [hT1.out, hT2.out]; exact hBT.out)) rfl
  · intro a w hb hd
    have e11 : a.eval (.tmp 11) = .pointer (some ⟨g, 0, none⟩) := hd 11 (by decide)
    exact hop_runK (F := (StK.eq (.agg #[.string nm, .int .i64 (N0 : Int), .int .i64 (N1 : Int), .int .i64 (N2 : Int), .int .i64 (N3 : Int)])).F) (wanted_none rfl) _ (run_ldAll _ _ rfl e11 (c6.step hb) Try.underlying41 rfl (by kernel_rfl)) rfl
  · intro a w hb hd
    have e12 : a.eval (.tmp 12) = .pointer (some ⟨(g + 1), 0, none⟩) := hd 12 (by decide)
    exact hop_runK (F := (StK.eq (.agg #[.string nmb, .int .i64 (N0b : Int), .int .i64 (N1b : Int), .int .i64 (N2b : Int), .int .i64 (N3b : Int)])).F) (wanted_none rfl) _ (run_ldAll _ _ rfl e12 (d6.step hb) Try.underlying41 rfl (by kernel_rfl)) rfl
  · intro a w hb hd
    have e47 : a.eval (.tmp 47) = .agg #[.string nm, .int .i64 (N0 : Int), .int .i64 (N1 : Int), .int .i64 (N2 : Int), .int .i64 (N3 : Int)] := hd 47 (by decide)
    have e48 : a.eval (.tmp 48) = .agg #[.string nmb, .int .i64 (N0b : Int), .int .i64 (N1b : Int), .int .i64 (N2b : Int), .int .i64 (N3b : Int)] := hd 48 (by decide)
    exact hop_runK (F := (StK.eq (.bool B)).F) (wanted_none rfl) _ (run_eqTok _ _ rfl e47 e48 (hB.out)) rfl
  · intro a w hb hd
    have e46 : a.eval (.tmp 46) = .bool B := hd 46 (by decide)
    have e49 : a.eval (.tmp 49) = .bool B := hd 49 (by decide)
    exact hop_runK (F := (StK.eq (.bool true)).F) (wanted_none rfl) _ (run_eqBool _ _ rfl e46 e49 (by cases B <;> rfl)) rfl
  · intro a w hb hd
    have e50 : a.eval (.tmp 50) = .bool true := hd 50 (by decide)
    exact hop_runK (F := (StK.eq (.bool true)).F) (wanted_none rfl) _ (run_mv _ (.inl rfl) e50) rfl
  · intro a w hb hd
    have eg : a.eval (.tmp 51) = .bool true := hd 51 (by decide)
    have e13 : IsB w (issueN l0 nm [N0, N1, N2, N3]) (a.eval (.tmp 13)) := by rw [show a.eval (.tmp 13) = v13 from hd 13 (by decide)]; exact (f13).step hb
    exact hop_runK (F := (StK.bytes (issueN l0 nm [N0, N1, N2, N3])).F) (wanted_yes rfl rfl rfl eg) _ (run_mv _ (.inl rfl) rfl) e13
  · intro a w hb hd
    have eg : a.eval (.tmp 51) = .bool true := hd 51 (by decide)
    have e52 : IsB w (issueN l0 nm [N0, N1, N2, N3]) (a.eval (.tmp 52)) := hd 52 (by decide)
    exact hop_runK (F := (StK.eq (.int .i64 (IL : Int))).F) (wanted_yes rfl rfl rfl eg) _ (run_lenZ _ rfl e52 (by rw [hIL.out])) rfl
  · intro a w hb hd
    have eg : a.eval (.tmp 51) = .bool true := hd 51 (by decide)
    have e11 : a.eval (.tmp 11) = .pointer (some ⟨g, 0, none⟩) := hd 11 (by decide)
    exact hop_runK (F := (StK.eq (.pointer (some ⟨g, 0, none⟩))).F) (wanted_yes rfl rfl rfl eg) _ (by unfold execOp; simp only [e11]; kernel_rfl) rfl
  · intro a w hb hd
    have eg : a.eval (.tmp 51) = .bool true := hd 51 (by decide)
    have e54 : a.eval (.tmp 54) = .pointer (some ⟨g, 0, none⟩) := hd 54 (by decide)
    exact hop_runK (F := (StK.eq (.string nm)).F) (wanted_yes rfl rfl rfl eg) _ (run_ldCell _ _ rfl e54 Try.underlying9 rfl ((c6.step hb).cell (k := 0) rfl)) rfl
  · intro a w hb hd
    have eg : a.eval (.tmp 51) = .bool true := hd 51 (by decide)
    have e55 : a.eval (.tmp 55) = .string nm := hd 55 (by decide)
    exact hop_runK (F := (StK.eq (.int .i64 S)).F) (wanted_yes rfl rfl rfl eg) _ (run_lnS _ _ rfl e55 Try.underlying9 (hS.out)) rfl
  · intro a w hb hd
    have eg : a.eval (.tmp 51) = .bool true := hd 51 (by decide)
    have e56 : a.eval (.tmp 56) = .int .i64 S := hd 56 (by decide)
    exact hop_runK (F := (StK.eq (.int .i64 (1 + S))).F) (wanted_yes rfl rfl rfl eg) _ (run_addI _ _ rfl rfl e56 rfl (by have := hS2.out; omega) (by have := hS2.out; omega)) rfl
  · intro a w hb hd
    have eg : a.eval (.tmp 51) = .bool true := hd 51 (by decide)
    have e57 : a.eval (.tmp 57) = .int .i64 (1 + S) := hd 57 (by decide)
    exact hop_runK (F := (StK.eq (.int .i64 (IL : Int))).F) (wanted_yes rfl rfl rfl eg) _ (run_addI _ _ rfl e57 rfl (by have := hS2.out; omega) (by have := hS2.out; omega) (by have := hS2.out; omega)) rfl
  · intro a w hb hd
    have eg : a.eval (.tmp 51) = .bool true := hd 51 (by decide)
    have e53 : a.eval (.tmp 53) = .int .i64 (IL : Int) := hd 53 (by decide)
    have e58 : a.eval (.tmp 58) = .int .i64 (IL : Int) := hd 58 (by decide)
    exact hop_runK (F := (StK.eq (.bool true)).F) (wanted_yes rfl rfl rfl eg) _ (run_eqI _ _ rfl e53 e58 (by simp)) rfl
  · intro a w hb hd
    have e51 : a.eval (.tmp 51) = .bool true := hd 51 (by decide)
    have e59 : a.eval (.tmp 59) = .bool true := hd 59 (by decide)
    exact hop_runK (F := (StK.eq (.bool true)).F) (wanted_none rfl) (.bool true) (run_pick_t rfl e51 e59) rfl
  · intro a w hb hd
    have e60 : a.eval (.tmp 60) = .bool true := hd 60 (by decide)
    exact hop_runK (F := (StK.eq (.bool true)).F) (wanted_none rfl) _ (run_mv _ (.inr rfl) e60) rfl
  intro pw7 w7 bw7 hp
  obtain ⟨-, -, -, -, -, -, -, -, -, -, -, -, -, -, -, -, -, -, -, q19, -⟩ := hp
  have e19 : pw7 19 = .bool true := q19 (by decide)
  simp only [List.take_succ_cons, List.take_zero, List.drop_succ_cons, List.drop_zero, layAll, Act.put, List.setIfInBounds_toArray, List.set_cons_zero, List.set_cons_succ, Nat.zero_add, Nat.reduceAdd, e19]
  clear q19 e19
  go_wp2
  go_ret
  exact ⟨rfl, B6.trans (bw7.mono B6.size)⟩
end Go.Proofs.Ytffoekgopooeaaa
