/- sentinellaw9.GuardReads: the walk. -/
import Derived.Test.YtffoekgopooeaaaGdReads
import Derived.Test.YtffoekgopooeaaaGenD
namespace Go.Proofs.Ytffoekgopooeaaa
set_option linter.unusedVariables false
set_option linter.unusedSimpArgs false
open Go.ChangeShapes Go.WideShapes Go.ChangeAt Go.RowKit Go.Shelf
theorem run_ixB0 {a : Act} {w : World} {o : Oper} (x k : Operand) (ho : o.op = .indexAddr 23 x k) {b n c i : Nat} {z : Int} (hx : a.eval x = .slice (some ⟨b, 0, none⟩) n c) (hk : a.eval k = .int .i64 z) (hz : z = (i : Int)) (hi : i < n) : (execOp a.eval o).run Try.prog w = .ok (.value (.pointer (some ⟨b, i, none⟩))) w := by
  have := run_ixB (w := w) x k ho hx hk hz hi
  rwa [Nat.zero_add] at this
theorem run_slToE {a : Act} {w : World} {o : Oper} (x h : Operand) (ho : o.op = .slice 23 x none (some h) none) {A : Option Addr} {n c K : Nat} (hx : a.eval x = .slice A n c) (hh : a.eval h = .int .i64 (K : Int)) (hK : K ≤ c) : (execOp a.eval o).run Try.prog w = .ok (.value (.slice A K c)) w := by
  unfold execOp
  simp only [ho, hx, hh]
  simp [slice_h w A n c K hK, hh]
theorem lit1_apart {B : Nat} {w w' : World} {v u : Value} {x : UInt8} (h0 : (St.nil0 B).F w v) (h : (St.lit1 [x]).F w u) (hg : w.grownBy w' v.ownBlock) : (St.lit1 [x]).F w' u := by
  obtain ⟨g, rfl, -, h3⟩ := h0
  obtain ⟨k, rfl, h4, h5⟩ := h
  refine ⟨k, rfl, h4, (hg.block k (heap_lt h5) fun e => ?_).trans h5⟩
  have : k = g := Option.some.inj e
  subst this
  rw [h3] at h5
  injection h5 with h5
  injection h5 with h5
  simp [bvs] at h5
theorem nil0_apart {B : Nat} {w w' : World} {v u : Value} {l : List UInt8} (h0 : Byt w B v l) (h : (St.nil0 B).F w u) (hg : w.grownBy w' v.ownBlock) (hl : 0 < l.length) : (St.nil0 B).F w' u := by
  obtain ⟨k, rfl, h4, h5⟩ := h
  obtain ⟨g, c, rfl, -, -, -, -, -, hc⟩ := h0.own hl
  refine ⟨k, rfl, h4, (hg.block k (heap_lt h5) fun e => ?_).trans h5⟩
  have : k = g := Option.some.inj e
  subst this
  have := hc 0 l[0] (List.getElem?_eq_getElem hl)
  simp [World.cell?, h5] at this
set_option maxRecDepth 100000 in
set_option maxHeartbeats 16000000 in
theorem GuardReads_walk (A0 : Option Addr) (n0 cap0 : Nat) (l0 : List UInt8) (hn0 : l0.length = n0) (hc0 : n0 ≤ cap0) (hm0 : cap0 ≤ maxLen) (hz0 : A0 = none → cap0 = 0)
    (A1 : Option Addr) (n1 cap1 : Nat) (l1 : List UInt8) (hn1 : l1.length = n1) (hc1 : n1 ≤ cap1) (hm1 : cap1 ≤ maxLen) (hz1 : A1 = none → cap1 = 0)
    (a2 : Int) (hk2 : -9223372036854775808 ≤ a2) (hl2 : a2 < 9223372036854775808)
    (a3 : ByteArray) (hS3 : a3.size ≤ maxLen)
    (A4 : Option Addr) (n4 cap4 : Nat) (x4 : Nat → Int)
    (A5 : Option Addr) (n5 cap5 : Nat) (l5 : List UInt8) (hn5 : l5.length = n5) (hc5 : n5 ≤ cap5) (hm5 : cap5 ≤ maxLen) (hz5 : A5 = none → cap5 = 0)
    (a6 : Int) (hk6 : -9223372036854775808 ≤ a6) (hl6 : a6 < 9223372036854775808)
    (A7 : Option Addr) (n7 cap7 : Nat) (l7 : List UInt8) (hn7 : l7.length = n7) (hc7 : n7 ≤ cap7) (hm7 : cap7 ≤ maxLen) (hz7 : A7 = none → cap7 = 0) (w : World) (hr0 : Rd w A0 l0) (hr1 : Rd w A1 l1) (hr4 : RdI w A4 n4 x4) (hr5 : Rd w A5 l5) (hr7 : Rd w A7 l7) :
    Calls Try.prog 7 #[.slice A0 n0 cap0, .slice A1 n1 cap1, .int .i64 a2, .string a3, .slice A4 n4 cap4, .slice A5 n5 cap5, .int .i64 a6, .slice A7 n7 cap7] w fun e w' => e = .returned (.bool true) ∧ Below w.heap.size w w' := by
  go_enter Try.func7, Try.ntmps7
  go_wp2_with fail
  refine (known_any _).mono ?_
  rintro e w1 ⟨rfl, b1⟩
  by_cases g0 : 60 < n0
  · go_wp2
    go_ret
    exact ⟨rfl, b1⟩
  by_cases g1 : 60 < n1
  · go_wp2
    go_ret
    exact ⟨rfl, b1⟩
  by_cases g3 : 40 < a3.size
  · go_wp2
    go_ret
    exact ⟨rfl, b1⟩
  by_cases g7 : 150 < n7
  · go_wp2
    go_ret
    exact ⟨rfl, b1⟩
  go_wp2_with fail
  obtain ⟨nm, N0, N1, N2, N3, -, NMO, -, nb, HT⟩ := token_pack a2 hk2 hl2 a3 (by omega)
  have nmo := hid NMO
  have ns : Hid (nm.size ≤ 255) := hid (by have := NMO.2.1; omega)
  have m0 : Hid ((N0 : Int) < 9223372036854775808) := hid (by omega)
  have m1 : Hid ((N1 : Int) < 9223372036854775808) := hid (by omega)
  have m2 : Hid ((N2 : Int) < 9223372036854775808) := hid (by omega)
  have m3 : Hid ((N3 : Int) < 9223372036854775808) := hid (by omega)
  have NB := hid nb
  clear NMO nb
  have i1 := (hr0.step b1).isB' hn0 hc0 hm0 hz0
  obtain ⟨IL, hIL⟩ : ∃ k : Nat, Hid ((issueN l0 nm [N0, N1, N2, N3]).length = k) := ⟨_, hid rfl⟩
  have HILb : Hid (0 < IL ∧ IL ≤ 80) := hid (by have := nmo.out.2.1; rw [← hIL.out]; unfold issueN; rw [List.length_append, sumL_len, bodyN_len]; simp; omega)
  refine (HT.out _).mono ?_
  rintro e w2 ⟨rfl, b2⟩
  have B2 := step_trans b1 b2
  have i2 := i1.step b2
  clear b1 b2 i1 HT
  go_wp2_with fail
  refine (rissue_any _ l0 (by omega) nm ns.out N0 N1 N2 N3 m0.out m1.out m2.out m3.out _ i2).mono ?_
  rintro e w3 ⟨vb, rfl, h3, b3⟩
  have B3 := step_trans B2 b3
  obtain ⟨Ab, cb, rfl, cb1, cb2, Rb3, -⟩ := h3.slice
  have nb3 := h3.none0
  rw [hIL.out] at cb1 ⊢
  clear B2 b3 i2 h3
  have he := byt_empty w3
  have Rb := Rb3.step (step_alloc w3 (.cells #[] 5))
  go_wp2_with (refine wpList_append_bytes rfl (.tmp 55) (.tmp 56) rfl w3.heap.size _ _ (issueN l0 nm [N0, N1, N2, N3]) rfl he Ab IL cb rfl hIL.out nb3 Rb (by rw [hIL.out]; have := HILb.out; simp; omega) (by simp) ?_; intro v4 w4 h4 k4 g4)
  have B4 : Below w3.heap.size w3 w4 := step_app3 k4 (Nat.le_refl _)
  rw [List.nil_append] at h4
  obtain ⟨gz, cz, rfl, gz3, cz1, cz2, oz⟩ := h4.ownZ (by rw [hIL.out]; exact HILb.out.1)
  rw [hIL.out] at cz1 ⊢
  clear he Rb k4 g4 h4
  have HGZ := hid gz3
  have HB3 := hid B3
  have HZC := hid cz2
  have HCB := hid cb2
  have NB3 := hid nb3
  have C0 := hid hz0
  have C1 := hid hz1
  have C7 := hid hz7
  clear gz3 B3 cz2 cb2 nb3
  go_loopw [19] (fun i wr => ∃ (k : Nat) (lz : List UInt8), k ≤ 3 ∧ i = .int .i64 (k : Int) ∧ Hid (lz.length = IL) ∧ OwnZ wr gz lz ∧ Below w3.heap.size w3 wr) (fun i _ => 3 - (intOf i).toNat)
  case atStart => exact ⟨0, _, by omega, rfl, hIL, oz, B4⟩
  case round =>
    obtain ⟨k, lz, hk3, rfl, HLZ, hO, hB⟩ := hrel
    clear oz B4
    have Bw : Below w.heap.size w wr := HB3.out.trans (hB.mono HB3.out.size)
    by_cases hall : k < n4 ∧ k < n5 ∧ k < 3
    · obtain ⟨y4, y5, y3⟩ := hall
      have d3 : (k : Int) < 3 := by omega
      have d4 : (k : Int) < (n4 : Int) := by omega
      have d5 : (k : Int) < (n5 : Int) := by omega
      go_upto_region 10 with (fail)
      obtain ⟨p4, q4, rfl, hp4, hq4⟩ := hr4.2.2 (by omega)
      obtain ⟨p5, q5, rfl, hp5, hq5⟩ := hr5.at (by omega)
      obtain ⟨xb, hxb⟩ : ∃ x, l5[k]? = some x := ⟨_, List.getElem?_eq_getElem (by omega)⟩
      have HBD := hid (hr4.2.1 k)
      obtain ⟨J, hJ⟩ : ∃ J : Nat, Hid (x4 k % (IL : Int) = (J : Int)) := ⟨(x4 k % (IL : Int)).toNat, hid (by have := Int.emod_nonneg (x4 k) (show (IL : Int) ≠ 0 by have := HILb.out; omega); omega)⟩
      have hJl : J < IL := by have := Int.emod_lt_of_pos (x4 k) (show (0 : Int) < (IL : Int) by have := HILb.out; omega); have := hJ.out; omega
      obtain ⟨yz, hyz⟩ : ∃ x, lz[J]? = some x := ⟨_, List.getElem?_eq_getElem (by rw [HLZ.out]; exact hJl)⟩
      obtain ⟨S, hS⟩ : ∃ S : Int, Hid (IntKind.u8.wrap ((yz.toNat : Int) + (xb.toNat : Int)) = S) := ⟨_, hid rfl⟩
      have hSv : Hid ((.int .u8 S : Value) = bv (UInt8.ofNat S.toNat)) := hid (by
        have h := hS.out
        rw [IntKind.wrap_u8] at h
        unfold bv
        rw [show (UInt8.ofNat S.toNat).toNat = S.toNat by simp; omega, Int.toNat_of_nonneg (by omega)])
      have c4 : wr.cell? ⟨p4, q4 + k, none⟩ = some (.int .i64 (x4 k)) := by rw [Bw.cell (p := ⟨p4, q4 + k, none⟩) (by exact hp4)]; exact hq4 k y4
      have c5 : wr.cell? ⟨p5, q5 + k, none⟩ = some (.int .u8 (xb.toNat : Int)) := by rw [Bw.cell (p := ⟨p5, q5 + k, none⟩) (by exact hp5)]; exact hq5 k xb hxb
      have P4 : p4 < wr.heap.size := Nat.lt_of_lt_of_le hp4 Bw.size
      have P5 : p5 < wr.heap.size := Nat.lt_of_lt_of_le hp5 Bw.size
      refine wp_region_stT [StK.eq (.slice (some ⟨gz, 0, none⟩) IL cz), StK.eq (.slice (some ⟨p4, q4, none⟩) n4 cap4), StK.eq (.int .i64 (k : Int)), StK.eq (.pointer (some ⟨p4, q4 + k, none⟩)), StK.eq (.int .i64 (x4 k)), StK.eq (.slice (some ⟨gz, 0, none⟩) IL cz), StK.eq (.int .i64 (IL : Int)), StK.eq (.int .i64 (J : Int)), StK.eq (.pointer (some ⟨gz, J, none⟩)), StK.eq (.int .u8 (yz.toNat : Int)), StK.eq (.slice (some ⟨p5, q5, none⟩) n5 cap5), StK.eq (.int .i64 (k : Int)), StK.eq (.pointer (some ⟨p5, q5 + k, none⟩)), StK.eq (.int .u8 (xb.toNat : Int)), StK.eq (.int .u8 S), StK.eq (.pointer (some ⟨gz, J, none⟩))] 16 165 rfl (by kernel_rfl) (by kernel_rfl) ⟨?_, ?_, ?_, ?_, ?_, ?_, ?_, ?_, ?_, ?_, ?_, ?_, ?_, ?_, ?_, ?_, trivial⟩ ?_
      · intro a w hb hd
        have e18 : a.eval (.tmp 18) = .slice (some ⟨gz, 0, none⟩) IL cz := hd 18 (by decide)
        exact hop_runK (F := (StK.eq (.slice (some ⟨gz, 0, none⟩) IL cz)).F) (wanted_none rfl) _ (run_mv _ (.inl rfl) e18) rfl
      · intro a w hb hd
        have e4 : a.eval (.tmp 4) = .slice (some ⟨p4, q4, none⟩) n4 cap4 := hd 4 (by decide)
        exact hop_runK (F := (StK.eq (.slice (some ⟨p4, q4, none⟩) n4 cap4)).F) (wanted_none rfl) _ (run_mv _ (.inl rfl) e4) rfl
      · intro a w hb hd
        have e19 : a.eval (.tmp 19) = .int .i64 (k : Int) := hd 19 (by decide)
        exact hop_runK (F := (StK.eq (.int .i64 (k : Int))).F) (wanted_none rfl) _ (run_mv _ (.inl rfl) e19) rfl
      · intro a w hb hd
        have e75 : a.eval (.tmp 75) = .slice (some ⟨p4, q4, none⟩) n4 cap4 := hd 75 (by decide)
        have e76 : a.eval (.tmp 76) = .int .i64 (k : Int) := hd 76 (by decide)
        exact hop_runK (F := (StK.eq (.pointer (some ⟨p4, q4 + k, none⟩))).F) (wanted_none rfl) _ (run_ixI _ _ rfl e75 e76 rfl y4) rfl
      · intro a w hb hd
        have e77 : a.eval (.tmp 77) = .pointer (some ⟨p4, q4 + k, none⟩) := hd 77 (by decide)
        exact hop_runK (F := (StK.eq (.int .i64 (x4 k))).F) (wanted_none rfl) _ (run_ldCell _ _ rfl e77 Try.underlying3 rfl (by rw [hb.cell (p := ⟨p4, q4 + k, none⟩) P4]; exact c4)) rfl
      · intro a w hb hd
        have e18 : a.eval (.tmp 18) = .slice (some ⟨gz, 0, none⟩) IL cz := hd 18 (by decide)
        exact hop_runK (F := (StK.eq (.slice (some ⟨gz, 0, none⟩) IL cz)).F) (wanted_none rfl) _ (run_mv _ (.inl rfl) e18) rfl
      · intro a w hb hd
        have e79 : a.eval (.tmp 79) = .slice (some ⟨gz, 0, none⟩) IL cz := hd 79 (by decide)
        exact hop_runK (F := (StK.eq (.int .i64 (IL : Int))).F) (wanted_none rfl) _ (run_ln _ _ rfl e79 Try.underlying23) rfl
      · intro a w hb hd
        have e78 : a.eval (.tmp 78) = .int .i64 (x4 k) := hd 78 (by decide)
        have e80 : a.eval (.tmp 80) = .int .i64 (IL : Int) := hd 80 (by decide)
        exact hop_callK (F := (StK.eq (.int .i64 (J : Int))).F) (wanted_none rfl) hb.size rfl #[a.eval (.tmp 78), a.eval (.tmp 80)] (by first | (simp only [List.map_toArray, List.map_cons, List.map_nil]; done) | (simp only [List.map_toArray, List.map_cons, List.map_nil]; rfl)) (enters_of Try.func18 (by kernel_rfl) rfl) (by rw [e78]; rw [e80]; exact call_eq (within_eq hJ.out (by have := HILb.out; omega) (by have := HILb.out; omega) HBD.out.1 HBD.out.2 w))
      · intro a w hb hd
        have e74 : a.eval (.tmp 74) = .slice (some ⟨gz, 0, none⟩) IL cz := hd 74 (by decide)
        have e81 : a.eval (.tmp 81) = .int .i64 (J : Int) := hd 81 (by decide)
        exact hop_runK (F := (StK.eq (.pointer (some ⟨gz, J, none⟩))).F) (wanted_none rfl) _ (run_ixB0 _ _ rfl e74 e81 rfl hJl) rfl
      · intro a w hb hd
        have e82 : a.eval (.tmp 82) = .pointer (some ⟨gz, J, none⟩) := hd 82 (by decide)
        exact hop_runK (F := (StK.eq (.int .u8 (yz.toNat : Int))).F) (wanted_none rfl) _ (run_ldCell _ _ rfl e82 Try.underlying5 rfl ((hO.step hb).2.2 J yz hyz)) rfl
      · intro a w hb hd
        have e5 : a.eval (.tmp 5) = .slice (some ⟨p5, q5, none⟩) n5 cap5 := hd 5 (by decide)
        exact hop_runK (F := (StK.eq (.slice (some ⟨p5, q5, none⟩) n5 cap5)).F) (wanted_none rfl) _ (run_mv _ (.inl rfl) e5) rfl
      · intro a w hb hd
        have e19 : a.eval (.tmp 19) = .int .i64 (k : Int) := hd 19 (by decide)
        exact hop_runK (F := (StK.eq (.int .i64 (k : Int))).F) (wanted_none rfl) _ (run_mv _ (.inl rfl) e19) rfl
      · intro a w hb hd
        have e84 : a.eval (.tmp 84) = .slice (some ⟨p5, q5, none⟩) n5 cap5 := hd 84 (by decide)
        have e85 : a.eval (.tmp 85) = .int .i64 (k : Int) := hd 85 (by decide)
        exact hop_runK (F := (StK.eq (.pointer (some ⟨p5, q5 + k, none⟩))).F) (wanted_none rfl) _ (run_ixB _ _ rfl e84 e85 rfl y5) rfl
      · intro a w hb hd
        have e86 : a.eval (.tmp 86) = .pointer (some ⟨p5, q5 + k, none⟩) := hd 86 (by decide)
        exact hop_runK (F := (StK.eq (.int .u8 (xb.toNat : Int))).F) (wanted_none rfl) _ (run_ldCell _ _ rfl e86 Try.underlying5 rfl (by rw [hb.cell (p := ⟨p5, q5 + k, none⟩) P5]; exact c5)) rfl
      · intro a w hb hd
        have e83 : a.eval (.tmp 83) = .int .u8 (yz.toNat : Int) := hd 83 (by decide)
        have e87 : a.eval (.tmp 87) = .int .u8 (xb.toNat : Int) := hd 87 (by decide)
        exact hop_runK (F := (StK.eq (.int .u8 S)).F) (wanted_none rfl) _ (run_add8 _ _ rfl e83 e87 hS.out) rfl
      · intro a w hb hd
        have e74 : a.eval (.tmp 74) = .slice (some ⟨gz, 0, none⟩) IL cz := hd 74 (by decide)
        have e81 : a.eval (.tmp 81) = .int .i64 (J : Int) := hd 81 (by decide)
        exact hop_runK (F := (StK.eq (.pointer (some ⟨gz, J, none⟩))).F) (wanted_none rfl) _ (run_ixB0 _ _ rfl e74 e81 rfl hJl) rfl
      intro pw6 w6 bw6 hp
      obtain ⟨-, -, -, -, -, -, -, -, -, -, -, -, -, -, q14, q15, -⟩ := hp
      have e14 : pw6 14 = .int .u8 S := q14 (by decide)
      have e15 : pw6 15 = .pointer (some ⟨gz, J, none⟩) := q15 (by decide)
      simp only [List.take_succ_cons, List.take_zero, List.drop_succ_cons, List.drop_zero, layAll, Act.put, List.setIfInBounds_toArray, List.set_cons_zero, List.set_cons_succ, Nat.zero_add, Nat.reduceAdd, e14, e15]
      clear q14 e14 q15 e15
      have hO6 := hO.step bw6
      have B6 := hB.trans (bw6.mono hB.size)
      have cz6 := hO6.2.2 J yz hyz
      have fz6 := hO6.2.1 J
      unfold bv at cz6
      have hO7 := hO6.set (k := J) (by rw [HLZ.out]; exact hJl) (UInt8.ofNat S.toNat) hSv.out
      have B7 := B6.setCell (p := ⟨gz, J, none⟩) HGZ.out (.int .u8 S)
      clear hO6 B6 bw6 hO hB c4 c5 hq4 hq5
      go_wp2
      go_roundw
      case rel => exact ⟨k + 1, _, by omega, by go_num, hid (by rw [List.length_set]; exact HLZ.out), hO7, B7⟩
      case measure => simp [intOf]; omega
    · have hlk : ¬ (k : Int) < (n4 : Int) ∨ ((k : Int) < (n4 : Int) ∧ ¬ (k : Int) < (n5 : Int)) ∨ ((k : Int) < (n4 : Int) ∧ (k : Int) < (n5 : Int) ∧ ¬ (k : Int) < 3) := by omega
      have Rbr := Rb3.below hB (Nat.le_refl _)
      have j0 := (hr0.below Bw (Nat.le_refl _)).isB' hn0 hc0 hm0 C0.out
      have j1 := (hr1.below Bw (Nat.le_refl _)).isB' hn1 hc1 hm1 C1.out
      have j7 := (hr7.below Bw (Nat.le_refl _)).isB' hn7 hc7 hm7 C7.out
      obtain ⟨CT, hCT⟩ : ∃ J : Nat, Hid (a6 % ((IL : Int) + 1) = (J : Int)) := ⟨(a6 % ((IL : Int) + 1)).toNat, hid (by have := Int.emod_nonneg a6 (show (IL : Int) + 1 ≠ 0 by omega); omega)⟩
      have hCT2 : CT ≤ IL := by have := Int.emod_lt_of_pos a6 (show (0 : Int) < (IL : Int) + 1 by omega); have := hCT.out; omega
      have HWR := hid hB
      have BW := hid Bw
      clear hall hB Bw
      rcases hlk with hd | ⟨hd1, hd⟩ | ⟨hd1, hd2, hd⟩
      all_goals
        go_upto_region 11 with (fail)
        clear hd
        try clear hd1
        try clear hd2
        refine wp_region_stD [St.eq (.slice (some ⟨gz, 0, none⟩) IL cz), St.eq (.slice Ab IL cb), St.eq (.int .i64 a6), St.eq (.slice Ab IL cb), St.eq (.int .i64 (IL : Int)), St.eq (.int .i64 ((IL : Int) + 1)), St.eq (.int .i64 (CT : Int)), St.eq (.slice Ab CT cb), St.eq (.slice A7 n7 cap7), St.nil0 wr.heap.size, St.eq (.slice Ab IL cb), St.own wr.heap.size (issueN l0 nm [N0, N1, N2, N3]), St.lit1 [0], St.own wr.heap.size (issueN l0 nm [N0, N1, N2, N3] ++ [0]), St.row 23 (fun w c => ∃ v3, c = #[.slice (some ⟨gz, 0, none⟩) IL cz, .slice Ab CT cb, .slice A7 n7 cap7, v3, .slice none 0 0] ∧ IsB w (issueN l0 nm [N0, N1, N2, N3] ++ [0]) v3) (fun w w9 c hb ⟨v3, h1, h2⟩ => ⟨v3, h1, h2.step hb⟩), St.row 23 (fun w c => ∃ v3, c = #[.slice (some ⟨gz, 0, none⟩) IL cz, .slice Ab CT cb, .slice A7 n7 cap7, v3, .slice none 0 0] ∧ IsB w (issueN l0 nm [N0, N1, N2, N3] ++ [0]) v3) (fun w w9 c hb ⟨v3, h1, h2⟩ => ⟨v3, h1, h2.step hb⟩)] 16 165 (fun j => match j with | 9 => some 11 | 11 => some 13 | 12 => some 13 | _ => none) (fun j => j == 11 || j == 13) (fun k j => (k == 11 && (j == 11 || j == 9 || j == 13 || j == 14 || j == 15)) || (k == 13 && (j == 13 || j == 11 || j == 12 || j == 14 || j == 15))) rfl (by kernel_rfl) (by kernel_rfl) (by kernel_rfl) (by kernel_rfl) ⟨?_, ?_, ?_, ?_, ?_, ?_, ?_, ?_, ?_, ?_, ?_, ?_, ?_, ?_, ?_, ?_, trivial⟩ ?_
        · intro a w hb hd
          have e18 : a.eval (.tmp 18) = .slice (some ⟨gz, 0, none⟩) IL cz := hd 18 (by decide)
          exact hop_run (F := (St.eq (.slice (some ⟨gz, 0, none⟩) IL cz)).F) (wanted_none rfl) _ (run_mv _ (.inl rfl) e18) rfl
        · intro a w hb hd
          have e17 : a.eval (.tmp 17) = .slice Ab IL cb := hd 17 (by decide)
          exact hop_run (F := (St.eq (.slice Ab IL cb)).F) (wanted_none rfl) _ (run_mv _ (.inl rfl) e17) rfl
        · intro a w hb hd
          have e6 : a.eval (.tmp 6) = .int .i64 a6 := hd 6 (by decide)
          exact hop_run (F := (St.eq (.int .i64 a6)).F) (wanted_none rfl) _ (run_mv _ (.inl rfl) e6) rfl
        · intro a w hb hd
          have e17 : a.eval (.tmp 17) = .slice Ab IL cb := hd 17 (by decide)
          exact hop_run (F := (St.eq (.slice Ab IL cb)).F) (wanted_none rfl) _ (run_mv _ (.inl rfl) e17) rfl
        · intro a w hb hd
          have e93 : a.eval (.tmp 93) = .slice Ab IL cb := hd 93 (by decide)
          exact hop_run (F := (St.eq (.int .i64 (IL : Int))).F) (wanted_none rfl) _ (run_ln _ _ rfl e93 Try.underlying23) rfl
        · intro a w hb hd
          have e94 : a.eval (.tmp 94) = .int .i64 (IL : Int) := hd 94 (by decide)
          exact hop_run (F := (St.eq (.int .i64 ((IL : Int) + 1))).F) (wanted_none rfl) _ (run_addI _ _ rfl e94 rfl rfl (by omega) (by have := HILb.out; omega)) rfl
        · intro a w hb hd
          have e92 : a.eval (.tmp 92) = .int .i64 a6 := hd 92 (by decide)
          have e95 : a.eval (.tmp 95) = .int .i64 ((IL : Int) + 1) := hd 95 (by decide)
          exact hop_call (F := (St.eq (.int .i64 (CT : Int))).F) (wanted_none rfl) rfl #[a.eval (.tmp 92), a.eval (.tmp 95)] (by first | (simp only [List.map_toArray, List.map_cons, List.map_nil]; done) | (simp only [List.map_toArray, List.map_cons, List.map_nil]; rfl)) (enters_of Try.func18 (by kernel_rfl) rfl) (by rw [e92]; rw [e95]; exact call_eq (within_eq hCT.out (by omega) (by have := HILb.out; omega) hk6 hl6 w))
        · intro a w hb hd
          have e91 : a.eval (.tmp 91) = .slice Ab IL cb := hd 91 (by decide)
          have e96 : a.eval (.tmp 96) = .int .i64 (CT : Int) := hd 96 (by decide)
          exact hop_run (F := (St.eq (.slice Ab CT cb)).F) (wanted_none rfl) _ (run_slToE _ _ rfl e91 e96 (by omega)) rfl
        · intro a w hb hd
          have e7 : a.eval (.tmp 7) = .slice A7 n7 cap7 := hd 7 (by decide)
          exact hop_run (F := (St.eq (.slice A7 n7 cap7)).F) (wanted_none rfl) _ (run_mv _ (.inl rfl) e7) rfl
        · intro a w hb hd
          exact hop_nil0 (wanted_none rfl) hb.size rfl
        · intro a w hb hd
          have e17 : a.eval (.tmp 17) = .slice Ab IL cb := hd 17 (by decide)
          exact hop_run (F := (St.eq (.slice Ab IL cb)).F) (wanted_none rfl) _ (run_mv _ (.inl rfl) e17) rfl
        · intro a w hb hd
          have e99 : (St.nil0 wr.heap.size).F w (a.eval (.tmp 99)) := hd 99 (by decide)
          have e100 : a.eval (.tmp 100) = .slice Ab IL cb := hd 100 (by decide)
          refine hop_appD (Y := stY _) (ex := (fun k j => (k == 11 && (j == 11 || j == 9 || j == 13 || j == 14 || j == 15)) || (k == 13 && (j == 13 || j == 11 || j == 12 || j == 14 || j == 15)))) (k := 11) rfl (.tmp 99) (.tmp 100) rfl hb.size (nil0_byt e99) (by rw [e100]; exact (Rbr.step hb).isB' hIL.out cb1 HCB.out NB3.out) (by rw [hIL.out]; have := HILb.out; simp; omega) (fun w9 hB9 hg9 j u hk h => ?_) (fun w9 v h => ?_)
          rotate_left
          · rw [List.nil_append] at h; exact h
          match j, hk, h with
            | 0, _, h => exact h
            | 1, _, h => exact h
            | 2, _, h => exact h
            | 3, _, h => exact h
            | 4, _, h => exact h
            | 5, _, h => exact h
            | 6, _, h => exact h
            | 7, _, h => exact h
            | 8, _, h => exact h
            | 10, _, h => exact h
            | 9, hk, _ => exact absurd hk (by decide)
            | 11, hk, _ => exact absurd hk (by decide)
            | 13, hk, _ => exact absurd hk (by decide)
            | 14, hk, _ => exact absurd hk (by decide)
            | 15, hk, _ => exact absurd hk (by decide)
            | 12, _, h => exact lit1_apart e99 h hg9
            | _ + 16, _, _ => exact trivial
        · intro a w hb hd
          exact hop_lit1 (wanted_none rfl) [0] (by decide) (by decide) _ rfl (by simp only [List.map_toArray, List.map_cons, List.map_nil]; kernel_rfl)
        · intro a w hb hd
          have e101 : (St.own wr.heap.size (issueN l0 nm [N0, N1, N2, N3])).F w (a.eval (.tmp 101)) := hd 101 (by decide)
          have e102 : (St.lit1 [0]).F w (a.eval (.tmp 102)) := hd 102 (by decide)
          refine hop_appD (Y := stY _) (ex := (fun k j => (k == 11 && (j == 11 || j == 9 || j == 13 || j == 14 || j == 15)) || (k == 13 && (j == 13 || j == 11 || j == 12 || j == 14 || j == 15)))) (k := 13) rfl (.tmp 101) (.tmp 102) rfl hb.size e101 (lit1_isB e102) (by rw [hIL.out]; have := HILb.out; simp; omega) (fun w9 hB9 hg9 j u hk h => ?_) (fun w9 v h => ?_)
          rotate_left
          · exact h
          match j, hk, h with
            | 0, _, h => exact h
            | 1, _, h => exact h
            | 2, _, h => exact h
            | 3, _, h => exact h
            | 4, _, h => exact h
            | 5, _, h => exact h
            | 6, _, h => exact h
            | 7, _, h => exact h
            | 8, _, h => exact h
            | 10, _, h => exact h
            | 9, _, h => exact nil0_apart e101 h hg9 (by rw [hIL.out]; exact HILb.out.1)
            | 11, hk, _ => exact absurd hk (by decide)
            | 12, hk, _ => exact absurd hk (by decide)
            | 13, hk, _ => exact absurd hk (by decide)
            | 14, hk, _ => exact absurd hk (by decide)
            | 15, hk, _ => exact absurd hk (by decide)
            | _ + 16, _, _ => exact trivial
        · intro a w hb hd
          have e90 : a.eval (.tmp 90) = .slice (some ⟨gz, 0, none⟩) IL cz := hd 90 (by decide)
          have e97 : a.eval (.tmp 97) = .slice Ab CT cb := hd 97 (by decide)
          have e98 : a.eval (.tmp 98) = .slice A7 n7 cap7 := hd 98 (by decide)
          have e103 : (St.own wr.heap.size (issueN l0 nm [N0, N1, N2, N3] ++ [0])).F w (a.eval (.tmp 103)) := hd 103 (by decide)
          have i103 := e103.isB
          obtain ⟨A9, c9, h9, -, -, -, -⟩ := id i103
          exact hop_rowD (wanted_none rfl) (n := 5) (c := #[.slice (some ⟨gz, 0, none⟩) IL cz, .slice Ab CT cb, .slice A7 n7 cap7, .slice A9 (issueN l0 nm [N0, N1, N2, N3] ++ [0]).length c9, .slice none 0 0]) (hC := fun w w9 c hb ⟨v3, h1, h2⟩ => ⟨v3, h1, h2.step hb⟩) rfl rfl (by decide) (by decide) (by simp only [List.map_toArray, List.map_cons, List.map_nil, e90, e97, e98, h9]; kernel_rfl) ⟨_, rfl, by rw [← h9]; exact i103⟩
        · intro a w hb hd
          have e104 : (St.row 23 (fun w c => ∃ v3, c = #[.slice (some ⟨gz, 0, none⟩) IL cz, .slice Ab CT cb, .slice A7 n7 cap7, v3, .slice none 0 0] ∧ IsB w (issueN l0 nm [N0, N1, N2, N3] ++ [0]) v3) (fun w w9 c hb ⟨v3, h1, h2⟩ => ⟨v3, h1, h2.step hb⟩)).F w (a.eval (.tmp 104)) := hd 104 (by decide)
          exact hop_run (F := (St.row 23 (fun w c => ∃ v3, c = #[.slice (some ⟨gz, 0, none⟩) IL cz, .slice Ab CT cb, .slice A7 n7 cap7, v3, .slice none 0 0] ∧ IsB w (issueN l0 nm [N0, N1, N2, N3] ++ [0]) v3) (fun w w9 c hb ⟨v3, h1, h2⟩ => ⟨v3, h1, h2.step hb⟩)).F) (wanted_none rfl) _ (run_mv _ (.inr rfl) rfl) e104
        intro pw8 w8 bw8 hp
        obtain ⟨-, -, -, -, -, -, -, -, -, -, -, -, -, -, -, q15, -⟩ := hp
        have f20 : (St.row 23 (fun w c => ∃ v3, c = #[.slice (some ⟨gz, 0, none⟩) IL cz, .slice Ab CT cb, .slice A7 n7 cap7, v3, .slice none 0 0] ∧ IsB w (issueN l0 nm [N0, N1, N2, N3] ++ [0]) v3) (fun w w9 c hb ⟨v3, h1, h2⟩ => ⟨v3, h1, h2.step hb⟩)).F w8 (pw8 15) := q15 (by decide) rfl
        simp only [List.take_succ_cons, List.take_zero, List.drop_succ_cons, List.drop_zero, layAll, Act.put, List.setIfInBounds_toArray, List.set_cons_zero, List.set_cons_succ, Nat.zero_add, Nat.reduceAdd]
        clear q15
        generalize pw8 15 = v20 at *
        obtain ⟨P, c, rfl, hP, v3, rfl, i3⟩ := f20
        have S8 := BW.out.trans (bw8.mono BW.out.size)
        have u0 := j0.step bw8
        have u1 := j1.step bw8
        have HR : Hid (∀ q, q < 5 → ∃ v l, (#[.slice (some ⟨gz, 0, none⟩) IL cz, .slice Ab CT cb, .slice A7 n7 cap7, v3, .slice none 0 0] : Array Value)[q]? = some v ∧ IsB w8 l v ∧ l.length ≤ 1000) := hid (fun q hq => by
          have h80 := HILb.out
          have hq : q = 0 ∨ q = 1 ∨ q = 2 ∨ q = 3 ∨ q = 4 := by omega
          rcases hq with rfl | rfl | rfl | rfl | rfl
          · exact ⟨_, lz, rfl, ((hO.step bw8).rd).isB' HLZ.out cz1 HZC.out (fun h => by cases h), by rw [HLZ.out]; omega⟩
          · exact ⟨_, (issueN l0 nm [N0, N1, N2, N3]).take CT, rfl, ((Rbr.step bw8).take CT).isB' (by rw [List.length_take, hIL.out]; omega) (by omega) HCB.out NB3.out, by rw [List.length_take, hIL.out]; omega⟩
          · exact ⟨_, l7, rfl, j7.step bw8, by omega⟩
          · exact ⟨_, _, rfl, i3, by rw [List.length_append, hIL.out]; simp; omega⟩
          · exact ⟨_, [], rfl, IsB.nil w8, by simp⟩)
        have hP8 : P < w8.heap.size := hP.lt
        have HK0 : Hid (l0.length ≤ 2000) := hid (by omega)
        have HK1 : Hid (l1.length ≤ 2000) := hid (by omega)
        generalize hcc : (#[.slice (some ⟨gz, 0, none⟩) IL cz, .slice Ab CT cb, .slice A7 n7 cap7, v3, .slice none 0 0] : Array Value) = cc at hP HR
        have hsz : cc.size = 5 := by rw [← hcc]; rfl
        rw [hsz]
        clear hcc hsz i3 bw8 hO Rbr j0 j1 j7 BW HWR
        go_wp2_with fail
        go_loopw [21] (fun i wq => ∃ q : Nat, q ≤ 5 ∧ i = .int .i64 (q : Int) ∧ Below w8.heap.size w8 wq) (fun i _ => 5 - (intOf i).toNat)
        case atStart => exact ⟨0, by omega, rfl, Below.refl _ _⟩
        case round =>
          obtain ⟨q, hq5, rfl, hBq⟩ := hrel
          by_cases hlt : q < 5
          · obtain ⟨v, l, hcv, hiv, hl⟩ := HR.out q hlt
            obtain ⟨s, r1, r2, r3, r4, ok, -, G1, G2⟩ := reads_pack l0 l HK0.out hl
            obtain ⟨s', r1', r2', r3', r4', ok', -, G3, G4⟩ := reads_pack l1 l HK1.out hl
            have pq := hP.step hBq
            have kq := pq.cell hcv
            have t0 := u0.step hBq
            have t1 := u1.step hBq
            have t2 := hiv.step hBq
            have HCV := hid hcv
            have dq : (q : Int) < 5 := by omega
            clear hcv hiv hl HR
            go_wp2_with fail
            refine (G1.out _ _ _ t0 t2).mono ?_
            rintro e wa0 ⟨rfl, ba0⟩
            have za0 := Blk.new wa0 41 (tokA4 ⟨#[]⟩ 0 0 0 0)
            replace pq := pq.step ba0
            replace t0 := t0.step ba0
            replace t1 := t1.step ba0
            replace t2 := t2.step ba0
            replace hBq := hBq.trans (ba0.mono hBq.size)
            clear ba0 kq
            go_wp2_with (refine wpList_store_blk rfl _ (.tmp 22) _ rfl _ rfl _ rfl (by simp [tokA4, Value.oneCell']) _ za0 rfl size_tok ?_; intro wb0 gb0 c22; replace pq := pq.step (step_new gb0); replace t0 := t0.step (step_new gb0); replace t1 := t1.step (step_new gb0); replace t2 := t2.step (step_new gb0); replace hBq := hBq.trans ((step_new gb0).mono hBq.size); have kq := pq.cell HCV.out; clear gb0 za0)
            refine (G2.out _ _ _ t0 t2).mono ?_
            rintro e wa1 ⟨rfl, ba1⟩
            have za1 := Blk.new wa1 41 (tokA4 ⟨#[]⟩ 0 0 0 0)
            replace pq := pq.step ba1
            replace t0 := t0.step ba1
            replace t1 := t1.step ba1
            replace t2 := t2.step ba1
            replace c22 := c22.step ba1
            replace hBq := hBq.trans (ba1.mono hBq.size)
            clear ba1 kq
            go_wp2_with (refine wpList_store_blk rfl _ (.tmp 24) _ rfl _ rfl _ rfl (by simp [tokA4, Value.oneCell']) _ za1 rfl size_tok ?_; intro wb1 gb1 c24; replace pq := pq.step (step_new gb1); replace t0 := t0.step (step_new gb1); replace t1 := t1.step (step_new gb1); replace t2 := t2.step (step_new gb1); replace c22 := c22.step (step_new gb1); replace hBq := hBq.trans ((step_new gb1).mono hBq.size); have kq := pq.cell HCV.out; clear gb1 za1)
            refine (G3.out _ _ _ t1 t2).mono ?_
            rintro e wa2 ⟨rfl, ba2⟩
            have za2 := Blk.new wa2 41 (tokA4 ⟨#[]⟩ 0 0 0 0)
            replace pq := pq.step ba2
            replace t0 := t0.step ba2
            replace t1 := t1.step ba2
            replace t2 := t2.step ba2
            replace c22 := c22.step ba2
            replace c24 := c24.step ba2
            replace hBq := hBq.trans (ba2.mono hBq.size)
            clear ba2 kq
            go_wp2_with (refine wpList_store_blk rfl _ (.tmp 26) _ rfl _ rfl _ rfl (by simp [tokA4, Value.oneCell']) _ za2 rfl size_tok ?_; intro wb2 gb2 c26; replace pq := pq.step (step_new gb2); replace t0 := t0.step (step_new gb2); replace t1 := t1.step (step_new gb2); replace t2 := t2.step (step_new gb2); replace c22 := c22.step (step_new gb2); replace c24 := c24.step (step_new gb2); replace hBq := hBq.trans ((step_new gb2).mono hBq.size); have kq := pq.cell HCV.out; clear gb2 za2)
            refine (G4.out _ _ _ t1 t2).mono ?_
            rintro e wa3 ⟨rfl, ba3⟩
            have za3 := Blk.new wa3 41 (tokA4 ⟨#[]⟩ 0 0 0 0)
            replace pq := pq.step ba3
            replace t0 := t0.step ba3
            replace t1 := t1.step ba3
            replace t2 := t2.step ba3
            replace c22 := c22.step ba3
            replace c24 := c24.step ba3
            replace c26 := c26.step ba3
            replace hBq := hBq.trans (ba3.mono hBq.size)
            clear ba3 kq
            go_upto_region 19 with (refine wpList_store_blk rfl _ (.tmp 28) _ rfl _ rfl _ rfl (by simp [tokA4, Value.oneCell']) _ za3 rfl size_tok ?_; intro wb3 gb3 c28; replace pq := pq.step (step_new gb3); replace t0 := t0.step (step_new gb3); replace t1 := t1.step (step_new gb3); replace t2 := t2.step (step_new gb3); replace c22 := c22.step (step_new gb3); replace c24 := c24.step (step_new gb3); replace c26 := c26.step (step_new gb3); replace hBq := hBq.trans ((step_new gb3).mono hBq.size); have kq := pq.cell HCV.out; clear gb3 za3)
            obtain ⟨g22, hg22⟩ : ∃ g, g = wa0.heap.size := ⟨_, rfl⟩
            rw [← hg22] at c22 ⊢
            clear hg22
            obtain ⟨g24, hg24⟩ : ∃ g, g = wa1.heap.size := ⟨_, rfl⟩
            rw [← hg24] at c24 ⊢
            clear hg24
            obtain ⟨g26, hg26⟩ : ∃ g, g = wa2.heap.size := ⟨_, rfl⟩
            rw [← hg26] at c26 ⊢
            clear hg26
            obtain ⟨g28, hg28⟩ : ∃ g, g = wa3.heap.size := ⟨_, rfl⟩
            rw [← hg28] at c28 ⊢
            clear hg28
            clear pq t0 t1 t2 kq
            refine wp_region_stU [StK.eq (.bool ok), StK.eq (.bool ok), StK.eq (.bool false), StK.eq (.bool false), StK.eq (.agg #[.string s, .int .i64 r1, .int .i64 r2, .int .i64 r3, .int .i64 r4]), StK.eq (.agg #[.string s, .int .i64 r1, .int .i64 r2, .int .i64 r3, .int .i64 r4]), StK.eq (.bool false), StK.eq (.bool false), StK.eq (.bool false), StK.eq (.bool ok'), StK.eq (.bool ok'), StK.eq (.bool false), StK.eq (.bool false), StK.eq (.bool false), StK.eq (.agg #[.string s', .int .i64 r1', .int .i64 r2', .int .i64 r3', .int .i64 r4']), StK.eq (.agg #[.string s', .int .i64 r1', .int .i64 r2', .int .i64 r3', .int .i64 r4']), StK.eq (.bool false), StK.eq (.bool false)] 18 165 rfl (by kernel_rfl) (by decide) ⟨?_, ?_, ?_, ?_, ?_, ?_, ?_, ?_, ?_, ?_, ?_, ?_, ?_, ?_, ?_, ?_, ?_, ?_, trivial⟩ ?_
            · intro a w hb hd
              have e23 : a.eval (.tmp 23) = .bool ok := hd 23 (by decide)
              exact hop_runK (F := (StK.eq (.bool ok)).F) (wanted_none rfl) _ (run_mv _ (.inl rfl) e23) rfl
            · intro a w hb hd
              have e25 : a.eval (.tmp 25) = .bool ok := hd 25 (by decide)
              exact hop_runK (F := (StK.eq (.bool ok)).F) (wanted_none rfl) _ (run_mv _ (.inl rfl) e25) rfl
            · intro a w hb hd
              have e147 : a.eval (.tmp 147) = .bool ok := hd 147 (by decide)
              have e148 : a.eval (.tmp 148) = .bool ok := hd 148 (by decide)
              exact hop_runK (F := (StK.eq (.bool false)).F) (wanted_none rfl) _ (run_neBool _ _ rfl e147 e148 (by cases ok <;> rfl)) rfl
            · intro a w hb hd
              have e149 : a.eval (.tmp 149) = .bool false := hd 149 (by decide)
              exact hop_runK (F := (StK.eq (.bool false)).F) (wanted_none rfl) _ (run_mv _ (.inl rfl) e149) rfl
            · intro a w hb hd
              have eg : a.eval (.tmp 150) = .bool false := hd 150 (by decide)
              have e22 : a.eval (.tmp 22) = .pointer (some ⟨g22, 0, none⟩) := hd 22 (by decide)
              exact hop_runK (F := (StK.eq (.agg #[.string s, .int .i64 r1, .int .i64 r2, .int .i64 r3, .int .i64 r4])).F) (wanted_yes rfl rfl rfl eg) _ (run_ldAll _ _ rfl e22 (c22.step hb) Try.underlying41 rfl (by kernel_rfl)) rfl
            · intro a w hb hd
              have eg : a.eval (.tmp 150) = .bool false := hd 150 (by decide)
              have e24 : a.eval (.tmp 24) = .pointer (some ⟨g24, 0, none⟩) := hd 24 (by decide)
              exact hop_runK (F := (StK.eq (.agg #[.string s, .int .i64 r1, .int .i64 r2, .int .i64 r3, .int .i64 r4])).F) (wanted_yes rfl rfl rfl eg) _ (run_ldAll _ _ rfl e24 (c24.step hb) Try.underlying41 rfl (by kernel_rfl)) rfl
            · intro a w hb hd
              have eg : a.eval (.tmp 150) = .bool false := hd 150 (by decide)
              have e151 : a.eval (.tmp 151) = .agg #[.string s, .int .i64 r1, .int .i64 r2, .int .i64 r3, .int .i64 r4] := hd 151 (by decide)
              have e152 : a.eval (.tmp 152) = .agg #[.string s, .int .i64 r1, .int .i64 r2, .int .i64 r3, .int .i64 r4] := hd 152 (by decide)
              exact hop_runK (F := (StK.eq (.bool false)).F) (wanted_yes rfl rfl rfl eg) _ (run_neTok _ _ rfl e151 e152) rfl
            · intro a w hb hd
              have e150 : a.eval (.tmp 150) = .bool false := hd 150 (by decide)
              have e153 : a.eval (.tmp 153) = .bool false := hd 153 (by decide)
              exact hop_runK (F := (StK.eq (.bool false)).F) (wanted_none rfl) (.bool false) (run_pick_f rfl e150 e153) rfl
            · intro a w hb hd
              have e154 : a.eval (.tmp 154) = .bool false := hd 154 (by decide)
              exact hop_runK (F := (StK.eq (.bool false)).F) (wanted_none rfl) _ (run_mv _ (.inl rfl) e154) rfl
            · intro a w hb hd
              have eg : a.eval (.tmp 155) = .bool false := hd 155 (by decide)
              have e27 : a.eval (.tmp 27) = .bool ok' := hd 27 (by decide)
              exact hop_runK (F := (StK.eq (.bool ok')).F) (wanted_yes rfl rfl rfl eg) _ (run_mv _ (.inl rfl) e27) rfl
            · intro a w hb hd
              have eg : a.eval (.tmp 155) = .bool false := hd 155 (by decide)
              have e29 : a.eval (.tmp 29) = .bool ok' := hd 29 (by decide)
              exact hop_runK (F := (StK.eq (.bool ok')).F) (wanted_yes rfl rfl rfl eg) _ (run_mv _ (.inl rfl) e29) rfl
            · intro a w hb hd
              have eg : a.eval (.tmp 155) = .bool false := hd 155 (by decide)
              have e156 : a.eval (.tmp 156) = .bool ok' := hd 156 (by decide)
              have e157 : a.eval (.tmp 157) = .bool ok' := hd 157 (by decide)
              exact hop_runK (F := (StK.eq (.bool false)).F) (wanted_yes rfl rfl rfl eg) _ (run_neBool _ _ rfl e156 e157 (by cases ok' <;> rfl)) rfl
            · intro a w hb hd
              have e155 : a.eval (.tmp 155) = .bool false := hd 155 (by decide)
              have e158 : a.eval (.tmp 158) = .bool false := hd 158 (by decide)
              exact hop_runK (F := (StK.eq (.bool false)).F) (wanted_none rfl) (.bool false) (run_pick_f rfl e155 e158) rfl
            · intro a w hb hd
              have e159 : a.eval (.tmp 159) = .bool false := hd 159 (by decide)
              exact hop_runK (F := (StK.eq (.bool false)).F) (wanted_none rfl) _ (run_mv _ (.inl rfl) e159) rfl
            · intro a w hb hd
              have eg : a.eval (.tmp 160) = .bool false := hd 160 (by decide)
              have e26 : a.eval (.tmp 26) = .pointer (some ⟨g26, 0, none⟩) := hd 26 (by decide)
              exact hop_runK (F := (StK.eq (.agg #[.string s', .int .i64 r1', .int .i64 r2', .int .i64 r3', .int .i64 r4'])).F) (wanted_yes rfl rfl rfl eg) _ (run_ldAll _ _ rfl e26 (c26.step hb) Try.underlying41 rfl (by kernel_rfl)) rfl
            · intro a w hb hd
              have eg : a.eval (.tmp 160) = .bool false := hd 160 (by decide)
              have e28 : a.eval (.tmp 28) = .pointer (some ⟨g28, 0, none⟩) := hd 28 (by decide)
              exact hop_runK (F := (StK.eq (.agg #[.string s', .int .i64 r1', .int .i64 r2', .int .i64 r3', .int .i64 r4'])).F) (wanted_yes rfl rfl rfl eg) _ (run_ldAll _ _ rfl e28 (c28.step hb) Try.underlying41 rfl (by kernel_rfl)) rfl
            · intro a w hb hd
              have eg : a.eval (.tmp 160) = .bool false := hd 160 (by decide)
              have e161 : a.eval (.tmp 161) = .agg #[.string s', .int .i64 r1', .int .i64 r2', .int .i64 r3', .int .i64 r4'] := hd 161 (by decide)
              have e162 : a.eval (.tmp 162) = .agg #[.string s', .int .i64 r1', .int .i64 r2', .int .i64 r3', .int .i64 r4'] := hd 162 (by decide)
              exact hop_runK (F := (StK.eq (.bool false)).F) (wanted_yes rfl rfl rfl eg) _ (run_neTok _ _ rfl e161 e162) rfl
            · intro a w hb hd
              have e160 : a.eval (.tmp 160) = .bool false := hd 160 (by decide)
              have e163 : a.eval (.tmp 163) = .bool false := hd 163 (by decide)
              exact hop_runK (F := (StK.eq (.bool false)).F) (wanted_none rfl) (.bool false) (run_pick_f rfl e160 e163) rfl
            intro pwz wz bwz hp
            obtain ⟨-, -, -, -, -, -, -, -, -, -, -, -, -, -, -, -, -, q17, -⟩ := hp
            have e17 : pwz 17 = .bool false := q17 (by decide)
            simp only [List.take_succ_cons, List.take_zero, List.drop_succ_cons, List.drop_zero, layAll, Act.put, List.setIfInBounds_toArray, List.set_cons_zero, List.set_cons_succ, Nat.zero_add, Nat.reduceAdd, e17]
            clear q17 e17
            have hBz := hBq.trans (bwz.mono hBq.size)
            clear hBq bwz
            go_wp2
            go_roundw
            case rel => exact ⟨q + 1, by omega, by go_num, hBz⟩
            case measure => simp [intOf]; omega
          · obtain rfl : q = 5 := by omega
            go_wp2
            go_ret
            exact ⟨rfl, S8.trans (hBq.mono S8.size)⟩
end Go.Proofs.Ytffoekgopooeaaa
