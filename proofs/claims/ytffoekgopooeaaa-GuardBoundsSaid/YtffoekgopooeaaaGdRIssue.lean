/- the reference's body and Issue. -/
import Derived.Test.YtffoekgopooeaaaGdName
namespace Go.Proofs.Ytffoekgopooeaaa
set_option linter.unusedVariables false
set_option linter.unusedSimpArgs false
open Go.ChangeShapes Go.WideShapes Go.ChangeAt Go.RowKit Go.Shelf
theorem wpList_conv_strB {ops : Array Oper} {rest : List Oper} {o : Oper} {a : Act} {w : World} {Q : Exit → Act → World → Prop} (hgd : o.guard = none) (x : Operand) (ho : o.op = .convert 9 23 x)
    (s : ByteArray) (hx : a.eval x = .string s) (hs : s.size ≤ 1000000)
    (h : ∀ A c w', IsB w' (sB s) (.slice A s.size c) → (A = none → c = 0) → Rd w' A (sB s) → Below w.heap.size w w' → wpList Try.prog ops Q rest (a.put o.dst (.slice A s.size c)) w') : wpList Try.prog ops Q (o :: rest) a w :=
  wpList_plain hgd fun K hK => by
    unfold Oper.wp execOp
    simp only [ho, hx, Sem.run_bind, run_bytes_str, Result.andThen_ok, Sem.run_pure]
    exact hK _ _ (h _ _ _ (bytW_isB w s hs) (fun h => by cases h) (bytW_own w s).rd (bytW_below w s))
set_option maxRecDepth 100000 in
set_option maxHeartbeats 8000000 in
theorem rbody_any (s : ByteArray) (hs : s.size ≤ 255) (n0 n1 n2 n3 : Nat) (h0 : (n0 : Int) < 9223372036854775808) (h1 : (n1 : Int) < 9223372036854775808) (h2 : (n2 : Int) < 9223372036854775808) (h3 : (n3 : Int) < 9223372036854775808) (w : World) :
    Calls Try.prog 44 #[.agg (tokA4 s n0 n1 n2 n3)] w fun e w' => ∃ v, e = .returned v ∧ Byt w' w.heap.size v (bodyN s [n0, n1, n2, n3]) ∧ Below w.heap.size w w' := by
  have q0 := Blk.new w 41 (tokA4 s n0 n1 n2 n3)
  have b0 := step_alloc w (.cells (tokA4 s n0 n1 n2 n3) 41)
  have sz0 : (w.alloc (.cells (tokA4 s n0 n1 n2 n3) 41)).heap.size = w.heap.size + 1 := by simp
  have hx : (((UInt8.ofNat s.size).toNat : Nat) : Int) = (s.size : Int) := by simp; omega
  obtain ⟨x, hX⟩ : ∃ x : UInt8, Hid (x = UInt8.ofNat s.size) := ⟨_, hid rfl⟩
  rw [← hX.out] at hx
  have HX := hid hx
  obtain ⟨Z, hZ⟩ : ∃ Z : Int, (s.size : Int) = Z := ⟨_, rfl⟩
  have hZ0 : 0 ≤ Z := by omega
  have hZ1 : Z ≤ 255 := by omega
  have HS := hid hs
  have hZw : IntKind.u8.wrap Z = Z := by rw [IntKind.wrap_u8]; omega
  rw [hZ] at HX
  clear hs
  have H0 := hid h0
  have H1 := hid h1
  have H2 := hid h2
  have H3 := hid h3
  clear hx h0 h1 h2 h3
  go_enter Try.func44, Try.ntmps44
  go_upto_region 1 with (fail)
  obtain ⟨W, hW⟩ : ∃ W, W = w.alloc (.cells (tokA4 s n0 n1 n2 n3) 41) := ⟨_, rfl⟩
  rw [← hW] at q0 b0 sz0 ⊢
  obtain ⟨g, hg⟩ : ∃ g, g = w.heap.size := ⟨_, rfl⟩
  rw [← hg] at q0 b0 sz0 ⊢
  have HG := hid hg
  clear hW hg
  refine wp_region_stU [StK.eq (.pointer (some ⟨g, 0, none⟩)), StK.eq (.string s), StK.eq (.int .i64 Z), StK.eq (.int .u8 Z)] 4 36 rfl (by kernel_rfl) (by decide) ⟨?_, ?_, ?_, ?_, trivial⟩ ?_
  · intro a w hb hd
    have e1 : a.eval (.tmp 1) = .pointer (some ⟨g, 0, none⟩) := hd 1 (by decide)
    exact hop_runK (F := (StK.eq (.pointer (some ⟨g, 0, none⟩))).F) (wanted_none rfl) _ (by unfold execOp; simp only [e1]; kernel_rfl) rfl
  · intro a w hb hd
    have e6 : a.eval (.tmp 6) = .pointer (some ⟨g, 0, none⟩) := hd 6 (by decide)
    exact hop_runK (F := (StK.eq (.string s)).F) (wanted_none rfl) _ (run_ldCell _ _ rfl e6 Try.underlying9 rfl ((q0.step hb).cell (k := 0) rfl)) rfl
  · intro a w hb hd
    have e7 : a.eval (.tmp 7) = .string s := hd 7 (by decide)
    exact hop_runK (F := (StK.eq (.int .i64 Z)).F) (wanted_none rfl) _ (run_lnS _ _ rfl e7 Try.underlying9 (hZ)) rfl
  · intro a w hb hd
    have e8 : a.eval (.tmp 8) = .int .i64 Z := hd 8 (by decide)
    exact hop_runK (F := (StK.eq (.int .u8 Z)).F) (wanted_none rfl) _ (run_cvInt _ _ _ rfl e8 Try.underlying3 Try.underlying5 (hZw)) rfl
  intro pw1 w1 bw1 hp
  obtain ⟨q0, q1, q2, q3, -⟩ := hp
  have e0 : pw1 0 = .pointer (some ⟨g, 0, none⟩) := q0 (by decide)
  have e1 : pw1 1 = .string s := q1 (by decide)
  have e2 : pw1 2 = .int .i64 Z := q2 (by decide)
  have e3 : pw1 3 = .int .u8 Z := q3 (by decide)
  simp only [List.take_succ_cons, List.take_zero, List.drop_succ_cons, List.drop_zero, layAll, Act.put, List.setIfInBounds_toArray, List.set_cons_zero, List.set_cons_succ, Nat.zero_add, Nat.reduceAdd, e0, e1, e2, e3]
  clear q0 e0 q1 e1 q2 e2 q3 e3
  have q1 := q0.step bw1
  have B1 : Below g w w1 := b0.trans (bw1.mono (by omega))
  have hg1 := q1.lt
  have bl := byt_lit x w1
  rw [HX.out] at bl
  have blm := bl.mono (show g + 1 ≤ w1.heap.size by omega)
  have a1 := step_alloc w1 (.cells #[Value.int .u8 Z] 5)
  have q1a := q1.step a1
  have hlA : g + 1 ≤ (w1.alloc (.cells #[Value.int .u8 Z] 5)).heap.size := by simp; omega
  have k0 := q1a.cell (k := 0) (v := .string s) rfl
  clear bl q0 b0 bw1 hZ hZw hZ0 hZ1 sz0
  have HLE : Hid ([x].length + (sB s).length ≤ 1000000) := hid (by rw [sB_len]; have := HS.out; simp; omega)
  have HS2 : Hid (s.size ≤ 1000000) := hid (by have := HS.out; omega)
  go_upto_region 2 with (first | (refine wpList_conv_strB rfl (.tmp 12) rfl s rfl HS2.out ?_; intro A2 c2 w2 i2 z2 R2 b2; have q2 := q1a.step b2; have v2 := blm.step b2) | (refine wpList_append_bytes rfl (.tmp 10) (.tmp 13) rfl (g + 1) _ [x] (sB s) rfl v2 A2 s.size c2 rfl (sB_len s) z2 R2 HLE.out (by have := q2.lt; omega) ?_; intro v3 w3 h3 k3 g3))
  have bz := b2.size
  have B3 : Below g w w3 := B1.trans ((a1.mono (by omega)).trans ((b2.mono (by omega)).trans (k3.mono (by omega))))
  have q3 := q2.below k3 (by omega)
  have hg3 := q3.lt
  have h3' : Byt w3 (g + 1) v3 (bodyN s []) := by
    have e : bodyN s [] = [x] ++ sB s := by rw [hX.out]; unfold bodyN; simp
    rw [e]; exact h3
  clear k0 q1 q1a a1 B1 blm HLE h3 k3 i2 R2 b2 q2 v2 g3 z2 hlA HS2
  have k1 := q3.cell (k := 1) (v := .int .i64 (n0 : Int)) rfl
  have k2 := q3.cell (k := 2) (v := .int .i64 (n1 : Int)) rfl
  have k3 := q3.cell (k := 3) (v := .int .i64 (n2 : Int)) rfl
  have k4 := q3.cell (k := 4) (v := .int .i64 (n3 : Int)) rfl
  have p3 := Blk.new w3 3 #[.int .i64 (n0 : Int), .int .i64 (n1 : Int), .int .i64 (n2 : Int), .int .i64 (n3 : Int)]
  have a3 := step_alloc w3 (.cells #[.int .i64 (n0 : Int), .int .i64 (n1 : Int), .int .i64 (n2 : Int), .int .i64 (n3 : Int)] 3)
  have h4 := h3'.step a3
  have B4 := B3.trans (a3.mono (by omega))
  have LB : Hid (∀ k, (bodyN s (([n0, n1, n2, n3] : List Nat).take k)).length ≤ 300) := hid (fun k => by
    have := HS.out
    rw [bodyN_len, List.length_take]; simp; omega)
  go_wp2_with fail
  obtain ⟨P, hP⟩ : ∃ P, P = w3.heap.size := ⟨_, rfl⟩
  have hPg : g + 1 ≤ P := by omega
  rw [← hP] at p3 ⊢
  clear k1 k2 k3 k4 q3 a3 h3' B3 hP
  generalize World.alloc w3 _ = Wb at *
  have HN : Hid (∀ k, k < 4 → ∃ m : Nat, ([n0, n1, n2, n3] : List Nat)[k]? = some m ∧ (m : Int) < 9223372036854775808 ∧ (#[Value.int .i64 (n0 : Int), .int .i64 (n1 : Int), .int .i64 (n2 : Int), .int .i64 (n3 : Int)] : Array Value)[k]? = some (.int .i64 (m : Int))) := hid (fun k hk => by
    have : k = 0 ∨ k = 1 ∨ k = 2 ∨ k = 3 := by omega
    rcases this with rfl | rfl | rfl | rfl
    · exact ⟨n0, rfl, H0.out, rfl⟩
    · exact ⟨n1, rfl, H1.out, rfl⟩
    · exact ⟨n2, rfl, H2.out, rfl⟩
    · exact ⟨n3, rfl, H3.out, rfl⟩)
  go_loopw [3, 5] (fun v i wr => ∃ k : Nat, k ≤ 4 ∧ i = .int .i64 (k : Int) ∧ Byt wr (g + 1) v (bodyN s (([n0, n1, n2, n3] : List Nat).take k)) ∧ Blk wr P 3 #[.int .i64 (n0 : Int), .int .i64 (n1 : Int), .int .i64 (n2 : Int), .int .i64 (n3 : Int)] ∧ Below g w wr) (fun _ i _ => 4 - (intOf i).toNat)
  case atStart => exact ⟨0, by omega, rfl, h4, p3, B4⟩
  case round =>
    obtain ⟨k, hk4, rfl, hv, hp, hB⟩ := hrel
    clear h4 p3 B4
    have hzp := hp.lt
    by_cases hlt : k < 4
    · obtain ⟨m, hm, hmb, c2⟩ := HN.out k hlt
      have kc2 := hp.cell c2
      have hsn : Hid (bodyN s (([n0, n1, n2, n3] : List Nat).take k) ++ eightL m = bodyN s (([n0, n1, n2, n3] : List Nat).take (k + 1))) := hid (by
        rw [← bodyN_snoc]
        congr 1
        have hk' : k < ([n0, n1, n2, n3] : List Nat).length := hlt
        rw [List.take_succ_eq_append_getElem hk']
        congr 2
        rw [List.getElem?_eq_getElem hk'] at hm
        exact (Option.some.inj hm).symm)
      have hlb := hid (LB.out k)
      have hne := hid (hv.ne_blk hp (by decide))
      have HM := hid hmb
      have HLE : Hid ((bodyN s (([n0, n1, n2, n3] : List Nat).take k)).length + (eightL m).length ≤ 1000000) := hid (by have := hlb.out; rw [eightL_len]; omega)
      clear hm hmb c2
      have hkk : k = 0 ∨ k = 1 ∨ k = 2 ∨ k = 3 := by omega
      clear hk4 hlt
      rcases hkk with rfl | rfl | rfl | rfl
      all_goals
        go_wp2_with fail
        refine (reight_any m HM.out _).mono ?_
        rintro e w4 ⟨v4, rfl, h4, b4⟩
        obtain ⟨A4, c4, rfl, s41, s42, s43, s44⟩ := h4.slice
        have nn4 := h4.none0
        have hv4 := hv.step b4
        have hp4 := hp.step b4
        have hz4 := hp4.lt
        have B4 := hB.trans (b4.mono (by omega))
        rw [eightL_len]
        clear hv hp b4 hB kc2 h4
        go_wp2_with (refine wpList_append_bytes rfl (.tmp 28) (.tmp 33) rfl (g + 1) _ _ (eightL m) rfl hv4 A4 8 c4 rfl (eightL_len m) (fun h => by first | exact nn4 h | exact (nn4 h)) (by first | exact s43 | exact s44 | exact s42) HLE.out (by omega) ?_; intro v5 w5 h5 k5 g5)
        have hp5 := hp4.grown g5 (fun e => hne.out P e.symm rfl)
        have B5 := B4.trans (k5.mono (by omega))
        rw [hsn.out] at h5
        clear hv4 hp4 B4 k5 g5
        go_roundw
        case rel => exact ⟨_, by omega, by go_num, h5, hp5, B5⟩
        case measure => simp [intOf]
    · obtain rfl : k = 4 := by omega
      rw [show ([n0, n1, n2, n3] : List Nat).take 4 = [n0, n1, n2, n3] from rfl] at hv
      go_wp2_with fail
      go_ret
      exact ⟨_, rfl, by rw [← HG.out]; exact hv.mono (by omega), by rw [← HG.out]; exact hB⟩
set_option maxRecDepth 100000 in
set_option maxHeartbeats 8000000 in
theorem rissue_any (kv : Value) (key : List UInt8) (hkl : key.length ≤ 2000) (s : ByteArray) (hs : s.size ≤ 255) (n0 n1 n2 n3 : Nat) (h0 : (n0 : Int) < 9223372036854775808) (h1 : (n1 : Int) < 9223372036854775808) (h2 : (n2 : Int) < 9223372036854775808) (h3 : (n3 : Int) < 9223372036854775808) (w : World) (hk : IsB w key kv) :
    Calls Try.prog 29 #[kv, .agg (tokA4 s n0 n1 n2 n3)] w fun e w' => ∃ v, e = .returned v ∧ Byt w' w.heap.size v (issueN key s [n0, n1, n2, n3]) ∧ Below w.heap.size w w' := by
  have q0 := Blk.new w 41 (tokA4 s n0 n1 n2 n3)
  have b0 := step_alloc w (.cells (tokA4 s n0 n1 n2 n3) 41)
  have hB := fun w => rbody_any s hs n0 n1 n2 n3 h0 h1 h2 h3 w
  have hBl : (bodyN s [n0, n1, n2, n3]).length = 1 + s.size + 32 := by rw [bodyN_len]; rfl
  have HLP : Hid (∀ l ∈ ([[116, 111, 107, 101, 110], bodyN s [n0, n1, n2, n3]] : List (List UInt8)), l.length ≤ 2000) := hid (fun l hl => by
    rcases List.mem_cons.1 hl with rfl | hl
    · simp
    · rw [List.mem_singleton.1 hl, hBl]; omega)
  have HLC : Hid ((cat [[116, 111, 107, 101, 110], bodyN s [n0, n1, n2, n3]]).length ≤ 5000) := hid (by
    simp only [cat, List.length_append, eightL_len, hBl, List.length_cons, List.length_nil]; omega)
  obtain ⟨TL, hTL⟩ : ∃ t, Hid (sumL (macW key [[116, 111, 107, 101, 110], bodyN s [n0, n1, n2, n3]]) = t) := ⟨_, hid rfl⟩
  have hTl : TL.length = 16 := by rw [← hTL.out, sumL_len]
  have HLE : Hid ((bodyN s [n0, n1, n2, n3]).length + TL.length ≤ 1000000) := hid (by rw [hBl, hTl]; omega)
  have HE : Hid (bodyN s [n0, n1, n2, n3] ++ TL = issueN key s [n0, n1, n2, n3]) := hid (by rw [← hTL.out]; rfl)
  clear hBl h0 h1 h2 h3
  go_enter Try.func29, Try.ntmps29
  go_wp2_with (refine wpList_load_blk rfl _ (.tmp 3) rfl _ rfl _ _ _ q0 Try.underlying41 rfl size_tok ?_)
  have hk0 := hk.step b0
  generalize World.alloc _ _ = W at *
  refine (hB _).mono ?_
  rintro e w1 ⟨vb, rfl, h1, b1⟩
  have hk1 := hk0.step b1
  have B1 := step_trans b0 b1
  have hz0 := b0.size
  have h1' := h1.mono hz0
  have hz1 := B1.size
  clear hB q0 hk0 b1
  go_upto_region 2 with fail
  refine wp_region_stU [StK.eq (vb), StK.bytes (key), StK.lit w1.heap.size [116, 111, 107, 101, 110], StK.lit w1.heap.size [116, 111, 107, 101, 110], StK.bytes (bodyN s [n0, n1, n2, n3]), StK.parts ([[116, 111, 107, 101, 110], bodyN s [n0, n1, n2, n3]]), StK.eq (.agg (arr16 (outF (macW key [[116, 111, 107, 101, 110], bodyN s [n0, n1, n2, n3]])))), StK.bytes (TL)] 8 17 rfl (by kernel_rfl) (by decide) ⟨?_, ?_, ?_, ?_, ?_, ?_, ?_, ?_, trivial⟩ ?_
  · intro a w hb hd
    have e5 : a.eval (.tmp 5) = vb := hd 5 (by decide)
    exact hop_runK (F := (StK.eq (vb)).F) (wanted_none rfl) _ (run_mv _ (.inl rfl) e5) rfl
  · intro a w hb hd
    have e0 : IsB w (key) (a.eval (.tmp 0)) := by rw [show a.eval (.tmp 0) = kv from hd 0 (by decide)]; exact (hk1).step hb
    exact hop_runK (F := (StK.bytes (key)).F) (wanted_none rfl) _ (run_mv _ (.inl rfl) rfl) e0
  · intro a w hb hd
    exact hop_lit (wanted_none rfl) hb.size [116, 111, 107, 101, 110] (by decide) (by decide) _ rfl (by simp only [List.map_toArray, List.map_cons, List.map_nil]; kernel_rfl)
  · intro a w hb hd
    have l10 : LitB w1.heap.size w [116, 111, 107, 101, 110] (a.eval (.tmp 10)) := hd 10 (by decide)
    have e10 := l10.isB
    exact hop_convK (wanted_none rfl) _ rfl l10
  · intro a w hb hd
    have e5 : a.eval (.tmp 5) = vb := hd 5 (by decide)
    exact hop_runK (F := (StK.bytes (bodyN s [n0, n1, n2, n3])).F) (wanted_none rfl) _ (run_mv _ (.inl rfl) e5) ((h1.isB).step hb)
  · intro a w hb hd
    have l11 : LitB w1.heap.size w [116, 111, 107, 101, 110] (a.eval (.tmp 11)) := hd 11 (by decide)
    have e11 := l11.isB
    have e12 : IsB w (bodyN s [n0, n1, n2, n3]) (a.eval (.tmp 12)) := hd 12 (by decide)
    exact hop_parts2 (wanted_none rfl) hb.size (.tmp 11) (.tmp 12) rfl e11 e12
  · intro a w hb hd
    have e9 : IsB w (key) (a.eval (.tmp 9)) := hd 9 (by decide)
    have e13 : IsP w ([[116, 111, 107, 101, 110], bodyN s [n0, n1, n2, n3]]) (a.eval (.tmp 13)) := hd 13 (by decide)
    exact hop_callK (F := (StK.eq (.agg (arr16 (outF (macW key [[116, 111, 107, 101, 110], bodyN s [n0, n1, n2, n3]]))))).F) (wanted_none rfl) hb.size rfl #[a.eval (.tmp 9), a.eval (.tmp 13)] (by first | (simp only [List.map_toArray, List.map_cons, List.map_nil]; done) | (simp only [List.map_toArray, List.map_cons, List.map_nil]; rfl)) (enters_of Try.func46 (by kernel_rfl) rfl) (by exact call_eq (rmac_b e9 e13 hkl (by simp) HLP.out HLC.out))
  · intro a w hb hd
    have e14 : a.eval (.tmp 14) = .agg (arr16 (outF (macW key [[116, 111, 107, 101, 110], bodyN s [n0, n1, n2, n3]]))) := hd 14 (by decide)
    exact hop_callK (F := (StK.bytes (TL)).F) (wanted_none rfl) hb.size rfl #[a.eval (.tmp 14)] (by first | (simp only [List.map_toArray, List.map_cons, List.map_nil]; done) | (simp only [List.map_toArray, List.map_cons, List.map_nil]; rfl)) (enters_of Try.func45 (by kernel_rfl) rfl) (by rw [e14]; exact (rbytes_any _ (outF_bd _) _).mono fun e w2 ⟨v, h1, h2, h3⟩ => ⟨v, h1, h3, by have := h2.isB; rw [← sumL_eq, hTL.out] at this; exact this⟩)
  intro pw2 w2 bw2 hp
  obtain ⟨q0, -, -, -, -, -, -, q7, -⟩ := hp
  have e0 : pw2 0 = vb := q0 (by decide)
  have f15 : IsB w2 (TL) (pw2 7) := q7 (by decide)
  simp only [List.take_succ_cons, List.take_zero, List.drop_succ_cons, List.drop_zero, layAll, Act.put, List.setIfInBounds_toArray, List.set_cons_zero, List.set_cons_succ, Nat.zero_add, Nat.reduceAdd, e0]
  clear q0 e0 q7
  generalize pw2 7 = v15 at *
  have B2 := B1.trans (bw2.mono hz1)
  have h2 := h1'.step bw2
  have hz2 := B2.size
  obtain ⟨A5, c5, rfl, s51, s52, s53, s54⟩ := f15
  rw [hTl] at s51 ⊢
  clear h1 h1' B1 bw2
  go_wp2_with (refine wpList_append_bytes rfl (.tmp 8) (.tmp 15) rfl w.heap.size _ (bodyN s [n0, n1, n2, n3]) TL rfl h2 A5 16 c5 rfl hTl s53 s54 HLE.out hz2 ?_; intro v6 w6 h6 k6 g6)
  go_ret
  rw [HE.out] at h6
  exact ⟨_, rfl, h6, B2.trans (k6.mono (Nat.le_refl _))⟩
end Go.Proofs.Ytffoekgopooeaaa
