/- guard: tokens: numbers, Issue. -/
import Derived.Test.YtffoekgopooeaaaSReg
import Derived.Test.YtffoekgopooeaaaSRBytes
import Derived.Test.YtffoekgopooeaaaSMem
import Derived.Lib.AppendStr
import Derived.Laws.OwnMore
namespace Go.Proofs.Ytffoekgopooeaaa
set_option linter.unusedVariables false
set_option linter.unusedSimpArgs false
open Go.ChangeShapes Go.WideShapes Go.ChangeAt Go.RowKit Go.Shelf
abbrev tokA4 (s : ByteArray) (a b c d : Int) : Array Value := #[.string s, .int .i64 a, .int .i64 b, .int .i64 c, .int .i64 d]
def sB (s : ByteArray) : List UInt8 := s.data.toList
theorem sB_len (s : ByteArray) : (sB s).length = s.size := by unfold sB; rw [Array.length_toList]; rfl
theorem sB_cells (s : ByteArray) : (sB s).map bv = Lib.strCells s := rfl
theorem byt_lit (x : UInt8) (w : World) : Byt (w.alloc (.cells #[Value.int .u8 (x.toNat : Int)] 5)) w.heap.size (.slice (some ⟨w.heap.size, 0, none⟩) 1 1) [x] :=
  ⟨by simp, .inr ⟨w.heap.size, 1, #[Value.int .u8 (x.toNat : Int)], rfl, Nat.le_refl _, heap_alloc_new w _, by simp, by unfold maxLen; omega, by simp, by simp [bv]⟩⟩
theorem Byt.ne_blk {w : World} {b : Nat} {v : Value} {l : List UInt8} (h : Byt w b v l) {P : Nat} {t : TypeId} {c : Array Value} (hp : Blk w P t c) (ht : t ≠ 5) : ∀ k, v.ownBlock = some k → k ≠ P := by
  rintro k hk rfl
  rcases h.2 with ⟨e, _⟩ | ⟨g, cp, cur, e, _, hg, _⟩
  · rw [e] at hk; cases hk
  · rw [e] at hk
    obtain rfl := Option.some.inj hk
    unfold Blk at hp
    have h2 := hg.symm.trans hp
    injection h2 with h2
    injection h2 with _ h3
    exact ht h3.symm
theorem wpList_append_strB {ops : Array Oper} {rest : List Oper} {o : Oper} {a : Act} {w : World} {Q : Exit → Act → World → Prop} (hgd : o.guard = none) (sl x : Operand)
    (ho : o.op = .call { callee := .builtin .append, args := #[sl, x], argTypes := #[23, 9] })
    (base : Nat) (v : Value) (l : List UInt8) (hs : a.eval sl = v) (hown : Byt w base v l) (s : ByteArray) (hx : a.eval x = .string s) (hle : l.length + s.size ≤ 1000000) (hbase : base ≤ w.heap.size)
    (h : ∀ v' w', Byt w' base v' (l ++ sB s) → Below base w w' → wpList Try.prog ops Q rest (a.put o.dst v') w') : wpList Try.prog ops Q (o :: rest) a w := by
  obtain ⟨i, hi1, hi2, hi3, hi4⟩ := info_u8
  refine Lib.wpList_append_own_string w hgd sl x _ _ ho base _ i Try.underlying23 Try.underlying9 hi1 hi2 hi3 hi4 v l.length (l.map bv) hs hown s hx (by unfold maxLen; omega) (by omega) hbase fun v' w' h1 h2 _ => h v' w' ?_ ((Below.refl _ _).grown h2 hbase (fun k e => (hown.lt k e).1))
  unfold Byt
  rw [List.length_append, sB_len, List.map_append, sB_cells]
  exact h1
set_option maxRecDepth 100000 in
set_option maxHeartbeats 4000000 in
theorem numbers_any (g : Nat) (w : World) (hg : g < w.heap.size) :
    Calls Try.prog 38 #[.pointer (some ⟨g, 0, none⟩)] w fun e w' => e = .returned (.slice (some ⟨w.heap.size, 0, none⟩) 4 4) ∧ Below w.heap.size w w' ∧ Blk w' w.heap.size 66 #[.pointer (some ⟨g, 1, none⟩), .pointer (some ⟨g, 2, none⟩), .pointer (some ⟨g, 3, none⟩), .pointer (some ⟨g, 4, none⟩)] := by
  go_enter Try.func38, Try.ntmps38
  go_wp2
  go_region
  go_wp2
  go_ret
  exact ⟨rfl, (step_alloc _ _).drew, (Blk.new w _ _).drew⟩
/-- The bytes of a token, up to its k-th number; its sum. -/
def bodyN (s : ByteArray) (ns : List Nat) : List UInt8 := UInt8.ofNat s.size :: (sB s ++ (ns.map eightL).flatten)
def issueN (key : List UInt8) (s : ByteArray) (ns : List Nat) : List UInt8 := bodyN s ns ++ sumL (macW key [[116, 111, 107, 101, 110], bodyN s ns])
theorem bodyN_snoc (s : ByteArray) (ns : List Nat) (n : Nat) : bodyN s (ns ++ [n]) = bodyN s ns ++ eightL n := by
  simp [bodyN]
theorem flat_len : ∀ ns : List Nat, ((ns.map eightL).flatten).length = 8 * ns.length
  | [] => rfl
  | n :: ns => by simp only [List.map_cons, List.flatten_cons, List.length_append, eightL_len, flat_len ns, List.length_cons]; omega
theorem bodyN_len (s : ByteArray) (ns : List Nat) : (bodyN s ns).length = 1 + s.size + 8 * ns.length := by
  unfold bodyN
  rw [List.length_cons, List.length_append, sB_len, flat_len]; omega
attribute [irreducible] bodyN
set_option maxRecDepth 100000 in
set_option maxHeartbeats 8000000 in
theorem issue_any (kv : Value) (key : List UInt8) (s : ByteArray) (hs : s.size ≤ 255) (n0 n1 n2 n3 : Nat) (h0 : (n0 : Int) < 9223372036854775808) (h1 : (n1 : Int) < 9223372036854775808) (h2 : (n2 : Int) < 9223372036854775808) (h3 : (n3 : Int) < 9223372036854775808) (w : World) (hk : IsB w key kv) :
    Calls Try.prog 27 #[kv, .agg (tokA4 s n0 n1 n2 n3)] w fun e w' => ∃ v, e = .returned v ∧ Byt w' w.heap.size v (issueN key s [n0, n1, n2, n3]) ∧ Below w.heap.size w w' := by
  have q0 := Blk.new w 41 (tokA4 s n0 n1 n2 n3)
  have b0 := step_alloc w (.cells (tokA4 s n0 n1 n2 n3) 41)
  have sz0 : (w.alloc (.cells (tokA4 s n0 n1 n2 n3) 41)).heap.size = w.heap.size + 1 := by simp
  have hx : (((UInt8.ofNat s.size).toNat : Nat) : Int) = (s.size : Int) := by simp; omega
  obtain ⟨x, hX⟩ : ∃ x : UInt8, Hid (x = UInt8.ofNat s.size) := ⟨_, hid rfl⟩
  rw [← hX.out] at hx
  have hsb : (s.size : Int) % 256 = (s.size : Int) := by omega
  have hs0 : (0 : Int) ≤ (s.size : Int) := by omega
  obtain ⟨RES, hRES⟩ : ∃ r, Hid (issueN key s [n0, n1, n2, n3] = r) := ⟨_, hid rfl⟩
  rw [hRES.out]
  have HX := hid hx
  clear hsb hs0
  obtain ⟨Z, hZ⟩ : ∃ Z : Int, (s.size : Int) = Z := ⟨_, rfl⟩
  have hZ0 : 0 ≤ Z := by omega
  have hZ1 : Z ≤ 255 := by omega
  have HS := hid hs
  have hZw : IntKind.u8.wrap Z = Z := by rw [IntKind.wrap_u8]; omega
  rw [hZ] at HX
  clear hs
  have H0 := hid h0
  have H1 := hid h1
  have H2 := hid h2
  have H3 := hid h3
  clear hx h0 h1 h2 h3
  go_enter Try.func27, Try.ntmps27
  go_upto_region 1 with (fail)
  obtain ⟨W, hW⟩ : ∃ W, W = w.alloc (.cells (tokA4 s n0 n1 n2 n3) 41) := ⟨_, rfl⟩
  rw [← hW] at q0 b0 sz0 ⊢
  have ik0 : IsB W key kv := hk.step b0
  obtain ⟨g, hg⟩ : ∃ g, g = w.heap.size := ⟨_, rfl⟩
  rw [← hg] at q0 b0 sz0 ⊢
  have HG := hid hg
  clear hW hg
  refine wp_region_stU [StK.eq (.pointer (some ⟨g, 0, none⟩)), StK.eq (.string s), StK.eq (.int .i64 Z), StK.eq (.int .u8 Z)] 4 39 rfl (by kernel_rfl) (by decide) ⟨?_, ?_, ?_, ?_, trivial⟩ ?_
  · intro a w hb hd
    have e3 : a.eval (.tmp 3) = .pointer (some ⟨g, 0, none⟩) := hd 3 (by decide)
    exact hop_runK (F := (StK.eq (.pointer (some ⟨g, 0, none⟩))).F) (wanted_none rfl) _ (by unfold execOp; simp only [e3]; kernel_rfl) rfl
  · intro a w hb hd
    have e9 : a.eval (.tmp 9) = .pointer (some ⟨g, 0, none⟩) := hd 9 (by decide)
    exact hop_runK (F := (StK.eq (.string s)).F) (wanted_none rfl) _ (run_ldCell _ _ rfl e9 Try.underlying9 rfl ((q0.step hb).cell (k := 0) rfl)) rfl
  · intro a w hb hd
    have e10 : a.eval (.tmp 10) = .string s := hd 10 (by decide)
    exact hop_runK (F := (StK.eq (.int .i64 Z)).F) (wanted_none rfl) _ (run_lnS _ _ rfl e10 Try.underlying9 (hZ)) rfl
  · intro a w hb hd
    have e11 : a.eval (.tmp 11) = .int .i64 Z := hd 11 (by decide)
    exact hop_runK (F := (StK.eq (.int .u8 Z)).F) (wanted_none rfl) _ (run_cvInt _ _ _ rfl e11 Try.underlying3 Try.underlying5 (hZw)) rfl
  intro pw1 w1 bw1 hp
  obtain ⟨q0, q1, q2, q3, -⟩ := hp
  have e0 : pw1 0 = .pointer (some ⟨g, 0, none⟩) := q0 (by decide)
  have e1 : pw1 1 = .string s := q1 (by decide)
  have e2 : pw1 2 = .int .i64 Z := q2 (by decide)
  have e3 : pw1 3 = .int .u8 Z := q3 (by decide)
  simp only [List.take_succ_cons, List.take_zero, List.drop_succ_cons, List.drop_zero, layAll, Act.put, List.setIfInBounds_toArray, List.set_cons_zero, List.set_cons_succ, Nat.zero_add, Nat.reduceAdd, e0, e1, e2, e3]
  clear q0 e0 q1 e1 q2 e2 q3 e3
  have q1 := q0.step bw1
  have ik1 := ik0.step bw1
  have B1 : Below g w w1 := b0.trans (bw1.mono (by omega))
  have hg1 := q1.lt
  have bl := byt_lit x w1
  rw [HX.out] at bl
  have blm := bl.mono (show g + 1 ≤ w1.heap.size by omega)
  have a1 := step_alloc w1 (.cells #[Value.int .u8 Z] 5)
  have q1a := q1.step a1
  have hle : [x].length + s.size ≤ 1000000 := by have := HS.out; simp; omega
  have HLE := hid hle
  have k0 := q1a.cell (k := 0) (v := .string s) rfl
  clear bl q0 ik0 b0 bw1 hZ hZw hZ0 hZ1 hle sz0
  go_wp2_with (refine wpList_append_strB rfl (.tmp 13) (.tmp 15) rfl (g + 1) _ [x] rfl blm s rfl HLE.out (by simp; omega) ?_; intro v2 w2 h2 k2)
  have B2 : Below g w w2 := B1.trans ((a1.mono (by omega)).trans (k2.mono (by omega)))
  have q2 := q1a.below k2 (by omega)
  have hg2 := q2.lt
  have h2' : Byt w2 (g + 1) v2 (bodyN s []) := by
    have e : bodyN s [] = [x] ++ sB s := by rw [hX.out]; unfold bodyN; simp
    rw [e]; exact h2
  clear k0 q1 q1a ik1 a1 B1 blm HLE h2 k2
  refine (numbers_any g _ hg2).mono ?_
  rintro e w3 ⟨rfl, b3, p3⟩
  have q3 := q2.step b3
  have B3 := B2.trans (b3.mono (by omega))
  have h3 := h2'.step b3
  have hg3 := q3.lt
  have hp3 := p3.lt
  obtain ⟨P, hP⟩ : ∃ P, P = w2.heap.size := ⟨_, rfl⟩
  rw [← hP] at p3 hp3 ⊢
  have hPg : g + 1 ≤ P := by omega
  clear q2 B2 h2' b3 hP
  have HN : Hid (∀ k, k < 4 → ∃ m : Nat, ([n0, n1, n2, n3] : List Nat)[k]? = some m ∧ (m : Int) < 9223372036854775808 ∧ (tokA4 s n0 n1 n2 n3)[k + 1]? = some (.int .i64 (m : Int)) ∧ (#[.pointer (some ⟨g, 1, none⟩), .pointer (some ⟨g, 2, none⟩), .pointer (some ⟨g, 3, none⟩), .pointer (some ⟨g, 4, none⟩)] : Array Value)[k]? = some (.pointer (some ⟨g, k + 1, none⟩))) := hid (fun k hk => by
    have : k = 0 ∨ k = 1 ∨ k = 2 ∨ k = 3 := by omega
    rcases this with rfl | rfl | rfl | rfl
    · exact ⟨n0, rfl, H0.out, rfl, rfl⟩
    · exact ⟨n1, rfl, H1.out, rfl, rfl⟩
    · exact ⟨n2, rfl, H2.out, rfl, rfl⟩
    · exact ⟨n3, rfl, H3.out, rfl, rfl⟩)
  have LB : Hid (∀ k, (bodyN s (([n0, n1, n2, n3] : List Nat).take k)).length ≤ 300) := hid (fun k => by
    have := HS.out
    rw [bodyN_len, List.length_take]; simp; omega)
  go_wp2
  go_loopw [5, 19] (fun v i wr => ∃ k : Nat, k ≤ 4 ∧ i = .int .i64 (k : Int) ∧ Byt wr (g + 1) v (bodyN s (([n0, n1, n2, n3] : List Nat).take k)) ∧ Blk wr g 41 (tokA4 s n0 n1 n2 n3) ∧ Blk wr P 66 #[.pointer (some ⟨g, 1, none⟩), .pointer (some ⟨g, 2, none⟩), .pointer (some ⟨g, 3, none⟩), .pointer (some ⟨g, 4, none⟩)] ∧ Below g w wr) (fun _ i _ => 4 - (intOf i).toNat)
  case atStart => exact ⟨0, by omega, rfl, h3, q3, p3, B3⟩
  case round =>
    obtain ⟨k, hk4, rfl, hv, hq, hp, hB⟩ := hrel
    clear h3 q3 p3 B3
    have hz := hq.lt
    have hzp := hp.lt
    by_cases hlt : k < 4
    · obtain ⟨m, hm, hmb, c1, c2⟩ := HN.out k hlt
      have kc1 := hp.cell c2
      have kc2 := hq.cell c1
      have hsn : Hid (bodyN s (([n0, n1, n2, n3] : List Nat).take k) ++ eightL m = bodyN s (([n0, n1, n2, n3] : List Nat).take (k + 1))) := hid (by
        rw [← bodyN_snoc]
        congr 1
        have hk' : k < ([n0, n1, n2, n3] : List Nat).length := hlt
        rw [List.take_succ_eq_append_getElem hk']
        congr 2
        rw [List.getElem?_eq_getElem hk'] at hm
        exact (Option.some.inj hm).symm)
      have hlb := hid (LB.out k)
      have hne := hid (hv.ne_blk hp (by decide))
      have HM := hid hmb
      have HLE : Hid ((bodyN s (([n0, n1, n2, n3] : List Nat).take k)).length + (eightL m).length ≤ 1000000) := hid (by have := hlb.out; rw [eightL_len]; omega)
      clear hm hmb c1 c2
      have hkk : k = 0 ∨ k = 1 ∨ k = 2 ∨ k = 3 := by omega
      clear hk4 hlt
      rcases hkk with rfl | rfl | rfl | rfl
      all_goals
        go_wp2_with fail
        refine (eight_rd m HM.out _).mono ?_
        rintro e w4 ⟨rfl, b4, R4⟩
        have hv4 := hv.step b4
        have hq4 := hq.step b4
        have hp4 := hp.step b4
        have hz4 := hq4.lt
        have B4 := hB.trans (b4.mono (by omega))
        clear hv hq hp b4 hB kc1 kc2
        go_wp2_with (refine wpList_append_bytes rfl (.tmp 23) (.tmp 27) rfl (g + 1) _ _ (eightL m) rfl hv4 _ 8 8 rfl (eightL_len m) (fun h => by cases h) R4 HLE.out (by omega) ?_; intro v5 w5 h5 k5 g5)
        have hq5 := hq4.below k5 (by omega)
        have hp5 := hp4.grown g5 (fun e => hne.out P e.symm rfl)
        have B5 := B4.trans (k5.mono (by omega))
        rw [hsn.out] at h5
        clear hv4 hq4 hp4 B4 k5 g5 R4
        go_roundw
        case rel => exact ⟨_, by omega, by go_num, h5, hq5, hp5, B5⟩
        case measure => simp [intOf]
    · obtain rfl : k = 4 := by omega
      rw [show ([n0, n1, n2, n3] : List Nat).take 4 = [n0, n1, n2, n3] from rfl] at hv
      have hbl : (bodyN s [n0, n1, n2, n3]).length ≤ 300 := LB.out 4
      have ik : IsB wr key kv := hk.below hB (by rw [HG.out]; exact Nat.le_refl _)
      have ib := hv.isB
      obtain ⟨BL, hBL⟩ : ∃ b, Hid (bodyN s [n0, n1, n2, n3] = b) := ⟨_, hid rfl⟩
      rw [hBL.out] at hv ib hbl
      obtain ⟨F, hF⟩ : ∃ F, Hid (macW key [[116, 111, 107, 101, 110], BL] = F) := ⟨_, hid rfl⟩
      have HR : Hid (RES = BL ++ sumL F) := hid (by rw [← hRES.out, ← hF.out, ← hBL.out]; rfl)
      go_upto_region 7 with (fail)
      refine wp_region_stU [StK.bytes (key), StK.lit wr.heap.size [116, 111, 107, 101, 110], StK.lit wr.heap.size [116, 111, 107, 101, 110], StK.bytes (BL), StK.parts ([[116, 111, 107, 101, 110], BL]), StK.eq (.agg (arr16 (outF F))), StK.new wr.heap.size (#[Value.int .u8 0, .int .u8 0, .int .u8 0, .int .u8 0, .int .u8 0, .int .u8 0, .int .u8 0, .int .u8 0, .int .u8 0, .int .u8 0, .int .u8 0, .int .u8 0, .int .u8 0, .int .u8 0, .int .u8 0, .int .u8 0]) 69 (by decide)] 7 39 rfl (by kernel_rfl) (by decide) ⟨?_, ?_, ?_, ?_, ?_, ?_, ?_, trivial⟩ ?_
      · intro a w hb hd
        have e0 : IsB w (key) (a.eval (.tmp 0)) := by rw [show a.eval (.tmp 0) = kv from hd 0 (by decide)]; exact (ik).step hb
        exact hop_runK (F := (StK.bytes (key)).F) (wanted_none rfl) _ (run_mv _ (.inl rfl) rfl) e0
      · intro a w hb hd
        exact hop_lit (wanted_none rfl) hb.size [116, 111, 107, 101, 110] (by decide) (by decide) _ rfl (by simp only [List.map_toArray, List.map_cons, List.map_nil]; kernel_rfl)
      · intro a w hb hd
        have l31 : LitB wr.heap.size w [116, 111, 107, 101, 110] (a.eval (.tmp 31)) := hd 31 (by decide)
        have e31 := l31.isB
        exact hop_convK (wanted_none rfl) _ rfl l31
      · intro a w hb hd
        have e5 : IsB w (BL) (a.eval (.tmp 5)) := by rw [show a.eval (.tmp 5) = u5 from hd 5 (by decide)]; exact (ib).step hb
        exact hop_runK (F := (StK.bytes (BL)).F) (wanted_none rfl) _ (run_mv _ (.inl rfl) rfl) e5
      · intro a w hb hd
        have l32 : LitB wr.heap.size w [116, 111, 107, 101, 110] (a.eval (.tmp 32)) := hd 32 (by decide)
        have e32 := l32.isB
        have e33 : IsB w (BL) (a.eval (.tmp 33)) := hd 33 (by decide)
        exact hop_parts2 (wanted_none rfl) hb.size (.tmp 32) (.tmp 33) rfl e32 e33
      · intro a w hb hd
        have e30 : IsB w (key) (a.eval (.tmp 30)) := hd 30 (by decide)
        have e34 : IsP w ([[116, 111, 107, 101, 110], BL]) (a.eval (.tmp 34)) := hd 34 (by decide)
        exact hop_callK (F := (StK.eq (.agg (arr16 (outF F)))).F) (wanted_none rfl) hb.size rfl #[a.eval (.tmp 30), a.eval (.tmp 34)] (by first | (simp only [List.map_toArray, List.map_cons, List.map_nil]; done) | (simp only [List.map_toArray, List.map_cons, List.map_nil]; rfl)) (enters_of Try.func40 (by kernel_rfl) rfl) (by exact call_eq (by have := mac_b e30 e34; rw [hF.out] at this; exact this))
      · intro a w hb hd
        exact hop_new (wanted_none rfl) hb.size hb.size (by decide) (sum_newB rfl)
      intro pw6 w6 bw6 hp
      obtain ⟨-, -, -, -, -, q5, q6, -⟩ := hp
      have e5 : pw6 5 = .agg (arr16 (outF F)) := q5 (by decide)
      obtain ⟨g8, e6, hg8, c8⟩ := q6 (by decide)
      simp only [List.take_succ_cons, List.take_zero, List.drop_succ_cons, List.drop_zero, layAll, Act.put, List.setIfInBounds_toArray, List.set_cons_zero, List.set_cons_succ, Nat.zero_add, Nat.reduceAdd, e5, show pw6 6 = .pointer (some ⟨g8, 0, none⟩) from e6]
      clear q5 e5 e6
      have hgr : g + 1 ≤ wr.heap.size := by omega
      have hsl := fun w' => slice_sum w' g8
      have HBL := hid hbl
      clear hq hp ik ib hbl
      go_wp2_with (first | (refine wpList_store_blk rfl _ (.tmp 8) _ rfl _ rfl _ rfl (arr16_one _) _ c8 rfl size35 ?_; intro w7 g7 c7; have bq := below_of_grown bw6 g7 bw6.size hg8; have hv7 : Byt w7 (g + 1) _ BL := hv.below bq (fun k e => (hv.lt k e).2); have B7 : Below g w w7 := hB.trans (bq.mono (by omega)); have hz7 := bq.size; have r7 := sum_rd c7) | (refine wpList_append_bytes rfl (.tmp 36) (.tmp 37) rfl (g + 1) _ _ (sumL F) rfl hv7 _ 16 16 rfl (sumL_len F) (fun h => by cases h) r7 (by rw [sumL_len]; have := HBL.out; omega) (by omega) ?_; intro v8 w8 h8 k8 g8'))
      go_ret
      refine ⟨v8, rfl, ?_, ?_⟩
      · rw [HR.out, ← HG.out]; exact h8.mono (by omega)
      · rw [← HG.out]; exact B7.trans (k8.mono (by omega))
end Go.Proofs.Ytffoekgopooeaaa
