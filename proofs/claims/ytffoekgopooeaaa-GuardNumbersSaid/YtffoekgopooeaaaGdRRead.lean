/- The reference's Read of any bytes. -/
import Derived.Test.YtffoekgopooeaaaGdRead5
import Derived.Test.YtffoekgopooeaaaGdRNum
import Derived.Test.YtffoekgopooeaaaGdInj
namespace Go.Proofs.Ytffoekgopooeaaa
set_option linter.unusedVariables false
set_option linter.unusedSimpArgs false
open Go.ChangeShapes Go.WideShapes Go.ChangeAt Go.RowKit Go.Shelf
theorem run_slLH {a : Act} {w : World} {o : Oper} (x h k : Operand) (ho : o.op = .slice 23 x (some h) (some k) none) {l : List UInt8} (hx : IsB w l (a.eval x)) {A0 M : Nat} {z1 z2 : Int} (h1 : a.eval h = .int .i64 z1) (h2 : a.eval k = .int .i64 z2) (e1 : z1 = (A0 : Int)) (e2 : z2 = (A0 : Int) + (M : Int)) (hK : A0 + M ≤ l.length) : ∃ v, (execOp a.eval o).run Try.prog w = .ok (.value v) w ∧ IsB w ((l.drop A0).take M) v := by
  obtain ⟨A, c, e, q1, q2, q3, q4⟩ := hx
  have hrd : Rd w (cutA A c A0) ((l.drop A0).take M) := (rd_cut (k := A0) q4 q1).take M
  refine ⟨.slice (cutA A c A0) M (c - A0), ?_, hrd.isB' (by rw [List.length_take, List.length_drop]; omega) (by omega) (by omega) (cutA_none' q3)⟩
  unfold execOp
  simp only [ho, e, h1, h2]
  simp [slice_lh' w A l.length c A0 M z1 z2 e1 e2 (by omega), h1, h2]
theorem hop_slLH {B : Nat} {a : Act} {w : World} {o : Oper} {ops : Array Oper} {Q : Exit → Act → World → Prop} (hw : Region.wanted o (yielded ops a.tmps) = true) (x h k : Operand) (ho : o.op = .slice 23 x (some h) (some k) none) {l : List UInt8} (hx : IsB w l (a.eval x)) {A0 M : Nat} {z1 z2 : Int} (h1 : a.eval h = .int .i64 z1) (h2 : a.eval k = .int .i64 z2) (e1 : z1 = (A0 : Int)) (e2 : z2 = (A0 : Int) + (M : Int)) (hK : A0 + M ≤ l.length) :
    if Region.wanted o (yielded ops a.tmps) = true then o.wp Try.prog a w (fun a' w' => ∃ v, a' = a.put o.dst v ∧ Kc B w w' ∧ (StK.bytes ((l.drop A0).take M)).F w' v) Q else (StK.bytes ((l.drop A0).take M)).F w undef := by
  obtain ⟨v, g1, g2⟩ := run_slLH x h k ho hx h1 h2 e1 e2 hK
  exact hop_runK (F := (StK.bytes ((l.drop A0).take M)).F) hw v g1 g2
theorem run_strE {a : Act} {w : World} {o : Oper} (x : Operand) (ho : o.op = .convert 23 9 x) {l : List UInt8} (hx : IsB w l (a.eval x)) {s : ByteArray} (hs : (⟨l.toArray⟩ : ByteArray) = s) : (execOp a.eval o).run Try.prog w = .ok (.value (.string s)) w := by
  subst hs; exact run_str x ho hx
theorem run_buildTok {a : Act} {w : World} {o : Oper} (x0 x1 x2 x3 x4 : Operand) (ho : o.op = .build 41 #[(0, x0), (1, x1), (2, x2), (3, x3), (4, x4)]) {s : ByteArray} {p q r t : Int} (h0 : a.eval x0 = .string s) (h1 : a.eval x1 = .int .i64 p) (h2 : a.eval x2 = .int .i64 q) (h3 : a.eval x3 = .int .i64 r) (h4 : a.eval x4 = .int .i64 t) : (execOp a.eval o).run Try.prog w = .ok (.value (.agg (tokA4 s p q r t))) w := by
  unfold execOp
  simp only [ho, List.map_toArray, List.map_cons, List.map_nil, h0, h1, h2, h3, h4]
  kernel_rfl
theorem tok_newB {o : Oper} {a : Act} {w : World} (ho : o.op = .alloc 41) : (execOp a.eval o).run Try.prog w = .ok (.value (.pointer (some ⟨w.heap.size, 0, none⟩))) (w.alloc (.cells (tokA4 ⟨#[]⟩ 0 0 0 0) 41)) := by
  unfold execOp
  simp only [ho]
  kernel_rfl
/-- What the reference's number is, of at least eight bytes. -/
theorem num_any (R : List UInt8) (hR : 8 ≤ R.length) : ∃ z : Int, (-9223372036854775808 ≤ z ∧ z < 9223372036854775808) ∧ (0 ≤ z → ∃ m : Nat, z = (m : Int) ∧ (m : Int) < 9223372036854775808 ∧ R = eightL m ++ R.drop 8) ∧ (∀ (m : Nat) (T : List UInt8), (m : Int) < 9223372036854775808 → R = eightL m ++ T → z = (m : Int)) ∧
    Hid (∀ (v : Value) (w : World) (hv : IsB w R v), Calls Try.prog 47 #[v] w fun e w' => e = .returned (.int .i64 z) ∧ Below w.heap.size w w') := by
  obtain ⟨x, hx⟩ : ∃ x, R[0]? = some x := ⟨_, List.getElem?_eq_getElem (by omega)⟩
  by_cases h7 : (x.toNat : Int) ≤ 127
  · obtain ⟨m, hm, e⟩ := eight_of (R.take 8) (by rw [List.length_take]; omega) (fun y hy => by
      rw [List.getElem?_take_of_lt (by omega), hx] at hy; cases hy; exact h7)
    have hR : R = eightL m ++ R.drop 8 := by rw [← e, List.take_append_drop]
    refine ⟨m, ⟨by omega, hm⟩, fun _ => ⟨m, rfl, hm, hR⟩, fun k T hk h => ?_, hid fun v w hv => rnumber_ok m hm (R.drop 8) v w (by rw [← hR]; exact hv)⟩
    rw [hR] at h
    rw [eightL_inj hm hk (List.append_inj h (by rw [eightL_len, eightL_len])).1]
  · obtain ⟨z, z0, z1, hz⟩ := rnumber_no R hR x hx (by omega)
    refine ⟨z, ⟨z1, by omega⟩, fun h => absurd h (by omega), fun m T hm h => ?_, hz⟩
    obtain ⟨-, -, pk⟩ := up_pack hm
    obtain ⟨y, c, e1, e2, -, -, -, -, -, e3⟩ := pk 0 (by omega)
    rw [h, List.getElem?_append_left (by rw [eightL_len]; omega), e1] at hx
    cases hx
    have := e3 rfl
    omega
theorem tok_head {key l : List UInt8} {s : ByteArray} {n0 n1 n2 n3 : Nat} (h : IsTok key l s n0 n1 n2 n3) : ∃ T : List UInt8, T.length = 16 ∧ l = UInt8.ofNat s.size :: (sB s ++ (eightL n0 ++ (eightL n1 ++ (eightL n2 ++ (eightL n3 ++ T))))) := by
  refine ⟨_, sumL_len (macW key [[116, 111, 107, 101, 110], bodyN s [n0, n1, n2, n3]]), ?_⟩
  rw [h.2.2]
  unfold issueN
  generalize sumL _ = T
  unfold bodyN
  simp
theorem tok_len {key l : List UInt8} {s : ByteArray} {n0 n1 n2 n3 : Nat} (h : IsTok key l s n0 n1 n2 n3) : l.length = 1 + s.size + 48 := by
  obtain ⟨T, hT, e⟩ := tok_head h
  rw [e]; simp [sB_len, eightL_len, hT]; omega
theorem tok_split {key l : List UInt8} {s t : ByteArray} {n0 n1 n2 n3 : Nat} {r : List UInt8} (h : IsTok key l s n0 n1 n2 n3) (ht : t.size ≤ 255) (hl : l = UInt8.ofNat t.size :: (sB t ++ r)) : s = t ∧ ∃ T : List UInt8, T.length = 16 ∧ r = eightL n0 ++ (eightL n1 ++ (eightL n2 ++ (eightL n3 ++ T))) := by
  obtain ⟨T, hT, e⟩ := tok_head h
  have hs := h.1.2.1
  rw [hl] at e
  obtain ⟨e1, e2⟩ := List.cons.inj e
  have es : t.size = s.size := by
    have := congrArg UInt8.toNat e1
    simp at this; omega
  obtain ⟨e3, e4⟩ := List.append_inj e2 (by rw [sB_len, sB_len, es])
  refine ⟨?_, T, hT, e4⟩
  unfold sB at e3
  cases s; cases t
  simp only [Array.toList_inj] at e3
  rw [e3]
def RdRes (key l : List UInt8) (v : Value) : Prop := (∃ s n0 n1 n2 n3, IsTok key l s n0 n1 n2 n3 ∧ v = .tuple #[.agg (tokA4 s n0 n1 n2 n3), .bool true]) ∨ (NoTok key l ∧ v = .tuple #[.agg (tokA4 ⟨#[]⟩ 0 0 0 0), .bool false])
set_option maxRecDepth 100000 in
set_option maxHeartbeats 16000000 in
theorem rread_any (kv bv : Value) (key l : List UInt8) (hlen : l.length ≤ 1000) (hkl : key.length ≤ 2000) (w : World) (hk : IsB w key kv) (hb : IsB w l bv) :
    Calls Try.prog 30 #[kv, bv] w fun e w' => ∃ v, e = .returned v ∧ RdRes key l v ∧ Below w.heap.size w w' := by
  have q4 := Blk.new w 41 (tokA4 ⟨#[]⟩ 0 0 0 0)
  have b0 := step_alloc w (.cells (tokA4 ⟨#[]⟩ 0 0 0 0) 41)
  have b1 : (w.alloc (.cells (tokA4 ⟨#[]⟩ 0 0 0 0) 41)).heap.size = w.heap.size + 1 := by simp
  have i0 := hb.step b0
  have k0 := hk.step b0
  by_cases h0 : l.length = 0
  · have no : Hid (NoTok key l) := hid (fun s n0 n1 n2 n3 h => by have := tok_len h; omega)
    obtain ⟨A, cc, e, q1, q2, q3, q5⟩ := i0
    subst e
    have d1 : (l.length : Int) < 1 := by omega
    obtain ⟨N, hN⟩ : ∃ N, l.length = N := ⟨_, rfl⟩
    rw [hN] at d1 q1 ⊢
    clear h0 hN hlen q5 hb hk k0
    go_enter Try.func30, Try.ntmps30
    go_wp2_with (refine wpList_store_blk rfl _ (.tmp 4) _ rfl _ rfl _ rfl (by simp [Value.oneCell']) _ q4 rfl size_tok ?_; intro w9 g9 c9)
    have zz := b0.size
    exact bodyPost_ret (results_blk_tmp rfl (by first | rfl | (rw [← HG4.out]; rfl)) c9 Try.underlying41 rfl size_tok) rfl ⟨_, rfl, .inr ⟨no.out, rfl⟩, below_of_grown b0 g9 (by have := b0.size; omega) (Nat.le_refl _)⟩
  obtain ⟨x, hx⟩ : ∃ x, l[0]? = some x := ⟨_, List.getElem?_eq_getElem (by omega)⟩
  obtain ⟨A, cc, e, q1, q2, q3, q5⟩ := id i0
  obtain ⟨bb, o, rfl, hbb, hc⟩ := q5.at (by omega)
  have kx := hc 0 x hx
  rw [Nat.add_zero] at kx
  have hx8 := x.toNat_lt
  obtain ⟨X, hX⟩ : ∃ X : Int, (x.toNat : Int) = X := ⟨_, rfl⟩
  have X0 : 0 ≤ X := by omega
  have X8 : X < 256 := by omega
  rw [hX] at kx
  have d1 : ¬ (l.length : Int) < 1 := by omega
  by_cases h1 : l.length = 1 + x.toNat + 48
  rotate_left
  · have no : Hid (NoTok key l) := hid (fun s n0 n1 n2 n3 h => by
      have e1 := tok_len h
      obtain ⟨T, hT, e2⟩ := tok_head h
      have hs := h.1.2.1
      rw [e2] at hx
      have : x = UInt8.ofNat s.size := (Option.some.inj hx).symm
      rw [this] at h1
      simp at h1; omega)
    have d2 : ((l.length : Int) == 1 + X + 32 + 16) = false := beq_eq_false_iff_ne.2 (by omega)
    subst e
    obtain ⟨N, hN⟩ : ∃ N, l.length = N := ⟨_, rfl⟩
    have hN0 : 0 < N := by omega
    rw [hN] at d1 d2 q1 ⊢
    clear h0 h1 hN hlen q5 hb hk k0 hc hX hx hx8 i0
    go_enter Try.func30, Try.ntmps30
    go_wp2_with (refine wpList_store_blk rfl _ (.tmp 4) _ rfl _ rfl _ rfl (by simp [Value.oneCell']) _ q4 rfl size_tok ?_; intro w9 g9 c9)
    have zz := b0.size
    exact bodyPost_ret (results_blk_tmp rfl (by first | rfl | (rw [← HG4.out]; rfl)) c9 Try.underlying41 rfl size_tok) rfl ⟨_, rfl, .inr ⟨no.out, rfl⟩, below_of_grown b0 g9 (by have := b0.size; omega) (Nat.le_refl _)⟩
  · obtain ⟨s, r, hl, hs⟩ : ∃ (s : ByteArray) (r : List UInt8), l = UInt8.ofNat s.size :: (sB s ++ r) ∧ s.size ≤ 255 := by
      rcases head_of l with h | h
      · have := h x hx; omega
      · exact h
    have hsx : s.size = x.toNat := by
      have := hx
      rw [hl] at this
      rw [← Option.some.inj this]; simp; omega
    have hrl : r.length = 48 := by
      have := congrArg List.length hl
      simp [sB_len] at this; omega
    have hdr : ∀ k, l.drop (1 + s.size + k) = r.drop k := fun k => by
      rw [hl, show 1 + s.size + k = (s.size + k) + 1 by omega, List.drop_succ_cons, List.drop_append, List.drop_of_length_le (by rw [sB_len]; omega), List.nil_append, sB_len, Nat.add_sub_cancel_left]
    obtain ⟨z0, zb0, zp0, zq0, zc0⟩ := num_any (l.drop (1 + s.size)) (by have := hdr 0; rw [Nat.add_zero] at this; rw [this, List.length_drop]; omega)
    obtain ⟨z1, zb1, zp1, zq1, zc1⟩ := num_any (l.drop (1 + s.size + 8)) (by rw [hdr, List.length_drop]; omega)
    obtain ⟨z2, zb2, zp2, zq2, zc2⟩ := num_any (l.drop (1 + s.size + 16)) (by rw [hdr, List.length_drop]; omega)
    obtain ⟨z3, zb3, zp3, zq3, zc3⟩ := num_any (l.drop (1 + s.size + 24)) (by rw [hdr, List.length_drop]; omega)
    rw [hdr] at zp1 zq1 zp2 zq2 zp3 zq3
    rw [show l.drop (1 + s.size) = r from hdr 0] at zp0 zq0
    have HSP : Hid (∀ t n0 n1 n2 n3, IsTok key l t n0 n1 n2 n3 → t = s ∧ z0 = (n0 : Int) ∧ z1 = (n1 : Int) ∧ z2 = (n2 : Int) ∧ z3 = (n3 : Int)) := hid (fun t n0 n1 n2 n3 h => by
      obtain ⟨e1, T, hT, e2⟩ := tok_split h hs hl
      obtain ⟨-, ⟨g0, g1, g2, g3⟩, -⟩ := h
      have f1 : r.drop 8 = eightL n1 ++ (eightL n2 ++ (eightL n3 ++ T)) := by rw [e2, List.drop_append_of_le_length (by rw [eightL_len]; exact Nat.le_refl _), List.drop_of_length_le (by rw [eightL_len]; exact Nat.le_refl _), List.nil_append]
      have f2 : r.drop 16 = eightL n2 ++ (eightL n3 ++ T) := by rw [show 16 = 8 + 8 from rfl, ← List.drop_drop, f1, List.drop_append_of_le_length (by rw [eightL_len]; exact Nat.le_refl _), List.drop_of_length_le (by rw [eightL_len]; exact Nat.le_refl _), List.nil_append]
      have f3 : r.drop 24 = eightL n3 ++ T := by rw [show 24 = 16 + 8 from rfl, ← List.drop_drop, f2, List.drop_append_of_le_length (by rw [eightL_len]; exact Nat.le_refl _), List.drop_of_length_le (by rw [eightL_len]; exact Nat.le_refl _), List.nil_append]
      exact ⟨e1, zq0 n0 _ g0 e2, zq1 n1 _ g1 f1, zq2 n2 _ g2 f2, zq3 n3 _ g3 f3⟩)
    have HNEG : Hid (z0 < 0 ∨ z1 < 0 ∨ z2 < 0 ∨ z3 < 0 → NoTok key l) := hid (fun hz t n0 n1 n2 n3 h => by
      have := HSP.out t n0 n1 n2 n3 h; omega)
    have HSAME : Hid (∀ m0 m1 m2 m3 : Nat, z0 = (m0 : Int) → z1 = (m1 : Int) → z2 = (m2 : Int) → z3 = (m3 : Int) → issueN key s [m0, m1, m2, m3] ≠ l → NoTok key l) := hid (fun m0 m1 m2 m3 e0 e1 e2 e3 hne t n0 n1 n2 n3 h => by
      obtain ⟨rfl, f0, f1, f2, f3⟩ := HSP.out t n0 n1 n2 n3 h
      obtain rfl : m0 = n0 := by omega
      obtain rfl : m1 = n1 := by omega
      obtain rfl : m2 = n2 := by omega
      obtain rfl : m3 = n3 := by omega
      exact hne h.2.2.symm)
    have HB := hid hb
    have HS := hid hs
    have HKL := hid hkl
    have d2 : ((l.length : Int) == 1 + X + 32 + 16) = true := beq_iff_eq.2 (by omega)
    have hsB : Hid ((l.drop 1).take s.size = sB s) := hid (by rw [hl, List.drop_succ_cons, List.drop_zero, List.take_append_of_le_length (by rw [sB_len]; exact Nat.le_refl _), List.take_of_length_le (by rw [sB_len]; exact Nat.le_refl _)])
    have hsS : Hid ((⟨((l.drop 1).take s.size).toArray⟩ : ByteArray) = s) := hid (by rw [hsB.out]; unfold sB; simp)
    have hXs : X = (s.size : Int) := by omega
    have HLL : Hid (l.length = 1 + s.size + 48) := hid (by omega)
    have ZB : Hid ((z0 < 9223372036854775808 ∧ z1 < 9223372036854775808 ∧ z2 < 9223372036854775808 ∧ z3 < 9223372036854775808)) := hid ⟨zb0.2, zb1.2, zb2.2, zb3.2⟩
    subst e
    obtain ⟨N, hN⟩ : ∃ N, l.length = N := ⟨_, rfl⟩
    have hN0 : 0 < N := by omega
    rw [hN] at d1 d2 q1 i0 HB ⊢
    have HXs := hid hXs
    clear h0 h1 hN hlen q5 hb hc hX hx hx8 hl hs hsx hrl hdr zb0 zb1 zb2 zb3 zp0 zp1 zp2 zp3 zq0 zq1 zq2 zq3 hkl hXs
    go_enter Try.func30, Try.ntmps30
    go_upto_region 4 with (fail)
    obtain ⟨G4, hG4⟩ : ∃ g, g = w.heap.size := ⟨_, rfl⟩
    rw [← hG4] at q4 b0 b1 ⊢
    have HG4 := hid hG4
    obtain ⟨W, hW⟩ : ∃ W, W = w.alloc (.cells (tokA4 ⟨#[]⟩ 0 0 0 0) 41) := ⟨_, rfl⟩
    rw [← hW] at q4 b0 b1 i0 k0 kx hbb ⊢
    obtain ⟨bv, hbv⟩ : ∃ b, b = Value.slice (some ⟨bb, o, none⟩) N cc := ⟨_, rfl⟩
    rw [← hbv] at i0 ⊢
    clear hW hG4 kx hbb d1 d2 hbv
    refine wp_region_stT [StK.bytes (l), StK.eq (.int .i64 (1 + X)), StK.bytes ((l.drop 1).take s.size), StK.eq (.string s), StK.bytes (l), StK.eq (.int .i64 (1 + X)), StK.bytes (l.drop (1 + s.size)), StK.eq (.int .i64 z0), StK.bytes (l), StK.eq (.int .i64 (1 + X)), StK.eq (.int .i64 (1 + X + 8)), StK.bytes (l.drop (1 + s.size + 8)), StK.eq (.int .i64 z1), StK.bytes (l), StK.eq (.int .i64 (1 + X)), StK.eq (.int .i64 (1 + X + 16)), StK.bytes (l.drop (1 + s.size + 16)), StK.eq (.int .i64 z2), StK.bytes (l), StK.eq (.int .i64 (1 + X)), StK.eq (.int .i64 (1 + X + 24)), StK.bytes (l.drop (1 + s.size + 24)), StK.eq (.int .i64 z3), StK.eq (.agg (tokA4 s z0 z1 z2 z3)), StK.new W.heap.size ((tokA4 ⟨#[]⟩ 0 0 0 0)) 41 (by decide)] 25 88 rfl (by kernel_rfl) (by kernel_rfl) ⟨?_, ?_, ?_, ?_, ?_, ?_, ?_, ?_, ?_, ?_, ?_, ?_, ?_, ?_, ?_, ?_, ?_, ?_, ?_, ?_, ?_, ?_, ?_, ?_, ?_, trivial⟩ ?_
    · intro a w hb hd
      have e1 : IsB w (l) (a.eval (.tmp 1)) := by rw [show a.eval (.tmp 1) = bv from hd 1 (by decide)]; exact (i0).step hb
      exact hop_runK (F := (StK.bytes (l)).F) (wanted_none rfl) _ (run_mv _ (.inl rfl) rfl) e1
    · intro a w hb hd
      have e6 : a.eval (.tmp 6) = .int .i64 (1 + X) := hd 6 (by decide)
      exact hop_runK (F := (StK.eq (.int .i64 (1 + X))).F) (wanted_none rfl) _ (run_mv _ (.inl rfl) e6) rfl
    · intro a w hb hd
      have e29 : IsB w (l) (a.eval (.tmp 29)) := hd 29 (by decide)
      have e30 : a.eval (.tmp 30) = .int .i64 (1 + X) := hd 30 (by decide)
      exact hop_slLH (wanted_none rfl) (.tmp 29) (.const (.int .i64 1)) (.tmp 30) rfl e29 (A0 := 1) (M := s.size) rfl e30 rfl (by have := HXs.out; omega) (by rw [HLL.out]; omega)
    · intro a w hb hd
      have e31 : IsB w ((l.drop 1).take s.size) (a.eval (.tmp 31)) := hd 31 (by decide)
      exact hop_runK (F := (StK.eq (.string s)).F) (wanted_none rfl) _ (run_strE _ rfl e31 hsS.out) rfl
    · intro a w hb hd
      have e1 : IsB w (l) (a.eval (.tmp 1)) := by rw [show a.eval (.tmp 1) = bv from hd 1 (by decide)]; exact (i0).step hb
      exact hop_runK (F := (StK.bytes (l)).F) (wanted_none rfl) _ (run_mv _ (.inl rfl) rfl) e1
    · intro a w hb hd
      have e6 : a.eval (.tmp 6) = .int .i64 (1 + X) := hd 6 (by decide)
      exact hop_runK (F := (StK.eq (.int .i64 (1 + X))).F) (wanted_none rfl) _ (run_mv _ (.inl rfl) e6) rfl
    · intro a w hb hd
      have e33 : IsB w (l) (a.eval (.tmp 33)) := hd 33 (by decide)
      have e34 : a.eval (.tmp 34) = .int .i64 (1 + X) := hd 34 (by decide)
      exact hop_slFrom (wanted_none rfl) _ _ rfl e33 (K := 1 + s.size) e34 (by have := HXs.out; omega) (by rw [HLL.out]; omega)
    · intro a w hb hd
      have e35 : IsB w (l.drop (1 + s.size)) (a.eval (.tmp 35)) := hd 35 (by decide)
      exact hop_callK (F := (StK.eq (.int .i64 z0)).F) (wanted_none rfl) hb.size rfl #[a.eval (.tmp 35)] (by first | (simp only [List.map_toArray, List.map_cons, List.map_nil]; done) | (simp only [List.map_toArray, List.map_cons, List.map_nil]; rfl)) (enters_of Try.func47 (by kernel_rfl) rfl) (by exact call_eq (zc0.out _ _ e35))
    · intro a w hb hd
      have e1 : IsB w (l) (a.eval (.tmp 1)) := by rw [show a.eval (.tmp 1) = bv from hd 1 (by decide)]; exact (i0).step hb
      exact hop_runK (F := (StK.bytes (l)).F) (wanted_none rfl) _ (run_mv _ (.inl rfl) rfl) e1
    · intro a w hb hd
      have e6 : a.eval (.tmp 6) = .int .i64 (1 + X) := hd 6 (by decide)
      exact hop_runK (F := (StK.eq (.int .i64 (1 + X))).F) (wanted_none rfl) _ (run_mv _ (.inl rfl) e6) rfl
    · intro a w hb hd
      have e38 : a.eval (.tmp 38) = .int .i64 (1 + X) := hd 38 (by decide)
      exact hop_runK (F := (StK.eq (.int .i64 (1 + X + 8))).F) (wanted_none rfl) _ (run_addI _ _ rfl e38 rfl rfl (by omega) (by omega)) rfl
    · intro a w hb hd
      have e37 : IsB w (l) (a.eval (.tmp 37)) := hd 37 (by decide)
      have e39 : a.eval (.tmp 39) = .int .i64 (1 + X + 8) := hd 39 (by decide)
      exact hop_slFrom (wanted_none rfl) _ _ rfl e37 (K := 1 + s.size + 8) e39 (by have := HXs.out; omega) (by rw [HLL.out]; omega)
    · intro a w hb hd
      have e40 : IsB w (l.drop (1 + s.size + 8)) (a.eval (.tmp 40)) := hd 40 (by decide)
      exact hop_callK (F := (StK.eq (.int .i64 z1)).F) (wanted_none rfl) hb.size rfl #[a.eval (.tmp 40)] (by first | (simp only [List.map_toArray, List.map_cons, List.map_nil]; done) | (simp only [List.map_toArray, List.map_cons, List.map_nil]; rfl)) (enters_of Try.func47 (by kernel_rfl) rfl) (by exact call_eq (zc1.out _ _ e40))
    · intro a w hb hd
      have e1 : IsB w (l) (a.eval (.tmp 1)) := by rw [show a.eval (.tmp 1) = bv from hd 1 (by decide)]; exact (i0).step hb
      exact hop_runK (F := (StK.bytes (l)).F) (wanted_none rfl) _ (run_mv _ (.inl rfl) rfl) e1
    · intro a w hb hd
      have e6 : a.eval (.tmp 6) = .int .i64 (1 + X) := hd 6 (by decide)
      exact hop_runK (F := (StK.eq (.int .i64 (1 + X))).F) (wanted_none rfl) _ (run_mv _ (.inl rfl) e6) rfl
    · intro a w hb hd
      have e43 : a.eval (.tmp 43) = .int .i64 (1 + X) := hd 43 (by decide)
      exact hop_runK (F := (StK.eq (.int .i64 (1 + X + 16))).F) (wanted_none rfl) _ (run_addI _ _ rfl e43 rfl rfl (by omega) (by omega)) rfl
    · intro a w hb hd
      have e42 : IsB w (l) (a.eval (.tmp 42)) := hd 42 (by decide)
      have e44 : a.eval (.tmp 44) = .int .i64 (1 + X + 16) := hd 44 (by decide)
      exact hop_slFrom (wanted_none rfl) _ _ rfl e42 (K := 1 + s.size + 16) e44 (by have := HXs.out; omega) (by rw [HLL.out]; omega)
    · intro a w hb hd
      have e45 : IsB w (l.drop (1 + s.size + 16)) (a.eval (.tmp 45)) := hd 45 (by decide)
      exact hop_callK (F := (StK.eq (.int .i64 z2)).F) (wanted_none rfl) hb.size rfl #[a.eval (.tmp 45)] (by first | (simp only [List.map_toArray, List.map_cons, List.map_nil]; done) | (simp only [List.map_toArray, List.map_cons, List.map_nil]; rfl)) (enters_of Try.func47 (by kernel_rfl) rfl) (by exact call_eq (zc2.out _ _ e45))
    · intro a w hb hd
      have e1 : IsB w (l) (a.eval (.tmp 1)) := by rw [show a.eval (.tmp 1) = bv from hd 1 (by decide)]; exact (i0).step hb
      exact hop_runK (F := (StK.bytes (l)).F) (wanted_none rfl) _ (run_mv _ (.inl rfl) rfl) e1
    · intro a w hb hd
      have e6 : a.eval (.tmp 6) = .int .i64 (1 + X) := hd 6 (by decide)
      exact hop_runK (F := (StK.eq (.int .i64 (1 + X))).F) (wanted_none rfl) _ (run_mv _ (.inl rfl) e6) rfl
    · intro a w hb hd
      have e48 : a.eval (.tmp 48) = .int .i64 (1 + X) := hd 48 (by decide)
      exact hop_runK (F := (StK.eq (.int .i64 (1 + X + 24))).F) (wanted_none rfl) _ (run_addI _ _ rfl e48 rfl rfl (by omega) (by omega)) rfl
    · intro a w hb hd
      have e47 : IsB w (l) (a.eval (.tmp 47)) := hd 47 (by decide)
      have e49 : a.eval (.tmp 49) = .int .i64 (1 + X + 24) := hd 49 (by decide)
      exact hop_slFrom (wanted_none rfl) _ _ rfl e47 (K := 1 + s.size + 24) e49 (by have := HXs.out; omega) (by rw [HLL.out]; omega)
    · intro a w hb hd
      have e50 : IsB w (l.drop (1 + s.size + 24)) (a.eval (.tmp 50)) := hd 50 (by decide)
      exact hop_callK (F := (StK.eq (.int .i64 z3)).F) (wanted_none rfl) hb.size rfl #[a.eval (.tmp 50)] (by first | (simp only [List.map_toArray, List.map_cons, List.map_nil]; done) | (simp only [List.map_toArray, List.map_cons, List.map_nil]; rfl)) (enters_of Try.func47 (by kernel_rfl) rfl) (by exact call_eq (zc3.out _ _ e50))
    · intro a w hb hd
      have e32 : a.eval (.tmp 32) = .string s := hd 32 (by decide)
      have e36 : a.eval (.tmp 36) = .int .i64 z0 := hd 36 (by decide)
      have e41 : a.eval (.tmp 41) = .int .i64 z1 := hd 41 (by decide)
      have e46 : a.eval (.tmp 46) = .int .i64 z2 := hd 46 (by decide)
      have e51 : a.eval (.tmp 51) = .int .i64 z3 := hd 51 (by decide)
      exact hop_runK (F := (StK.eq (.agg (tokA4 s z0 z1 z2 z3))).F) (wanted_none rfl) _ (run_buildTok _ _ _ _ _ rfl e32 e36 e41 e46 e51) rfl
    · intro a w hb hd
      exact hop_new (wanted_none rfl) hb.size hb.size (by decide) (tok_newB rfl)
    intro pw3 w3 bw3 hp
    obtain ⟨-, -, -, -, -, -, -, -, -, -, -, -, -, -, -, -, -, -, -, -, -, -, -, q23, q24, -⟩ := hp
    have e23 : pw3 23 = .agg (tokA4 s z0 z1 z2 z3) := q23 (by decide)
    obtain ⟨g7, e24, hg7, c7⟩ := q24 (by decide)
    simp only [List.take_succ_cons, List.take_zero, List.drop_succ_cons, List.drop_zero, layAll, Act.put, List.setIfInBounds_toArray, List.set_cons_zero, List.set_cons_succ, Nat.zero_add, Nat.reduceAdd, e23, show pw3 24 = .pointer (some ⟨g7, 0, none⟩) from e24]
    clear q23 e23 e24
    have q43 := q4.step bw3
    have g47 : G4 ≠ g7 := fun h => by have := q4.lt; omega
    go_wp2_with (refine wpList_store_blk rfl _ (.tmp 7) _ rfl _ rfl _ rfl (by simp [tokA4, Value.oneCell']) _ c7 rfl size_tok ?_; intro w5 g5 c75)
    have B5 : Below G4 w w5 := below_of_grown (b0.trans (bw3.mono (by omega))) g5 (by have := bw3.size; omega) (by omega)
    have c45 := q43.grown g5 (ne_some g47)
    have S5 : Below W.heap.size W w5 := below_of_grown bw3 g5 bw3.size hg7
    have i5 := i0.step S5
    have k5 := k0.step S5
    clear c7 q43 bw3 g5 S5 i0 k0 q4 b0 b1 zc0 zc1 zc2 zc3 hg7
    have c7 := c75
    clear c75
    by_cases hnm : NameOk s
    rotate_left
    · have HNM : Hid (∀ w, Calls Try.prog 34 #[.string s] w fun e w' => e = .returned (.bool false) ∧ Below w.heap.size w w') := hid (fun w => rname_no s (by have := HS.out; omega) hnm w)
      have no : Hid (NoTok key l) := hid (fun t n0 n1 n2 n3 h => hnm (by have := (HSP.out t n0 n1 n2 n3 h).1; rw [← this]; exact h.1))
      clear hnm
      refine wp_region_stT ((StK.eq (.pointer (some ⟨g7, 0, none⟩))) :: (StK.eq (.string s)) :: (StK.eq (.bool false)) :: (StK.eq (.bool true)) :: (StK.eq (.bool true)) :: (StK.any) :: (StK.any) :: (StK.any) :: (StK.eq (.bool true)) :: (StK.eq (.bool true)) :: (StK.any) :: (StK.any) :: (StK.any) :: (StK.eq (.bool true)) :: (StK.eq (.bool true)) :: (StK.any) :: (StK.any) :: (StK.any) :: (StK.eq (.bool true)) :: (StK.eq (.bool true)) :: (StK.any) :: (StK.any) :: (StK.any) :: (StK.eq (.bool true)) :: (StK.eq (.bool true)) :: (StK.any) :: (StK.any) :: (StK.any) :: (StK.any) :: (StK.any) :: (StK.any) :: (StK.any) :: (StK.eq (.bool true)) :: []) 33 88 rfl (by kernel_rfl) (by kernel_rfl) ⟨?_, ?_, ?_, ?_, ?_, ?_, ?_, ?_, ?_, ?_, ?_, ?_, ?_, ?_, ?_, ?_, ?_, ?_, ?_, ?_, ?_, ?_, ?_, ?_, ?_, ?_, ?_, ?_, ?_, ?_, ?_, ?_, ?_, trivial⟩ ?_
      · intro a w hb hd
        have e7 : a.eval (.tmp 7) = .pointer (some ⟨g7, 0, none⟩) := hd 7 (by decide)
        exact hop_runK (F := (StK.eq (.pointer (some ⟨g7, 0, none⟩))).F) (wanted_none rfl) _ (by unfold execOp; simp only [e7]; kernel_rfl) rfl
      · intro a w hb hd
        have e53 : a.eval (.tmp 53) = .pointer (some ⟨g7, 0, none⟩) := hd 53 (by decide)
        exact hop_runK (F := (StK.eq (.string s)).F) (wanted_none rfl) _ (run_ldCell _ _ rfl e53 Try.underlying9 rfl ((c7.step hb).cell (k := 0) rfl)) rfl
      · intro a w hb hd
        have e54 : a.eval (.tmp 54) = .string s := hd 54 (by decide)
        exact hop_callK (F := (StK.eq (.bool false)).F) (wanted_none rfl) hb.size rfl #[a.eval (.tmp 54)] (by first | (simp only [List.map_toArray, List.map_cons, List.map_nil]; done) | (simp only [List.map_toArray, List.map_cons, List.map_nil]; rfl)) (enters_of Try.func34 (by kernel_rfl) rfl) (by rw [e54]; exact call_eq (HNM.out w))
      · intro a w hb hd
        have e55 : a.eval (.tmp 55) = .bool false := hd 55 (by decide)
        exact hop_runK (F := (StK.eq (.bool true)).F) (wanted_none rfl) _ (run_not _ _ rfl e55) rfl
      · intro a w hb hd
        have e56 : a.eval (.tmp 56) = .bool true := hd 56 (by decide)
        exact hop_runK (F := (StK.eq (.bool true)).F) (wanted_none rfl) _ (run_mv _ (.inl rfl) e56) rfl
      · intro a w hb hd
        have eg : a.eval (.tmp 57) = .bool true := hd 57 (by decide)
        exact hop_skipK (F := StK.any.F) rfl rfl rfl eg trivial
      · intro a w hb hd
        have eg : a.eval (.tmp 57) = .bool true := hd 57 (by decide)
        exact hop_skipK (F := StK.any.F) rfl rfl rfl eg trivial
      · intro a w hb hd
        have eg : a.eval (.tmp 57) = .bool true := hd 57 (by decide)
        exact hop_skipK (F := StK.any.F) rfl rfl rfl eg trivial
      · intro a w hb hd
        have e57 : a.eval (.tmp 57) = .bool true := hd 57 (by decide)
        exact hop_runK (F := (StK.eq (.bool true)).F) (wanted_none rfl) (.bool true) (run_pick_t rfl e57 rfl) rfl
      · intro a w hb hd
        have e61 : a.eval (.tmp 61) = .bool true := hd 61 (by decide)
        exact hop_runK (F := (StK.eq (.bool true)).F) (wanted_none rfl) _ (run_mv _ (.inl rfl) e61) rfl
      · intro a w hb hd
        have eg : a.eval (.tmp 62) = .bool true := hd 62 (by decide)
        exact hop_skipK (F := StK.any.F) rfl rfl rfl eg trivial
      · intro a w hb hd
        have eg : a.eval (.tmp 62) = .bool true := hd 62 (by decide)
        exact hop_skipK (F := StK.any.F) rfl rfl rfl eg trivial
      · intro a w hb hd
        have eg : a.eval (.tmp 62) = .bool true := hd 62 (by decide)
        exact hop_skipK (F := StK.any.F) rfl rfl rfl eg trivial
      · intro a w hb hd
        have e62 : a.eval (.tmp 62) = .bool true := hd 62 (by decide)
        exact hop_runK (F := (StK.eq (.bool true)).F) (wanted_none rfl) (.bool true) (run_pick_t rfl e62 rfl) rfl
      · intro a w hb hd
        have e66 : a.eval (.tmp 66) = .bool true := hd 66 (by decide)
        exact hop_runK (F := (StK.eq (.bool true)).F) (wanted_none rfl) _ (run_mv _ (.inl rfl) e66) rfl
      · intro a w hb hd
        have eg : a.eval (.tmp 67) = .bool true := hd 67 (by decide)
        exact hop_skipK (F := StK.any.F) rfl rfl rfl eg trivial
      · intro a w hb hd
        have eg : a.eval (.tmp 67) = .bool true := hd 67 (by decide)
        exact hop_skipK (F := StK.any.F) rfl rfl rfl eg trivial
      · intro a w hb hd
        have eg : a.eval (.tmp 67) = .bool true := hd 67 (by decide)
        exact hop_skipK (F := StK.any.F) rfl rfl rfl eg trivial
      · intro a w hb hd
        have e67 : a.eval (.tmp 67) = .bool true := hd 67 (by decide)
        exact hop_runK (F := (StK.eq (.bool true)).F) (wanted_none rfl) (.bool true) (run_pick_t rfl e67 rfl) rfl
      · intro a w hb hd
        have e71 : a.eval (.tmp 71) = .bool true := hd 71 (by decide)
        exact hop_runK (F := (StK.eq (.bool true)).F) (wanted_none rfl) _ (run_mv _ (.inl rfl) e71) rfl
      · intro a w hb hd
        have eg : a.eval (.tmp 72) = .bool true := hd 72 (by decide)
        exact hop_skipK (F := StK.any.F) rfl rfl rfl eg trivial
      · intro a w hb hd
        have eg : a.eval (.tmp 72) = .bool true := hd 72 (by decide)
        exact hop_skipK (F := StK.any.F) rfl rfl rfl eg trivial
      · intro a w hb hd
        have eg : a.eval (.tmp 72) = .bool true := hd 72 (by decide)
        exact hop_skipK (F := StK.any.F) rfl rfl rfl eg trivial
      · intro a w hb hd
        have e72 : a.eval (.tmp 72) = .bool true := hd 72 (by decide)
        exact hop_runK (F := (StK.eq (.bool true)).F) (wanted_none rfl) (.bool true) (run_pick_t rfl e72 rfl) rfl
      · intro a w hb hd
        have e76 : a.eval (.tmp 76) = .bool true := hd 76 (by decide)
        exact hop_runK (F := (StK.eq (.bool true)).F) (wanted_none rfl) _ (run_mv _ (.inl rfl) e76) rfl
      · intro a w hb hd
        have eg : a.eval (.tmp 77) = .bool true := hd 77 (by decide)
        exact hop_skipK (F := StK.any.F) rfl rfl rfl eg trivial
      · intro a w hb hd
        have eg : a.eval (.tmp 77) = .bool true := hd 77 (by decide)
        exact hop_skipK (F := StK.any.F) rfl rfl rfl eg trivial
      · intro a w hb hd
        have eg : a.eval (.tmp 77) = .bool true := hd 77 (by decide)
        exact hop_skipK (F := StK.any.F) rfl rfl rfl eg trivial
      · intro a w hb hd
        have eg : a.eval (.tmp 77) = .bool true := hd 77 (by decide)
        exact hop_skipK (F := StK.any.F) rfl rfl rfl eg trivial
      · intro a w hb hd
        have eg : a.eval (.tmp 77) = .bool true := hd 77 (by decide)
        exact hop_skipK (F := StK.any.F) rfl rfl rfl eg trivial
      · intro a w hb hd
        have eg : a.eval (.tmp 77) = .bool true := hd 77 (by decide)
        exact hop_skipK (F := StK.any.F) rfl rfl rfl eg trivial
      · intro a w hb hd
        have eg : a.eval (.tmp 77) = .bool true := hd 77 (by decide)
        exact hop_skipK (F := StK.any.F) rfl rfl rfl eg trivial
      · intro a w hb hd
        have e77 : a.eval (.tmp 77) = .bool true := hd 77 (by decide)
        exact hop_runK (F := (StK.eq (.bool true)).F) (wanted_none rfl) (.bool true) (run_pick_t rfl e77 rfl) rfl
      intro pw6 w6 bw6 hp
      obtain ⟨-, -, -, -, -, -, -, -, -, -, -, -, -, -, -, -, -, -, -, -, -, -, -, -, -, -, -, -, -, -, -, -, q32, -⟩ := hp
      have e32 : pw6 32 = .bool true := q32 (by decide)
      simp only [List.take_succ_cons, List.take_zero, List.drop_succ_cons, List.drop_zero, layAll, Act.put, List.setIfInBounds_toArray, List.set_cons_zero, List.set_cons_succ, Nat.zero_add, Nat.reduceAdd, e32]
      clear q32 e32
      have B6 := B5.trans (bw6.mono (by have := B5.size; have := HG4.out; omega))
      have c46 := c45.step bw6
      clear B5 c45
      go_wp2_with (refine wpList_store_blk rfl _ (.tmp 4) _ rfl _ rfl _ rfl (by simp [Value.oneCell']) _ c46 rfl size_tok ?_; intro w9 g9 c9)
      rw [HG4.out] at g9 c9 B6
      have zz := B6.size
      exact bodyPost_ret (results_blk_tmp rfl (by first | rfl | (rw [← HG4.out]; rfl)) c9 Try.underlying41 rfl size_tok) rfl ⟨_, rfl, .inr ⟨no.out, rfl⟩, below_of_grown B6 g9 (by have := B6.size; omega) (Nat.le_refl _)⟩
    · have HNM : Hid (∀ w, Calls Try.prog 34 #[.string s] w fun e w' => e = .returned (.bool true) ∧ Below w.heap.size w w') := hid (fun w => rname_ok s hnm w)
      have HOK := hid hnm
      clear hnm
      by_cases hz : z0 < 0
      · have HZ := hid hz
        have no : Hid (NoTok key l) := hid (HNEG.out (by omega))
        clear hz
        refine wp_region_stT ((StK.eq (.pointer (some ⟨g7, 0, none⟩))) :: (StK.eq (.string s)) :: (StK.eq (.bool true)) :: (StK.eq (.bool false)) :: (StK.eq (.bool false)) :: (StK.eq (.pointer (some ⟨g7, 1, none⟩))) :: (StK.eq (.int .i64 z0)) :: (StK.eq (.bool true)) :: (StK.eq (.bool true)) :: (StK.eq (.bool true)) :: (StK.any) :: (StK.any) :: (StK.any) :: (StK.eq (.bool true)) :: (StK.eq (.bool true)) :: (StK.any) :: (StK.any) :: (StK.any) :: (StK.eq (.bool true)) :: (StK.eq (.bool true)) :: (StK.any) :: (StK.any) :: (StK.any) :: (StK.eq (.bool true)) :: (StK.eq (.bool true)) :: (StK.any) :: (StK.any) :: (StK.any) :: (StK.any) :: (StK.any) :: (StK.any) :: (StK.any) :: (StK.eq (.bool true)) :: []) 33 88 rfl (by kernel_rfl) (by kernel_rfl) ⟨?_, ?_, ?_, ?_, ?_, ?_, ?_, ?_, ?_, ?_, ?_, ?_, ?_, ?_, ?_, ?_, ?_, ?_, ?_, ?_, ?_, ?_, ?_, ?_, ?_, ?_, ?_, ?_, ?_, ?_, ?_, ?_, ?_, trivial⟩ ?_
        · intro a w hb hd
          have e7 : a.eval (.tmp 7) = .pointer (some ⟨g7, 0, none⟩) := hd 7 (by decide)
          exact hop_runK (F := (StK.eq (.pointer (some ⟨g7, 0, none⟩))).F) (wanted_none rfl) _ (by unfold execOp; simp only [e7]; kernel_rfl) rfl
        · intro a w hb hd
          have e53 : a.eval (.tmp 53) = .pointer (some ⟨g7, 0, none⟩) := hd 53 (by decide)
          exact hop_runK (F := (StK.eq (.string s)).F) (wanted_none rfl) _ (run_ldCell _ _ rfl e53 Try.underlying9 rfl ((c7.step hb).cell (k := 0) rfl)) rfl
        · intro a w hb hd
          have e54 : a.eval (.tmp 54) = .string s := hd 54 (by decide)
          exact hop_callK (F := (StK.eq (.bool true)).F) (wanted_none rfl) hb.size rfl #[a.eval (.tmp 54)] (by first | (simp only [List.map_toArray, List.map_cons, List.map_nil]; done) | (simp only [List.map_toArray, List.map_cons, List.map_nil]; rfl)) (enters_of Try.func34 (by kernel_rfl) rfl) (by rw [e54]; exact call_eq (HNM.out w))
        · intro a w hb hd
          have e55 : a.eval (.tmp 55) = .bool true := hd 55 (by decide)
          exact hop_runK (F := (StK.eq (.bool false)).F) (wanted_none rfl) _ (run_not _ _ rfl e55) rfl
        · intro a w hb hd
          have e56 : a.eval (.tmp 56) = .bool false := hd 56 (by decide)
          exact hop_runK (F := (StK.eq (.bool false)).F) (wanted_none rfl) _ (run_mv _ (.inl rfl) e56) rfl
        · intro a w hb hd
          have eg : a.eval (.tmp 57) = .bool false := hd 57 (by decide)
          have e7 : a.eval (.tmp 7) = .pointer (some ⟨g7, 0, none⟩) := hd 7 (by decide)
          exact hop_runK (F := (StK.eq (.pointer (some ⟨g7, 1, none⟩))).F) (wanted_yes rfl rfl rfl eg) _ (by unfold execOp; simp only [e7]; kernel_rfl) rfl
        · intro a w hb hd
          have eg : a.eval (.tmp 57) = .bool false := hd 57 (by decide)
          have e58 : a.eval (.tmp 58) = .pointer (some ⟨g7, 1, none⟩) := hd 58 (by decide)
          exact hop_runK (F := (StK.eq (.int .i64 z0)).F) (wanted_yes rfl rfl rfl eg) _ (run_ldCell _ _ rfl e58 Try.underlying3 rfl ((c7.step hb).cell (k := 1) rfl)) rfl
        · intro a w hb hd
          have eg : a.eval (.tmp 57) = .bool false := hd 57 (by decide)
          have e59 : a.eval (.tmp 59) = .int .i64 z0 := hd 59 (by decide)
          exact hop_runK (F := (StK.eq (.bool true)).F) (wanted_yes rfl rfl rfl eg) _ (run_ltI _ _ rfl e59 rfl (decide_eq_true HZ.out)) rfl
        · intro a w hb hd
          have e57 : a.eval (.tmp 57) = .bool false := hd 57 (by decide)
          have e60 : a.eval (.tmp 60) = .bool true := hd 60 (by decide)
          exact hop_runK (F := (StK.eq (.bool true)).F) (wanted_none rfl) (.bool true) (run_pick_f rfl e57 e60) rfl
        · intro a w hb hd
          have e61 : a.eval (.tmp 61) = .bool true := hd 61 (by decide)
          exact hop_runK (F := (StK.eq (.bool true)).F) (wanted_none rfl) _ (run_mv _ (.inl rfl) e61) rfl
        · intro a w hb hd
          have eg : a.eval (.tmp 62) = .bool true := hd 62 (by decide)
          exact hop_skipK (F := StK.any.F) rfl rfl rfl eg trivial
        · intro a w hb hd
          have eg : a.eval (.tmp 62) = .bool true := hd 62 (by decide)
          exact hop_skipK (F := StK.any.F) rfl rfl rfl eg trivial
        · intro a w hb hd
          have eg : a.eval (.tmp 62) = .bool true := hd 62 (by decide)
          exact hop_skipK (F := StK.any.F) rfl rfl rfl eg trivial
        · intro a w hb hd
          have e62 : a.eval (.tmp 62) = .bool true := hd 62 (by decide)
          exact hop_runK (F := (StK.eq (.bool true)).F) (wanted_none rfl) (.bool true) (run_pick_t rfl e62 rfl) rfl
        · intro a w hb hd
          have e66 : a.eval (.tmp 66) = .bool true := hd 66 (by decide)
          exact hop_runK (F := (StK.eq (.bool true)).F) (wanted_none rfl) _ (run_mv _ (.inl rfl) e66) rfl
        · intro a w hb hd
          have eg : a.eval (.tmp 67) = .bool true := hd 67 (by decide)
          exact hop_skipK (F := StK.any.F) rfl rfl rfl eg trivial
        · intro a w hb hd
          have eg : a.eval (.tmp 67) = .bool true := hd 67 (by decide)
          exact hop_skipK (F := StK.any.F) rfl rfl rfl eg trivial
        · intro a w hb hd
          have eg : a.eval (.tmp 67) = .bool true := hd 67 (by decide)
          exact hop_skipK (F := StK.any.F) rfl rfl rfl eg trivial
        · intro a w hb hd
          have e67 : a.eval (.tmp 67) = .bool true := hd 67 (by decide)
          exact hop_runK (F := (StK.eq (.bool true)).F) (wanted_none rfl) (.bool true) (run_pick_t rfl e67 rfl) rfl
        · intro a w hb hd
          have e71 : a.eval (.tmp 71) = .bool true := hd 71 (by decide)
          exact hop_runK (F := (StK.eq (.bool true)).F) (wanted_none rfl) _ (run_mv _ (.inl rfl) e71) rfl
        · intro a w hb hd
          have eg : a.eval (.tmp 72) = .bool true := hd 72 (by decide)
          exact hop_skipK (F := StK.any.F) rfl rfl rfl eg trivial
        · intro a w hb hd
          have eg : a.eval (.tmp 72) = .bool true := hd 72 (by decide)
          exact hop_skipK (F := StK.any.F) rfl rfl rfl eg trivial
        · intro a w hb hd
          have eg : a.eval (.tmp 72) = .bool true := hd 72 (by decide)
          exact hop_skipK (F := StK.any.F) rfl rfl rfl eg trivial
        · intro a w hb hd
          have e72 : a.eval (.tmp 72) = .bool true := hd 72 (by decide)
          exact hop_runK (F := (StK.eq (.bool true)).F) (wanted_none rfl) (.bool true) (run_pick_t rfl e72 rfl) rfl
        · intro a w hb hd
          have e76 : a.eval (.tmp 76) = .bool true := hd 76 (by decide)
          exact hop_runK (F := (StK.eq (.bool true)).F) (wanted_none rfl) _ (run_mv _ (.inl rfl) e76) rfl
        · intro a w hb hd
          have eg : a.eval (.tmp 77) = .bool true := hd 77 (by decide)
          exact hop_skipK (F := StK.any.F) rfl rfl rfl eg trivial
        · intro a w hb hd
          have eg : a.eval (.tmp 77) = .bool true := hd 77 (by decide)
          exact hop_skipK (F := StK.any.F) rfl rfl rfl eg trivial
        · intro a w hb hd
          have eg : a.eval (.tmp 77) = .bool true := hd 77 (by decide)
          exact hop_skipK (F := StK.any.F) rfl rfl rfl eg trivial
        · intro a w hb hd
          have eg : a.eval (.tmp 77) = .bool true := hd 77 (by decide)
          exact hop_skipK (F := StK.any.F) rfl rfl rfl eg trivial
        · intro a w hb hd
          have eg : a.eval (.tmp 77) = .bool true := hd 77 (by decide)
          exact hop_skipK (F := StK.any.F) rfl rfl rfl eg trivial
        · intro a w hb hd
          have eg : a.eval (.tmp 77) = .bool true := hd 77 (by decide)
          exact hop_skipK (F := StK.any.F) rfl rfl rfl eg trivial
        · intro a w hb hd
          have eg : a.eval (.tmp 77) = .bool true := hd 77 (by decide)
          exact hop_skipK (F := StK.any.F) rfl rfl rfl eg trivial
        · intro a w hb hd
          have e77 : a.eval (.tmp 77) = .bool true := hd 77 (by decide)
          exact hop_runK (F := (StK.eq (.bool true)).F) (wanted_none rfl) (.bool true) (run_pick_t rfl e77 rfl) rfl
        intro pw6 w6 bw6 hp
        obtain ⟨-, -, -, -, -, -, -, -, -, -, -, -, -, -, -, -, -, -, -, -, -, -, -, -, -, -, -, -, -, -, -, -, q32, -⟩ := hp
        have e32 : pw6 32 = .bool true := q32 (by decide)
        simp only [List.take_succ_cons, List.take_zero, List.drop_succ_cons, List.drop_zero, layAll, Act.put, List.setIfInBounds_toArray, List.set_cons_zero, List.set_cons_succ, Nat.zero_add, Nat.reduceAdd, e32]
        clear q32 e32
        have B6 := B5.trans (bw6.mono (by have := B5.size; have := HG4.out; omega))
        have c46 := c45.step bw6
        clear B5 c45
        go_wp2_with (refine wpList_store_blk rfl _ (.tmp 4) _ rfl _ rfl _ rfl (by simp [Value.oneCell']) _ c46 rfl size_tok ?_; intro w9 g9 c9)
        rw [HG4.out] at g9 c9 B6
        have zz := B6.size
        exact bodyPost_ret (results_blk_tmp rfl (by first | rfl | (rw [← HG4.out]; rfl)) c9 Try.underlying41 rfl size_tok) rfl ⟨_, rfl, .inr ⟨no.out, rfl⟩, below_of_grown B6 g9 (by have := B6.size; omega) (Nat.le_refl _)⟩
      have D0 := hid hz
      by_cases hz : z1 < 0
      · have HZ := hid hz
        have no : Hid (NoTok key l) := hid (HNEG.out (by omega))
        clear hz
        refine wp_region_stT ((StK.eq (.pointer (some ⟨g7, 0, none⟩))) :: (StK.eq (.string s)) :: (StK.eq (.bool true)) :: (StK.eq (.bool false)) :: (StK.eq (.bool false)) :: (StK.eq (.pointer (some ⟨g7, 1, none⟩))) :: (StK.eq (.int .i64 z0)) :: (StK.eq (.bool false)) :: (StK.eq (.bool false)) :: (StK.eq (.bool false)) :: (StK.eq (.pointer (some ⟨g7, 2, none⟩))) :: (StK.eq (.int .i64 z1)) :: (StK.eq (.bool true)) :: (StK.eq (.bool true)) :: (StK.eq (.bool true)) :: (StK.any) :: (StK.any) :: (StK.any) :: (StK.eq (.bool true)) :: (StK.eq (.bool true)) :: (StK.any) :: (StK.any) :: (StK.any) :: (StK.eq (.bool true)) :: (StK.eq (.bool true)) :: (StK.any) :: (StK.any) :: (StK.any) :: (StK.any) :: (StK.any) :: (StK.any) :: (StK.any) :: (StK.eq (.bool true)) :: []) 33 88 rfl (by kernel_rfl) (by kernel_rfl) ⟨?_, ?_, ?_, ?_, ?_, ?_, ?_, ?_, ?_, ?_, ?_, ?_, ?_, ?_, ?_, ?_, ?_, ?_, ?_, ?_, ?_, ?_, ?_, ?_, ?_, ?_, ?_, ?_, ?_, ?_, ?_, ?_, ?_, trivial⟩ ?_
        · intro a w hb hd
          have e7 : a.eval (.tmp 7) = .pointer (some ⟨g7, 0, none⟩) := hd 7 (by decide)
          exact hop_runK (F := (StK.eq (.pointer (some ⟨g7, 0, none⟩))).F) (wanted_none rfl) _ (by unfold execOp; simp only [e7]; kernel_rfl) rfl
        · intro a w hb hd
          have e53 : a.eval (.tmp 53) = .pointer (some ⟨g7, 0, none⟩) := hd 53 (by decide)
          exact hop_runK (F := (StK.eq (.string s)).F) (wanted_none rfl) _ (run_ldCell _ _ rfl e53 Try.underlying9 rfl ((c7.step hb).cell (k := 0) rfl)) rfl
        · intro a w hb hd
          have e54 : a.eval (.tmp 54) = .string s := hd 54 (by decide)
          exact hop_callK (F := (StK.eq (.bool true)).F) (wanted_none rfl) hb.size rfl #[a.eval (.tmp 54)] (by first | (simp only [List.map_toArray, List.map_cons, List.map_nil]; done) | (simp only [List.map_toArray, List.map_cons, List.map_nil]; rfl)) (enters_of Try.func34 (by kernel_rfl) rfl) (by rw [e54]; exact call_eq (HNM.out w))
        · intro a w hb hd
          have e55 : a.eval (.tmp 55) = .bool true := hd 55 (by decide)
          exact hop_runK (F := (StK.eq (.bool false)).F) (wanted_none rfl) _ (run_not _ _ rfl e55) rfl
        · intro a w hb hd
          have e56 : a.eval (.tmp 56) = .bool false := hd 56 (by decide)
          exact hop_runK (F := (StK.eq (.bool false)).F) (wanted_none rfl) _ (run_mv _ (.inl rfl) e56) rfl
        · intro a w hb hd
          have eg : a.eval (.tmp 57) = .bool false := hd 57 (by decide)
          have e7 : a.eval (.tmp 7) = .pointer (some ⟨g7, 0, none⟩) := hd 7 (by decide)
          exact hop_runK (F := (StK.eq (.pointer (some ⟨g7, 1, none⟩))).F) (wanted_yes rfl rfl rfl eg) _ (by unfold execOp; simp only [e7]; kernel_rfl) rfl
        · intro a w hb hd
          have eg : a.eval (.tmp 57) = .bool false := hd 57 (by decide)
          have e58 : a.eval (.tmp 58) = .pointer (some ⟨g7, 1, none⟩) := hd 58 (by decide)
          exact hop_runK (F := (StK.eq (.int .i64 z0)).F) (wanted_yes rfl rfl rfl eg) _ (run_ldCell _ _ rfl e58 Try.underlying3 rfl ((c7.step hb).cell (k := 1) rfl)) rfl
        · intro a w hb hd
          have eg : a.eval (.tmp 57) = .bool false := hd 57 (by decide)
          have e59 : a.eval (.tmp 59) = .int .i64 z0 := hd 59 (by decide)
          exact hop_runK (F := (StK.eq (.bool false)).F) (wanted_yes rfl rfl rfl eg) _ (run_ltI _ _ rfl e59 rfl (decide_eq_false D0.out)) rfl
        · intro a w hb hd
          have e57 : a.eval (.tmp 57) = .bool false := hd 57 (by decide)
          have e60 : a.eval (.tmp 60) = .bool false := hd 60 (by decide)
          exact hop_runK (F := (StK.eq (.bool false)).F) (wanted_none rfl) (.bool false) (run_pick_f rfl e57 e60) rfl
        · intro a w hb hd
          have e61 : a.eval (.tmp 61) = .bool false := hd 61 (by decide)
          exact hop_runK (F := (StK.eq (.bool false)).F) (wanted_none rfl) _ (run_mv _ (.inl rfl) e61) rfl
        · intro a w hb hd
          have eg : a.eval (.tmp 62) = .bool false := hd 62 (by decide)
          have e7 : a.eval (.tmp 7) = .pointer (some ⟨g7, 0, none⟩) := hd 7 (by decide)
          exact hop_runK (F := (StK.eq (.pointer (some ⟨g7, 2, none⟩))).F) (wanted_yes rfl rfl rfl eg) _ (by unfold execOp; simp only [e7]; kernel_rfl) rfl
        · intro a w hb hd
          have eg : a.eval (.tmp 62) = .bool false := hd 62 (by decide)
          have e63 : a.eval (.tmp 63) = .pointer (some ⟨g7, 2, none⟩) := hd 63 (by decide)
          exact hop_runK (F := (StK.eq (.int .i64 z1)).F) (wanted_yes rfl rfl rfl eg) _ (run_ldCell _ _ rfl e63 Try.underlying3 rfl ((c7.step hb).cell (k := 2) rfl)) rfl
        · intro a w hb hd
          have eg : a.eval (.tmp 62) = .bool false := hd 62 (by decide)
          have e64 : a.eval (.tmp 64) = .int .i64 z1 := hd 64 (by decide)
          exact hop_runK (F := (StK.eq (.bool true)).F) (wanted_yes rfl rfl rfl eg) _ (run_ltI _ _ rfl e64 rfl (decide_eq_true HZ.out)) rfl
        · intro a w hb hd
          have e62 : a.eval (.tmp 62) = .bool false := hd 62 (by decide)
          have e65 : a.eval (.tmp 65) = .bool true := hd 65 (by decide)
          exact hop_runK (F := (StK.eq (.bool true)).F) (wanted_none rfl) (.bool true) (run_pick_f rfl e62 e65) rfl
        · intro a w hb hd
          have e66 : a.eval (.tmp 66) = .bool true := hd 66 (by decide)
          exact hop_runK (F := (StK.eq (.bool true)).F) (wanted_none rfl) _ (run_mv _ (.inl rfl) e66) rfl
        · intro a w hb hd
          have eg : a.eval (.tmp 67) = .bool true := hd 67 (by decide)
          exact hop_skipK (F := StK.any.F) rfl rfl rfl eg trivial
        · intro a w hb hd
          have eg : a.eval (.tmp 67) = .bool true := hd 67 (by decide)
          exact hop_skipK (F := StK.any.F) rfl rfl rfl eg trivial
        · intro a w hb hd
          have eg : a.eval (.tmp 67) = .bool true := hd 67 (by decide)
          exact hop_skipK (F := StK.any.F) rfl rfl rfl eg trivial
        · intro a w hb hd
          have e67 : a.eval (.tmp 67) = .bool true := hd 67 (by decide)
          exact hop_runK (F := (StK.eq (.bool true)).F) (wanted_none rfl) (.bool true) (run_pick_t rfl e67 rfl) rfl
        · intro a w hb hd
          have e71 : a.eval (.tmp 71) = .bool true := hd 71 (by decide)
          exact hop_runK (F := (StK.eq (.bool true)).F) (wanted_none rfl) _ (run_mv _ (.inl rfl) e71) rfl
        · intro a w hb hd
          have eg : a.eval (.tmp 72) = .bool true := hd 72 (by decide)
          exact hop_skipK (F := StK.any.F) rfl rfl rfl eg trivial
        · intro a w hb hd
          have eg : a.eval (.tmp 72) = .bool true := hd 72 (by decide)
          exact hop_skipK (F := StK.any.F) rfl rfl rfl eg trivial
        · intro a w hb hd
          have eg : a.eval (.tmp 72) = .bool true := hd 72 (by decide)
          exact hop_skipK (F := StK.any.F) rfl rfl rfl eg trivial
        · intro a w hb hd
          have e72 : a.eval (.tmp 72) = .bool true := hd 72 (by decide)
          exact hop_runK (F := (StK.eq (.bool true)).F) (wanted_none rfl) (.bool true) (run_pick_t rfl e72 rfl) rfl
        · intro a w hb hd
          have e76 : a.eval (.tmp 76) = .bool true := hd 76 (by decide)
          exact hop_runK (F := (StK.eq (.bool true)).F) (wanted_none rfl) _ (run_mv _ (.inl rfl) e76) rfl
        · intro a w hb hd
          have eg : a.eval (.tmp 77) = .bool true := hd 77 (by decide)
          exact hop_skipK (F := StK.any.F) rfl rfl rfl eg trivial
        · intro a w hb hd
          have eg : a.eval (.tmp 77) = .bool true := hd 77 (by decide)
          exact hop_skipK (F := StK.any.F) rfl rfl rfl eg trivial
        · intro a w hb hd
          have eg : a.eval (.tmp 77) = .bool true := hd 77 (by decide)
          exact hop_skipK (F := StK.any.F) rfl rfl rfl eg trivial
        · intro a w hb hd
          have eg : a.eval (.tmp 77) = .bool true := hd 77 (by decide)
          exact hop_skipK (F := StK.any.F) rfl rfl rfl eg trivial
        · intro a w hb hd
          have eg : a.eval (.tmp 77) = .bool true := hd 77 (by decide)
          exact hop_skipK (F := StK.any.F) rfl rfl rfl eg trivial
        · intro a w hb hd
          have eg : a.eval (.tmp 77) = .bool true := hd 77 (by decide)
          exact hop_skipK (F := StK.any.F) rfl rfl rfl eg trivial
        · intro a w hb hd
          have eg : a.eval (.tmp 77) = .bool true := hd 77 (by decide)
          exact hop_skipK (F := StK.any.F) rfl rfl rfl eg trivial
        · intro a w hb hd
          have e77 : a.eval (.tmp 77) = .bool true := hd 77 (by decide)
          exact hop_runK (F := (StK.eq (.bool true)).F) (wanted_none rfl) (.bool true) (run_pick_t rfl e77 rfl) rfl
        intro pw6 w6 bw6 hp
        obtain ⟨-, -, -, -, -, -, -, -, -, -, -, -, -, -, -, -, -, -, -, -, -, -, -, -, -, -, -, -, -, -, -, -, q32, -⟩ := hp
        have e32 : pw6 32 = .bool true := q32 (by decide)
        simp only [List.take_succ_cons, List.take_zero, List.drop_succ_cons, List.drop_zero, layAll, Act.put, List.setIfInBounds_toArray, List.set_cons_zero, List.set_cons_succ, Nat.zero_add, Nat.reduceAdd, e32]
        clear q32 e32
        have B6 := B5.trans (bw6.mono (by have := B5.size; have := HG4.out; omega))
        have c46 := c45.step bw6
        clear B5 c45
        go_wp2_with (refine wpList_store_blk rfl _ (.tmp 4) _ rfl _ rfl _ rfl (by simp [Value.oneCell']) _ c46 rfl size_tok ?_; intro w9 g9 c9)
        rw [HG4.out] at g9 c9 B6
        have zz := B6.size
        exact bodyPost_ret (results_blk_tmp rfl (by first | rfl | (rw [← HG4.out]; rfl)) c9 Try.underlying41 rfl size_tok) rfl ⟨_, rfl, .inr ⟨no.out, rfl⟩, below_of_grown B6 g9 (by have := B6.size; omega) (Nat.le_refl _)⟩
      have D1 := hid hz
      by_cases hz : z2 < 0
      · have HZ := hid hz
        have no : Hid (NoTok key l) := hid (HNEG.out (by omega))
        clear hz
        refine wp_region_stT ((StK.eq (.pointer (some ⟨g7, 0, none⟩))) :: (StK.eq (.string s)) :: (StK.eq (.bool true)) :: (StK.eq (.bool false)) :: (StK.eq (.bool false)) :: (StK.eq (.pointer (some ⟨g7, 1, none⟩))) :: (StK.eq (.int .i64 z0)) :: (StK.eq (.bool false)) :: (StK.eq (.bool false)) :: (StK.eq (.bool false)) :: (StK.eq (.pointer (some ⟨g7, 2, none⟩))) :: (StK.eq (.int .i64 z1)) :: (StK.eq (.bool false)) :: (StK.eq (.bool false)) :: (StK.eq (.bool false)) :: (StK.eq (.pointer (some ⟨g7, 3, none⟩))) :: (StK.eq (.int .i64 z2)) :: (StK.eq (.bool true)) :: (StK.eq (.bool true)) :: (StK.eq (.bool true)) :: (StK.any) :: (StK.any) :: (StK.any) :: (StK.eq (.bool true)) :: (StK.eq (.bool true)) :: (StK.any) :: (StK.any) :: (StK.any) :: (StK.any) :: (StK.any) :: (StK.any) :: (StK.any) :: (StK.eq (.bool true)) :: []) 33 88 rfl (by kernel_rfl) (by kernel_rfl) ⟨?_, ?_, ?_, ?_, ?_, ?_, ?_, ?_, ?_, ?_, ?_, ?_, ?_, ?_, ?_, ?_, ?_, ?_, ?_, ?_, ?_, ?_, ?_, ?_, ?_, ?_, ?_, ?_, ?_, ?_, ?_, ?_, ?_, trivial⟩ ?_
        · intro a w hb hd
          have e7 : a.eval (.tmp 7) = .pointer (some ⟨g7, 0, none⟩) := hd 7 (by decide)
          exact hop_runK (F := (StK.eq (.pointer (some ⟨g7, 0, none⟩))).F) (wanted_none rfl) _ (by unfold execOp; simp only [e7]; kernel_rfl) rfl
        · intro a w hb hd
          have e53 : a.eval (.tmp 53) = .pointer (some ⟨g7, 0, none⟩) := hd 53 (by decide)
          exact hop_runK (F := (StK.eq (.string s)).F) (wanted_none rfl) _ (run_ldCell _ _ rfl e53 Try.underlying9 rfl ((c7.step hb).cell (k := 0) rfl)) rfl
        · intro a w hb hd
          have e54 : a.eval (.tmp 54) = .string s := hd 54 (by decide)
          exact hop_callK (F := (StK.eq (.bool true)).F) (wanted_none rfl) hb.size rfl #[a.eval (.tmp 54)] (by first | (simp only [List.map_toArray, List.map_cons, List.map_nil]; done) | (simp only [List.map_toArray, List.map_cons, List.map_nil]; rfl)) (enters_of Try.func34 (by kernel_rfl) rfl) (by rw [e54]; exact call_eq (HNM.out w))
        · intro a w hb hd
          have e55 : a.eval (.tmp 55) = .bool true := hd 55 (by decide)
          exact hop_runK (F := (StK.eq (.bool false)).F) (wanted_none rfl) _ (run_not _ _ rfl e55) rfl
        · intro a w hb hd
          have e56 : a.eval (.tmp 56) = .bool false := hd 56 (by decide)
          exact hop_runK (F := (StK.eq (.bool false)).F) (wanted_none rfl) _ (run_mv _ (.inl rfl) e56) rfl
        · intro a w hb hd
          have eg : a.eval (.tmp 57) = .bool false := hd 57 (by decide)
          have e7 : a.eval (.tmp 7) = .pointer (some ⟨g7, 0, none⟩) := hd 7 (by decide)
          exact hop_runK (F := (StK.eq (.pointer (some ⟨g7, 1, none⟩))).F) (wanted_yes rfl rfl rfl eg) _ (by unfold execOp; simp only [e7]; kernel_rfl) rfl
        · intro a w hb hd
          have eg : a.eval (.tmp 57) = .bool false := hd 57 (by decide)
          have e58 : a.eval (.tmp 58) = .pointer (some ⟨g7, 1, none⟩) := hd 58 (by decide)
          exact hop_runK (F := (StK.eq (.int .i64 z0)).F) (wanted_yes rfl rfl rfl eg) _ (run_ldCell _ _ rfl e58 Try.underlying3 rfl ((c7.step hb).cell (k := 1) rfl)) rfl
        · intro a w hb hd
          have eg : a.eval (.tmp 57) = .bool false := hd 57 (by decide)
          have e59 : a.eval (.tmp 59) = .int .i64 z0 := hd 59 (by decide)
          exact hop_runK (F := (StK.eq (.bool false)).F) (wanted_yes rfl rfl rfl eg) _ (run_ltI _ _ rfl e59 rfl (decide_eq_false D0.out)) rfl
        · intro a w hb hd
          have e57 : a.eval (.tmp 57) = .bool false := hd 57 (by decide)
          have e60 : a.eval (.tmp 60) = .bool false := hd 60 (by decide)
          exact hop_runK (F := (StK.eq (.bool false)).F) (wanted_none rfl) (.bool false) (run_pick_f rfl e57 e60) rfl
        · intro a w hb hd
          have e61 : a.eval (.tmp 61) = .bool false := hd 61 (by decide)
          exact hop_runK (F := (StK.eq (.bool false)).F) (wanted_none rfl) _ (run_mv _ (.inl rfl) e61) rfl
        · intro a w hb hd
          have eg : a.eval (.tmp 62) = .bool false := hd 62 (by decide)
          have e7 : a.eval (.tmp 7) = .pointer (some ⟨g7, 0, none⟩) := hd 7 (by decide)
          exact hop_runK (F := (StK.eq (.pointer (some ⟨g7, 2, none⟩))).F) (wanted_yes rfl rfl rfl eg) _ (by unfold execOp; simp only [e7]; kernel_rfl) rfl
        · intro a w hb hd
          have eg : a.eval (.tmp 62) = .bool false := hd 62 (by decide)
          have e63 : a.eval (.tmp 63) = .pointer (some ⟨g7, 2, none⟩) := hd 63 (by decide)
          exact hop_runK (F := (StK.eq (.int .i64 z1)).F) (wanted_yes rfl rfl rfl eg) _ (run_ldCell _ _ rfl e63 Try.underlying3 rfl ((c7.step hb).cell (k := 2) rfl)) rfl
        · intro a w hb hd
          have eg : a.eval (.tmp 62) = .bool false := hd 62 (by decide)
          have e64 : a.eval (.tmp 64) = .int .i64 z1 := hd 64 (by decide)
          exact hop_runK (F := (StK.eq (.bool false)).F) (wanted_yes rfl rfl rfl eg) _ (run_ltI _ _ rfl e64 rfl (decide_eq_false D1.out)) rfl
        · intro a w hb hd
          have e62 : a.eval (.tmp 62) = .bool false := hd 62 (by decide)
          have e65 : a.eval (.tmp 65) = .bool false := hd 65 (by decide)
          exact hop_runK (F := (StK.eq (.bool false)).F) (wanted_none rfl) (.bool false) (run_pick_f rfl e62 e65) rfl
        · intro a w hb hd
          have e66 : a.eval (.tmp 66) = .bool false := hd 66 (by decide)
          exact hop_runK (F := (StK.eq (.bool false)).F) (wanted_none rfl) _ (run_mv _ (.inl rfl) e66) rfl
        · intro a w hb hd
          have eg : a.eval (.tmp 67) = .bool false := hd 67 (by decide)
          have e7 : a.eval (.tmp 7) = .pointer (some ⟨g7, 0, none⟩) := hd 7 (by decide)
          exact hop_runK (F := (StK.eq (.pointer (some ⟨g7, 3, none⟩))).F) (wanted_yes rfl rfl rfl eg) _ (by unfold execOp; simp only [e7]; kernel_rfl) rfl
        · intro a w hb hd
          have eg : a.eval (.tmp 67) = .bool false := hd 67 (by decide)
          have e68 : a.eval (.tmp 68) = .pointer (some ⟨g7, 3, none⟩) := hd 68 (by decide)
          exact hop_runK (F := (StK.eq (.int .i64 z2)).F) (wanted_yes rfl rfl rfl eg) _ (run_ldCell _ _ rfl e68 Try.underlying3 rfl ((c7.step hb).cell (k := 3) rfl)) rfl
        · intro a w hb hd
          have eg : a.eval (.tmp 67) = .bool false := hd 67 (by decide)
          have e69 : a.eval (.tmp 69) = .int .i64 z2 := hd 69 (by decide)
          exact hop_runK (F := (StK.eq (.bool true)).F) (wanted_yes rfl rfl rfl eg) _ (run_ltI _ _ rfl e69 rfl (decide_eq_true HZ.out)) rfl
        · intro a w hb hd
          have e67 : a.eval (.tmp 67) = .bool false := hd 67 (by decide)
          have e70 : a.eval (.tmp 70) = .bool true := hd 70 (by decide)
          exact hop_runK (F := (StK.eq (.bool true)).F) (wanted_none rfl) (.bool true) (run_pick_f rfl e67 e70) rfl
        · intro a w hb hd
          have e71 : a.eval (.tmp 71) = .bool true := hd 71 (by decide)
          exact hop_runK (F := (StK.eq (.bool true)).F) (wanted_none rfl) _ (run_mv _ (.inl rfl) e71) rfl
        · intro a w hb hd
          have eg : a.eval (.tmp 72) = .bool true := hd 72 (by decide)
          exact hop_skipK (F := StK.any.F) rfl rfl rfl eg trivial
        · intro a w hb hd
          have eg : a.eval (.tmp 72) = .bool true := hd 72 (by decide)
          exact hop_skipK (F := StK.any.F) rfl rfl rfl eg trivial
        · intro a w hb hd
          have eg : a.eval (.tmp 72) = .bool true := hd 72 (by decide)
          exact hop_skipK (F := StK.any.F) rfl rfl rfl eg trivial
        · intro a w hb hd
          have e72 : a.eval (.tmp 72) = .bool true := hd 72 (by decide)
          exact hop_runK (F := (StK.eq (.bool true)).F) (wanted_none rfl) (.bool true) (run_pick_t rfl e72 rfl) rfl
        · intro a w hb hd
          have e76 : a.eval (.tmp 76) = .bool true := hd 76 (by decide)
          exact hop_runK (F := (StK.eq (.bool true)).F) (wanted_none rfl) _ (run_mv _ (.inl rfl) e76) rfl
        · intro a w hb hd
          have eg : a.eval (.tmp 77) = .bool true := hd 77 (by decide)
          exact hop_skipK (F := StK.any.F) rfl rfl rfl eg trivial
        · intro a w hb hd
          have eg : a.eval (.tmp 77) = .bool true := hd 77 (by decide)
          exact hop_skipK (F := StK.any.F) rfl rfl rfl eg trivial
        · intro a w hb hd
          have eg : a.eval (.tmp 77) = .bool true := hd 77 (by decide)
          exact hop_skipK (F := StK.any.F) rfl rfl rfl eg trivial
        · intro a w hb hd
          have eg : a.eval (.tmp 77) = .bool true := hd 77 (by decide)
          exact hop_skipK (F := StK.any.F) rfl rfl rfl eg trivial
        · intro a w hb hd
          have eg : a.eval (.tmp 77) = .bool true := hd 77 (by decide)
          exact hop_skipK (F := StK.any.F) rfl rfl rfl eg trivial
        · intro a w hb hd
          have eg : a.eval (.tmp 77) = .bool true := hd 77 (by decide)
          exact hop_skipK (F := StK.any.F) rfl rfl rfl eg trivial
        · intro a w hb hd
          have eg : a.eval (.tmp 77) = .bool true := hd 77 (by decide)
          exact hop_skipK (F := StK.any.F) rfl rfl rfl eg trivial
        · intro a w hb hd
          have e77 : a.eval (.tmp 77) = .bool true := hd 77 (by decide)
          exact hop_runK (F := (StK.eq (.bool true)).F) (wanted_none rfl) (.bool true) (run_pick_t rfl e77 rfl) rfl
        intro pw6 w6 bw6 hp
        obtain ⟨-, -, -, -, -, -, -, -, -, -, -, -, -, -, -, -, -, -, -, -, -, -, -, -, -, -, -, -, -, -, -, -, q32, -⟩ := hp
        have e32 : pw6 32 = .bool true := q32 (by decide)
        simp only [List.take_succ_cons, List.take_zero, List.drop_succ_cons, List.drop_zero, layAll, Act.put, List.setIfInBounds_toArray, List.set_cons_zero, List.set_cons_succ, Nat.zero_add, Nat.reduceAdd, e32]
        clear q32 e32
        have B6 := B5.trans (bw6.mono (by have := B5.size; have := HG4.out; omega))
        have c46 := c45.step bw6
        clear B5 c45
        go_wp2_with (refine wpList_store_blk rfl _ (.tmp 4) _ rfl _ rfl _ rfl (by simp [Value.oneCell']) _ c46 rfl size_tok ?_; intro w9 g9 c9)
        rw [HG4.out] at g9 c9 B6
        have zz := B6.size
        exact bodyPost_ret (results_blk_tmp rfl (by first | rfl | (rw [← HG4.out]; rfl)) c9 Try.underlying41 rfl size_tok) rfl ⟨_, rfl, .inr ⟨no.out, rfl⟩, below_of_grown B6 g9 (by have := B6.size; omega) (Nat.le_refl _)⟩
      have D2 := hid hz
      by_cases hz : z3 < 0
      · have HZ := hid hz
        have no : Hid (NoTok key l) := hid (HNEG.out (by omega))
        clear hz
        refine wp_region_stT ((StK.eq (.pointer (some ⟨g7, 0, none⟩))) :: (StK.eq (.string s)) :: (StK.eq (.bool true)) :: (StK.eq (.bool false)) :: (StK.eq (.bool false)) :: (StK.eq (.pointer (some ⟨g7, 1, none⟩))) :: (StK.eq (.int .i64 z0)) :: (StK.eq (.bool false)) :: (StK.eq (.bool false)) :: (StK.eq (.bool false)) :: (StK.eq (.pointer (some ⟨g7, 2, none⟩))) :: (StK.eq (.int .i64 z1)) :: (StK.eq (.bool false)) :: (StK.eq (.bool false)) :: (StK.eq (.bool false)) :: (StK.eq (.pointer (some ⟨g7, 3, none⟩))) :: (StK.eq (.int .i64 z2)) :: (StK.eq (.bool false)) :: (StK.eq (.bool false)) :: (StK.eq (.bool false)) :: (StK.eq (.pointer (some ⟨g7, 4, none⟩))) :: (StK.eq (.int .i64 z3)) :: (StK.eq (.bool true)) :: (StK.eq (.bool true)) :: (StK.eq (.bool true)) :: (StK.any) :: (StK.any) :: (StK.any) :: (StK.any) :: (StK.any) :: (StK.any) :: (StK.any) :: (StK.eq (.bool true)) :: []) 33 88 rfl (by kernel_rfl) (by kernel_rfl) ⟨?_, ?_, ?_, ?_, ?_, ?_, ?_, ?_, ?_, ?_, ?_, ?_, ?_, ?_, ?_, ?_, ?_, ?_, ?_, ?_, ?_, ?_, ?_, ?_, ?_, ?_, ?_, ?_, ?_, ?_, ?_, ?_, ?_, trivial⟩ ?_
        · intro a w hb hd
          have e7 : a.eval (.tmp 7) = .pointer (some ⟨g7, 0, none⟩) := hd 7 (by decide)
          exact hop_runK (F := (StK.eq (.pointer (some ⟨g7, 0, none⟩))).F) (wanted_none rfl) _ (by unfold execOp; simp only [e7]; kernel_rfl) rfl
        · intro a w hb hd
          have e53 : a.eval (.tmp 53) = .pointer (some ⟨g7, 0, none⟩) := hd 53 (by decide)
          exact hop_runK (F := (StK.eq (.string s)).F) (wanted_none rfl) _ (run_ldCell _ _ rfl e53 Try.underlying9 rfl ((c7.step hb).cell (k := 0) rfl)) rfl
        · intro a w hb hd
          have e54 : a.eval (.tmp 54) = .string s := hd 54 (by decide)
          exact hop_callK (F := (StK.eq (.bool true)).F) (wanted_none rfl) hb.size rfl #[a.eval (.tmp 54)] (by first | (simp only [List.map_toArray, List.map_cons, List.map_nil]; done) | (simp only [List.map_toArray, List.map_cons, List.map_nil]; rfl)) (enters_of Try.func34 (by kernel_rfl) rfl) (by rw [e54]; exact call_eq (HNM.out w))
        · intro a w hb hd
          have e55 : a.eval (.tmp 55) = .bool true := hd 55 (by decide)
          exact hop_runK (F := (StK.eq (.bool false)).F) (wanted_none rfl) _ (run_not _ _ rfl e55) rfl
        · intro a w hb hd
          have e56 : a.eval (.tmp 56) = .bool false := hd 56 (by decide)
          exact hop_runK (F := (StK.eq (.bool false)).F) (wanted_none rfl) _ (run_mv _ (.inl rfl) e56) rfl
        · intro a w hb hd
          have eg : a.eval (.tmp 57) = .bool false := hd 57 (by decide)
          have e7 : a.eval (.tmp 7) = .pointer (some ⟨g7, 0, none⟩) := hd 7 (by decide)
          exact hop_runK (F := (StK.eq (.pointer (some ⟨g7, 1, none⟩))).F) (wanted_yes rfl rfl rfl eg) _ (by unfold execOp; simp only [e7]; kernel_rfl) rfl
        · intro a w hb hd
          have eg : a.eval (.tmp 57) = .bool false := hd 57 (by decide)
          have e58 : a.eval (.tmp 58) = .pointer (some ⟨g7, 1, none⟩) := hd 58 (by decide)
          exact hop_runK (F := (StK.eq (.int .i64 z0)).F) (wanted_yes rfl rfl rfl eg) _ (run_ldCell _ _ rfl e58 Try.underlying3 rfl ((c7.step hb).cell (k := 1) rfl)) rfl
        · intro a w hb hd
          have eg : a.eval (.tmp 57) = .bool false := hd 57 (by decide)
          have e59 : a.eval (.tmp 59) = .int .i64 z0 := hd 59 (by decide)
          exact hop_runK (F := (StK.eq (.bool false)).F) (wanted_yes rfl rfl rfl eg) _ (run_ltI _ _ rfl e59 rfl (decide_eq_false D0.out)) rfl
        · intro a w hb hd
          have e57 : a.eval (.tmp 57) = .bool false := hd 57 (by decide)
          have e60 : a.eval (.tmp 60) = .bool false := hd 60 (by decide)
          exact hop_runK (F := (StK.eq (.bool false)).F) (wanted_none rfl) (.bool false) (run_pick_f rfl e57 e60) rfl
        · intro a w hb hd
          have e61 : a.eval (.tmp 61) = .bool false := hd 61 (by decide)
          exact hop_runK (F := (StK.eq (.bool false)).F) (wanted_none rfl) _ (run_mv _ (.inl rfl) e61) rfl
        · intro a w hb hd
          have eg : a.eval (.tmp 62) = .bool false := hd 62 (by decide)
          have e7 : a.eval (.tmp 7) = .pointer (some ⟨g7, 0, none⟩) := hd 7 (by decide)
          exact hop_runK (F := (StK.eq (.pointer (some ⟨g7, 2, none⟩))).F) (wanted_yes rfl rfl rfl eg) _ (by unfold execOp; simp only [e7]; kernel_rfl) rfl
        · intro a w hb hd
          have eg : a.eval (.tmp 62) = .bool false := hd 62 (by decide)
          have e63 : a.eval (.tmp 63) = .pointer (some ⟨g7, 2, none⟩) := hd 63 (by decide)
          exact hop_runK (F := (StK.eq (.int .i64 z1)).F) (wanted_yes rfl rfl rfl eg) _ (run_ldCell _ _ rfl e63 Try.underlying3 rfl ((c7.step hb).cell (k := 2) rfl)) rfl
        · intro a w hb hd
          have eg : a.eval (.tmp 62) = .bool false := hd 62 (by decide)
          have e64 : a.eval (.tmp 64) = .int .i64 z1 := hd 64 (by decide)
          exact hop_runK (F := (StK.eq (.bool false)).F) (wanted_yes rfl rfl rfl eg) _ (run_ltI _ _ rfl e64 rfl (decide_eq_false D1.out)) rfl
        · intro a w hb hd
          have e62 : a.eval (.tmp 62) = .bool false := hd 62 (by decide)
          have e65 : a.eval (.tmp 65) = .bool false := hd 65 (by decide)
          exact hop_runK (F := (StK.eq (.bool false)).F) (wanted_none rfl) (.bool false) (run_pick_f rfl e62 e65) rfl
        · intro a w hb hd
          have e66 : a.eval (.tmp 66) = .bool false := hd 66 (by decide)
          exact hop_runK (F := (StK.eq (.bool false)).F) (wanted_none rfl) _ (run_mv _ (.inl rfl) e66) rfl
        · intro a w hb hd
          have eg : a.eval (.tmp 67) = .bool false := hd 67 (by decide)
          have e7 : a.eval (.tmp 7) = .pointer (some ⟨g7, 0, none⟩) := hd 7 (by decide)
          exact hop_runK (F := (StK.eq (.pointer (some ⟨g7, 3, none⟩))).F) (wanted_yes rfl rfl rfl eg) _ (by unfold execOp; simp only [e7]; kernel_rfl) rfl
        · intro a w hb hd
          have eg : a.eval (.tmp 67) = .bool false := hd 67 (by decide)
          have e68 : a.eval (.tmp 68) = .pointer (some ⟨g7, 3, none⟩) := hd 68 (by decide)
          exact hop_runK (F := (StK.eq (.int .i64 z2)).F) (wanted_yes rfl rfl rfl eg) _ (run_ldCell _ _ rfl e68 Try.underlying3 rfl ((c7.step hb).cell (k := 3) rfl)) rfl
        · intro a w hb hd
          have eg : a.eval (.tmp 67) = .bool false := hd 67 (by decide)
          have e69 : a.eval (.tmp 69) = .int .i64 z2 := hd 69 (by decide)
          exact hop_runK (F := (StK.eq (.bool false)).F) (wanted_yes rfl rfl rfl eg) _ (run_ltI _ _ rfl e69 rfl (decide_eq_false D2.out)) rfl
        · intro a w hb hd
          have e67 : a.eval (.tmp 67) = .bool false := hd 67 (by decide)
          have e70 : a.eval (.tmp 70) = .bool false := hd 70 (by decide)
          exact hop_runK (F := (StK.eq (.bool false)).F) (wanted_none rfl) (.bool false) (run_pick_f rfl e67 e70) rfl
        · intro a w hb hd
          have e71 : a.eval (.tmp 71) = .bool false := hd 71 (by decide)
          exact hop_runK (F := (StK.eq (.bool false)).F) (wanted_none rfl) _ (run_mv _ (.inl rfl) e71) rfl
        · intro a w hb hd
          have eg : a.eval (.tmp 72) = .bool false := hd 72 (by decide)
          have e7 : a.eval (.tmp 7) = .pointer (some ⟨g7, 0, none⟩) := hd 7 (by decide)
          exact hop_runK (F := (StK.eq (.pointer (some ⟨g7, 4, none⟩))).F) (wanted_yes rfl rfl rfl eg) _ (by unfold execOp; simp only [e7]; kernel_rfl) rfl
        · intro a w hb hd
          have eg : a.eval (.tmp 72) = .bool false := hd 72 (by decide)
          have e73 : a.eval (.tmp 73) = .pointer (some ⟨g7, 4, none⟩) := hd 73 (by decide)
          exact hop_runK (F := (StK.eq (.int .i64 z3)).F) (wanted_yes rfl rfl rfl eg) _ (run_ldCell _ _ rfl e73 Try.underlying3 rfl ((c7.step hb).cell (k := 4) rfl)) rfl
        · intro a w hb hd
          have eg : a.eval (.tmp 72) = .bool false := hd 72 (by decide)
          have e74 : a.eval (.tmp 74) = .int .i64 z3 := hd 74 (by decide)
          exact hop_runK (F := (StK.eq (.bool true)).F) (wanted_yes rfl rfl rfl eg) _ (run_ltI _ _ rfl e74 rfl (decide_eq_true HZ.out)) rfl
        · intro a w hb hd
          have e72 : a.eval (.tmp 72) = .bool false := hd 72 (by decide)
          have e75 : a.eval (.tmp 75) = .bool true := hd 75 (by decide)
          exact hop_runK (F := (StK.eq (.bool true)).F) (wanted_none rfl) (.bool true) (run_pick_f rfl e72 e75) rfl
        · intro a w hb hd
          have e76 : a.eval (.tmp 76) = .bool true := hd 76 (by decide)
          exact hop_runK (F := (StK.eq (.bool true)).F) (wanted_none rfl) _ (run_mv _ (.inl rfl) e76) rfl
        · intro a w hb hd
          have eg : a.eval (.tmp 77) = .bool true := hd 77 (by decide)
          exact hop_skipK (F := StK.any.F) rfl rfl rfl eg trivial
        · intro a w hb hd
          have eg : a.eval (.tmp 77) = .bool true := hd 77 (by decide)
          exact hop_skipK (F := StK.any.F) rfl rfl rfl eg trivial
        · intro a w hb hd
          have eg : a.eval (.tmp 77) = .bool true := hd 77 (by decide)
          exact hop_skipK (F := StK.any.F) rfl rfl rfl eg trivial
        · intro a w hb hd
          have eg : a.eval (.tmp 77) = .bool true := hd 77 (by decide)
          exact hop_skipK (F := StK.any.F) rfl rfl rfl eg trivial
        · intro a w hb hd
          have eg : a.eval (.tmp 77) = .bool true := hd 77 (by decide)
          exact hop_skipK (F := StK.any.F) rfl rfl rfl eg trivial
        · intro a w hb hd
          have eg : a.eval (.tmp 77) = .bool true := hd 77 (by decide)
          exact hop_skipK (F := StK.any.F) rfl rfl rfl eg trivial
        · intro a w hb hd
          have eg : a.eval (.tmp 77) = .bool true := hd 77 (by decide)
          exact hop_skipK (F := StK.any.F) rfl rfl rfl eg trivial
        · intro a w hb hd
          have e77 : a.eval (.tmp 77) = .bool true := hd 77 (by decide)
          exact hop_runK (F := (StK.eq (.bool true)).F) (wanted_none rfl) (.bool true) (run_pick_t rfl e77 rfl) rfl
        intro pw6 w6 bw6 hp
        obtain ⟨-, -, -, -, -, -, -, -, -, -, -, -, -, -, -, -, -, -, -, -, -, -, -, -, -, -, -, -, -, -, -, -, q32, -⟩ := hp
        have e32 : pw6 32 = .bool true := q32 (by decide)
        simp only [List.take_succ_cons, List.take_zero, List.drop_succ_cons, List.drop_zero, layAll, Act.put, List.setIfInBounds_toArray, List.set_cons_zero, List.set_cons_succ, Nat.zero_add, Nat.reduceAdd, e32]
        clear q32 e32
        have B6 := B5.trans (bw6.mono (by have := B5.size; have := HG4.out; omega))
        have c46 := c45.step bw6
        clear B5 c45
        go_wp2_with (refine wpList_store_blk rfl _ (.tmp 4) _ rfl _ rfl _ rfl (by simp [Value.oneCell']) _ c46 rfl size_tok ?_; intro w9 g9 c9)
        rw [HG4.out] at g9 c9 B6
        have zz := B6.size
        exact bodyPost_ret (results_blk_tmp rfl (by first | rfl | (rw [← HG4.out]; rfl)) c9 Try.underlying41 rfl size_tok) rfl ⟨_, rfl, .inr ⟨no.out, rfl⟩, below_of_grown B6 g9 (by have := B6.size; omega) (Nat.le_refl _)⟩
      have D3 := hid hz
      obtain ⟨m0, rfl⟩ : ∃ m : Nat, z0 = (m : Int) := ⟨z0.toNat, by have := D0.out; omega⟩
      obtain ⟨m1, rfl⟩ : ∃ m : Nat, z1 = (m : Int) := ⟨z1.toNat, by have := D1.out; omega⟩
      obtain ⟨m2, rfl⟩ : ∃ m : Nat, z2 = (m : Int) := ⟨z2.toNat, by have := D2.out; omega⟩
      obtain ⟨m3, rfl⟩ : ∃ m : Nat, z3 = (m : Int) := ⟨z3.toNat, by have := D3.out; omega⟩
      have M0 := hid ZB.out.1
      have M1 := hid ZB.out.2.1
      have M2 := hid ZB.out.2.2.1
      have M3 := hid ZB.out.2.2.2
      by_cases hq : issueN key s [m0, m1, m2, m3] = l
      rotate_left
      · have HEQ : Hid ((!decide ((⟨(issueN key s [m0, m1, m2, m3]).toArray⟩ : ByteArray).toList = (⟨l.toArray⟩ : ByteArray).toList)) = true) := hid (by
          simp only [Bool.not_eq_true', decide_eq_false_iff_not]
          intro h
          have h := ba_ext h
          injection h with h
          exact hq (by simpa using congrArg Array.toList h))
        have no : Hid (NoTok key l) := hid (HSAME.out m0 m1 m2 m3 rfl rfl rfl rfl hq)
        clear hq
        refine wp_region_stT ((StK.eq (.pointer (some ⟨g7, 0, none⟩))) :: (StK.eq (.string s)) :: (StK.eq (.bool true)) :: (StK.eq (.bool false)) :: (StK.eq (.bool false)) :: (StK.eq (.pointer (some ⟨g7, 1, none⟩))) :: (StK.eq (.int .i64 (m0 : Int))) :: (StK.eq (.bool false)) :: (StK.eq (.bool false)) :: (StK.eq (.bool false)) :: (StK.eq (.pointer (some ⟨g7, 2, none⟩))) :: (StK.eq (.int .i64 (m1 : Int))) :: (StK.eq (.bool false)) :: (StK.eq (.bool false)) :: (StK.eq (.bool false)) :: (StK.eq (.pointer (some ⟨g7, 3, none⟩))) :: (StK.eq (.int .i64 (m2 : Int))) :: (StK.eq (.bool false)) :: (StK.eq (.bool false)) :: (StK.eq (.bool false)) :: (StK.eq (.pointer (some ⟨g7, 4, none⟩))) :: (StK.eq (.int .i64 (m3 : Int))) :: (StK.eq (.bool false)) :: (StK.eq (.bool false)) :: (StK.eq (.bool false)) :: (StK.bytes (key)) :: (StK.eq (.agg #[.string s, .int .i64 (m0 : Int), .int .i64 (m1 : Int), .int .i64 (m2 : Int), .int .i64 (m3 : Int)])) :: (StK.bytes (issueN key s [m0, m1, m2, m3])) :: (StK.eq (.string ⟨(issueN key s [m0, m1, m2, m3]).toArray⟩)) :: (StK.bytes (l)) :: (StK.eq (.string ⟨(l).toArray⟩)) :: (StK.eq (.bool true)) :: (StK.eq (.bool true)) :: []) 33 88 rfl (by kernel_rfl) (by kernel_rfl) ⟨?_, ?_, ?_, ?_, ?_, ?_, ?_, ?_, ?_, ?_, ?_, ?_, ?_, ?_, ?_, ?_, ?_, ?_, ?_, ?_, ?_, ?_, ?_, ?_, ?_, ?_, ?_, ?_, ?_, ?_, ?_, ?_, ?_, trivial⟩ ?_
        · intro a w hb hd
          have e7 : a.eval (.tmp 7) = .pointer (some ⟨g7, 0, none⟩) := hd 7 (by decide)
          exact hop_runK (F := (StK.eq (.pointer (some ⟨g7, 0, none⟩))).F) (wanted_none rfl) _ (by unfold execOp; simp only [e7]; kernel_rfl) rfl
        · intro a w hb hd
          have e53 : a.eval (.tmp 53) = .pointer (some ⟨g7, 0, none⟩) := hd 53 (by decide)
          exact hop_runK (F := (StK.eq (.string s)).F) (wanted_none rfl) _ (run_ldCell _ _ rfl e53 Try.underlying9 rfl ((c7.step hb).cell (k := 0) rfl)) rfl
        · intro a w hb hd
          have e54 : a.eval (.tmp 54) = .string s := hd 54 (by decide)
          exact hop_callK (F := (StK.eq (.bool true)).F) (wanted_none rfl) hb.size rfl #[a.eval (.tmp 54)] (by first | (simp only [List.map_toArray, List.map_cons, List.map_nil]; done) | (simp only [List.map_toArray, List.map_cons, List.map_nil]; rfl)) (enters_of Try.func34 (by kernel_rfl) rfl) (by rw [e54]; exact call_eq (HNM.out w))
        · intro a w hb hd
          have e55 : a.eval (.tmp 55) = .bool true := hd 55 (by decide)
          exact hop_runK (F := (StK.eq (.bool false)).F) (wanted_none rfl) _ (run_not _ _ rfl e55) rfl
        · intro a w hb hd
          have e56 : a.eval (.tmp 56) = .bool false := hd 56 (by decide)
          exact hop_runK (F := (StK.eq (.bool false)).F) (wanted_none rfl) _ (run_mv _ (.inl rfl) e56) rfl
        · intro a w hb hd
          have eg : a.eval (.tmp 57) = .bool false := hd 57 (by decide)
          have e7 : a.eval (.tmp 7) = .pointer (some ⟨g7, 0, none⟩) := hd 7 (by decide)
          exact hop_runK (F := (StK.eq (.pointer (some ⟨g7, 1, none⟩))).F) (wanted_yes rfl rfl rfl eg) _ (by unfold execOp; simp only [e7]; kernel_rfl) rfl
        · intro a w hb hd
          have eg : a.eval (.tmp 57) = .bool false := hd 57 (by decide)
          have e58 : a.eval (.tmp 58) = .pointer (some ⟨g7, 1, none⟩) := hd 58 (by decide)
          exact hop_runK (F := (StK.eq (.int .i64 (m0 : Int))).F) (wanted_yes rfl rfl rfl eg) _ (run_ldCell _ _ rfl e58 Try.underlying3 rfl ((c7.step hb).cell (k := 1) rfl)) rfl
        · intro a w hb hd
          have eg : a.eval (.tmp 57) = .bool false := hd 57 (by decide)
          have e59 : a.eval (.tmp 59) = .int .i64 (m0 : Int) := hd 59 (by decide)
          exact hop_runK (F := (StK.eq (.bool false)).F) (wanted_yes rfl rfl rfl eg) _ (run_ltI _ _ rfl e59 rfl (decide_eq_false D0.out)) rfl
        · intro a w hb hd
          have e57 : a.eval (.tmp 57) = .bool false := hd 57 (by decide)
          have e60 : a.eval (.tmp 60) = .bool false := hd 60 (by decide)
          exact hop_runK (F := (StK.eq (.bool false)).F) (wanted_none rfl) (.bool false) (run_pick_f rfl e57 e60) rfl
        · intro a w hb hd
          have e61 : a.eval (.tmp 61) = .bool false := hd 61 (by decide)
          exact hop_runK (F := (StK.eq (.bool false)).F) (wanted_none rfl) _ (run_mv _ (.inl rfl) e61) rfl
        · intro a w hb hd
          have eg : a.eval (.tmp 62) = .bool false := hd 62 (by decide)
          have e7 : a.eval (.tmp 7) = .pointer (some ⟨g7, 0, none⟩) := hd 7 (by decide)
          exact hop_runK (F := (StK.eq (.pointer (some ⟨g7, 2, none⟩))).F) (wanted_yes rfl rfl rfl eg) _ (by unfold execOp; simp only [e7]; kernel_rfl) rfl
        · intro a w hb hd
          have eg : a.eval (.tmp 62) = .bool false := hd 62 (by decide)
          have e63 : a.eval (.tmp 63) = .pointer (some ⟨g7, 2, none⟩) := hd 63 (by decide)
          exact hop_runK (F := (StK.eq (.int .i64 (m1 : Int))).F) (wanted_yes rfl rfl rfl eg) _ (run_ldCell _ _ rfl e63 Try.underlying3 rfl ((c7.step hb).cell (k := 2) rfl)) rfl
        · intro a w hb hd
          have eg : a.eval (.tmp 62) = .bool false := hd 62 (by decide)
          have e64 : a.eval (.tmp 64) = .int .i64 (m1 : Int) := hd 64 (by decide)
          exact hop_runK (F := (StK.eq (.bool false)).F) (wanted_yes rfl rfl rfl eg) _ (run_ltI _ _ rfl e64 rfl (decide_eq_false D1.out)) rfl
        · intro a w hb hd
          have e62 : a.eval (.tmp 62) = .bool false := hd 62 (by decide)
          have e65 : a.eval (.tmp 65) = .bool false := hd 65 (by decide)
          exact hop_runK (F := (StK.eq (.bool false)).F) (wanted_none rfl) (.bool false) (run_pick_f rfl e62 e65) rfl
        · intro a w hb hd
          have e66 : a.eval (.tmp 66) = .bool false := hd 66 (by decide)
          exact hop_runK (F := (StK.eq (.bool false)).F) (wanted_none rfl) _ (run_mv _ (.inl rfl) e66) rfl
        · intro a w hb hd
          have eg : a.eval (.tmp 67) = .bool false := hd 67 (by decide)
          have e7 : a.eval (.tmp 7) = .pointer (some ⟨g7, 0, none⟩) := hd 7 (by decide)
          exact hop_runK (F := (StK.eq (.pointer (some ⟨g7, 3, none⟩))).F) (wanted_yes rfl rfl rfl eg) _ (by unfold execOp; simp only [e7]; kernel_rfl) rfl
        · intro a w hb hd
          have eg : a.eval (.tmp 67) = .bool false := hd 67 (by decide)
          have e68 : a.eval (.tmp 68) = .pointer (some ⟨g7, 3, none⟩) := hd 68 (by decide)
          exact hop_runK (F := (StK.eq (.int .i64 (m2 : Int))).F) (wanted_yes rfl rfl rfl eg) _ (run_ldCell _ _ rfl e68 Try.underlying3 rfl ((c7.step hb).cell (k := 3) rfl)) rfl
        · intro a w hb hd
          have eg : a.eval (.tmp 67) = .bool false := hd 67 (by decide)
          have e69 : a.eval (.tmp 69) = .int .i64 (m2 : Int) := hd 69 (by decide)
          exact hop_runK (F := (StK.eq (.bool false)).F) (wanted_yes rfl rfl rfl eg) _ (run_ltI _ _ rfl e69 rfl (decide_eq_false D2.out)) rfl
        · intro a w hb hd
          have e67 : a.eval (.tmp 67) = .bool false := hd 67 (by decide)
          have e70 : a.eval (.tmp 70) = .bool false := hd 70 (by decide)
          exact hop_runK (F := (StK.eq (.bool false)).F) (wanted_none rfl) (.bool false) (run_pick_f rfl e67 e70) rfl
        · intro a w hb hd
          have e71 : a.eval (.tmp 71) = .bool false := hd 71 (by decide)
          exact hop_runK (F := (StK.eq (.bool false)).F) (wanted_none rfl) _ (run_mv _ (.inl rfl) e71) rfl
        · intro a w hb hd
          have eg : a.eval (.tmp 72) = .bool false := hd 72 (by decide)
          have e7 : a.eval (.tmp 7) = .pointer (some ⟨g7, 0, none⟩) := hd 7 (by decide)
          exact hop_runK (F := (StK.eq (.pointer (some ⟨g7, 4, none⟩))).F) (wanted_yes rfl rfl rfl eg) _ (by unfold execOp; simp only [e7]; kernel_rfl) rfl
        · intro a w hb hd
          have eg : a.eval (.tmp 72) = .bool false := hd 72 (by decide)
          have e73 : a.eval (.tmp 73) = .pointer (some ⟨g7, 4, none⟩) := hd 73 (by decide)
          exact hop_runK (F := (StK.eq (.int .i64 (m3 : Int))).F) (wanted_yes rfl rfl rfl eg) _ (run_ldCell _ _ rfl e73 Try.underlying3 rfl ((c7.step hb).cell (k := 4) rfl)) rfl
        · intro a w hb hd
          have eg : a.eval (.tmp 72) = .bool false := hd 72 (by decide)
          have e74 : a.eval (.tmp 74) = .int .i64 (m3 : Int) := hd 74 (by decide)
          exact hop_runK (F := (StK.eq (.bool false)).F) (wanted_yes rfl rfl rfl eg) _ (run_ltI _ _ rfl e74 rfl (decide_eq_false D3.out)) rfl
        · intro a w hb hd
          have e72 : a.eval (.tmp 72) = .bool false := hd 72 (by decide)
          have e75 : a.eval (.tmp 75) = .bool false := hd 75 (by decide)
          exact hop_runK (F := (StK.eq (.bool false)).F) (wanted_none rfl) (.bool false) (run_pick_f rfl e72 e75) rfl
        · intro a w hb hd
          have e76 : a.eval (.tmp 76) = .bool false := hd 76 (by decide)
          exact hop_runK (F := (StK.eq (.bool false)).F) (wanted_none rfl) _ (run_mv _ (.inl rfl) e76) rfl
        · intro a w hb hd
          have eg : a.eval (.tmp 77) = .bool false := hd 77 (by decide)
          have e0 : IsB w (key) (a.eval (.tmp 0)) := by rw [show a.eval (.tmp 0) = kv from hd 0 (by decide)]; exact (k5).step hb
          exact hop_runK (F := (StK.bytes (key)).F) (wanted_yes rfl rfl rfl eg) _ (run_mv _ (.inl rfl) rfl) e0
        · intro a w hb hd
          have eg : a.eval (.tmp 77) = .bool false := hd 77 (by decide)
          have e7 : a.eval (.tmp 7) = .pointer (some ⟨g7, 0, none⟩) := hd 7 (by decide)
          exact hop_runK (F := (StK.eq (.agg #[.string s, .int .i64 (m0 : Int), .int .i64 (m1 : Int), .int .i64 (m2 : Int), .int .i64 (m3 : Int)])).F) (wanted_yes rfl rfl rfl eg) _ (run_ldAll _ _ rfl e7 (c7.step hb) Try.underlying41 rfl (by kernel_rfl)) rfl
        · intro a w hb hd
          have eg : a.eval (.tmp 77) = .bool false := hd 77 (by decide)
          have e78 : IsB w (key) (a.eval (.tmp 78)) := hd 78 (by decide)
          have e79 : a.eval (.tmp 79) = .agg #[.string s, .int .i64 (m0 : Int), .int .i64 (m1 : Int), .int .i64 (m2 : Int), .int .i64 (m3 : Int)] := hd 79 (by decide)
          exact hop_callK (F := (StK.bytes (issueN key s [m0, m1, m2, m3])).F) (wanted_yes rfl rfl rfl eg) hb.size rfl #[a.eval (.tmp 78), a.eval (.tmp 79)] (by first | (simp only [List.map_toArray, List.map_cons, List.map_nil]; done) | (simp only [List.map_toArray, List.map_cons, List.map_nil]; rfl)) (enters_of Try.func29 (by kernel_rfl) rfl) (by rw [e79]; exact (rissue_any _ key HKL.out s HS.out m0 m1 m2 m3 M0.out M1.out M2.out M3.out _ e78).mono fun e w2 ⟨v, h1, h2, h3⟩ => ⟨v, h1, h3, h2.isB⟩)
        · intro a w hb hd
          have eg : a.eval (.tmp 77) = .bool false := hd 77 (by decide)
          have e80 : IsB w (issueN key s [m0, m1, m2, m3]) (a.eval (.tmp 80)) := hd 80 (by decide)
          exact hop_runK (F := (StK.eq (.string ⟨(issueN key s [m0, m1, m2, m3]).toArray⟩)).F) (wanted_yes rfl rfl rfl eg) _ (run_str _ rfl e80) rfl
        · intro a w hb hd
          have eg : a.eval (.tmp 77) = .bool false := hd 77 (by decide)
          have e1 : IsB w (l) (a.eval (.tmp 1)) := by rw [show a.eval (.tmp 1) = bv from hd 1 (by decide)]; exact (i5).step hb
          exact hop_runK (F := (StK.bytes (l)).F) (wanted_yes rfl rfl rfl eg) _ (run_mv _ (.inl rfl) rfl) e1
        · intro a w hb hd
          have eg : a.eval (.tmp 77) = .bool false := hd 77 (by decide)
          have e82 : IsB w (l) (a.eval (.tmp 82)) := hd 82 (by decide)
          exact hop_runK (F := (StK.eq (.string ⟨(l).toArray⟩)).F) (wanted_yes rfl rfl rfl eg) _ (run_str _ rfl e82) rfl
        · intro a w hb hd
          have eg : a.eval (.tmp 77) = .bool false := hd 77 (by decide)
          have e81 : a.eval (.tmp 81) = .string ⟨(issueN key s [m0, m1, m2, m3]).toArray⟩ := hd 81 (by decide)
          have e83 : a.eval (.tmp 83) = .string ⟨(l).toArray⟩ := hd 83 (by decide)
          exact hop_runK (F := (StK.eq (.bool true)).F) (wanted_yes rfl rfl rfl eg) _ (run_neStr _ _ rfl e81 e83 (HEQ.out)) rfl
        · intro a w hb hd
          have e77 : a.eval (.tmp 77) = .bool false := hd 77 (by decide)
          have e84 : a.eval (.tmp 84) = .bool true := hd 84 (by decide)
          exact hop_runK (F := (StK.eq (.bool true)).F) (wanted_none rfl) (.bool true) (run_pick_f rfl e77 e84) rfl
        intro pw6 w6 bw6 hp
        obtain ⟨-, -, -, -, -, -, -, -, -, -, -, -, -, -, -, -, -, -, -, -, -, -, -, -, -, -, -, -, -, -, -, -, q32, -⟩ := hp
        have e32 : pw6 32 = .bool true := q32 (by decide)
        simp only [List.take_succ_cons, List.take_zero, List.drop_succ_cons, List.drop_zero, layAll, Act.put, List.setIfInBounds_toArray, List.set_cons_zero, List.set_cons_succ, Nat.zero_add, Nat.reduceAdd, e32]
        clear q32 e32
        have B6 := B5.trans (bw6.mono (by have := B5.size; have := HG4.out; omega))
        have c46 := c45.step bw6
        clear B5 c45
        go_wp2_with (refine wpList_store_blk rfl _ (.tmp 4) _ rfl _ rfl _ rfl (by simp [Value.oneCell']) _ c46 rfl size_tok ?_; intro w9 g9 c9)
        rw [HG4.out] at g9 c9 B6
        have zz := B6.size
        exact bodyPost_ret (results_blk_tmp rfl (by first | rfl | (rw [← HG4.out]; rfl)) c9 Try.underlying41 rfl size_tok) rfl ⟨_, rfl, .inr ⟨no.out, rfl⟩, below_of_grown B6 g9 (by have := B6.size; omega) (Nat.le_refl _)⟩
      · have HEQ : Hid ((!decide ((⟨(issueN key s [m0, m1, m2, m3]).toArray⟩ : ByteArray).toList = (⟨l.toArray⟩ : ByteArray).toList)) = false) := hid (by rw [hq]; simp)
        have yes : Hid (IsTok key l s m0 m1 m2 m3) := hid ⟨HOK.out, ⟨M0.out, M1.out, M2.out, M3.out⟩, hq.symm⟩
        clear hq
        refine wp_region_stT ((StK.eq (.pointer (some ⟨g7, 0, none⟩))) :: (StK.eq (.string s)) :: (StK.eq (.bool true)) :: (StK.eq (.bool false)) :: (StK.eq (.bool false)) :: (StK.eq (.pointer (some ⟨g7, 1, none⟩))) :: (StK.eq (.int .i64 (m0 : Int))) :: (StK.eq (.bool false)) :: (StK.eq (.bool false)) :: (StK.eq (.bool false)) :: (StK.eq (.pointer (some ⟨g7, 2, none⟩))) :: (StK.eq (.int .i64 (m1 : Int))) :: (StK.eq (.bool false)) :: (StK.eq (.bool false)) :: (StK.eq (.bool false)) :: (StK.eq (.pointer (some ⟨g7, 3, none⟩))) :: (StK.eq (.int .i64 (m2 : Int))) :: (StK.eq (.bool false)) :: (StK.eq (.bool false)) :: (StK.eq (.bool false)) :: (StK.eq (.pointer (some ⟨g7, 4, none⟩))) :: (StK.eq (.int .i64 (m3 : Int))) :: (StK.eq (.bool false)) :: (StK.eq (.bool false)) :: (StK.eq (.bool false)) :: (StK.bytes (key)) :: (StK.eq (.agg #[.string s, .int .i64 (m0 : Int), .int .i64 (m1 : Int), .int .i64 (m2 : Int), .int .i64 (m3 : Int)])) :: (StK.bytes (issueN key s [m0, m1, m2, m3])) :: (StK.eq (.string ⟨(issueN key s [m0, m1, m2, m3]).toArray⟩)) :: (StK.bytes (l)) :: (StK.eq (.string ⟨(l).toArray⟩)) :: (StK.eq (.bool false)) :: (StK.eq (.bool false)) :: []) 33 88 rfl (by kernel_rfl) (by kernel_rfl) ⟨?_, ?_, ?_, ?_, ?_, ?_, ?_, ?_, ?_, ?_, ?_, ?_, ?_, ?_, ?_, ?_, ?_, ?_, ?_, ?_, ?_, ?_, ?_, ?_, ?_, ?_, ?_, ?_, ?_, ?_, ?_, ?_, ?_, trivial⟩ ?_
        · intro a w hb hd
          have e7 : a.eval (.tmp 7) = .pointer (some ⟨g7, 0, none⟩) := hd 7 (by decide)
          exact hop_runK (F := (StK.eq (.pointer (some ⟨g7, 0, none⟩))).F) (wanted_none rfl) _ (by unfold execOp; simp only [e7]; kernel_rfl) rfl
        · intro a w hb hd
          have e53 : a.eval (.tmp 53) = .pointer (some ⟨g7, 0, none⟩) := hd 53 (by decide)
          exact hop_runK (F := (StK.eq (.string s)).F) (wanted_none rfl) _ (run_ldCell _ _ rfl e53 Try.underlying9 rfl ((c7.step hb).cell (k := 0) rfl)) rfl
        · intro a w hb hd
          have e54 : a.eval (.tmp 54) = .string s := hd 54 (by decide)
          exact hop_callK (F := (StK.eq (.bool true)).F) (wanted_none rfl) hb.size rfl #[a.eval (.tmp 54)] (by first | (simp only [List.map_toArray, List.map_cons, List.map_nil]; done) | (simp only [List.map_toArray, List.map_cons, List.map_nil]; rfl)) (enters_of Try.func34 (by kernel_rfl) rfl) (by rw [e54]; exact call_eq (HNM.out w))
        · intro a w hb hd
          have e55 : a.eval (.tmp 55) = .bool true := hd 55 (by decide)
          exact hop_runK (F := (StK.eq (.bool false)).F) (wanted_none rfl) _ (run_not _ _ rfl e55) rfl
        · intro a w hb hd
          have e56 : a.eval (.tmp 56) = .bool false := hd 56 (by decide)
          exact hop_runK (F := (StK.eq (.bool false)).F) (wanted_none rfl) _ (run_mv _ (.inl rfl) e56) rfl
        · intro a w hb hd
          have eg : a.eval (.tmp 57) = .bool false := hd 57 (by decide)
          have e7 : a.eval (.tmp 7) = .pointer (some ⟨g7, 0, none⟩) := hd 7 (by decide)
          exact hop_runK (F := (StK.eq (.pointer (some ⟨g7, 1, none⟩))).F) (wanted_yes rfl rfl rfl eg) _ (by unfold execOp; simp only [e7]; kernel_rfl) rfl
        · intro a w hb hd
          have eg : a.eval (.tmp 57) = .bool false := hd 57 (by decide)
          have e58 : a.eval (.tmp 58) = .pointer (some ⟨g7, 1, none⟩) := hd 58 (by decide)
          exact hop_runK (F := (StK.eq (.int .i64 (m0 : Int))).F) (wanted_yes rfl rfl rfl eg) _ (run_ldCell _ _ rfl e58 Try.underlying3 rfl ((c7.step hb).cell (k := 1) rfl)) rfl
        · intro a w hb hd
          have eg : a.eval (.tmp 57) = .bool false := hd 57 (by decide)
          have e59 : a.eval (.tmp 59) = .int .i64 (m0 : Int) := hd 59 (by decide)
          exact hop_runK (F := (StK.eq (.bool false)).F) (wanted_yes rfl rfl rfl eg) _ (run_ltI _ _ rfl e59 rfl (decide_eq_false D0.out)) rfl
        · intro a w hb hd
          have e57 : a.eval (.tmp 57) = .bool false := hd 57 (by decide)
          have e60 : a.eval (.tmp 60) = .bool false := hd 60 (by decide)
          exact hop_runK (F := (StK.eq (.bool false)).F) (wanted_none rfl) (.bool false) (run_pick_f rfl e57 e60) rfl
        · intro a w hb hd
          have e61 : a.eval (.tmp 61) = .bool false := hd 61 (by decide)
          exact hop_runK (F := (StK.eq (.bool false)).F) (wanted_none rfl) _ (run_mv _ (.inl rfl) e61) rfl
        · intro a w hb hd
          have eg : a.eval (.tmp 62) = .bool false := hd 62 (by decide)
          have e7 : a.eval (.tmp 7) = .pointer (some ⟨g7, 0, none⟩) := hd 7 (by decide)
          exact hop_runK (F := (StK.eq (.pointer (some ⟨g7, 2, none⟩))).F) (wanted_yes rfl rfl rfl eg) _ (by unfold execOp; simp only [e7]; kernel_rfl) rfl
        · intro a w hb hd
          have eg : a.eval (.tmp 62) = .bool false := hd 62 (by decide)
          have e63 : a.eval (.tmp 63) = .pointer (some ⟨g7, 2, none⟩) := hd 63 (by decide)
          exact hop_runK (F := (StK.eq (.int .i64 (m1 : Int))).F) (wanted_yes rfl rfl rfl eg) _ (run_ldCell _ _ rfl e63 Try.underlying3 rfl ((c7.step hb).cell (k := 2) rfl)) rfl
        · intro a w hb hd
          have eg : a.eval (.tmp 62) = .bool false := hd 62 (by decide)
          have e64 : a.eval (.tmp 64) = .int .i64 (m1 : Int) := hd 64 (by decide)
          exact hop_runK (F := (StK.eq (.bool false)).F) (wanted_yes rfl rfl rfl eg) _ (run_ltI _ _ rfl e64 rfl (decide_eq_false D1.out)) rfl
        · intro a w hb hd
          have e62 : a.eval (.tmp 62) = .bool false := hd 62 (by decide)
          have e65 : a.eval (.tmp 65) = .bool false := hd 65 (by decide)
          exact hop_runK (F := (StK.eq (.bool false)).F) (wanted_none rfl) (.bool false) (run_pick_f rfl e62 e65) rfl
        · intro a w hb hd
          have e66 : a.eval (.tmp 66) = .bool false := hd 66 (by decide)
          exact hop_runK (F := (StK.eq (.bool false)).F) (wanted_none rfl) _ (run_mv _ (.inl rfl) e66) rfl
        · intro a w hb hd
          have eg : a.eval (.tmp 67) = .bool false := hd 67 (by decide)
          have e7 : a.eval (.tmp 7) = .pointer (some ⟨g7, 0, none⟩) := hd 7 (by decide)
          exact hop_runK (F := (StK.eq (.pointer (some ⟨g7, 3, none⟩))).F) (wanted_yes rfl rfl rfl eg) _ (by unfold execOp; simp only [e7]; kernel_rfl) rfl
        · intro a w hb hd
          have eg : a.eval (.tmp 67) = .bool false := hd 67 (by decide)
          have e68 : a.eval (.tmp 68) = .pointer (some ⟨g7, 3, none⟩) := hd 68 (by decide)
          exact hop_runK (F := (StK.eq (.int .i64 (m2 : Int))).F) (wanted_yes rfl rfl rfl eg) _ (run_ldCell _ _ rfl e68 Try.underlying3 rfl ((c7.step hb).cell (k := 3) rfl)) rfl
        · intro a w hb hd
          have eg : a.eval (.tmp 67) = .bool false := hd 67 (by decide)
          have e69 : a.eval (.tmp 69) = .int .i64 (m2 : Int) := hd 69 (by decide)
          exact hop_runK (F := (StK.eq (.bool false)).F) (wanted_yes rfl rfl rfl eg) _ (run_ltI _ _ rfl e69 rfl (decide_eq_false D2.out)) rfl
        · intro a w hb hd
          have e67 : a.eval (.tmp 67) = .bool false := hd 67 (by decide)
          have e70 : a.eval (.tmp 70) = .bool false := hd 70 (by decide)
          exact hop_runK (F := (StK.eq (.bool false)).F) (wanted_none rfl) (.bool false) (run_pick_f rfl e67 e70) rfl
        · intro a w hb hd
          have e71 : a.eval (.tmp 71) = .bool false := hd 71 (by decide)
          exact hop_runK (F := (StK.eq (.bool false)).F) (wanted_none rfl) _ (run_mv _ (.inl rfl) e71) rfl
        · intro a w hb hd
          have eg : a.eval (.tmp 72) = .bool false := hd 72 (by decide)
          have e7 : a.eval (.tmp 7) = .pointer (some ⟨g7, 0, none⟩) := hd 7 (by decide)
          exact hop_runK (F := (StK.eq (.pointer (some ⟨g7, 4, none⟩))).F) (wanted_yes rfl rfl rfl eg) _ (by unfold execOp; simp only [e7]; kernel_rfl) rfl
        · intro a w hb hd
          have eg : a.eval (.tmp 72) = .bool false := hd 72 (by decide)
          have e73 : a.eval (.tmp 73) = .pointer (some ⟨g7, 4, none⟩) := hd 73 (by decide)
          exact hop_runK (F := (StK.eq (.int .i64 (m3 : Int))).F) (wanted_yes rfl rfl rfl eg) _ (run_ldCell _ _ rfl e73 Try.underlying3 rfl ((c7.step hb).cell (k := 4) rfl)) rfl
        · intro a w hb hd
          have eg : a.eval (.tmp 72) = .bool false := hd 72 (by decide)
          have e74 : a.eval (.tmp 74) = .int .i64 (m3 : Int) := hd 74 (by decide)
          exact hop_runK (F := (StK.eq (.bool false)).F) (wanted_yes rfl rfl rfl eg) _ (run_ltI _ _ rfl e74 rfl (decide_eq_false D3.out)) rfl
        · intro a w hb hd
          have e72 : a.eval (.tmp 72) = .bool false := hd 72 (by decide)
          have e75 : a.eval (.tmp 75) = .bool false := hd 75 (by decide)
          exact hop_runK (F := (StK.eq (.bool false)).F) (wanted_none rfl) (.bool false) (run_pick_f rfl e72 e75) rfl
        · intro a w hb hd
          have e76 : a.eval (.tmp 76) = .bool false := hd 76 (by decide)
          exact hop_runK (F := (StK.eq (.bool false)).F) (wanted_none rfl) _ (run_mv _ (.inl rfl) e76) rfl
        · intro a w hb hd
          have eg : a.eval (.tmp 77) = .bool false := hd 77 (by decide)
          have e0 : IsB w (key) (a.eval (.tmp 0)) := by rw [show a.eval (.tmp 0) = kv from hd 0 (by decide)]; exact (k5).step hb
          exact hop_runK (F := (StK.bytes (key)).F) (wanted_yes rfl rfl rfl eg) _ (run_mv _ (.inl rfl) rfl) e0
        · intro a w hb hd
          have eg : a.eval (.tmp 77) = .bool false := hd 77 (by decide)
          have e7 : a.eval (.tmp 7) = .pointer (some ⟨g7, 0, none⟩) := hd 7 (by decide)
          exact hop_runK (F := (StK.eq (.agg #[.string s, .int .i64 (m0 : Int), .int .i64 (m1 : Int), .int .i64 (m2 : Int), .int .i64 (m3 : Int)])).F) (wanted_yes rfl rfl rfl eg) _ (run_ldAll _ _ rfl e7 (c7.step hb) Try.underlying41 rfl (by kernel_rfl)) rfl
        · intro a w hb hd
          have eg : a.eval (.tmp 77) = .bool false := hd 77 (by decide)
          have e78 : IsB w (key) (a.eval (.tmp 78)) := hd 78 (by decide)
          have e79 : a.eval (.tmp 79) = .agg #[.string s, .int .i64 (m0 : Int), .int .i64 (m1 : Int), .int .i64 (m2 : Int), .int .i64 (m3 : Int)] := hd 79 (by decide)
          exact hop_callK (F := (StK.bytes (issueN key s [m0, m1, m2, m3])).F) (wanted_yes rfl rfl rfl eg) hb.size rfl #[a.eval (.tmp 78), a.eval (.tmp 79)] (by first | (simp only [List.map_toArray, List.map_cons, List.map_nil]; done) | (simp only [List.map_toArray, List.map_cons, List.map_nil]; rfl)) (enters_of Try.func29 (by kernel_rfl) rfl) (by rw [e79]; exact (rissue_any _ key HKL.out s HS.out m0 m1 m2 m3 M0.out M1.out M2.out M3.out _ e78).mono fun e w2 ⟨v, h1, h2, h3⟩ => ⟨v, h1, h3, h2.isB⟩)
        · intro a w hb hd
          have eg : a.eval (.tmp 77) = .bool false := hd 77 (by decide)
          have e80 : IsB w (issueN key s [m0, m1, m2, m3]) (a.eval (.tmp 80)) := hd 80 (by decide)
          exact hop_runK (F := (StK.eq (.string ⟨(issueN key s [m0, m1, m2, m3]).toArray⟩)).F) (wanted_yes rfl rfl rfl eg) _ (run_str _ rfl e80) rfl
        · intro a w hb hd
          have eg : a.eval (.tmp 77) = .bool false := hd 77 (by decide)
          have e1 : IsB w (l) (a.eval (.tmp 1)) := by rw [show a.eval (.tmp 1) = bv from hd 1 (by decide)]; exact (i5).step hb
          exact hop_runK (F := (StK.bytes (l)).F) (wanted_yes rfl rfl rfl eg) _ (run_mv _ (.inl rfl) rfl) e1
        · intro a w hb hd
          have eg : a.eval (.tmp 77) = .bool false := hd 77 (by decide)
          have e82 : IsB w (l) (a.eval (.tmp 82)) := hd 82 (by decide)
          exact hop_runK (F := (StK.eq (.string ⟨(l).toArray⟩)).F) (wanted_yes rfl rfl rfl eg) _ (run_str _ rfl e82) rfl
        · intro a w hb hd
          have eg : a.eval (.tmp 77) = .bool false := hd 77 (by decide)
          have e81 : a.eval (.tmp 81) = .string ⟨(issueN key s [m0, m1, m2, m3]).toArray⟩ := hd 81 (by decide)
          have e83 : a.eval (.tmp 83) = .string ⟨(l).toArray⟩ := hd 83 (by decide)
          exact hop_runK (F := (StK.eq (.bool false)).F) (wanted_yes rfl rfl rfl eg) _ (run_neStr _ _ rfl e81 e83 (HEQ.out)) rfl
        · intro a w hb hd
          have e77 : a.eval (.tmp 77) = .bool false := hd 77 (by decide)
          have e84 : a.eval (.tmp 84) = .bool false := hd 84 (by decide)
          exact hop_runK (F := (StK.eq (.bool false)).F) (wanted_none rfl) (.bool false) (run_pick_f rfl e77 e84) rfl
        intro pw6 w6 bw6 hp
        obtain ⟨-, -, -, -, -, -, -, -, -, -, -, -, -, -, -, -, -, -, -, -, -, -, -, -, -, -, -, -, -, -, -, -, q32, -⟩ := hp
        have e32 : pw6 32 = .bool false := q32 (by decide)
        simp only [List.take_succ_cons, List.take_zero, List.drop_succ_cons, List.drop_zero, layAll, Act.put, List.setIfInBounds_toArray, List.set_cons_zero, List.set_cons_succ, Nat.zero_add, Nat.reduceAdd, e32]
        clear q32 e32
        have B6 := B5.trans (bw6.mono (by have := B5.size; have := HG4.out; omega))
        have c46 := c45.step bw6
        have c76 := c7.step bw6
        clear B5 c45 c7
        go_wp2_with (first | (refine wpList_load_blk rfl _ (.tmp 7) rfl _ rfl _ _ _ c76 Try.underlying41 rfl size_tok ?_) | (refine wpList_store_blk rfl _ (.tmp 4) _ rfl _ rfl _ rfl (by simp [Value.oneCell']) _ c46 rfl size_tok ?_; intro w9 g9 c9))
        rw [HG4.out] at g9 c9 B6
        have zz := B6.size
        exact bodyPost_ret (results_blk_tmp rfl (by first | rfl | (rw [← HG4.out]; rfl)) c9 Try.underlying41 rfl size_tok) rfl ⟨_, rfl, .inl ⟨s, m0, m1, m2, m3, yes.out, rfl⟩, below_of_grown B6 g9 (by have := B6.size; omega) (Nat.le_refl _)⟩
/-- guard's. -/
theorem read_any (kv bv : Value) (key l : List UInt8) (hlen : l.length ≤ 1000) (w : World) (hk : IsB w key kv) (hb : IsB w l bv) :
    Calls Try.prog 28 #[kv, bv] w fun e w' => ∃ v, e = .returned v ∧ RdRes key l v ∧ Below w.heap.size w w' := by
  by_cases h : NoTok key l
  · exact (read_no kv bv key l hlen h w hk hb).mono fun e w' ⟨h1, h2⟩ => ⟨_, h1, .inr ⟨h, rfl⟩, h2⟩
  · obtain ⟨s, n0, n1, n2, n3, h⟩ : ∃ s n0 n1 n2 n3, IsTok key l s n0 n1 n2 n3 := Classical.byContradiction fun h2 => h fun s n0 n1 n2 n3 h3 => h2 ⟨s, n0, n1, n2, n3, h3⟩
    obtain ⟨g0, ⟨g1, g2, g3, g4⟩, g5⟩ := id h
    exact (read_ok kv bv key s g0 n0 n1 n2 n3 g1 g2 g3 g4 w hk (by rw [← g5]; exact hb)).mono fun e w' ⟨h1, h2⟩ => ⟨_, h1, .inl ⟨s, n0, n1, n2, n3, h, rfl⟩, h2⟩
theorem RdRes.same {key l : List UInt8} {u v : Value} (h1 : RdRes key l u) (h2 : RdRes key l v) : u = v := by
  rcases h1 with ⟨s, n0, n1, n2, n3, a, rfl⟩ | ⟨a, rfl⟩
  · rcases h2 with ⟨t, k0, k1, k2, k3, b, rfl⟩ | ⟨b, rfl⟩
    · obtain ⟨a0, ⟨a1, a2, a3, a4⟩, a5⟩ := a
      obtain ⟨b0, ⟨b1, b2, b3, b4⟩, b5⟩ := b
      obtain ⟨rfl, rfl, rfl, rfl, rfl⟩ := bodyN_inj (by have := a0.2.1; omega) (by have := b0.2.1; omega) a1 a2 a3 a4 b1 b2 b3 b4 (a5.symm.trans b5)
      rfl
    · exact absurd a (b _ _ _ _ _)
  · rcases h2 with ⟨t, k0, k1, k2, k3, b, rfl⟩ | ⟨b, rfl⟩
    · exact absurd b (a _ _ _ _ _)
    · rfl
end Go.Proofs.Ytffoekgopooeaaa
