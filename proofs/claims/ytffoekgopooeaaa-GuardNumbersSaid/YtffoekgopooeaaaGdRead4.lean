/- guard.Read of any bytes. -/
import Derived.Test.YtffoekgopooeaaaGdRead3
namespace Go.Proofs.Ytffoekgopooeaaa
set_option linter.unusedVariables false
set_option linter.unusedSimpArgs false
open Go.ChangeShapes Go.WideShapes Go.ChangeAt Go.RowKit Go.Shelf
set_option maxRecDepth 100000 in
set_option maxHeartbeats 8000000 in
theorem named_gen (g : Nat) (s0 s : ByteArray) (a b c d : Int) (v : Value) (l r : List UInt8) (hl : l = UInt8.ofNat s.size :: (sB s ++ r)) (hs : s.size ≤ 255) (B : Bool) (HNM : Hid (∀ w, Calls Try.prog 55 #[.string s] w fun e w' => e = .returned (.bool B) ∧ Below w.heap.size w w')) (w : World) (hv : IsB w l v) (hlm : l.length ≤ 1000) (hq : Blk w g 41 (tokA4 s0 a b c d)) (hgl : ∀ A n c, v = .slice (some A) n c → A.block ≠ g) :
    Calls Try.prog 41 #[.pointer (some ⟨g, 0, none⟩), v] w fun e w' => ∃ u, e = .returned (.tuple #[u, .bool B]) ∧ IsB w' r u ∧ w.grownBy w' (some g) ∧ Blk w' g 41 (tokA4 s a b c d) := by
  have hll : l.length = 1 + s.size + r.length := by rw [hl]; simp [sB_len]; omega
  obtain ⟨A, cc, e, h1, h2, h3, h4⟩ := id hv
  subst e
  obtain ⟨bb, o, rfl, hb, hc⟩ := h4.at (by omega)
  have hbg := hgl _ _ _ rfl
  have k0 := hc 0 (UInt8.ofNat s.size) (by rw [hl]; rfl)
  rw [Nat.add_zero, show (((UInt8.ofNat s.size).toNat : Nat) : Int) = (s.size : Int) by simp; omega] at k0
  obtain ⟨Z, hZ⟩ : ∃ Z : Int, (s.size : Int) = Z := ⟨_, rfl⟩
  rw [hZ] at k0
  have z0 : 0 ≤ Z := by omega
  have z1 : Z ≤ 255 := by omega
  have dn : ((l.length : Int) == 0) = false := beq_eq_false_iff_ne.2 (by omega)
  have dl : ¬ (l.length : Int) ≤ Z := by omega
  have hsl := fun w' => slice_lh' w' (some ⟨bb, o, none⟩) l.length cc 1 s.size 1 (1 + Z) rfl (by omega) (by omega)
  have hrd : Rd w (cutA (some ⟨bb, o, none⟩) cc 1) (sB s) := by
    have h5 := (rd_cut (k := 1) h4 h1).take s.size
    rw [hl, List.drop_succ_cons, List.drop_zero, List.take_append_of_le_length (by rw [sB_len]; exact Nat.le_refl _), List.take_of_length_le (by rw [sB_len]; exact Nat.le_refl _)] at h5
    exact h5
  have hcv := run_string_bytes w _ (sB s) s.size (cc - 1) (sB_len s) hrd
  rw [show (⟨(sB s).toArray⟩ : ByteArray) = s by unfold sB; simp] at hcv
  have kq := hq.cell (k := 0) rfl
  have fq := hq.frozen 0
  have HZ := hid hZ
  have HV := hid hv
  have HL := hid hll
  have HE : Hid (l.drop (1 + s.size) = r) := hid (by rw [hl, Nat.add_comm, List.drop_succ_cons, List.drop_append_of_le_length (by rw [sB_len]; exact Nat.le_refl _), List.drop_of_length_le (by rw [sB_len]; exact Nat.le_refl _), List.nil_append])
  obtain ⟨N, hN⟩ : ∃ N, l.length = N := ⟨_, rfl⟩
  rw [hN] at dn dl hsl ⊢
  have HN := hid hN
  clear hs hZ hv hll h4 hc hrd hl hN h1 h3
  go_enter Try.func41, Try.ntmps41
  go_wp2_with fail
  obtain ⟨W, hW⟩ : ∃ W, W = w.setCell ⟨g, 0, none⟩ (.string s) := ⟨_, rfl⟩
  rw [← hW]
  have q1 : Blk W g 41 (tokA4 s a b c d) := by rw [hW]; exact hq.set 0 _ rfl
  have gW : w.grownBy W (some g) := by rw [hW]; exact grown_set (World.grownBy.refl _ _) rfl _
  have iv : IsB W l (.slice (some ⟨bb, o, none⟩) N cc) := by
    rw [hW, ← HN.out]
    obtain ⟨A', c', e', i1, i2, i3, i4⟩ := HV.out
    injection e' with e1 e2 e3
    subst e1 e3
    exact ⟨_, _, rfl, i1, i2, i3, rd_far i4 hbg⟩
  have hK : 1 + s.size ≤ l.length := by have := HL.out; omega
  have hZ := HZ.out
  have hg1 := q1.lt
  clear hW hsl hcv kq fq k0 dn dl
  refine wp_region_stT [StK.bytes (l), StK.eq (.int .i64 (1 + Z)), StK.bytes ((l).drop (1 + s.size)), StK.eq (.pointer (some ⟨g, 0, none⟩)), StK.eq (.pointer (some ⟨g, 0, none⟩)), StK.eq (.pointer (some ⟨g, 0, none⟩)), StK.eq (.string s), StK.eq (.bool B), StK.bytes ((l).drop (1 + s.size)), StK.eq (.bool B)] 10 39 rfl (by kernel_rfl) (by kernel_rfl) ⟨?_, ?_, ?_, ?_, ?_, ?_, ?_, ?_, ?_, ?_, trivial⟩ ?_
  · intro a_ w hb hd
    have e1 : IsB w (l) (a_.eval (.tmp 1)) := by rw [show a_.eval (.tmp 1) = .slice (some ⟨bb, o, none⟩) N cc from hd 1 (by decide)]; exact (iv).step hb
    exact hop_runK (F := (StK.bytes (l)).F) (wanted_none rfl) _ (run_mv _ (.inl rfl) rfl) e1
  · intro a_ w hb hd
    have e6 : a_.eval (.tmp 6) = .int .i64 (1 + Z) := hd 6 (by decide)
    exact hop_runK (F := (StK.eq (.int .i64 (1 + Z))).F) (wanted_none rfl) _ (run_mv _ (.inl rfl) e6) rfl
  · intro a_ w hb hd
    have e31 : IsB w (l) (a_.eval (.tmp 31)) := hd 31 (by decide)
    have e32 : a_.eval (.tmp 32) = .int .i64 (1 + Z) := hd 32 (by decide)
    exact hop_slFrom (wanted_none rfl) _ _ rfl e31 (K := (1 + s.size)) e32 (by first | rfl | omega) (by omega)
  · intro a_ w hb hd
    have e0 : a_.eval (.tmp 0) = .pointer (some ⟨g, 0, none⟩) := hd 0 (by decide)
    exact hop_runK (F := (StK.eq (.pointer (some ⟨g, 0, none⟩))).F) (wanted_none rfl) _ (run_mv _ (.inl rfl) e0) rfl
  · intro a_ w hb hd
    have e34 : a_.eval (.tmp 34) = .pointer (some ⟨g, 0, none⟩) := hd 34 (by decide)
    exact hop_runK (F := (StK.eq (.pointer (some ⟨g, 0, none⟩))).F) (wanted_none rfl) _ (by unfold execOp; simp only [e34]; kernel_rfl) rfl
  · intro a_ w hb hd
    have e35 : a_.eval (.tmp 35) = .pointer (some ⟨g, 0, none⟩) := hd 35 (by decide)
    exact hop_runK (F := (StK.eq (.pointer (some ⟨g, 0, none⟩))).F) (wanted_none rfl) _ (by unfold execOp; simp only [e35]; kernel_rfl) rfl
  · intro a_ w hb hd
    have e36 : a_.eval (.tmp 36) = .pointer (some ⟨g, 0, none⟩) := hd 36 (by decide)
    exact hop_runK (F := (StK.eq (.string s)).F) (wanted_none rfl) _ (run_ldCell _ _ rfl e36 Try.underlying9 rfl ((q1.step hb).cell (k := 0) rfl)) rfl
  · intro a_ w hb hd
    have e37 : a_.eval (.tmp 37) = .string s := hd 37 (by decide)
    exact hop_callK (F := (StK.eq (.bool B)).F) (wanted_none rfl) hb.size rfl #[a_.eval (.tmp 37)] (by first | (simp only [List.map_toArray, List.map_cons, List.map_nil]; done) | (simp only [List.map_toArray, List.map_cons, List.map_nil]; rfl)) (enters_of Try.func55 (by kernel_rfl) rfl) (by rw [e37]; exact call_eq (HNM.out w))
  · intro a_ w hb hd
    have e33 : IsB w ((l).drop (1 + s.size)) (a_.eval (.tmp 33)) := hd 33 (by decide)
    exact hop_runK (F := (StK.bytes ((l).drop (1 + s.size))).F) (wanted_none rfl) _ (run_mv _ (.inr rfl) rfl) e33
  · intro a_ w hb hd
    have e38 : a_.eval (.tmp 38) = .bool B := hd 38 (by decide)
    exact hop_runK (F := (StK.eq (.bool B)).F) (wanted_none rfl) _ (run_mv _ (.inr rfl) e38) rfl
  intro pwz wz bwz hp
  obtain ⟨-, -, -, -, -, -, -, -, q8, q9, -⟩ := hp
  have f4 : IsB wz ((l).drop (1 + s.size)) (pwz 8) := q8 (by decide)
  have e9 : pwz 9 = .bool B := q9 (by decide)
  simp only [List.take_succ_cons, List.take_zero, List.drop_succ_cons, List.drop_zero, layAll, Act.put, List.setIfInBounds_toArray, List.set_cons_zero, List.set_cons_succ, Nat.zero_add, Nat.reduceAdd, e9]
  clear q8 q9 e9
  generalize pwz 8 = v4 at *
  go_wp2
  go_ret2
  refine ⟨_, rfl, ?_, ?_, q1.step bwz⟩
  · rw [HE.out] at f4; exact f4
  · exact ⟨bwz.os.trans gW.os, bwz.tape.trans gW.tape, bwz.output.trans gW.output, Nat.le_trans gW.size bwz.size, fun k hk hn => (bwz.block k (Nat.lt_of_lt_of_le hk gW.size)).trans (gW.block k hk hn)⟩
set_option maxRecDepth 100000 in
set_option maxHeartbeats 4000000 in
theorem named_no (g : Nat) (l : List UInt8) (hl : ∀ x, l[0]? = some x → l.length ≤ x.toNat) (hlm : l.length ≤ 1000) (v : Value) (w : World) (hv : IsB w l v) :
    Calls Try.prog 41 #[.pointer (some ⟨g, 0, none⟩), v] w fun e w' => e = .returned (.tuple #[.slice none 0 0, .bool false]) ∧ Below w.heap.size w w' := by
  obtain ⟨A, cc, e, h1, h2, h3, h4⟩ := hv
  subst e
  by_cases h0 : l.length = 0
  · have d1 : ((l.length : Int) == 0) = true := beq_iff_eq.2 (by omega)
    clear h4 hl h2 h3
    obtain ⟨N, hN⟩ : ∃ N, l.length = N := ⟨_, rfl⟩
    rw [hN] at d1 h1 ⊢
    have h0 := hid h0
    go_enter Try.func41, Try.ntmps41
    go_wp2
    go_ret2
    exact ⟨rfl, Below.refl _ _⟩
  · have d1 : ((l.length : Int) == 0) = false := beq_eq_false_iff_ne.2 (by omega)
    obtain ⟨bb, o, rfl, hb, hc⟩ := h4.at (by omega)
    obtain ⟨x, hx⟩ : ∃ x, l[0]? = some x := ⟨_, List.getElem?_eq_getElem (by omega)⟩
    have k0 := hc 0 x hx
    have hlx := hl x hx
    obtain ⟨X, hX⟩ : ∃ X : Int, (x.toNat : Int) = X := ⟨_, rfl⟩
    have d2 : (l.length : Int) ≤ X := by omega
    have hX0 : 0 ≤ X := by omega
    have hX8 : X < 256 := by have := x.toNat_lt; omega
    rw [hX, Nat.add_zero] at k0
    obtain ⟨N, hN⟩ : ∃ N, l.length = N := ⟨_, rfl⟩
    have hN0 : 0 < N := by omega
    rw [hN] at d1 d2 h1 ⊢
    have h0 := hid h0
    clear hc hl hlx hX hx h4 h2 h3 hlm hN
    go_enter Try.func41, Try.ntmps41
    go_wp2
    go_ret2
    exact ⟨rfl, Below.refl _ _⟩
/-- These bytes are a token's, by this key. -/
def IsTok (key l : List UInt8) (s : ByteArray) (n0 n1 n2 n3 : Nat) : Prop := NameOk s ∧ ((n0 : Int) < 9223372036854775808 ∧ (n1 : Int) < 9223372036854775808 ∧ (n2 : Int) < 9223372036854775808 ∧ (n3 : Int) < 9223372036854775808) ∧ l = issueN key s [n0, n1, n2, n3]
def NoTok (key l : List UInt8) : Prop := ∀ s n0 n1 n2 n3, ¬ IsTok key l s n0 n1 n2 n3
def gI (ns : List Nat) (i : Nat) : Int := ((ns[i]?.getD 0 : Nat) : Int)
theorem bytes_of (l : List UInt8) : sB ⟨l.toArray⟩ = l := by unfold sB; simp
/-- Bytes ahead of which stands how many they are, are a text's and more; or they are too few. -/
theorem head_of (l : List UInt8) : (∀ x, l[0]? = some x → l.length ≤ x.toNat) ∨ ∃ (s : ByteArray) (r : List UInt8), l = UInt8.ofNat s.size :: (sB s ++ r) ∧ s.size ≤ 255 := by
  match l with
  | [] => exact .inl (fun x h => by cases h)
  | x :: q =>
    by_cases h : q.length < x.toNat
    · exact .inl (fun y hy => by cases hy; simp; omega)
    · have hx := x.toNat_lt
      have hs : (⟨(q.take x.toNat).toArray⟩ : ByteArray).size = x.toNat := by rw [← sB_len, bytes_of, List.length_take]; omega
      refine .inr ⟨⟨(q.take x.toNat).toArray⟩, q.drop x.toNat, ?_, by omega⟩
      rw [bytes_of, hs, List.take_append_drop, UInt8.ofNat_toNat]
end Go.Proofs.Ytffoekgopooeaaa
