/- guard: names, numbers, Read of what Issue wrote. -/
import Derived.Test.YtffoekgopooeaaaGdTok
namespace Go.Proofs.Ytffoekgopooeaaa
set_option linter.unusedVariables false
set_option linter.unusedSimpArgs false
open Go.ChangeShapes Go.WideShapes Go.ChangeAt Go.RowKit Go.Shelf
/-- A text that may be a name. -/
def NameOk (s : ByteArray) : Prop := 0 < s.size ∧ s.size ≤ 16 ∧ ∀ i (h : i < s.size), 33 ≤ ((s[i]'h).toNat : Int) ∧ ((s[i]'h).toNat : Int) ≤ 126
set_option maxRecDepth 100000 in
set_option maxHeartbeats 4000000 in
theorem isname_ok (s : ByteArray) (hs : NameOk s) (w : World) :
    Calls Try.prog 55 #[.string s] w fun e w' => e = .returned (.bool true) ∧ Below w.heap.size w w' := by
  obtain ⟨h1, h2, h3⟩ := hs
  have H3 := hid h3
  clear h3
  have d1 : ((s.size : Int) == 0) = false := beq_eq_false_iff_ne.2 (by omega)
  have d2 : ¬ (16 : Int) < (s.size : Int) := by omega
  go_enter Try.func55, Try.ntmps55
  go_wp2
  go_loopw [14] (fun i wr => ∃ k : Nat, k ≤ s.size ∧ i = .int .i64 (k : Int) ∧ ∃ d, wr = w.drewN d) (fun i _ => 20 - (intOf i).toNat)
  case atStart => exact ⟨0, by omega, rfl, 0, rfl⟩
  case round =>
    obtain ⟨k, hk, rfl, d, rfl⟩ := hrel
    by_cases hlt : k < s.size
    · obtain ⟨q1, q2⟩ := H3.out k hlt
      have q3 : (s[k]'hlt).toNat < 256 := (s[k]'hlt).toNat_lt
      go_wp2
      go_roundw
      case rel => exact ⟨k + 1, by omega, by go_num, _, rfl⟩
      case measure => simp [intOf]; omega
    · obtain rfl : k = s.size := by omega
      go_wp2
      go_ret
      exact ⟨rfl, below_drewN (Below.refl _ _) _⟩
/-- What the first k of a number's eight bytes come to. -/
def upI (m k : Nat) : Int := ((m / 256 ^ (8 - k) : Nat) : Int)
theorem or_i64' (p c : Nat) (h1 : p < 36028797018963968) (h3 : c < 256) : bits .or .i64 ((p : Int) * 256) (c : Int) = ((p * 256 + c : Nat) : Int) := by
  rw [show (p : Int) * 256 = ((p * 256 : Nat) : Int) by omega, (bits_nat .i64 63 (by decide) (fun n h0 h1 => Go.IntWalk.i64_in n (by omega)) (p * 256) c (by omega) (by omega)).2, nat_join 8 (p * 256) c (by omega) (by omega)]
theorem up_pack {m : Nat} (hm : (m : Int) < 9223372036854775808) : upI m 0 = 0 ∧ upI m 8 = (m : Int) ∧
    ∀ k, k < 8 → ∃ (x : UInt8) (c : Int), (eightL m)[k]? = some x ∧ (x.toNat : Int) = c ∧ 0 ≤ c ∧ c < 256 ∧ 0 ≤ upI m k ∧ upI m k < 36028797018963968 ∧ bits BinOp.or IntKind.i64 (upI m k * 256) c = upI m (k + 1) ∧ (k = 0 → c ≤ 127) := by
  have hm' : m < 9223372036854775808 := by omega
  refine ⟨?_, ?_, fun k hk => ?_⟩
  · unfold upI
    rw [Nat.div_eq_of_lt]
    · rfl
    · exact Nat.lt_trans hm' (by decide)
  · unfold upI; simp
  · have hx : (eightL m)[k]? = some (UInt8.ofNat (byt (m : Int) k).toNat) := by simp [eightL, hk]
    have hb := byt_bd (m : Int) k
    have hv := byt_val (m : Int) k
    have e1 : byt (m : Int) k = ((m / 256 ^ (7 - k) % 256 : Nat) : Int) := by unfold byt; simp
    have e2 : m / 256 ^ (8 - k) = m / 256 ^ (7 - k) / 256 := by
      rw [Nat.div_div_eq_div_mul, ← Nat.pow_succ]
      congr 2; omega
    have e3 : 8 - (k + 1) = 7 - k := by omega
    have hp : m / 256 ^ (8 - k) < 36028797018963968 := by
      rw [e2]
      have : m / 256 ^ (7 - k) ≤ m := Nat.div_le_self _ _
      omega
    refine ⟨_, _, hx, hv, hb.1, hb.2, Int.natCast_nonneg _, by unfold upI; omega, ?_, fun h0 => ?_⟩
    · unfold upI
      rw [e1, or_i64' _ _ hp (Nat.mod_lt _ (by decide)), e3, e2]
      congr 1
      have := Nat.div_add_mod (m / 256 ^ (7 - k)) 256
      omega
    · subst h0
      rw [e1]
      have : m / 256 ^ (7 - 0) ≤ 127 := by
        have : m / 256 ^ (7 - 0) < 128 := Nat.div_lt_of_lt_mul (by have e : (256 : Nat) ^ (7 - 0) * 128 = 9223372036854775808 := by decide
                                                                   omega)
        omega
      omega
attribute [irreducible] upI
set_option maxRecDepth 100000 in
set_option maxHeartbeats 4000000 in
theorem number_ok (m : Nat) (hm : (m : Int) < 9223372036854775808) (v : Value) (w : World) (hv : IsB w (eightL m) v) :
    Calls Try.prog 42 #[v] w fun e w' => e = .returned (.tuple #[.int .i64 (m : Int), .bool true]) ∧ Below w.heap.size w w' := by
  obtain ⟨A, c, e, h1, h2, h3, h4⟩ := hv
  rw [eightL_len] at e h1
  subst e
  obtain ⟨b, o, rfl, hb, hc⟩ := h4.at (by rw [eightL_len]; omega)
  obtain ⟨p0, p8, pk⟩ := up_pack hm
  obtain ⟨x0, c0, q1, q2, q3, q4, q5, q6, q7, q8⟩ := pk 0 (by omega)
  have k0 := hc 0 x0 q1
  rw [q2, Nat.add_zero] at k0
  have d0 : ¬ (127 : Int) < c0 := by have := q8 rfl; omega
  have HC := hid hc
  have PK := hid pk
  have P8 := hid p8
  have P0 := hid p0
  clear hc pk p8 p0 q1 q2 q5 q6 q7 q8 hm h4 h3
  go_enter Try.func42, Try.ntmps42
  go_wp2
  go_loopw [4, 23] (fun n i wr => ∃ k : Nat, k ≤ 8 ∧ i = .int .i64 (k : Int) ∧ n = .int .i64 (upI m k) ∧ wr = w) (fun _ i _ => 8 - (intOf i).toNat)
  case atStart => exact ⟨0, by omega, rfl, by rw [P0.out], rfl⟩
  case round =>
    obtain ⟨k, hk, rfl, rfl, rfl⟩ := hrel
    by_cases hlt : k < 8
    · obtain ⟨x, c1, r1, r2, r3, r4, r5, r6, r7, _⟩ := PK.out k hlt
      have kc := HC.out k x r1
      rw [r2] at kc
      clear r1 r2 k0 HC PK
      go_wp2
      go_roundw
      case rel => exact ⟨k + 1, by omega, by go_num, rfl, trivial⟩
      case measure => simp [intOf]; omega
    · obtain rfl : k = 8 := by omega
      rw [P8.out]
      go_wp2
      go_ret2
      exact ⟨rfl, Below.refl _ _⟩
theorem slice_lh' (w : World) (A : Option Addr) (n c a m : Nat) (z1 z2 : Int) (h1 : z1 = (a : Int)) (h2 : z2 = (a : Int) + (m : Int)) (hb : a + m ≤ c) : (Instr.sliceAt 23 (.slice A n c) (some (.int .i64 z1)) (some (.int .i64 z2)) none).run Try.prog w = .ok (.slice (cutA A c a) m (c - a)) w := by
  subst h1 h2
  have hu : Try.prog.underlying 23 = some (.slice (Try.prog.elem 23)) := by rw [elem_u8s]; exact Try.underlying23
  rw [run_sliceAt_slice _ _ _ _ _ _ hu, run_slice_lh _ _ _ _ _ hu .i64 .i64 a ((a : Int) + (m : Int)) (by omega) (by omega) (by omega), elem_u8s, sizeOf_u8]
  simp only [Result.andThen_ok, sliced, Int.toNat_natCast, Nat.mul_one, cutA]
  rw [show ((a : Int) + (m : Int)).toNat = a + m by omega, Nat.add_sub_cancel_left]
theorem rd_far {w : World} {ad p : Addr} {l : List UInt8} {u : Value} (h : Rd w (some ad) l) (hne : ad.block ≠ p.block) : Rd (w.setCell p u) (some ad) l := fun hp => by
  obtain ⟨ad', e, hb, hc⟩ := h hp
  cases e
  have hs : ∀ j, (ad.add j).block = ad.block := fun j => by unfold Addr.add; split <;> rfl
  refine ⟨ad, rfl, by simpa [World.setCell] using hb, fun j x hx => ?_⟩
  rw [← hc j x hx]
  exact World.cell?_of_block (Below.heap_setCell w p u _ (by rw [hs]; exact hne))
theorem rd_cut {w : World} {A : Option Addr} {l : List UInt8} {c k : Nat} (h : Rd w A l) (hc : l.length ≤ c) : Rd w (cutA A c k) (l.drop k) :=
  ((h.src (p := w.heap.size) (Nat.le_refl _)).cut (k := k) hc).rd (Nat.le_refl _)
set_option maxRecDepth 100000 in
set_option maxHeartbeats 8000000 in
theorem named_ok (g : Nat) (s0 s : ByteArray) (a b c d : Int) (v : Value) (l r : List UInt8) (hl : l = UInt8.ofNat s.size :: (sB s ++ r)) (hs : NameOk s) (w : World) (hv : IsB w l v) (hlm : l.length ≤ 1000) (hq : Blk w g 41 (tokA4 s0 a b c d)) (hgl : ∀ A n c, v = .slice (some A) n c → A.block ≠ g) :
    Calls Try.prog 41 #[.pointer (some ⟨g, 0, none⟩), v] w fun e w' => ∃ u, e = .returned (.tuple #[u, .bool true]) ∧ IsB w' r u ∧ w.grownBy w' (some g) ∧ Blk w' g 41 (tokA4 s a b c d) := by
  obtain ⟨hs1, hs2, hs3⟩ := id hs
  have hll : l.length = 1 + s.size + r.length := by rw [hl]; simp [sB_len]; omega
  obtain ⟨A, cc, e, h1, h2, h3, h4⟩ := id hv
  subst e
  obtain ⟨bb, o, rfl, hb, hc⟩ := h4.at (by omega)
  have hbg := hgl _ _ _ rfl
  have k0 := hc 0 (UInt8.ofNat s.size) (by rw [hl]; rfl)
  rw [Nat.add_zero, show (((UInt8.ofNat s.size).toNat : Nat) : Int) = (s.size : Int) by simp; omega] at k0
  obtain ⟨Z, hZ⟩ : ∃ Z : Int, (s.size : Int) = Z := ⟨_, rfl⟩
  rw [hZ] at k0
  have z0 : 0 < Z := by omega
  have z1 : Z ≤ 16 := by omega
  have dn : ((l.length : Int) == 0) = false := beq_eq_false_iff_ne.2 (by omega)
  have dl : ¬ (l.length : Int) ≤ Z := by omega
  have hsl := fun w' => slice_lh' w' (some ⟨bb, o, none⟩) l.length cc 1 s.size 1 (1 + Z) rfl (by omega) (by omega)
  have hrd : Rd w (cutA (some ⟨bb, o, none⟩) cc 1) (sB s) := by
    have h5 := (rd_cut (k := 1) h4 h1).take s.size
    rw [hl, List.drop_succ_cons, List.drop_zero, List.take_append_of_le_length (by rw [sB_len]; exact Nat.le_refl _), List.take_of_length_le (by rw [sB_len]; exact Nat.le_refl _)] at h5
    exact h5
  have hcv := run_string_bytes w _ (sB s) s.size (cc - 1) (sB_len s) hrd
  rw [show (⟨(sB s).toArray⟩ : ByteArray) = s by unfold sB; simp] at hcv
  have kq := hq.cell (k := 0) rfl
  have fq := hq.frozen 0
  have HZ := hid hZ
  have HV := hid hv
  have HL := hid hll
  have HS := hid hs
  have HE : Hid (l.drop (1 + s.size) = r) := hid (by rw [hl, Nat.add_comm, List.drop_succ_cons, List.drop_append_of_le_length (by rw [sB_len]; exact Nat.le_refl _), List.drop_of_length_le (by rw [sB_len]; exact Nat.le_refl _), List.nil_append])
  obtain ⟨N, hN⟩ : ∃ N, l.length = N := ⟨_, rfl⟩
  rw [hN] at dn dl hsl ⊢
  have HN := hid hN
  clear hs1 hs2 hs3 hs hZ hv hll h4 hc hrd hl hN h1 h3
  go_enter Try.func41, Try.ntmps41
  go_wp2_with fail
  obtain ⟨W, hW⟩ : ∃ W, W = w.setCell ⟨g, 0, none⟩ (.string s) := ⟨_, rfl⟩
  rw [← hW]
  have q1 : Blk W g 41 (tokA4 s a b c d) := by rw [hW]; exact hq.set 0 _ rfl
  have gW : w.grownBy W (some g) := by rw [hW]; exact grown_set (World.grownBy.refl _ _) rfl _
  have iv : IsB W l (.slice (some ⟨bb, o, none⟩) N cc) := by
    rw [hW, ← HN.out]
    obtain ⟨A', c', e', i1, i2, i3, i4⟩ := HV.out
    injection e' with e1 e2 e3
    subst e1 e3
    exact ⟨_, _, rfl, i1, i2, i3, rd_far i4 hbg⟩
  have hK : 1 + s.size ≤ l.length := by have := HL.out; omega
  have hZ := HZ.out
  have hg1 := q1.lt
  clear hW hsl hcv kq fq k0 dn dl
  refine wp_region_stT [StK.bytes (l), StK.eq (.int .i64 (1 + Z)), StK.bytes ((l).drop (1 + s.size)), StK.eq (.pointer (some ⟨g, 0, none⟩)), StK.eq (.pointer (some ⟨g, 0, none⟩)), StK.eq (.pointer (some ⟨g, 0, none⟩)), StK.eq (.string s), StK.eq (.bool true), StK.bytes ((l).drop (1 + s.size)), StK.eq (.bool true)] 10 39 rfl (by kernel_rfl) (by kernel_rfl) ⟨?_, ?_, ?_, ?_, ?_, ?_, ?_, ?_, ?_, ?_, trivial⟩ ?_
  · intro a_ w hb hd
    have e1 : IsB w (l) (a_.eval (.tmp 1)) := by rw [show a_.eval (.tmp 1) = .slice (some ⟨bb, o, none⟩) N cc from hd 1 (by decide)]; exact (iv).step hb
    exact hop_runK (F := (StK.bytes (l)).F) (wanted_none rfl) _ (run_mv _ (.inl rfl) rfl) e1
  · intro a_ w hb hd
    have e6 : a_.eval (.tmp 6) = .int .i64 (1 + Z) := hd 6 (by decide)
    exact hop_runK (F := (StK.eq (.int .i64 (1 + Z))).F) (wanted_none rfl) _ (run_mv _ (.inl rfl) e6) rfl
  · intro a_ w hb hd
    have e31 : IsB w (l) (a_.eval (.tmp 31)) := hd 31 (by decide)
    have e32 : a_.eval (.tmp 32) = .int .i64 (1 + Z) := hd 32 (by decide)
    exact hop_slFrom (wanted_none rfl) _ _ rfl e31 (K := (1 + s.size)) e32 (by first | rfl | omega) (by omega)
  · intro a_ w hb hd
    have e0 : a_.eval (.tmp 0) = .pointer (some ⟨g, 0, none⟩) := hd 0 (by decide)
    exact hop_runK (F := (StK.eq (.pointer (some ⟨g, 0, none⟩))).F) (wanted_none rfl) _ (run_mv _ (.inl rfl) e0) rfl
  · intro a_ w hb hd
    have e34 : a_.eval (.tmp 34) = .pointer (some ⟨g, 0, none⟩) := hd 34 (by decide)
    exact hop_runK (F := (StK.eq (.pointer (some ⟨g, 0, none⟩))).F) (wanted_none rfl) _ (by unfold execOp; simp only [e34]; kernel_rfl) rfl
  · intro a_ w hb hd
    have e35 : a_.eval (.tmp 35) = .pointer (some ⟨g, 0, none⟩) := hd 35 (by decide)
    exact hop_runK (F := (StK.eq (.pointer (some ⟨g, 0, none⟩))).F) (wanted_none rfl) _ (by unfold execOp; simp only [e35]; kernel_rfl) rfl
  · intro a_ w hb hd
    have e36 : a_.eval (.tmp 36) = .pointer (some ⟨g, 0, none⟩) := hd 36 (by decide)
    exact hop_runK (F := (StK.eq (.string s)).F) (wanted_none rfl) _ (run_ldCell _ _ rfl e36 Try.underlying9 rfl ((q1.step hb).cell (k := 0) rfl)) rfl
  · intro a_ w hb hd
    have e37 : a_.eval (.tmp 37) = .string s := hd 37 (by decide)
    exact hop_callK (F := (StK.eq (.bool true)).F) (wanted_none rfl) hb.size rfl #[a_.eval (.tmp 37)] (by first | (simp only [List.map_toArray, List.map_cons, List.map_nil]; done) | (simp only [List.map_toArray, List.map_cons, List.map_nil]; rfl)) (enters_of Try.func55 (by kernel_rfl) rfl) (by rw [e37]; exact call_eq (isname_ok s HS.out w))
  · intro a_ w hb hd
    have e33 : IsB w ((l).drop (1 + s.size)) (a_.eval (.tmp 33)) := hd 33 (by decide)
    exact hop_runK (F := (StK.bytes ((l).drop (1 + s.size))).F) (wanted_none rfl) _ (run_mv _ (.inr rfl) rfl) e33
  · intro a_ w hb hd
    have e38 : a_.eval (.tmp 38) = .bool true := hd 38 (by decide)
    exact hop_runK (F := (StK.eq (.bool true)).F) (wanted_none rfl) _ (run_mv _ (.inr rfl) e38) rfl
  intro pwz wz bwz hp
  obtain ⟨-, -, -, -, -, -, -, -, q8, q9, -⟩ := hp
  have f4 : IsB wz ((l).drop (1 + s.size)) (pwz 8) := q8 (by decide)
  have e9 : pwz 9 = .bool true := q9 (by decide)
  simp only [List.take_succ_cons, List.take_zero, List.drop_succ_cons, List.drop_zero, layAll, Act.put, List.setIfInBounds_toArray, List.set_cons_zero, List.set_cons_succ, Nat.zero_add, Nat.reduceAdd, e9]
  clear q8 q9 e9
  generalize pwz 8 = v4 at *
  go_wp2
  go_ret2
  refine ⟨_, rfl, ?_, ?_, q1.step bwz⟩
  · rw [HE.out] at f4; exact f4
  · exact ⟨bwz.os.trans gW.os, bwz.tape.trans gW.tape, bwz.output.trans gW.output, Nat.le_trans gW.size bwz.size, fun k hk hn => (bwz.block k (Nat.lt_of_lt_of_le hk gW.size)).trans (gW.block k hk hn)⟩
end Go.Proofs.Ytffoekgopooeaaa
