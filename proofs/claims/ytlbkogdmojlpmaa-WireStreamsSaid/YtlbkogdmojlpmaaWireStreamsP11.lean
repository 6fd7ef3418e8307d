/- What WireStreams stands on, part 11. -/
import Derived.Test.YtlbkogdmojlpmaaWireStreamsP1
import Derived.Test.YtlbkogdmojlpmaaWireStreamsP2
import Derived.Test.YtlbkogdmojlpmaaWireStreamsP3
import Derived.Test.YtlbkogdmojlpmaaWireStreamsP4
import Derived.Test.YtlbkogdmojlpmaaWireStreamsP5
import Derived.Test.YtlbkogdmojlpmaaWireStreamsP6
import Derived.Test.YtlbkogdmojlpmaaWireStreamsP7
import Derived.Test.YtlbkogdmojlpmaaWireStreamsP8
import Derived.Test.YtlbkogdmojlpmaaWireStreamsP9
import Derived.Test.YtlbkogdmojlpmaaWireStreamsP10
set_option maxRecDepth 100000
set_option maxHeartbeats 8000000
set_option linter.unusedVariables false
set_option linter.unusedSimpArgs false
namespace Go.Proofs.Ytlbkogdmojlpmaa
open Go.ChangeShapes Go.WideShapes Go.ChangeAt Go.RowKit
theorem getD_of {l : List UInt8} {i : Nat} {x : UInt8} (h : l[i]? = some x) : l.getD i 0 = x := by rw [List.getD_eq_getElem?_getD, h]; rfl
theorem rencode_ex (m : MsgN) (V : MsgV) (ho : MsgOk m) (hs : m.s.size ≤ 1000) (w : World) (hm : MsgIs w m V) : Calls Try.prog 18 #[.agg (msgA m V)] w fun e w' => ∃ t, e = .returned t ∧ ∃ v, t = .tuple #[v, .bool (z4a m)] ∧ Byt w' w.heap.size v (encL m) ∧ Below w.heap.size w w' :=
  (rencode_any m V ho hs w hm).mono fun e w' ⟨v, h1, h2, h3⟩ => ⟨_, h1, v, rfl, h2, h3⟩
theorem setV_is {w : World} {m : MsgN} {V : MsgV} (hm : MsgIs w m V) {c : List UInt8} {u : Value} (hu : IsB w c u) (n : Nat) : MsgIs w (setR m n c) (setV V n u) := by
  by_cases hn : n < 1 ∨ 11 < n
  · rw [setR_no hn, setV_no hn]; exact hm
  · obtain ⟨h5, h6, h7, h8, h9⟩ := hm
    have : n = 1 ∨ n = 2 ∨ n = 3 ∨ n = 4 ∨ n = 5 ∨ n = 6 ∨ n = 7 ∨ n = 8 ∨ n = 9 ∨ n = 10 ∨ n = 11 := by omega
    rcases this with rfl | rfl | rfl | rfl | rfl | rfl | rfl | rfl | rfl | rfl | rfl <;> first | exact ⟨h5, h6, h7, h8, h9⟩ | exact ⟨hu, h6, h7, h8, h9⟩ | exact ⟨h5, hu, h7, h8, h9⟩ | exact ⟨h5, h6, hu, h8, h9⟩ | exact ⟨h5, h6, h7, hu, h9⟩ | exact ⟨h5, h6, h7, h8, hu⟩
theorem ref_no {b : List UInt8} (h : refOk b = false) : decOk b = false ∧ decR b = mZero := by
  obtain ⟨h1, h2⟩ := ref_dec b
  exact ⟨h1 ▸ h, by rw [← h2]; exact if_neg (by rw [h]; exact Bool.false_ne_true)⟩
theorem ref_yes {b : List UInt8} (h : refOk b = true) : decOk b = true ∧ decR b = refM b := by
  obtain ⟨h1, h2⟩ := ref_dec b
  exact ⟨h1 ▸ h, by rw [← h2]; exact if_pos h⟩
theorem ref_short {b : List UInt8} (h : b.length < 3) : refOk b = false := by
  unfold refOk
  rw [decide_eq_false (by omega)]; rfl
theorem ref_bad {b : List UInt8} {m : MsgN} (h : m = refM b) (hn : z4a m = false ∨ ¬ encL m = b) : refOk b = false := by
  subst h
  unfold refOk zhb
  rcases hn with hn | hn
  · rw [hn]; simp
  · rw [decide_eq_false hn]; simp
theorem ref_ok {b : List UInt8} {m : MsgN} (h : m = refM b) (hl : 3 ≤ b.length) (h1 : z4a m = true) (h2 : encL m = b) : refOk b = true := by
  subst h
  unfold refOk zhb
  rw [h1, decide_eq_true h2, decide_eq_true hl]; rfl
theorem rset_l5 {R : List (Nat × Res)} {m : MsgN} {V : MsgV} {c : List UInt8} {v : Value} {k iv : Nat} (h : look R k = some (bytR m.l5 V.v5)) (hv : look R iv = some (bytR c v)) (n : Nat) : ∃ q, look R q = some (bytR (setR m n c).l5 (setV V n v).v5) ∧ ((bytR (setR m n c).l5 (setV V n v).v5).wr = true → q = k) := by
  by_cases hn : n = 5
  · subst hn; exact ⟨iv, hv, fun e => by cases e⟩
  · have e1 : (setR m n c).l5 = m.l5 := by unfold setR; split <;> first | rfl | exact absurd rfl hn
    have e2 : (setV V n v).v5 = V.v5 := by unfold setV; split <;> first | rfl | exact absurd rfl hn
    rw [e1, e2]
    exact ⟨k, h, fun e => by cases e⟩
theorem rset_l6 {R : List (Nat × Res)} {m : MsgN} {V : MsgV} {c : List UInt8} {v : Value} {k iv : Nat} (h : look R k = some (bytR m.l6 V.v6)) (hv : look R iv = some (bytR c v)) (n : Nat) : ∃ q, look R q = some (bytR (setR m n c).l6 (setV V n v).v6) ∧ ((bytR (setR m n c).l6 (setV V n v).v6).wr = true → q = k) := by
  by_cases hn : n = 6
  · subst hn; exact ⟨iv, hv, fun e => by cases e⟩
  · have e1 : (setR m n c).l6 = m.l6 := by unfold setR; split <;> first | rfl | exact absurd rfl hn
    have e2 : (setV V n v).v6 = V.v6 := by unfold setV; split <;> first | rfl | exact absurd rfl hn
    rw [e1, e2]
    exact ⟨k, h, fun e => by cases e⟩
theorem rset_l7 {R : List (Nat × Res)} {m : MsgN} {V : MsgV} {c : List UInt8} {v : Value} {k iv : Nat} (h : look R k = some (bytR m.l7 V.v7)) (hv : look R iv = some (bytR c v)) (n : Nat) : ∃ q, look R q = some (bytR (setR m n c).l7 (setV V n v).v7) ∧ ((bytR (setR m n c).l7 (setV V n v).v7).wr = true → q = k) := by
  by_cases hn : n = 7
  · subst hn; exact ⟨iv, hv, fun e => by cases e⟩
  · have e1 : (setR m n c).l7 = m.l7 := by unfold setR; split <;> first | rfl | exact absurd rfl hn
    have e2 : (setV V n v).v7 = V.v7 := by unfold setV; split <;> first | rfl | exact absurd rfl hn
    rw [e1, e2]
    exact ⟨k, h, fun e => by cases e⟩
theorem rset_l8 {R : List (Nat × Res)} {m : MsgN} {V : MsgV} {c : List UInt8} {v : Value} {k iv : Nat} (h : look R k = some (bytR m.l8 V.v8)) (hv : look R iv = some (bytR c v)) (n : Nat) : ∃ q, look R q = some (bytR (setR m n c).l8 (setV V n v).v8) ∧ ((bytR (setR m n c).l8 (setV V n v).v8).wr = true → q = k) := by
  by_cases hn : n = 8
  · subst hn; exact ⟨iv, hv, fun e => by cases e⟩
  · have e1 : (setR m n c).l8 = m.l8 := by unfold setR; split <;> first | rfl | exact absurd rfl hn
    have e2 : (setV V n v).v8 = V.v8 := by unfold setV; split <;> first | rfl | exact absurd rfl hn
    rw [e1, e2]
    exact ⟨k, h, fun e => by cases e⟩
theorem rset_l9 {R : List (Nat × Res)} {m : MsgN} {V : MsgV} {c : List UInt8} {v : Value} {k iv : Nat} (h : look R k = some (bytR m.l9 V.v9)) (hv : look R iv = some (bytR c v)) (n : Nat) : ∃ q, look R q = some (bytR (setR m n c).l9 (setV V n v).v9) ∧ ((bytR (setR m n c).l9 (setV V n v).v9).wr = true → q = k) := by
  by_cases hn : n = 9
  · subst hn; exact ⟨iv, hv, fun e => by cases e⟩
  · have e1 : (setR m n c).l9 = m.l9 := by unfold setR; split <;> first | rfl | exact absurd rfl hn
    have e2 : (setV V n v).v9 = V.v9 := by unfold setV; split <;> first | rfl | exact absurd rfl hn
    rw [e1, e2]
    exact ⟨k, h, fun e => by cases e⟩
theorem rdecode_any (b : List UInt8) (bv : Value) (hl : b.length ≤ 100000) (w : World) (hb : IsB w b bv) :
  Calls Try.prog 23 #[bv] w fun e w' => ∃ V, e = .returned (.tuple #[.agg (msgA (decR b) V), .bool (decOk b)]) ∧ MsgIs w' (decR b) V ∧ (∀ q, z6a V q → w.heap.size ≤ q) ∧ Below w.heap.size w w' := by
 obtain ⟨A0, c0, rfl⟩ := hb.shape
 refine zg (args := [.slice A0 b.length c0]) 78 Try.func23 rfl rfl rfl ?_
 intro fa F
 have M := Mx.start w
 replace M := M.argB 0 hb (fun g e => by cases e)
 have hEE : ∀ m : MsgN, ∃ b, z4a m = b := fun m => ⟨_, rfl⟩
 refine zT fun _ hK1 => ?_
 refine zf (za rfl) rfl F rfl M 1 (t := 29) (c := msgA ⟨0, 0, 0, 0, "".toUTF8, 0, 0, [], [], [], [], []⟩ ⟨zN, zN, zN, zN, zN⟩) (by unfold execOp; kernel_rfl) ?_
 intro g2 a2 w2 F2 M2
 clear F M
 refine rm rfl F2 fun _ F3 => ?_
 refine hK1 _ _ (zS fun _ hK4 => ?_)
 refine zT fun _ hK5 => ?_
 refine rm rfl F3 fun _ F6 => ?_
 refine rn rfl rfl F6 rfl (.int .i64 (b.length : Int)) (z9 _ rfl (F6.get rfl) (M2.isb (k := 0) rfl) rfl) fun _ F7 => ?_
 by_cases h8 : (b.length : Int) < 3
 ·refine rn rfl rfl F7 rfl (.bool true) (zoa _ _ _ _ rfl (F7.get rfl) rfl (decide_eq_true h8)) fun _ F9 => ?_
  refine hK5 _ _ (wp_cond_true (F9.get rfl) ?_)
  refine zT fun _ hK10 => ?_
  refine rn rfl rfl F9 rfl (.agg (msgA ⟨0, 0, 0, 0, "".toUTF8, 0, 0, [], [], [], [], []⟩ ⟨zN, zN, zN, zN, zN⟩)) (by unfold execOp; kernel_rfl) fun _ F11 => ?_
  refine zn (za rfl) rfl F11 M2 (k := 1) rfl _ _ _ rfl (F11.get rfl) (F11.get rfl) (msgA ⟨0, 0, 0, 0, "".toUTF8, 0, 0, [], [], [], [], []⟩ ⟨zN, zN, zN, zN, zN⟩) _ rfl (zL rfl) (zy (w := w2) ⟨(zc _), (zc _), (zc _), (zc _), (zc _)⟩) (zt rfl) (by kernel_rfl) ?_
  intro w12 M12
  clear M2
  refine rm rfl F11 fun _ F13 => ?_
  refine hK10 _ _ (wp_ret ?_)
  try simp only [Exit.then, Exit.inBlock, Exit.jump]
  exact bodyPost_ret (resCT rfl (F13.get rfl) (M12.blk (k := 1) rfl) (F13.get rfl) Try.underlying29 rfl (by kernel_rfl)) F13.defers ⟨vZero, (by rw [(ref_no (ref_short (by omega))).1, (ref_no (ref_short (by omega))).2]; rfl), (by rw [(ref_no (ref_short (by omega))).2]; exact vZero_is _), (fun g h => (vZero_fp g h).elim), M12.below⟩
 obtain ⟨x2, hx2⟩ : ∃ x, b[2]? = some x := ⟨_, List.getElem?_eq_getElem (by omega)⟩
 refine rn rfl rfl F7 rfl (.bool false) (zoa _ _ _ _ rfl (F7.get rfl) rfl (decide_eq_false h8)) fun _ F14 => ?_
 refine hK5 _ _ (wp_cond_false (F14.get rfl) ?_)
 refine wp_skip ?_
 refine hK4 _ _ (zS fun _ hK15 => ?_)
 refine zR ?_
 refine rm rfl F14 fun _ F16 => ?_
 refine rn rfl rfl F16 rfl ((ixV (.slice A0 b.length c0) 2)) (zgb _ _ rfl (F16.get rfl) (M2.isb (k := 0) rfl) rfl rfl (by omega)) fun _ F17 => ?_
 refine rn rfl rfl F17 rfl (.int .u8 ((x2.toNat : Nat) : Int)) (zvb _ rfl (F17.get rfl) (M2.isb (k := 0) rfl) hx2 rfl) fun _ F18 => ?_
 refine rn rfl rfl F18 rfl (.int .i64 ((x2.toNat : Nat) : Int)) (zxa _ _ _ rfl (F18.get rfl) Try.underlying5 Try.underlying3 (zta _)) fun _ F19 => ?_
 refine rn rfl rfl F19 rfl (.agg (msgA ⟨((x2.toNat : Nat) : Int), 0, 0, 0, "".toUTF8, 0, 0, [], [], [], [], []⟩ ⟨zN, zN, zN, zN, zN⟩)) (by unfold execOp; simp only [List.map_toArray, List.map_cons, List.map_nil, (F19.get (t := 16) rfl)]; kernel_rfl) fun _ F20 => ?_
 refine zf (za rfl) rfl F20 rfl M2 2 (t := 29) (c := msgA ⟨0, 0, 0, 0, "".toUTF8, 0, 0, [], [], [], [], []⟩ ⟨zN, zN, zN, zN, zN⟩) (by unfold execOp; kernel_rfl) ?_
 intro g21 a21 w21 F21 M21
 clear F20 M2
 refine zn (za rfl) rfl F21 M21 (k := 2) rfl _ _ _ rfl (F21.get rfl) (F21.get rfl) (msgA ⟨((x2.toNat : Nat) : Int), 0, 0, 0, "".toUTF8, 0, 0, [], [], [], [], []⟩ ⟨zN, zN, zN, zN, zN⟩) _ rfl (zL rfl) (zy (w := w21) ⟨(zc _), (zc _), (zc _), (zc _), (zc _)⟩) (zt rfl) (by kernel_rfl) ?_
 intro w22 M22
 clear M21
 refine hK15 _ _ (zS fun _ hK23 => ?_)
 refine zR ?_
 refine rm rfl F21 fun _ F24 => ?_
 refine hK23 _ _ (zS fun _ hK25 => ?_)
 refine wp_block ?_
 have M26 := M22.nilB 3
 clear M22
 have M27 := M26.nilB 4
 clear M26
 have M28 := M27.nilB 5
 clear M27
 have M29 := M28.nilB 6
 clear M28
 have M30 := M29.nilB 7
 clear M29
 have hg2 := getD_of hx2
 refine zzb (α := Nat × Nat × MsgN × MsgV) (n := 78) (G := none) (w0 := w) (fun x => [(0, .slice A0 b.length c0), (2, .pointer (some ⟨g2, 0, none⟩)), (3, .bool false), (9, .slice A0 b.length c0), (10, .int .i64 (b.length : Int)), (11, .bool false), (13, .slice A0 b.length c0), (14, (ixV (.slice A0 b.length c0) 2)), (15, .int .u8 ((x2.toNat : Nat) : Int)), (16, .int .i64 ((x2.toNat : Nat) : Int)), (17, .agg (msgA ⟨((x2.toNat : Nat) : Int), 0, 0, 0, "".toUTF8, 0, 0, [], [], [], [], []⟩ ⟨zN, zN, zN, zN, zN⟩)), (4, .pointer (some ⟨g21, 0, none⟩)), (5, .int .i64 (x.2.1 : Int))]) (fun x => [(0, bytR b (.slice A0 b.length c0)), (2, blkR g21 29 (msgA x.2.2.1 x.2.2.2)), (1, blkR g2 29 (msgA ⟨0, 0, 0, 0, "".toUTF8, 0, 0, [], [], [], [], []⟩ ⟨zN, zN, zN, zN, zN⟩)), (3, bytR x.2.2.1.l5 x.2.2.2.v5), (4, bytR x.2.2.1.l6 x.2.2.2.v6), (5, bytR x.2.2.1.l7 x.2.2.2.v7), (6, bytR x.2.2.1.l8 x.2.2.2.v8), (7, bytR x.2.2.1.l9 x.2.2.2.v9)]) (fun k x => k = (x.1 + 1) ∧ (parR x.1 b x.2.1 x.2.2.1 = refM b ∧ MsgOk x.2.2.1 ∧ x.2.2.1.s.size ≤ 1000 ∧ b.length ≤ x.2.1 + x.1 ∧ x.2.1 ≤ b.length ∧ (∀ g, z6a x.2.2.2 g → w.heap.size ≤ g))) _ ⟨b.length, 3, (MsgN.mk (((b.getD 2 0).toNat : Nat) : Int) 0 0 0 ("".toUTF8) 0 0 [] [] [] [] []), vZero⟩ ⟨rfl, ⟨rfl, ref0_ok _, (show ("".toUTF8 : ByteArray).size ≤ 1000 by decide), (by show b.length ≤ 3 + b.length; omega), (by show 3 ≤ b.length; omega), fun g h => (vZero_fp g h).elim⟩⟩ (F24.sub ⟨rfl, rfl, rfl, rfl, rfl, rfl, rfl, rfl, rfl, rfl, rfl, rfl, rfl, trivial⟩) (M30.sub ⟨rfl, (by rw [hg2]; rfl), rfl, rfl, rfl, rfl, rfl, rfl, trivial⟩) ?_
 clear F24 M30
 rintro k31 ⟨K, q, m, V⟩ a31 w31 K31 ⟨ek31, I31⟩ F31 M31 hK31
 replace F31 : Fx 78 a31 [(0, .slice A0 b.length c0), (2, .pointer (some ⟨g2, 0, none⟩)), (3, .bool false), (9, .slice A0 b.length c0), (10, .int .i64 (b.length : Int)), (11, .bool false), (13, .slice A0 b.length c0), (14, (ixV (.slice A0 b.length c0) 2)), (15, .int .u8 ((x2.toNat : Nat) : Int)), (16, .int .i64 ((x2.toNat : Nat) : Int)), (17, .agg (msgA ⟨((x2.toNat : Nat) : Int), 0, 0, 0, "".toUTF8, 0, 0, [], [], [], [], []⟩ ⟨zN, zN, zN, zN, zN⟩)), (4, .pointer (some ⟨g21, 0, none⟩)), (5, .int .i64 (q : Int))] := F31
 replace M31 : Mx _ _ w31 [(0, bytR b (.slice A0 b.length c0)), (2, blkR g21 29 (msgA m V)), (1, blkR g2 29 (msgA ⟨0, 0, 0, 0, "".toUTF8, 0, 0, [], [], [], [], []⟩ ⟨zN, zN, zN, zN, zN⟩)), (3, bytR m.l5 V.v5), (4, bytR m.l6 V.v6), (5, bytR m.l7 V.v7), (6, bytR m.l8 V.v8), (7, bytR m.l9 V.v9)] := M31
 replace I31 : parR K b q m = refM b ∧ MsgOk m ∧ m.s.size ≤ 1000 ∧ b.length ≤ q + K ∧ q ≤ b.length ∧ (∀ g, z6a V g → w.heap.size ≤ g) := I31
 replace ek31 : k31 = (K + 1) := ek31
 obtain ⟨hM, hok, hsz, hK, hql, hfp⟩ := I31
 by_cases hlt : q + 2 ≤ b.length
 rotate_left
 ·have hEnd := parR_end hM (by omega)
  refine zS fun _ hK122 => zS fun _ hK123 => ?_
  refine zR ?_
  refine rm rfl F31 fun _ F124 => ?_
  refine rn rfl rfl F124 rfl (.int .i64 ((q + 2 : Nat) : Int)) (zz _ _ _ _ rfl (F124.get rfl) rfl (by omega) (by omega)) fun _ F125 => ?_
  refine rm rfl F125 fun _ F126 => ?_
  refine rn rfl rfl F126 rfl (.int .i64 (b.length : Int)) (z9 _ rfl (F126.get rfl) (M31.isb (k := 0) rfl) rfl) fun _ F127 => ?_
  refine rn rfl rfl F127 rfl (.bool false) (z8 _ _ _ _ rfl (F127.get rfl) (F127.get rfl) (decide_eq_false (show ¬ ((q + 2 : Nat) : Int) ≤ (b.length : Int) by omega))) fun _ F128 => ?_
  refine zA 14 [(23, .bool false), (24, undef), (25, undef), (26, undef), (27, undef), (28, undef), (29, undef), (30, undef), (31, undef), (32, undef), (33, undef), (34, undef), (35, undef), (36, .bool false)] [] dnil [] F128 fun _ F129 => ?_
  refine hK123 _ _ (wp_cond_false (F129.get rfl) ?_)
  refine wp_exit ?_
  simp only [Exit.then, Exit.inBlock, ↓reduceIte, Nat.reduceEqDiff]
  refine hK25 _ _ (zS fun _ hK130 => ?_)
  refine zR ?_
  refine rn rfl rfl F129 rfl _ (zja _ _ rfl (F129.get rfl) (M31.blk (k := 2) rfl) (msgA m V) (zma rfl) Try.underlying29 rfl (by kernel_rfl)) fun _ F131 => ?_
  obtain ⟨bE, hE⟩ := hEE m
  refine zd (za rfl) rfl F131 rfl rfl (zE Try.func18 rfl) #[.agg (msgA m V)] (zp (F131.get rfl)) (hE ▸ rencode_ex m V hok hsz w31 ⟨M31.isb (k := 3) rfl, M31.isb (k := 4) rfl, M31.isb (k := 5) rfl, M31.isb (k := 6) rfl, M31.isb (k := 7) rfl⟩) ?_
  rintro _ w132 a132 ⟨v132, rfl, hv132, b132⟩ F132
  have M132 := M31.newO b132 8 hv132
  clear M31 b132 hv132
  obtain ⟨A132, c132, rfl⟩ := (M132.isO (k := 8) rfl).shape
  refine zA 5 [(62, .tuple #[.slice A132 ((encL m)).length c132, .bool bE]), (65, .slice A132 ((encL m)).length c132), (66, .bool bE), (7, .slice A132 ((encL m)).length c132), (8, .bool bE)] [] dnil [] F132 fun _ F133 => ?_
  refine hK130 _ _ (zS fun _ hK134 => ?_)
  refine zT fun _ hK135 => ?_
  refine rm rfl F133 fun _ F136 => ?_
  cases bE
  ·refine zA 8 [(68, .bool true), (69, .bool true), (70, undef), (71, undef), (72, undef), (73, undef), (74, undef), (75, .bool true)] [] dnil [] F136 fun _ F137 => ?_
   refine hK135 _ _ (wp_cond_true (F137.get rfl) ?_)
   refine zT fun _ hK138 => ?_
   refine rn rfl rfl F137 rfl (.agg (msgA ⟨0, 0, 0, 0, "".toUTF8, 0, 0, [], [], [], [], []⟩ ⟨zN, zN, zN, zN, zN⟩)) (by unfold execOp; kernel_rfl) fun _ F139 => ?_
   refine zn (za rfl) rfl F139 M132 (k := 1) rfl _ _ _ rfl (F139.get rfl) (F139.get rfl) (msgA ⟨0, 0, 0, 0, "".toUTF8, 0, 0, [], [], [], [], []⟩ ⟨zN, zN, zN, zN, zN⟩) _ rfl (zL rfl) (zy (w := w132) ⟨(zc _), (zc _), (zc _), (zc _), (zc _)⟩) (zt rfl) (by kernel_rfl) ?_
   intro w140 M140
   clear M132
   refine rm rfl F139 fun _ F141 => ?_
   refine hK138 _ _ (wp_ret ?_)
   try simp only [Exit.then, Exit.inBlock, Exit.jump]
   exact bodyPost_ret (resCT rfl (F141.get rfl) (M140.blk (k := 1) rfl) (F141.get rfl) Try.underlying29 rfl (by kernel_rfl)) F141.defers ⟨vZero, (by rw [(ref_no (ref_bad hEnd (.inl hE))).1, (ref_no (ref_bad hEnd (.inl hE))).2]; rfl), (by rw [(ref_no (ref_bad hEnd (.inl hE))).2]; exact vZero_is _), (fun g h => (vZero_fp g h).elim), M140.below⟩
  refine zA 3 [(68, .bool false), (69, .bool false), (70, .slice A132 ((encL m)).length c132)] [] dnil [] F136 fun _ F142 => ?_
  refine ze (w' := w132) (zb rfl rfl rfl (F142.get rfl)) rfl F142 rfl (.string (⟨((encL m)).toArray⟩)) (y_str _ rfl (F142.get rfl) (M132.isO (k := 8) rfl)) fun _ F143 => ?_
  refine rm rfl F143 fun _ F144 => ?_
  refine ze (w' := w132) (zb rfl rfl rfl (F144.get rfl)) rfl F144 rfl (.string (⟨(b).toArray⟩)) (y_str _ rfl (F144.get rfl) (M132.isb (k := 0) rfl)) fun _ F145 => ?_
  by_cases h146 : (encL m) = b
  ·refine ze (w' := w132) (zb rfl rfl rfl (F145.get rfl)) rfl F145 rfl (.bool false) (y_neS _ _ _ rfl (F145.get rfl) (F145.get rfl) (str_neF h146)) fun _ F147 => ?_
   refine rn rfl rfl F147 rfl (.bool false) (zqa rfl (F147.get rfl) (F147.get rfl)) fun _ F148 => ?_
   refine hK135 _ _ (wp_cond_false (F148.get rfl) ?_)
   refine wp_skip ?_
   refine hK134 _ _ (zS fun _ hK149 => ?_)
   refine zR ?_
   refine rn rfl rfl F148 rfl _ (zja _ _ rfl (F148.get rfl) (M132.blk (k := 2) rfl) (msgA m V) (zma rfl) Try.underlying29 rfl (by kernel_rfl)) fun _ F150 => ?_
   refine zn (za rfl) rfl F150 M132 (k := 1) rfl _ _ _ rfl (F150.get rfl) (F150.get rfl) (msgA m V) _ rfl (zL rfl) (zy (w := w132) ⟨(M132.isb (k := 3) rfl), (M132.isb (k := 4) rfl), (M132.isb (k := 5) rfl), (M132.isb (k := 6) rfl), (M132.isb (k := 7) rfl)⟩) (zt rfl) (by kernel_rfl) ?_
   intro w151 M151
   clear M132
   refine rm rfl F150 fun _ F152 => ?_
   refine hK149 _ _ (wp_ret ?_)
   try simp only [Exit.then, Exit.inBlock, Exit.jump]
   exact bodyPost_ret (resCT rfl (F152.get rfl) (M151.blk (k := 1) rfl) (F152.get rfl) Try.underlying29 rfl (by kernel_rfl)) F152.defers ⟨V, (by rw [(ref_yes (ref_ok hEnd (by omega) (hE) h146)).1, (ref_yes (ref_ok hEnd (by omega) hE h146)).2, ← hEnd]), (by rw [(ref_yes (ref_ok hEnd (by omega) hE h146)).2, ← hEnd]; exact ⟨M151.isb (k := 3) rfl, M151.isb (k := 4) rfl, M151.isb (k := 5) rfl, M151.isb (k := 6) rfl, M151.isb (k := 7) rfl⟩), hfp, M151.below⟩
  refine ze (w' := w132) (zb rfl rfl rfl (F145.get rfl)) rfl F145 rfl (.bool true) (y_neS _ _ _ rfl (F145.get rfl) (F145.get rfl) (str_neT h146)) fun _ F153 => ?_
  refine rn rfl rfl F153 rfl (.bool true) (zqa rfl (F153.get rfl) (F153.get rfl)) fun _ F154 => ?_
  refine hK135 _ _ (wp_cond_true (F154.get rfl) ?_)
  refine zT fun _ hK155 => ?_
  refine rn rfl rfl F154 rfl (.agg (msgA ⟨0, 0, 0, 0, "".toUTF8, 0, 0, [], [], [], [], []⟩ ⟨zN, zN, zN, zN, zN⟩)) (by unfold execOp; kernel_rfl) fun _ F156 => ?_
  refine zn (za rfl) rfl F156 M132 (k := 1) rfl _ _ _ rfl (F156.get rfl) (F156.get rfl) (msgA ⟨0, 0, 0, 0, "".toUTF8, 0, 0, [], [], [], [], []⟩ ⟨zN, zN, zN, zN, zN⟩) _ rfl (zL rfl) (zy (w := w132) ⟨(zc _), (zc _), (zc _), (zc _), (zc _)⟩) (zt rfl) (by kernel_rfl) ?_
  intro w157 M157
  clear M132
  refine rm rfl F156 fun _ F158 => ?_
  refine hK155 _ _ (wp_ret ?_)
  try simp only [Exit.then, Exit.inBlock, Exit.jump]
  exact bodyPost_ret (resCT rfl (F158.get rfl) (M157.blk (k := 1) rfl) (F158.get rfl) Try.underlying29 rfl (by kernel_rfl)) F158.defers ⟨vZero, (by rw [(ref_no (ref_bad hEnd (.inr h146))).1, (ref_no (ref_bad hEnd (.inr h146))).2]; rfl), (by rw [(ref_no (ref_bad hEnd (.inr h146))).2]; exact vZero_is _), (fun g h => (vZero_fp g h).elim), M157.below⟩
 obtain ⟨y0, hy0⟩ : ∃ x, b[q]? = some x := ⟨_, List.getElem?_eq_getElem (by omega)⟩
 obtain ⟨y1, hy1⟩ : ∃ x, b[q + 1]? = some x := ⟨_, List.getElem?_eq_getElem (by omega)⟩
 have hd0 := getD_of hy0
 have hd1 := getD_of hy1
 have hy1b := y1.toNat_lt
 by_cases hl2 : q + 2 + y1.toNat ≤ b.length
 rotate_left
 ·have hEnd := parR_end hM (by rw [hd1]; omega)
  refine zS fun _ hK72 => zS fun _ hK73 => ?_
  refine zR ?_
  refine rm rfl F31 fun _ F74 => ?_
  refine rn rfl rfl F74 rfl (.int .i64 ((q + 2 : Nat) : Int)) (zz _ _ _ _ rfl (F74.get rfl) rfl (by omega) (by omega)) fun _ F75 => ?_
  refine rm rfl F75 fun _ F76 => ?_
  refine rn rfl rfl F76 rfl (.int .i64 (b.length : Int)) (z9 _ rfl (F76.get rfl) (M31.isb (k := 0) rfl) rfl) fun _ F77 => ?_
  refine rn rfl rfl F77 rfl (.bool true) (z8 _ _ _ _ rfl (F77.get rfl) (F77.get rfl) (decide_eq_true (show ((q + 2 : Nat) : Int) ≤ (b.length : Int) by omega))) fun _ F78 => ?_
  refine rm rfl F78 fun _ F79 => ?_
  refine rm rfl F79 fun _ F80 => ?_
  refine ze (w' := w31) (zb rfl rfl rfl (F80.get rfl)) rfl F80 rfl (.int .i64 ((q + 2 : Nat) : Int)) (zz _ _ _ _ rfl (F80.get rfl) rfl (by omega) (by omega)) fun _ F81 => ?_
  refine rm rfl F81 fun _ F82 => ?_
  refine rm rfl F82 fun _ F83 => ?_
  refine ze (w' := w31) (zb rfl rfl rfl (F83.get rfl)) rfl F83 rfl (.int .i64 ((q + 1 : Nat) : Int)) (zz _ _ _ _ rfl (F83.get rfl) rfl (by omega) (by omega)) fun _ F84 => ?_
  refine ze (w' := w31) (zb rfl rfl rfl (F84.get rfl)) rfl F84 rfl ((ixV (.slice A0 b.length c0) (q + 1))) (zgb _ _ rfl (F84.get rfl) (M31.isb (k := 0) rfl) (F84.get rfl) rfl (by omega)) fun _ F85 => ?_
  refine ze (w' := w31) (zb rfl rfl rfl (F85.get rfl)) rfl F85 rfl (.int .u8 ((y1.toNat : Nat) : Int)) (zvb _ rfl (F85.get rfl) (M31.isb (k := 0) rfl) hy1 rfl) fun _ F86 => ?_
  refine ze (w' := w31) (zb rfl rfl rfl (F86.get rfl)) rfl F86 rfl (.int .i64 ((y1.toNat : Nat) : Int)) (zxa _ _ _ rfl (F86.get rfl) Try.underlying5 Try.underlying3 (zta _)) fun _ F87 => ?_
  refine ze (w' := w31) (zb rfl rfl rfl (F87.get rfl)) rfl F87 rfl (.int .i64 ((q + 2 + y1.toNat : Nat) : Int)) (zz _ _ _ _ rfl (F87.get rfl) (F87.get rfl) (by omega) (by omega)) fun _ F88 => ?_
  refine rm rfl F88 fun _ F89 => ?_
  refine ze (w' := w31) (zb rfl rfl rfl (F89.get rfl)) rfl F89 rfl (.int .i64 (b.length : Int)) (z9 _ rfl (F89.get rfl) (M31.isb (k := 0) rfl) rfl) fun _ F90 => ?_
  refine ze (w' := w31) (zb rfl rfl rfl (F90.get rfl)) rfl F90 rfl (.bool false) (z8 _ _ _ _ rfl (F90.get rfl) (F90.get rfl) (decide_eq_false (show ¬ ((q + 2 + y1.toNat : Nat) : Int) ≤ (b.length : Int) by omega))) fun _ F91 => ?_
  refine rn rfl rfl F91 rfl (.bool false) (z7b rfl (F91.get rfl) (F91.get rfl)) fun _ F92 => ?_
  refine hK73 _ _ (wp_cond_false (F92.get rfl) ?_)
  refine wp_exit ?_
  simp only [Exit.then, Exit.inBlock, ↓reduceIte, Nat.reduceEqDiff]
  refine hK25 _ _ (zS fun _ hK93 => ?_)
  refine zR ?_
  refine rn rfl rfl F92 rfl _ (zja _ _ rfl (F92.get rfl) (M31.blk (k := 2) rfl) (msgA m V) (zma rfl) Try.underlying29 rfl (by kernel_rfl)) fun _ F94 => ?_
  obtain ⟨bE, hE⟩ := hEE m
  refine zd (za rfl) rfl F94 rfl rfl (zE Try.func18 rfl) #[.agg (msgA m V)] (zp (F94.get rfl)) (hE ▸ rencode_ex m V hok hsz w31 ⟨M31.isb (k := 3) rfl, M31.isb (k := 4) rfl, M31.isb (k := 5) rfl, M31.isb (k := 6) rfl, M31.isb (k := 7) rfl⟩) ?_
  rintro _ w95 a95 ⟨v95, rfl, hv95, b95⟩ F95
  have M95 := M31.newO b95 8 hv95
  clear M31 b95 hv95
  obtain ⟨A95, c95, rfl⟩ := (M95.isO (k := 8) rfl).shape
  refine zA 5 [(62, .tuple #[.slice A95 ((encL m)).length c95, .bool bE]), (65, .slice A95 ((encL m)).length c95), (66, .bool bE), (7, .slice A95 ((encL m)).length c95), (8, .bool bE)] [] dnil [] F95 fun _ F96 => ?_
  refine hK93 _ _ (zS fun _ hK97 => ?_)
  refine zT fun _ hK98 => ?_
  refine rm rfl F96 fun _ F99 => ?_
  cases bE
  ·refine zA 8 [(68, .bool true), (69, .bool true), (70, undef), (71, undef), (72, undef), (73, undef), (74, undef), (75, .bool true)] [] dnil [] F99 fun _ F100 => ?_
   refine hK98 _ _ (wp_cond_true (F100.get rfl) ?_)
   refine zT fun _ hK101 => ?_
   refine rn rfl rfl F100 rfl (.agg (msgA ⟨0, 0, 0, 0, "".toUTF8, 0, 0, [], [], [], [], []⟩ ⟨zN, zN, zN, zN, zN⟩)) (by unfold execOp; kernel_rfl) fun _ F102 => ?_
   refine zn (za rfl) rfl F102 M95 (k := 1) rfl _ _ _ rfl (F102.get rfl) (F102.get rfl) (msgA ⟨0, 0, 0, 0, "".toUTF8, 0, 0, [], [], [], [], []⟩ ⟨zN, zN, zN, zN, zN⟩) _ rfl (zL rfl) (zy (w := w95) ⟨(zc _), (zc _), (zc _), (zc _), (zc _)⟩) (zt rfl) (by kernel_rfl) ?_
   intro w103 M103
   clear M95
   refine rm rfl F102 fun _ F104 => ?_
   refine hK101 _ _ (wp_ret ?_)
   try simp only [Exit.then, Exit.inBlock, Exit.jump]
   exact bodyPost_ret (resCT rfl (F104.get rfl) (M103.blk (k := 1) rfl) (F104.get rfl) Try.underlying29 rfl (by kernel_rfl)) F104.defers ⟨vZero, (by rw [(ref_no (ref_bad hEnd (.inl hE))).1, (ref_no (ref_bad hEnd (.inl hE))).2]; rfl), (by rw [(ref_no (ref_bad hEnd (.inl hE))).2]; exact vZero_is _), (fun g h => (vZero_fp g h).elim), M103.below⟩
  refine zA 3 [(68, .bool false), (69, .bool false), (70, .slice A95 ((encL m)).length c95)] [] dnil [] F99 fun _ F105 => ?_
  refine ze (w' := w95) (zb rfl rfl rfl (F105.get rfl)) rfl F105 rfl (.string (⟨((encL m)).toArray⟩)) (y_str _ rfl (F105.get rfl) (M95.isO (k := 8) rfl)) fun _ F106 => ?_
  refine rm rfl F106 fun _ F107 => ?_
  refine ze (w' := w95) (zb rfl rfl rfl (F107.get rfl)) rfl F107 rfl (.string (⟨(b).toArray⟩)) (y_str _ rfl (F107.get rfl) (M95.isb (k := 0) rfl)) fun _ F108 => ?_
  by_cases h109 : (encL m) = b
  ·refine ze (w' := w95) (zb rfl rfl rfl (F108.get rfl)) rfl F108 rfl (.bool false) (y_neS _ _ _ rfl (F108.get rfl) (F108.get rfl) (str_neF h109)) fun _ F110 => ?_
   refine rn rfl rfl F110 rfl (.bool false) (zqa rfl (F110.get rfl) (F110.get rfl)) fun _ F111 => ?_
   refine hK98 _ _ (wp_cond_false (F111.get rfl) ?_)
   refine wp_skip ?_
   refine hK97 _ _ (zS fun _ hK112 => ?_)
   refine zR ?_
   refine rn rfl rfl F111 rfl _ (zja _ _ rfl (F111.get rfl) (M95.blk (k := 2) rfl) (msgA m V) (zma rfl) Try.underlying29 rfl (by kernel_rfl)) fun _ F113 => ?_
   refine zn (za rfl) rfl F113 M95 (k := 1) rfl _ _ _ rfl (F113.get rfl) (F113.get rfl) (msgA m V) _ rfl (zL rfl) (zy (w := w95) ⟨(M95.isb (k := 3) rfl), (M95.isb (k := 4) rfl), (M95.isb (k := 5) rfl), (M95.isb (k := 6) rfl), (M95.isb (k := 7) rfl)⟩) (zt rfl) (by kernel_rfl) ?_
   intro w114 M114
   clear M95
   refine rm rfl F113 fun _ F115 => ?_
   refine hK112 _ _ (wp_ret ?_)
   try simp only [Exit.then, Exit.inBlock, Exit.jump]
   exact bodyPost_ret (resCT rfl (F115.get rfl) (M114.blk (k := 1) rfl) (F115.get rfl) Try.underlying29 rfl (by kernel_rfl)) F115.defers ⟨V, (by rw [(ref_yes (ref_ok hEnd (by omega) (hE) h109)).1, (ref_yes (ref_ok hEnd (by omega) hE h109)).2, ← hEnd]), (by rw [(ref_yes (ref_ok hEnd (by omega) hE h109)).2, ← hEnd]; exact ⟨M114.isb (k := 3) rfl, M114.isb (k := 4) rfl, M114.isb (k := 5) rfl, M114.isb (k := 6) rfl, M114.isb (k := 7) rfl⟩), hfp, M114.below⟩
  refine ze (w' := w95) (zb rfl rfl rfl (F108.get rfl)) rfl F108 rfl (.bool true) (y_neS _ _ _ rfl (F108.get rfl) (F108.get rfl) (str_neT h109)) fun _ F116 => ?_
  refine rn rfl rfl F116 rfl (.bool true) (zqa rfl (F116.get rfl) (F116.get rfl)) fun _ F117 => ?_
  refine hK98 _ _ (wp_cond_true (F117.get rfl) ?_)
  refine zT fun _ hK118 => ?_
  refine rn rfl rfl F117 rfl (.agg (msgA ⟨0, 0, 0, 0, "".toUTF8, 0, 0, [], [], [], [], []⟩ ⟨zN, zN, zN, zN, zN⟩)) (by unfold execOp; kernel_rfl) fun _ F119 => ?_
  refine zn (za rfl) rfl F119 M95 (k := 1) rfl _ _ _ rfl (F119.get rfl) (F119.get rfl) (msgA ⟨0, 0, 0, 0, "".toUTF8, 0, 0, [], [], [], [], []⟩ ⟨zN, zN, zN, zN, zN⟩) _ rfl (zL rfl) (zy (w := w95) ⟨(zc _), (zc _), (zc _), (zc _), (zc _)⟩) (zt rfl) (by kernel_rfl) ?_
  intro w120 M120
  clear M95
  refine rm rfl F119 fun _ F121 => ?_
  refine hK118 _ _ (wp_ret ?_)
  try simp only [Exit.then, Exit.inBlock, Exit.jump]
  exact bodyPost_ret (resCT rfl (F121.get rfl) (M120.blk (k := 1) rfl) (F121.get rfl) Try.underlying29 rfl (by kernel_rfl)) F121.defers ⟨vZero, (by rw [(ref_no (ref_bad hEnd (.inr h109))).1, (ref_no (ref_bad hEnd (.inr h109))).2]; rfl), (by rw [(ref_no (ref_bad hEnd (.inr h109))).2]; exact vZero_is _), (fun g h => (vZero_fp g h).elim), M120.below⟩
 refine zS fun _ hK32 => zS fun _ hK33 => ?_
 refine zR ?_
 refine rm rfl F31 fun _ F34 => ?_
 refine rn rfl rfl F34 rfl (.int .i64 ((q + 2 : Nat) : Int)) (zz _ _ _ _ rfl (F34.get rfl) rfl (by omega) (by omega)) fun _ F35 => ?_
 refine rm rfl F35 fun _ F36 => ?_
 refine rn rfl rfl F36 rfl (.int .i64 (b.length : Int)) (z9 _ rfl (F36.get rfl) (M31.isb (k := 0) rfl) rfl) fun _ F37 => ?_
 refine rn rfl rfl F37 rfl (.bool true) (z8 _ _ _ _ rfl (F37.get rfl) (F37.get rfl) (decide_eq_true (show ((q + 2 : Nat) : Int) ≤ (b.length : Int) by omega))) fun _ F38 => ?_
 refine rm rfl F38 fun _ F39 => ?_
 refine rm rfl F39 fun _ F40 => ?_
 refine ze (w' := w31) (zb rfl rfl rfl (F40.get rfl)) rfl F40 rfl (.int .i64 ((q + 2 : Nat) : Int)) (zz _ _ _ _ rfl (F40.get rfl) rfl (by omega) (by omega)) fun _ F41 => ?_
 refine rm rfl F41 fun _ F42 => ?_
 refine rm rfl F42 fun _ F43 => ?_
 refine ze (w' := w31) (zb rfl rfl rfl (F43.get rfl)) rfl F43 rfl (.int .i64 ((q + 1 : Nat) : Int)) (zz _ _ _ _ rfl (F43.get rfl) rfl (by omega) (by omega)) fun _ F44 => ?_
 refine ze (w' := w31) (zb rfl rfl rfl (F44.get rfl)) rfl F44 rfl ((ixV (.slice A0 b.length c0) (q + 1))) (zgb _ _ rfl (F44.get rfl) (M31.isb (k := 0) rfl) (F44.get rfl) rfl (by omega)) fun _ F45 => ?_
 refine ze (w' := w31) (zb rfl rfl rfl (F45.get rfl)) rfl F45 rfl (.int .u8 ((y1.toNat : Nat) : Int)) (zvb _ rfl (F45.get rfl) (M31.isb (k := 0) rfl) hy1 rfl) fun _ F46 => ?_
 refine ze (w' := w31) (zb rfl rfl rfl (F46.get rfl)) rfl F46 rfl (.int .i64 ((y1.toNat : Nat) : Int)) (zxa _ _ _ rfl (F46.get rfl) Try.underlying5 Try.underlying3 (zta _)) fun _ F47 => ?_
 refine ze (w' := w31) (zb rfl rfl rfl (F47.get rfl)) rfl F47 rfl (.int .i64 ((q + 2 + y1.toNat : Nat) : Int)) (zz _ _ _ _ rfl (F47.get rfl) (F47.get rfl) (by omega) (by omega)) fun _ F48 => ?_
 refine rm rfl F48 fun _ F49 => ?_
 refine ze (w' := w31) (zb rfl rfl rfl (F49.get rfl)) rfl F49 rfl (.int .i64 (b.length : Int)) (z9 _ rfl (F49.get rfl) (M31.isb (k := 0) rfl) rfl) fun _ F50 => ?_
 refine ze (w' := w31) (zb rfl rfl rfl (F50.get rfl)) rfl F50 rfl (.bool true) (z8 _ _ _ _ rfl (F50.get rfl) (F50.get rfl) (decide_eq_true (show ((q + 2 + y1.toNat : Nat) : Int) ≤ (b.length : Int) by omega))) fun _ F51 => ?_
 refine rn rfl rfl F51 rfl (.bool true) (z7b rfl (F51.get rfl) (F51.get rfl)) fun _ F52 => ?_
 refine hK33 _ _ (wp_cond_true (F52.get rfl) ?_)
 refine wp_skip ?_
 refine hK32 _ _ (wp_block ?_)
 refine zT fun _ hK53 => ?_
 refine rm rfl F52 fun _ F54 => ?_
 refine rm rfl F54 fun _ F55 => ?_
 refine rn rfl rfl F55 rfl (.int .i64 ((q + 1 : Nat) : Int)) (zz _ _ _ _ rfl (F55.get rfl) rfl (by omega) (by omega)) fun _ F56 => ?_
 refine rn rfl rfl F56 rfl ((ixV (.slice A0 b.length c0) (q + 1))) (zgb _ _ rfl (F56.get rfl) (M31.isb (k := 0) rfl) (F56.get rfl) rfl (by omega)) fun _ F57 => ?_
 refine rn rfl rfl F57 rfl (.int .u8 ((y1.toNat : Nat) : Int)) (zvb _ rfl (F57.get rfl) (M31.isb (k := 0) rfl) hy1 rfl) fun _ F58 => ?_
 refine rn rfl rfl F58 rfl (.int .i64 ((y1.toNat : Nat) : Int)) (zxa _ _ _ rfl (F58.get rfl) Try.underlying5 Try.underlying3 (zta _)) fun _ F59 => ?_
 refine rm rfl F59 fun _ F60 => ?_
 refine hK53 _ _ (zS fun _ hK61 => ?_)
 refine z1b F60 [fun vE => vE = .agg (msgA m V), fun vE => vE = .slice A0 b.length c0, fun vE => vE = .int .i64 (q : Int), fun vE => vE = (ixV (.slice A0 b.length c0) q), fun vE => vE = .int .u8 ((y0.toNat : Nat) : Int), fun vE => vE = .int .i64 ((y0.toNat : Nat) : Int), fun vE => vE = .slice A0 b.length c0, fun vE => vE = .int .i64 (q : Int), fun vE => vE = .int .i64 ((q + 2 : Nat) : Int), fun vE => vE = .int .i64 (q : Int), fun vE => vE = .int .i64 ((q + 2 : Nat) : Int), fun vE => vE = .int .i64 ((y1.toNat : Nat) : Int), fun vE => vE = .int .i64 ((q + 2 + y1.toNat : Nat) : Int), fun _ => True] (JM none w fun SV pV => [(0, bytR b (.slice A0 b.length c0)), (2, blkR g21 29 (msgA m V)), (1, blkR g2 29 (msgA ⟨0, 0, 0, 0, "".toUTF8, 0, 0, [], [], [], [], []⟩ ⟨zN, zN, zN, zN, zN⟩)), (3, bytR m.l5 V.v5), (4, bytR m.l6 V.v6), (5, bytR m.l7 V.v7), (6, bytR m.l8 V.v8), (7, bytR m.l9 V.v9), (8, condR (SV 13) (bytR ((b.drop (q + 2)).take ((q + 2 + y1.toNat) - (q + 2))) (pV 13)))]) 14 rfl (by kernel_rfl) rfl ⟨trivial, trivial, trivial, trivial, trivial, trivial, trivial, trivial, trivial, trivial, trivial, trivial, trivial, trivial, trivial⟩ (fun p => ((M31.step (zib _)).triv 8).sub ⟨rfl, rfl, rfl, rfl, rfl, rfl, rfl, rfl, rfl, trivial⟩) ⟨?_, ?_, ?_, ?_, ?_, ?_, ?_, ?_, ?_, ?_, ?_, ?_, ?_, ?_, trivial⟩ ?_
 ·intro ua uw SV pV M0 hk hn hd
  have M : Mx none w uw _ := M0
  clear M0
  have e4 : ua.eval (.tmp 4) = .pointer (some ⟨g21, 0, none⟩) := (show ua.eval (.tmp 4) = _ from hd 4 (by decide)).trans (F60.get (t := 4) rfl)
  exact zl (za rfl) _ (zja _ _ rfl e4 (M.blk (k := 2) rfl) (msgA m V) (zma rfl) Try.underlying29 rfl (by kernel_rfl)) rfl (M.sub ⟨rfl, rfl, rfl, rfl, rfl, rfl, rfl, rfl, rfl, trivial⟩)
 ·intro ua uw SV pV M0 hk hn hd
  have M : Mx none w uw _ := M0
  clear M0
  have e0 : ua.eval (.tmp 0) = .slice A0 b.length c0 := (show ua.eval (.tmp 0) = _ from hd 0 (by decide)).trans (F60.get (t := 0) rfl)
  exact zl (za rfl) (.slice A0 b.length c0) (zua _ (.inl rfl) e0) rfl (M.sub ⟨rfl, rfl, rfl, rfl, rfl, rfl, rfl, rfl, rfl, trivial⟩)
 ·intro ua uw SV pV M0 hk hn hd
  have M : Mx none w uw _ := M0
  clear M0
  have e5 : ua.eval (.tmp 5) = .int .i64 (q : Int) := (show ua.eval (.tmp 5) = _ from hd 5 (by decide)).trans (F60.get (t := 5) rfl)
  exact zl (za rfl) (.int .i64 (q : Int)) (zua _ (.inl rfl) e5) rfl (M.sub ⟨rfl, rfl, rfl, rfl, rfl, rfl, rfl, rfl, rfl, trivial⟩)
 ·intro ua uw SV pV M0 hk hn hd
  have M : Mx none w uw _ := M0
  clear M0
  obtain ⟨s1, f44, q44⟩ := (show SV 1 = true ∧ ua.eval (.tmp 44) = pV 1 ∧ stE _ 1 (pV 1) from hd 44 (by decide))
  have e44 : ua.eval (.tmp 44) = .slice A0 b.length c0 := f44.trans q44
  obtain ⟨s2, f45, q45⟩ := (show SV 2 = true ∧ ua.eval (.tmp 45) = pV 2 ∧ stE _ 2 (pV 2) from hd 45 (by decide))
  have e45 : ua.eval (.tmp 45) = .int .i64 (q : Int) := f45.trans q45
  exact zl (za rfl) ((ixV (.slice A0 b.length c0) q)) (zgb _ _ rfl e44 (M.isb (k := 0) rfl) e45 rfl (by omega)) rfl (M.sub ⟨rfl, rfl, rfl, rfl, rfl, rfl, rfl, rfl, rfl, trivial⟩)
 ·intro ua uw SV pV M0 hk hn hd
  have M : Mx none w uw _ := M0
  clear M0
  obtain ⟨s3, f46, q46⟩ := (show SV 3 = true ∧ ua.eval (.tmp 46) = pV 3 ∧ stE _ 3 (pV 3) from hd 46 (by decide))
  have e46 : ua.eval (.tmp 46) = (ixV (.slice A0 b.length c0) q) := f46.trans q46
  exact zl (za rfl) (.int .u8 ((y0.toNat : Nat) : Int)) (zvb _ rfl e46 (M.isb (k := 0) rfl) hy0 rfl) rfl (M.sub ⟨rfl, rfl, rfl, rfl, rfl, rfl, rfl, rfl, rfl, trivial⟩)
 ·intro ua uw SV pV M0 hk hn hd
  have M : Mx none w uw _ := M0
  clear M0
  obtain ⟨s4, f47, q47⟩ := (show SV 4 = true ∧ ua.eval (.tmp 47) = pV 4 ∧ stE _ 4 (pV 4) from hd 47 (by decide))
  have e47 : ua.eval (.tmp 47) = .int .u8 ((y0.toNat : Nat) : Int) := f47.trans q47
  exact zl (za rfl) (.int .i64 ((y0.toNat : Nat) : Int)) (zxa _ _ _ rfl e47 Try.underlying5 Try.underlying3 (zta _)) rfl (M.sub ⟨rfl, rfl, rfl, rfl, rfl, rfl, rfl, rfl, rfl, trivial⟩)
 ·intro ua uw SV pV M0 hk hn hd
  have M : Mx none w uw _ := M0
  clear M0
  have e0 : ua.eval (.tmp 0) = .slice A0 b.length c0 := (show ua.eval (.tmp 0) = _ from hd 0 (by decide)).trans (F60.get (t := 0) rfl)
  exact zl (za rfl) (.slice A0 b.length c0) (zua _ (.inl rfl) e0) rfl (M.sub ⟨rfl, rfl, rfl, rfl, rfl, rfl, rfl, rfl, rfl, trivial⟩)
 ·intro ua uw SV pV M0 hk hn hd
  have M : Mx none w uw _ := M0
  clear M0
  have e5 : ua.eval (.tmp 5) = .int .i64 (q : Int) := (show ua.eval (.tmp 5) = _ from hd 5 (by decide)).trans (F60.get (t := 5) rfl)
  exact zl (za rfl) (.int .i64 (q : Int)) (zua _ (.inl rfl) e5) rfl (M.sub ⟨rfl, rfl, rfl, rfl, rfl, rfl, rfl, rfl, rfl, trivial⟩)
 ·intro ua uw SV pV M0 hk hn hd
  have M : Mx none w uw _ := M0
  clear M0
  obtain ⟨s7, f50, q50⟩ := (show SV 7 = true ∧ ua.eval (.tmp 50) = pV 7 ∧ stE _ 7 (pV 7) from hd 50 (by decide))
  have e50 : ua.eval (.tmp 50) = .int .i64 (q : Int) := f50.trans q50
  exact zl (za rfl) (.int .i64 ((q + 2 : Nat) : Int)) (zz _ _ _ _ rfl e50 rfl (by omega) (by omega)) rfl (M.sub ⟨rfl, rfl, rfl, rfl, rfl, rfl, rfl, rfl, rfl, trivial⟩)
 ·intro ua uw SV pV M0 hk hn hd
  have M : Mx none w uw _ := M0
  clear M0
  have e5 : ua.eval (.tmp 5) = .int .i64 (q : Int) := (show ua.eval (.tmp 5) = _ from hd 5 (by decide)).trans (F60.get (t := 5) rfl)
  exact zl (za rfl) (.int .i64 (q : Int)) (zua _ (.inl rfl) e5) rfl (M.sub ⟨rfl, rfl, rfl, rfl, rfl, rfl, rfl, rfl, rfl, trivial⟩)
 ·intro ua uw SV pV M0 hk hn hd
  have M : Mx none w uw _ := M0
  clear M0
  obtain ⟨s9, f52, q52⟩ := (show SV 9 = true ∧ ua.eval (.tmp 52) = pV 9 ∧ stE _ 9 (pV 9) from hd 52 (by decide))
  have e52 : ua.eval (.tmp 52) = .int .i64 (q : Int) := f52.trans q52
  exact zl (za rfl) (.int .i64 ((q + 2 : Nat) : Int)) (zz _ _ _ _ rfl e52 rfl (by omega) (by omega)) rfl (M.sub ⟨rfl, rfl, rfl, rfl, rfl, rfl, rfl, rfl, rfl, trivial⟩)
 ·intro ua uw SV pV M0 hk hn hd
  have M : Mx none w uw _ := M0
  clear M0
  have e6 : ua.eval (.tmp 6) = .int .i64 ((y1.toNat : Nat) : Int) := (show ua.eval (.tmp 6) = _ from hd 6 (by decide)).trans (F60.get (t := 6) rfl)
  exact zl (za rfl) (.int .i64 ((y1.toNat : Nat) : Int)) (zua _ (.inl rfl) e6) rfl (M.sub ⟨rfl, rfl, rfl, rfl, rfl, rfl, rfl, rfl, rfl, trivial⟩)
 ·intro ua uw SV pV M0 hk hn hd
  have M : Mx none w uw _ := M0
  clear M0
  obtain ⟨s10, f53, q53⟩ := (show SV 10 = true ∧ ua.eval (.tmp 53) = pV 10 ∧ stE _ 10 (pV 10) from hd 53 (by decide))
  have e53 : ua.eval (.tmp 53) = .int .i64 ((q + 2 : Nat) : Int) := f53.trans q53
  obtain ⟨s11, f54, q54⟩ := (show SV 11 = true ∧ ua.eval (.tmp 54) = pV 11 ∧ stE _ 11 (pV 11) from hd 54 (by decide))
  have e54 : ua.eval (.tmp 54) = .int .i64 ((y1.toNat : Nat) : Int) := f54.trans q54
  exact zl (za rfl) (.int .i64 ((q + 2 + y1.toNat : Nat) : Int)) (zz _ _ _ _ rfl e53 e54 (by omega) (by omega)) rfl (M.sub ⟨rfl, rfl, rfl, rfl, rfl, rfl, rfl, rfl, rfl, trivial⟩)
 ·intro ua uw SV pV M0 hk hn hd
  have M : Mx none w uw _ := M0
  clear M0
  obtain ⟨s6, f49, q49⟩ := (show SV 6 = true ∧ ua.eval (.tmp 49) = pV 6 ∧ stE _ 6 (pV 6) from hd 49 (by decide))
  have e49 : ua.eval (.tmp 49) = .slice A0 b.length c0 := f49.trans q49
  obtain ⟨s8, f51, q51⟩ := (show SV 8 = true ∧ ua.eval (.tmp 51) = pV 8 ∧ stE _ 8 (pV 8) from hd 51 (by decide))
  have e51 : ua.eval (.tmp 51) = .int .i64 ((q + 2 : Nat) : Int) := f51.trans q51
  obtain ⟨s12, f55, q55⟩ := (show SV 12 = true ∧ ua.eval (.tmp 55) = pV 12 ∧ stE _ 12 (pV 12) from hd 55 (by decide))
  have e55 : ua.eval (.tmp 55) = .int .i64 ((q + 2 + y1.toNat : Nat) : Int) := f55.trans q55
  exact hopM_exE (za rfl) (y_slOf _ _ _ rfl e49 (M.isb (k := 0) rfl) e51 (i := (q + 2)) rfl e55 (j := (q + 2 + y1.toNat)) rfl (by omega) (by omega)) fun v h => ⟨trivial, (M.partB 8 (k := 0) rfl h.1 h.2).sub ⟨rfl, rfl, rfl, rfl, rfl, rfl, rfl, rfl, rfl, trivial⟩⟩
 intro p62 a62 w62 M62 G62 y62
 obtain ⟨q0, -, -, -, -, q5, -, -, -, -, -, -, -, q13, -⟩ := y62
 have r0 : p62 0 = .agg (msgA m V) := q0
 have r5 : p62 5 = .int .i64 ((y0.toNat : Nat) : Int) := q5
 replace M62 : Mx _ _ w62 [(0, bytR b (.slice A0 b.length c0)), (2, blkR g21 29 (msgA m V)), (1, blkR g2 29 (msgA ⟨0, 0, 0, 0, "".toUTF8, 0, 0, [], [], [], [], []⟩ ⟨zN, zN, zN, zN, zN⟩)), (3, bytR m.l5 V.v5), (4, bytR m.l6 V.v6), (5, bytR m.l7 V.v7), (6, bytR m.l8 V.v8), (7, bytR m.l9 V.v9), (8, condR true (bytR ((b.drop (q + 2)).take ((q + 2 + y1.toNat) - (q + 2))) (p62 13)))] := M62
 simp only [List.take, layV, Nat.zero_add, Nat.reduceAdd, r0, r5] at G62
 refine zd (za rfl) rfl G62 rfl rfl (zE Try.func57 rfl) #[.agg (msgA m V), .int .i64 ((y0.toNat : Nat) : Int), (p62 13)] (args3 (G62.get rfl) (G62.get rfl) (G62.get rfl)) (rset_any m V ((b.drop (q + 2)).take ((q + 2 + y1.toNat) - (q + 2))) ((p62 13)) (by simp only [List.length_take]; omega) y0.toNat w62 ⟨M62.isb (k := 3) rfl, M62.isb (k := 4) rfl, M62.isb (k := 5) rfl, M62.isb (k := 6) rfl, M62.isb (k := 7) rfl⟩ (M62.isb (k := 8) rfl)) ?_
 rintro _ w63 a63 ⟨u63, rfl, hu63, b63⟩ F63
 have M63 := M62.newO b63 9 hu63
 clear M62 b63 hu63
 refine zn (za rfl) rfl F63 M63 (k := 2) rfl _ _ _ rfl (F63.get rfl) (F63.get rfl) (msgA (setR m y0.toNat ((b.drop (q + 2)).take ((q + 2 + y1.toNat) - (q + 2)))) (setV V y0.toNat u63)) _ rfl (zL rfl) (zy (setV_is ⟨M63.isb (k := 3) rfl, M63.isb (k := 4) rfl, M63.isb (k := 5) rfl, M63.isb (k := 6) rfl, M63.isb (k := 7) rfl⟩ (M63.isO (k := 9) rfl) y0.toNat)) (zt rfl) (by kernel_rfl) ?_
 intro w64 M64
 clear M63
 refine hK61 _ _ (zR ?_)
 refine rm rfl F63 fun _ F65 => ?_
 refine rn rfl rfl F65 rfl (.int .i64 ((q + 2 : Nat) : Int)) (zz _ _ _ _ rfl (F65.get rfl) rfl (by omega) (by omega)) fun _ F66 => ?_
 refine rm rfl F66 fun _ F67 => ?_
 refine rn rfl rfl F67 rfl (.int .i64 ((q + 2 + y1.toNat : Nat) : Int)) (zz _ _ _ _ rfl (F67.get rfl) (F67.get rfl) (by omega) (by omega)) fun _ F68 => ?_
 refine rm rfl F68 fun _ F69 => ?_
 have og := M64.owns (k := 9) rfl
 have M70 := M64.tame (k := 9) rfl
 clear M64
 have Mz71 : Mx none w _ [(0, bytR b (.slice A0 b.length c0)), (2, blkR g21 29 (msgA (setR m y0.toNat ((b.drop (q + 2)).take ((q + 2 + y1.toNat) - (q + 2)))) (setV V y0.toNat u63))), (1, blkR g2 29 (msgA ⟨0, 0, 0, 0, "".toUTF8, 0, 0, [], [], [], [], []⟩ ⟨zN, zN, zN, zN, zN⟩)), (3, bytR ((setR m y0.toNat ((b.drop (q + 2)).take ((q + 2 + y1.toNat) - (q + 2)))).l5) ((setV V y0.toNat u63).v5)), (4, bytR ((setR m y0.toNat ((b.drop (q + 2)).take ((q + 2 + y1.toNat) - (q + 2)))).l6) ((setV V y0.toNat u63).v6)), (5, bytR ((setR m y0.toNat ((b.drop (q + 2)).take ((q + 2 + y1.toNat) - (q + 2)))).l7) ((setV V y0.toNat u63).v7)), (6, bytR ((setR m y0.toNat ((b.drop (q + 2)).take ((q + 2 + y1.toNat) - (q + 2)))).l8) ((setV V y0.toNat u63).v8)), (7, bytR ((setR m y0.toNat ((b.drop (q + 2)).take ((q + 2 + y1.toNat) - (q + 2)))).l9) ((setV V y0.toNat u63).v9))] := M70.re ⟨⟨0, rfl, fun _ => rfl⟩, ⟨2, rfl, fun _ => rfl⟩, ⟨1, rfl, fun _ => rfl⟩, rset_l5 (k := 3) (iv := 9) rfl rfl y0.toNat, rset_l6 (k := 4) (iv := 9) rfl rfl y0.toNat, rset_l7 (k := 5) (iv := 9) rfl rfl y0.toNat, rset_l8 (k := 6) (iv := 9) rfl rfl y0.toNat, rset_l9 (k := 7) (iv := 9) rfl rfl y0.toNat, trivial⟩
 subst ek31
 exact hK31 _ ⟨(K - 1), (q + 2 + y1.toNat), (setR m y0.toNat ((b.drop (q + 2)).take ((q + 2 + y1.toNat) - (q + 2)))), (setV V y0.toNat u63)⟩ _ _ (by omega) ⟨rfl, ⟨(show parR (K - 1) b (q + 2 + y1.toNat) (setR m y0.toNat ((b.drop (q + 2)).take ((q + 2 + y1.toNat) - (q + 2)))) = refM b from by have e := parR_on (K := K) (b := b) (at_ := q) (m := m) (by omega) (by rw [hd1]; omega); rw [hd0, hd1] at e; rw [show q + 2 + y1.toNat - (q + 2) = y1.toNat by omega]; exact e.symm.trans hM), (setR_ok hok hsz (by rw [List.length_take]; omega) y0.toNat).1, (setR_ok hok hsz (by rw [List.length_take]; omega) y0.toNat).2, (by show b.length ≤ q + 2 + y1.toNat + (K - 1); omega), (by show q + 2 + y1.toNat ≤ b.length; omega), setV_fp hfp (fun g h => og g (zva h)) y0.toNat⟩⟩ (F69.sub ⟨rfl, rfl, rfl, rfl, rfl, rfl, rfl, rfl, rfl, rfl, rfl, rfl, rfl, trivial⟩) (Mz71.sub ⟨rfl, rfl, rfl, rfl, rfl, rfl, rfl, rfl, trivial⟩)
end Go.Proofs.Ytlbkogdmojlpmaa
namespace Go.Proofs.Ytlbkogdmojlpmaa
open Go.ChangeShapes Go.WideShapes Go.ChangeAt Go.RowKit
theorem rbad_any (g : Nat) (u : Value) (n : Int) (b : Bool) (w : World) (hg : w.heap[g]? = some (.cells #[u, .int .i64 n, .bool b] 96 (0, 0))) :
  Calls Try.prog 33 #[.pointer (some ⟨g, 0, none⟩)] w fun e w' => e = .returned (.bool b) ∧ Below w.heap.size w w' := by
 refine zg (args := [.pointer (some ⟨g, 0, none⟩)]) 7 Try.func33 rfl rfl rfl ?_
 intro fa F
 have M := Mx.start w
 replace M := M.argO 0 hg (fun b e => by cases e)
 refine zT fun _ hK1 => ?_
 refine rm rfl F fun _ F2 => ?_
 refine hK1 _ _ (zS fun _ hK3 => ?_)
 refine zR ?_
 refine zB 5 [(2, .bool b)] [0] (zj (M.roB (k := 0) rfl) dnil) [g] F2 fun _ F4 => ?_
 refine hK3 _ _ (wp_ret ?_)
 try simp only [Exit.then, Exit.inBlock, Exit.jump]
 exact bodyPost_ret (res1 rfl (F4.get rfl)) F4.defers ⟨rfl, M.below⟩
theorem rwrite_ok {G : Option Nat} {w0 w : World} {R : List (Nat × Res)} (M0 : Mx G w0 w R) (k q kb g : Nat) (l c : List UInt8) (u v : Value) (n : Int) (hk : look R k = some (blkR g 96 #[u, .int .i64 n, .bool false])) (hq : look R q = some (bytR l u)) (hb : look R kb = some (bytR c v)) (hne : k ≠ q) (hnb : ¬ (kb = k ∨ kb = q))
  (hl : l.length + c.length ≤ 1000000) (hnn : 0 ≤ n ∧ n ≤ 1000000) (hn : ¬ 100000 ≤ n) :
  Calls Try.prog 29 #[.pointer (some ⟨g, 0, none⟩), v] w fun e w' => ∃ t, e = .returned t ∧ ∃ u', Mx G w0 w' ((k, blkR g 96 #[u', .int .i64 (n + (c.length : Int)), .bool false]) :: (q, bytR (l ++ c) u') :: R) ∧ t = .bool true := by
 refine zg (args := [.pointer (some ⟨g, 0, none⟩), v]) 40 Try.func29 rfl rfl rfl ?_
 intro fa F
 have M := ((M0.open2 hk hq hne).part 2 (bytR c v) (M0.isb hb) z0a rfl (k := kb + 10) ((z4b R kb hnb).symm ▸ hb) rfl (fun _ h => h))
 refine zT fun _ hK1 => ?_
 refine rm rfl F fun _ F2 => ?_
 refine hK1 _ _ (zS fun _ hK3 => ?_)
 refine zT fun _ hK4 => ?_
 refine zB 9 [(0, .pointer (some ⟨g, 0, none⟩)), (1, v), (4, .bool false), (9, .bool false), (13, .int .i64 n)] [0, 0] (zj (M.blk (k := 0) rfl) dnil) [g, g] F2 fun _ F5 => ?_
 refine ze (w' := w) (zb rfl rfl rfl (F5.get rfl)) rfl F5 rfl (.bool false) (zob _ _ _ _ rfl (F5.get rfl) rfl (decide_eq_false hn)) fun _ F6 => ?_
 refine rn rfl rfl F6 rfl (.bool false) (zqa rfl (F6.get rfl) (F6.get rfl)) fun _ F7 => ?_
 refine hK4 _ _ (wp_cond_false (F7.get rfl) ?_)
 refine wp_skip ?_
 refine hK3 _ _ (zS fun _ hK8 => ?_)
 refine zR ?_
 refine zB 6 [(0, .pointer (some ⟨g, 0, none⟩)), (1, v), (4, .bool false), (19, .pointer (some ⟨g, 0, none⟩)), (23, .int .i64 n), (24, v)] [0] (zj (M.blk (k := 0) rfl) dnil) [g] F7 fun _ F9 => ?_
 refine rn rfl rfl F9 rfl (.int .i64 (c.length : Int)) (z9 _ rfl (F9.get rfl) (M.isb (k := 2) rfl) rfl) fun _ F10 => ?_
 refine rn rfl rfl F10 rfl (.int .i64 (n + (c.length : Int))) (zz _ _ _ _ rfl (F10.get rfl) (F10.get rfl) rfl (by omega)) fun _ F11 => ?_
 refine zA 2 [(27, .pointer (some ⟨g, 0, none⟩)), (28, .pointer (some ⟨g, 1, none⟩))] [] dnil [] F11 fun _ F12 => ?_
 refine zn (za rfl) rfl F12 M (k := 0) rfl _ _ _ rfl (F12.get rfl) (F12.get rfl) (#[.int .i64 (n + (c.length : Int))]) (#[u, .int .i64 (n + (c.length : Int)), .bool false]) rfl (zL rfl) (zeb _ _) (by kernel_rfl) (by kernel_rfl) ?_
 intro w13 M13
 clear M
 refine hK8 _ _ (zS fun _ hK14 => ?_)
 refine zR ?_
 refine rm rfl F12 fun _ F15 => ?_
 refine zba (za rfl) rfl F15 rfl (z0b M13 3 rfl) ?_
 intro v16 a16 w16 F16 M16
 clear F15 M13
 obtain ⟨A16, c16, rfl⟩ := (M16.isO (k := 3) rfl).shape
 refine zB 4 [(1, v), (4, .bool false), (29, .pointer (some ⟨g, 0, none⟩)), (30, .slice A16 (([] : List UInt8)).length c16), (34, u)] [0] (zj (M16.blk (k := 0) rfl) dnil) [g] F16 fun _ F17 => ?_
 refine zba (za rfl) rfl F17 rfl (z2a M16 (k := 3) rfl _ _ rfl (F17.get rfl) (F17.get rfl) (M16.isb (k := 1) rfl) (by first | (simp only [List.length_append, List.length_nil]; omega))) ?_
 intro v18 a18 w18 F18 M18
 clear F17 M16
 obtain ⟨A18, c18, rfl⟩ := (M18.isO (k := 3) rfl).shape
 refine rm rfl F18 fun _ F19 => ?_
 refine zba (za rfl) rfl F19 rfl (z2a M18 (k := 3) rfl _ _ rfl (F19.get rfl) (F19.get rfl) (M18.isb (k := 2) rfl) (by first | (simp only [List.length_append, List.length_nil]; omega))) ?_
 intro v20 a20 w20 F20 M20
 clear F19 M18
 obtain ⟨A20, c20, rfl⟩ := (M20.isO (k := 3) rfl).shape
 refine zB 2 [(4, .bool false), (37, .slice A20 ((([] ++ l) ++ c)).length c20), (39, .pointer (some ⟨g, 0, none⟩))] [] dnil [] F20 fun _ F21 => ?_
 refine zn (za rfl) rfl F21 M20 (k := 0) rfl _ _ _ rfl (F21.get rfl) (F21.get rfl) (#[.slice A20 ((([] ++ l) ++ c)).length c20]) (#[.slice A20 ((([] ++ l) ++ c)).length c20, .int .i64 (n + (c.length : Int)), .bool false]) rfl (zL rfl) (zmb rfl) (by kernel_rfl) (by kernel_rfl) ?_
 intro w22 M22
 clear M20
 refine hK14 _ _ (zS fun _ hK23 => ?_)
 refine zR ?_
 refine rm rfl F21 fun _ F24 => ?_
 refine hK23 _ _ (wp_ret ?_)
 try simp only [Exit.then, Exit.inBlock, Exit.jump]
 have Mq := (M22.tame (k := 3) rfl).partB 1 (k := 3) rfl (M22.isO (k := 3) rfl) (fun _ h => h)
 exact bodyPost_ret (res1 rfl (F24.get rfl)) F24.defers ⟨_, rfl, (.slice A20 ((([] ++ l) ++ c)).length c20), (by have h := Mq.close2 (k := k) (q := q) (R := R) rfl rfl (fun _ => rfl) hne; rwa [List.nil_append] at h), rfl⟩
theorem rwrite_big {G : Option Nat} {w0 w : World} {R : List (Nat × Res)} (M0 : Mx G w0 w R) (k q kb g : Nat) (l c : List UInt8) (u v : Value) (n : Int) (hk : look R k = some (blkR g 96 #[u, .int .i64 n, .bool false])) (hq : look R q = some (bytR l u)) (hb : look R kb = some (bytR c v)) (hne : k ≠ q) (hnb : ¬ (kb = k ∨ kb = q))
  (hl : l.length + c.length ≤ 1000000) (hnn : 0 ≤ n ∧ n ≤ 1000000) (hn : 100000 ≤ n) :
  Calls Try.prog 29 #[.pointer (some ⟨g, 0, none⟩), v] w fun e w' => ∃ t, e = .returned t ∧ ∃ u', Mx G w0 w' ((k, blkR g 96 #[u', .int .i64 n, .bool true]) :: (q, bytR l u') :: R) ∧ t = .bool false := by
 refine zg (args := [.pointer (some ⟨g, 0, none⟩), v]) 40 Try.func29 rfl rfl rfl ?_
 intro fa F
 have M := ((M0.open2 hk hq hne).part 2 (bytR c v) (M0.isb hb) z0a rfl (k := kb + 10) ((z4b R kb hnb).symm ▸ hb) rfl (fun _ h => h))
 refine zT fun _ hK1 => ?_
 refine rm rfl F fun _ F2 => ?_
 refine hK1 _ _ (zS fun _ hK3 => ?_)
 refine zT fun _ hK4 => ?_
 refine zB 9 [(0, .pointer (some ⟨g, 0, none⟩)), (1, v), (4, .bool false), (9, .bool false), (13, .int .i64 n)] [0, 0] (zj (M.blk (k := 0) rfl) dnil) [g, g] F2 fun _ F5 => ?_
 refine ze (w' := w) (zb rfl rfl rfl (F5.get rfl)) rfl F5 rfl (.bool true) (zob _ _ _ _ rfl (F5.get rfl) rfl (decide_eq_true hn)) fun _ F6 => ?_
 refine rn rfl rfl F6 rfl (.bool true) (zqa rfl (F6.get rfl) (F6.get rfl)) fun _ F7 => ?_
 refine hK4 _ _ (wp_cond_true (F7.get rfl) ?_)
 refine zT fun _ hK8 => ?_
 refine zB 3 [(0, .pointer (some ⟨g, 0, none⟩)), (1, v), (4, .bool false), (18, .pointer (some ⟨g, 2, none⟩))] [] dnil [] F7 fun _ F9 => ?_
 refine zn (za rfl) rfl F9 M (k := 0) rfl _ _ _ rfl (F9.get rfl) rfl (#[.bool true]) (#[u, .int .i64 n, .bool true]) rfl (zL rfl) (by simp [Value.oneCell']) (by kernel_rfl) (by kernel_rfl) ?_
 intro w10 M10
 clear M
 refine hK8 _ _ (zS fun _ hK11 => ?_)
 refine zR ?_
 refine rm rfl F9 fun _ F12 => ?_
 refine hK11 _ _ (wp_ret ?_)
 try simp only [Exit.then, Exit.inBlock, Exit.jump]
 exact bodyPost_ret (res1 rfl (F12.get rfl)) F12.defers ⟨_, rfl, u, M10.close2 (k := k) (q := q) (R := R) rfl rfl (fun _ => rfl) hne, rfl⟩
theorem rwrite_bad {G : Option Nat} {w0 w : World} {R : List (Nat × Res)} (M0 : Mx G w0 w R) (k q kb g : Nat) (l c : List UInt8) (u v : Value) (n : Int) (hk : look R k = some (blkR g 96 #[u, .int .i64 n, .bool true])) (hq : look R q = some (bytR l u)) (hb : look R kb = some (bytR c v)) (hne : k ≠ q) (hnb : ¬ (kb = k ∨ kb = q))
  (hl : l.length + c.length ≤ 1000000) (hnn : 0 ≤ n ∧ n ≤ 1000000) :
  Calls Try.prog 29 #[.pointer (some ⟨g, 0, none⟩), v] w fun e w' => ∃ t, e = .returned t ∧ ∃ u', Mx G w0 w' ((k, blkR g 96 #[u', .int .i64 n, .bool true]) :: (q, bytR l u') :: R) ∧ t = .bool false := by
 refine zg (args := [.pointer (some ⟨g, 0, none⟩), v]) 40 Try.func29 rfl rfl rfl ?_
 intro fa F
 have M := ((M0.open2 hk hq hne).part 2 (bytR c v) (M0.isb hb) z0a rfl (k := kb + 10) ((z4b R kb hnb).symm ▸ hb) rfl (fun _ h => h))
 refine zT fun _ hK1 => ?_
 refine rm rfl F fun _ F2 => ?_
 refine hK1 _ _ (zS fun _ hK3 => ?_)
 refine zT fun _ hK4 => ?_
 refine zB 11 [(0, .pointer (some ⟨g, 0, none⟩)), (1, v), (4, .bool false), (15, .bool true)] [0] (zj (M.blk (k := 0) rfl) dnil) [g] F2 fun _ F5 => ?_
 refine hK4 _ _ (wp_cond_true (F5.get rfl) ?_)
 refine zT fun _ hK6 => ?_
 refine zB 3 [(0, .pointer (some ⟨g, 0, none⟩)), (1, v), (4, .bool false), (18, .pointer (some ⟨g, 2, none⟩))] [] dnil [] F5 fun _ F7 => ?_
 refine zn (za rfl) rfl F7 M (k := 0) rfl _ _ _ rfl (F7.get rfl) rfl (#[.bool true]) (#[u, .int .i64 n, .bool true]) rfl (zL rfl) (by simp [Value.oneCell']) (by kernel_rfl) (by kernel_rfl) ?_
 intro w8 M8
 clear M
 refine hK6 _ _ (zS fun _ hK9 => ?_)
 refine zR ?_
 refine rm rfl F7 fun _ F10 => ?_
 refine hK9 _ _ (wp_ret ?_)
 try simp only [Exit.then, Exit.inBlock, Exit.jump]
 exact bodyPost_ret (res1 rfl (F10.get rfl)) F10.defers ⟨_, rfl, u, M8.close2 (k := k) (q := q) (R := R) rfl rfl (fun _ => rfl) hne, rfl⟩
theorem rnew_any  (w : World) :
  Calls Try.prog 27 #[] w fun e w' => ∃ t, e = .returned t ∧ ∃ g, t = .pointer (some ⟨g, 0, none⟩) ∧ w.heap.size ≤ g ∧ w'.heap[g]? = some (.cells #[zN, .int .i64 0, .bool false] 96 (0, 0)) ∧ Below w.heap.size w w' := by
 refine zg (args := []) 3 Try.func27 rfl rfl rfl ?_
 intro fa F
 have M := Mx.start w
 refine zT fun _ hK1 => ?_
 refine rm rfl F fun _ F2 => ?_
 refine hK1 _ _ (zS fun _ hK3 => ?_)
 refine zR ?_
 refine rn rfl rfl F2 rfl (.agg (#[zN, .int .i64 0, .bool false])) (by unfold execOp; kernel_rfl) fun _ F4 => ?_
 refine zf (za rfl) rfl F4 rfl M 0 (t := 96) (c := #[zN, .int .i64 0, .bool false]) (by unfold execOp; simp only [(F4.get (t := 1) rfl)]; kernel_rfl) ?_
 intro g5 a5 w5 F5 M5
 clear F4 M
 refine rm rfl F5 fun _ F6 => ?_
 refine hK3 _ _ (wp_ret ?_)
 try simp only [Exit.then, Exit.inBlock, Exit.jump]
 exact bodyPost_ret (res1 rfl (F6.get rfl)) F6.defers ⟨_, rfl, g5, rfl, (M5.own 0 _ rfl rfl g5 rfl).resolve_right (fun e => by cases e), M5.blk (k := 0) rfl, M5.below⟩
end Go.Proofs.Ytlbkogdmojlpmaa
namespace Go.Proofs.Ytlbkogdmojlpmaa
open Go.ChangeShapes Go.WideShapes Go.ChangeAt Go.RowKit
theorem rdecode_ex (b : List UInt8) (bv : Value) (hl : b.length ≤ 100000) (w : World) (hb : IsB w b bv) : Calls Try.prog 23 #[bv] w fun e w' => ∃ t, e = .returned t ∧ ∃ V, t = .tuple #[.agg (msgA (decR b) V), .bool (decOk b)] ∧ MsgIs w' (decR b) V ∧ (∀ q, z6a V q → w.heap.size ≤ q) ∧ Below w.heap.size w w' :=
  (rdecode_any b bv hl w hb).mono fun e w' ⟨V, h1, h2, h3, h4⟩ => ⟨_, h1, V, rfl, h2, h3, h4⟩
theorem Mx.reF {G : Option Nat} {w0 w : World} {R R' : List (Nat × Res)} (M : Mx G w0 w R) (h : ∀ i r, look R' i = some r → ∃ q, look R q = some r ∧ (r.wr = true → q = i)) : Mx G w0 w R' := by
  refine ⟨M.grown, fun i r e => ?_, fun i r e => ?_, fun i r e => ?_, fun i r e => ?_, fun i j r s e1 e2 hij hw => ?_⟩
  · obtain ⟨q, hq, -⟩ := h i r e; exact M.at_ q r hq
  · obtain ⟨q, hq, -⟩ := h i r e; exact M.dep q r hq
  · obtain ⟨q, hq, -⟩ := h i r e; exact M.lt q r hq
  · obtain ⟨q, hq, -⟩ := h i r e; exact M.own q r hq
  · obtain ⟨q, hq, h1⟩ := h i r e1
    obtain ⟨q2, hq2, h2⟩ := h j s e2
    refine M.dis q q2 r s hq hq2 (fun e => ?_) hw
    have hqi := h1 hw
    subst e
    rw [hq] at hq2
    cases hq2
    exact hij (hqi.symm.trans (h2 hw))
theorem look_app : ∀ (P T : List (Nat × Res)) (i : Nat), look (P ++ T) i = (look P i).or (look T i)
  | [], T, i => rfl
  | p :: P, T, i => by
    obtain ⟨k, x⟩ := p
    rw [List.cons_append, look_cons, look_cons]
    by_cases h : k = i
    · rw [if_pos h, if_pos h]; rfl
    · rw [if_neg h, if_neg h]; exact look_app P T i
theorem Mx.reT {G : Option Nat} {w0 w : World} {R P' T : List (Nat × Res)} (M : Mx G w0 w R) (h : ReIn R P') (h0 : ∀ j, j < 10 → look T j = none) (hT : ∀ j, look R (j + 10) = look T (j + 10)) : Mx G w0 w (P' ++ T) :=
  M.reF fun i r e => by
    rw [look_app] at e
    cases hp : look P' i with
    | some x =>
      rw [hp] at e
      have e : x = r := by simpa using e
      subst e
      exact h.at i x hp
    | none =>
      rw [hp] at e
      have e : look T i = some r := by simpa using e
      by_cases hi : i < 10
      · rw [h0 i hi] at e; cases e
      · obtain ⟨j, rfl⟩ : ∃ j, i = j + 10 := ⟨i - 10, by omega⟩
        exact ⟨j + 10, (hT j).trans e, fun _ => rfl⟩
theorem rnext_bad {G : Option Nat} {w0 w : World} {R : List (Nat × Res)} (M0 : Mx G w0 w R) (k q g : Nat) (l : List UInt8) (u : Value) (n : Int) (hk : look R k = some (blkR g 96 #[u, .int .i64 n, .bool true])) (hq : look R q = some (bytR l u)) (hne : k ≠ q) (hl : l.length ≤ 1000000)  :
  Calls Try.prog 31 #[.pointer (some ⟨g, 0, none⟩)] w fun e w' => ∃ t, e = .returned t ∧ ∃ u', Mx G w0 w' ((k, blkR g 96 #[u', .int .i64 n, .bool true]) :: (q, bytR l u') :: R) ∧ t = .tuple #[.agg (msgA mZero vZero), .bool false] := by
 refine zg (args := [.pointer (some ⟨g, 0, none⟩)]) 79 Try.func31 rfl rfl rfl ?_
 intro fa F
 have M := (M0.open2 hk hq hne)
 refine zT fun _ hK1 => ?_
 refine zf (za rfl) rfl F rfl M 2 (t := 29) (c := msgA ⟨0, 0, 0, 0, "".toUTF8, 0, 0, [], [], [], [], []⟩ ⟨zN, zN, zN, zN, zN⟩) (by unfold execOp; kernel_rfl) ?_
 intro g2 a2 w2 F2 M2
 clear F M
 refine rm rfl F2 fun _ F3 => ?_
 refine hK1 _ _ (zS fun _ hK4 => ?_)
 refine zT fun _ hK5 => ?_
 refine zB 12 [(0, .pointer (some ⟨g, 0, none⟩)), (2, .pointer (some ⟨g2, 0, none⟩)), (3, .bool false), (18, .bool true)] [0] (zj (M2.blk (k := 0) rfl) dnil) [g] F3 fun _ F6 => ?_
 refine hK5 _ _ (wp_cond_true (F6.get rfl) ?_)
 refine zT fun _ hK7 => ?_
 refine rn rfl rfl F6 rfl (.agg (msgA ⟨0, 0, 0, 0, "".toUTF8, 0, 0, [], [], [], [], []⟩ ⟨zN, zN, zN, zN, zN⟩)) (by unfold execOp; kernel_rfl) fun _ F8 => ?_
 refine zn (za rfl) rfl F8 M2 (k := 2) rfl _ _ _ rfl (F8.get rfl) (F8.get rfl) (msgA ⟨0, 0, 0, 0, "".toUTF8, 0, 0, [], [], [], [], []⟩ ⟨zN, zN, zN, zN, zN⟩) _ rfl (zL rfl) (zy (w := w2) ⟨(zc _), (zc _), (zc _), (zc _), (zc _)⟩) (zt rfl) (by kernel_rfl) ?_
 intro w9 M9
 clear M2
 refine rm rfl F8 fun _ F10 => ?_
 refine hK7 _ _ (wp_ret ?_)
 try simp only [Exit.then, Exit.inBlock, Exit.jump]
 exact bodyPost_ret (resCT rfl (F10.get rfl) (M9.blk (k := 2) rfl) (F10.get rfl) Try.underlying29 rfl (by kernel_rfl)) F10.defers ⟨_, rfl, u, M9.close2 (k := k) (q := q) (R := R) rfl rfl (fun _ => rfl) hne, rfl⟩
theorem rnext_short {G : Option Nat} {w0 w : World} {R : List (Nat × Res)} (M0 : Mx G w0 w R) (k q g : Nat) (l : List UInt8) (u : Value) (n : Int) (hk : look R k = some (blkR g 96 #[u, .int .i64 n, .bool false])) (hq : look R q = some (bytR l u)) (hne : k ≠ q) (hl : l.length ≤ 1000000) (h2 : l.length < 2) :
  Calls Try.prog 31 #[.pointer (some ⟨g, 0, none⟩)] w fun e w' => ∃ t, e = .returned t ∧ ∃ u', Mx G w0 w' ((k, blkR g 96 #[u', .int .i64 n, .bool false]) :: (q, bytR l u') :: R) ∧ t = .tuple #[.agg (msgA mZero vZero), .bool false] := by
 refine zg (args := [.pointer (some ⟨g, 0, none⟩)]) 79 Try.func31 rfl rfl rfl ?_
 intro fa F
 have M := (M0.open2 hk hq hne)
 refine zT fun _ hK1 => ?_
 refine zf (za rfl) rfl F rfl M 2 (t := 29) (c := msgA ⟨0, 0, 0, 0, "".toUTF8, 0, 0, [], [], [], [], []⟩ ⟨zN, zN, zN, zN, zN⟩) (by unfold execOp; kernel_rfl) ?_
 intro g2 a2 w2 F2 M2
 clear F M
 refine rm rfl F2 fun _ F3 => ?_
 refine hK1 _ _ (zS fun _ hK4 => ?_)
 refine zT fun _ hK5 => ?_
 refine zB 9 [(0, .pointer (some ⟨g, 0, none⟩)), (2, .pointer (some ⟨g2, 0, none⟩)), (3, .bool false), (11, .bool false), (15, u)] [0, 0] (zj (M2.blk (k := 0) rfl) dnil) [g, g] F3 fun _ F6 => ?_
 refine ze (w' := w2) (zb rfl rfl rfl (F6.get rfl)) rfl F6 rfl (.int .i64 (l.length : Int)) (z9 _ rfl (F6.get rfl) (M2.isb (k := 1) rfl) rfl) fun _ F7 => ?_
 refine ze (w' := w2) (zb rfl rfl rfl (F7.get rfl)) rfl F7 rfl (.bool true) (zoa _ _ _ _ rfl (F7.get rfl) rfl (decide_eq_true (by omega))) fun _ F8 => ?_
 refine rn rfl rfl F8 rfl (.bool true) (zqa rfl (F8.get rfl) (F8.get rfl)) fun _ F9 => ?_
 refine hK5 _ _ (wp_cond_true (F9.get rfl) ?_)
 refine zT fun _ hK10 => ?_
 refine rn rfl rfl F9 rfl (.agg (msgA ⟨0, 0, 0, 0, "".toUTF8, 0, 0, [], [], [], [], []⟩ ⟨zN, zN, zN, zN, zN⟩)) (by unfold execOp; kernel_rfl) fun _ F11 => ?_
 refine zn (za rfl) rfl F11 M2 (k := 2) rfl _ _ _ rfl (F11.get rfl) (F11.get rfl) (msgA ⟨0, 0, 0, 0, "".toUTF8, 0, 0, [], [], [], [], []⟩ ⟨zN, zN, zN, zN, zN⟩) _ rfl (zL rfl) (zy (w := w2) ⟨(zc _), (zc _), (zc _), (zc _), (zc _)⟩) (zt rfl) (by kernel_rfl) ?_
 intro w12 M12
 clear M2
 refine rm rfl F11 fun _ F13 => ?_
 refine hK10 _ _ (wp_ret ?_)
 try simp only [Exit.then, Exit.inBlock, Exit.jump]
 exact bodyPost_ret (resCT rfl (F13.get rfl) (M12.blk (k := 2) rfl) (F13.get rfl) Try.underlying29 rfl (by kernel_rfl)) F13.defers ⟨_, rfl, u, M12.close2 (k := k) (q := q) (R := R) rfl rfl (fun _ => rfl) hne, rfl⟩
theorem rnext_over {G : Option Nat} {w0 w : World} {R : List (Nat × Res)} (M0 : Mx G w0 w R) (k q g : Nat) (l : List UInt8) (u : Value) (n : Int) (hk : look R k = some (blkR g 96 #[u, .int .i64 n, .bool false])) (hq : look R q = some (bytR l u)) (hne : k ≠ q) (hl : l.length ≤ 1000000) (x0 x1 : UInt8) (h0 : l[0]? = some x0) (h1 : l[1]? = some x1) (F : Nat) (hF : x0.toNat * 256 + x1.toNat = F) (h2 : 2 ≤ l.length) (hf : 200 < F) :
  Calls Try.prog 31 #[.pointer (some ⟨g, 0, none⟩)] w fun e w' => ∃ t, e = .returned t ∧ ∃ u', Mx G w0 w' ((k, blkR g 96 #[u', .int .i64 n, .bool true]) :: (q, bytR l u') :: R) ∧ t = .tuple #[.agg (msgA mZero vZero), .bool false] := by
 have hx0 := x0.toNat_lt
 have hx1 := x1.toNat_lt
 refine zg (args := [.pointer (some ⟨g, 0, none⟩)]) 79 Try.func31 rfl rfl rfl ?_
 intro fa F
 have M := (M0.open2 hk hq hne)
 refine zT fun _ hK1 => ?_
 refine zf (za rfl) rfl F rfl M 2 (t := 29) (c := msgA ⟨0, 0, 0, 0, "".toUTF8, 0, 0, [], [], [], [], []⟩ ⟨zN, zN, zN, zN, zN⟩) (by unfold execOp; kernel_rfl) ?_
 intro g2 a2 w2 F2 M2
 clear F M
 refine rm rfl F2 fun _ F3 => ?_
 refine hK1 _ _ (zS fun _ hK4 => ?_)
 refine zT fun _ hK5 => ?_
 refine zB 9 [(0, .pointer (some ⟨g, 0, none⟩)), (2, .pointer (some ⟨g2, 0, none⟩)), (3, .bool false), (11, .bool false), (15, u)] [0, 0] (zj (M2.blk (k := 0) rfl) dnil) [g, g] F3 fun _ F6 => ?_
 refine ze (w' := w2) (zb rfl rfl rfl (F6.get rfl)) rfl F6 rfl (.int .i64 (l.length : Int)) (z9 _ rfl (F6.get rfl) (M2.isb (k := 1) rfl) rfl) fun _ F7 => ?_
 refine ze (w' := w2) (zb rfl rfl rfl (F7.get rfl)) rfl F7 rfl (.bool false) (zoa _ _ _ _ rfl (F7.get rfl) rfl (decide_eq_false (by omega))) fun _ F8 => ?_
 refine rn rfl rfl F8 rfl (.bool false) (zqa rfl (F8.get rfl) (F8.get rfl)) fun _ F9 => ?_
 refine hK5 _ _ (wp_cond_false (F9.get rfl) ?_)
 refine wp_skip ?_
 refine hK4 _ _ (zS fun _ hK10 => ?_)
 have hD11 := (zj (M2.blk (k := 0) rfl) dnil)
 refine z5a F9 (SK [.inl (.pointer (some ⟨g, 0, none⟩)), .inl (.pointer (some ⟨g, 0, none⟩)), .inl (.pointer (some ⟨g, 0, none⟩)), .inl (u), .inl ((ixV (u) 0)), .inl (.int .u8 ((x0.toNat : Nat) : Int)), .inl (.int .i64 ((x0.toNat : Nat) : Int)), .inl (.int .i64 (((x0.toNat : Nat) : Int) * 256)), .inl (.int .i64 ((2 + x0.toNat * 256 : Nat) : Int)), .inl (.pointer (some ⟨g, 0, none⟩)), .inl (.pointer (some ⟨g, 0, none⟩)), .inl (.pointer (some ⟨g, 0, none⟩)), .inl (u), .inl ((ixV (u) 1)), .inl (.int .u8 ((x1.toNat : Nat) : Int)), .inl (.int .i64 ((x1.toNat : Nat) : Int)), .inl (.int .i64 ((2 + F : Nat) : Int)), .inl (.int .i64 ((2 + F : Nat) : Int))]) 18 rfl (by kernel_rfl) ⟨hop0 F9 (by kernel_rfl), hop0 F9 (by kernel_rfl), hop0 F9 (by kernel_rfl), hopP F9 hD11 0 (some g) (by kernel_rfl), ?_, ?_, ?_, ?_, ?_, hop0 F9 (by kernel_rfl), hop0 F9 (by kernel_rfl), hop0 F9 (by kernel_rfl), hopP F9 hD11 0 (some g) (by kernel_rfl), ?_, ?_, ?_, ?_, hop0 F9 (by kernel_rfl), trivial⟩ ?_
 ·intro ua uw hb hd
  have e23 : ua.eval (.tmp 23) = u := hd 23 (by decide)
  exact zk (F := (StK.eq ((ixV (u) 0))).F) (za rfl) ((ixV (u) 0)) (zgb _ _ rfl e23 ((M2.step hb).isb (k := 1) rfl) rfl rfl (by omega)) rfl
 ·intro ua uw hb hd
  have e24 : ua.eval (.tmp 24) = (ixV (u) 0) := hd 24 (by decide)
  exact zk (F := (StK.eq (.int .u8 ((x0.toNat : Nat) : Int))).F) (za rfl) (.int .u8 ((x0.toNat : Nat) : Int)) (zvb _ rfl e24 ((M2.step hb).isb (k := 1) rfl) h0 rfl) rfl
 ·intro ua uw hb hd
  have e25 : ua.eval (.tmp 25) = .int .u8 ((x0.toNat : Nat) : Int) := hd 25 (by decide)
  exact zk (F := (StK.eq (.int .i64 ((x0.toNat : Nat) : Int))).F) (za rfl) (.int .i64 ((x0.toNat : Nat) : Int)) (zxa _ _ _ rfl e25 Try.underlying5 Try.underlying3 (zta _)) rfl
 ·intro ua uw hb hd
  have e26 : ua.eval (.tmp 26) = .int .i64 ((x0.toNat : Nat) : Int) := hd 26 (by decide)
  exact zk (F := (StK.eq (.int .i64 (((x0.toNat : Nat) : Int) * 256))).F) (za rfl) (.int .i64 (((x0.toNat : Nat) : Int) * 256)) (y_shlI _ _ _ _ rfl e26 rfl (by decide) (shl8 (by omega))) rfl
 ·intro ua uw hb hd
  have e27 : ua.eval (.tmp 27) = .int .i64 (((x0.toNat : Nat) : Int) * 256) := hd 27 (by decide)
  exact zk (F := (StK.eq (.int .i64 ((2 + x0.toNat * 256 : Nat) : Int))).F) (za rfl) (.int .i64 ((2 + x0.toNat * 256 : Nat) : Int)) (zz _ _ _ _ rfl rfl e27 (by omega) (by omega)) rfl
 ·intro ua uw hb hd
  have e32 : ua.eval (.tmp 32) = u := hd 32 (by decide)
  exact zk (F := (StK.eq ((ixV (u) 1))).F) (za rfl) ((ixV (u) 1)) (zgb _ _ rfl e32 ((M2.step hb).isb (k := 1) rfl) rfl rfl (by omega)) rfl
 ·intro ua uw hb hd
  have e33 : ua.eval (.tmp 33) = (ixV (u) 1) := hd 33 (by decide)
  exact zk (F := (StK.eq (.int .u8 ((x1.toNat : Nat) : Int))).F) (za rfl) (.int .u8 ((x1.toNat : Nat) : Int)) (zvb _ rfl e33 ((M2.step hb).isb (k := 1) rfl) h1 rfl) rfl
 ·intro ua uw hb hd
  have e34 : ua.eval (.tmp 34) = .int .u8 ((x1.toNat : Nat) : Int) := hd 34 (by decide)
  exact zk (F := (StK.eq (.int .i64 ((x1.toNat : Nat) : Int))).F) (za rfl) (.int .i64 ((x1.toNat : Nat) : Int)) (zxa _ _ _ rfl e34 Try.underlying5 Try.underlying3 (zta _)) rfl
 ·intro ua uw hb hd
  have e28 : ua.eval (.tmp 28) = .int .i64 ((2 + x0.toNat * 256 : Nat) : Int) := hd 28 (by decide)
  have e35 : ua.eval (.tmp 35) = .int .i64 ((x1.toNat : Nat) : Int) := hd 35 (by decide)
  exact zk (F := (StK.eq (.int .i64 ((2 + F : Nat) : Int))).F) (za rfl) (.int .i64 ((2 + F : Nat) : Int)) (zz _ _ _ _ rfl e28 e35 (by omega) (by omega)) rfl
 intro p12 a12 w12 b12 G12 y12
 obtain ⟨-, -, -, -, -, -, -, -, -, -, -, -, -, -, -, -, -, q17, -⟩ := y12
 have r17 : p12 17 = .int .i64 ((2 + F : Nat) : Int) := q17 (by decide)
 simp only [List.take, layV, Nat.zero_add, Nat.reduceAdd, r17] at G12
 have M12 := M2.kc b12
 clear F9 M2 r17 q17
 refine hK10 _ _ (zS fun _ hK13 => ?_)
 refine zT fun _ hK14 => ?_
 refine rm rfl G12 fun _ F15 => ?_
 refine rn rfl rfl F15 rfl (.int .i64 (F : Int)) (y_subI _ _ _ _ rfl (F15.get rfl) rfl (by omega) (by omega)) fun _ F16 => ?_
 refine rn rfl rfl F16 rfl (.bool true) (zya _ _ _ _ rfl (F16.get rfl) rfl (decide_eq_true (by omega))) fun _ F17 => ?_
 refine hK14 _ _ (wp_cond_true (F17.get rfl) ?_)
 refine zT fun _ hK18 => ?_
 refine zB 3 [(0, .pointer (some ⟨g, 0, none⟩)), (2, .pointer (some ⟨g2, 0, none⟩)), (3, .bool false), (4, .int .i64 ((2 + F : Nat) : Int)), (42, .pointer (some ⟨g, 2, none⟩))] [] dnil [] F17 fun _ F19 => ?_
 refine zn (za rfl) rfl F19 M12 (k := 0) rfl _ _ _ rfl (F19.get rfl) rfl (#[.bool true]) (#[u, .int .i64 n, .bool true]) rfl (zL rfl) (by simp [Value.oneCell']) (by kernel_rfl) (by kernel_rfl) ?_
 intro w20 M20
 clear M12
 refine hK18 _ _ (zS fun _ hK21 => ?_)
 refine zR ?_
 refine rn rfl rfl F19 rfl (.agg (msgA ⟨0, 0, 0, 0, "".toUTF8, 0, 0, [], [], [], [], []⟩ ⟨zN, zN, zN, zN, zN⟩)) (by unfold execOp; kernel_rfl) fun _ F22 => ?_
 refine zn (za rfl) rfl F22 M20 (k := 2) rfl _ _ _ rfl (F22.get rfl) (F22.get rfl) (msgA ⟨0, 0, 0, 0, "".toUTF8, 0, 0, [], [], [], [], []⟩ ⟨zN, zN, zN, zN, zN⟩) _ rfl (zL rfl) (zy (w := w20) ⟨(zc _), (zc _), (zc _), (zc _), (zc _)⟩) (zt rfl) (by kernel_rfl) ?_
 intro w23 M23
 clear M20
 refine rm rfl F22 fun _ F24 => ?_
 refine hK21 _ _ (wp_ret ?_)
 try simp only [Exit.then, Exit.inBlock, Exit.jump]
 exact bodyPost_ret (resCT rfl (F24.get rfl) (M23.blk (k := 2) rfl) (F24.get rfl) Try.underlying29 rfl (by kernel_rfl)) F24.defers ⟨_, rfl, u, M23.close2 (k := k) (q := q) (R := R) rfl rfl (fun _ => rfl) hne, rfl⟩
theorem rnext_wait {G : Option Nat} {w0 w : World} {R : List (Nat × Res)} (M0 : Mx G w0 w R) (k q g : Nat) (l : List UInt8) (u : Value) (n : Int) (hk : look R k = some (blkR g 96 #[u, .int .i64 n, .bool false])) (hq : look R q = some (bytR l u)) (hne : k ≠ q) (hl : l.length ≤ 1000000) (x0 x1 : UInt8) (h0 : l[0]? = some x0) (h1 : l[1]? = some x1) (F : Nat) (hF : x0.toNat * 256 + x1.toNat = F) (h2 : 2 ≤ l.length) (hf : F ≤ 200) (hw : l.length < 2 + F) :
  Calls Try.prog 31 #[.pointer (some ⟨g, 0, none⟩)] w fun e w' => ∃ t, e = .returned t ∧ ∃ u', Mx G w0 w' ((k, blkR g 96 #[u', .int .i64 n, .bool false]) :: (q, bytR l u') :: R) ∧ t = .tuple #[.agg (msgA mZero vZero), .bool false] := by
 have hx0 := x0.toNat_lt
 have hx1 := x1.toNat_lt
 refine zg (args := [.pointer (some ⟨g, 0, none⟩)]) 79 Try.func31 rfl rfl rfl ?_
 intro fa F
 have M := (M0.open2 hk hq hne)
 refine zT fun _ hK1 => ?_
 refine zf (za rfl) rfl F rfl M 2 (t := 29) (c := msgA ⟨0, 0, 0, 0, "".toUTF8, 0, 0, [], [], [], [], []⟩ ⟨zN, zN, zN, zN, zN⟩) (by unfold execOp; kernel_rfl) ?_
 intro g2 a2 w2 F2 M2
 clear F M
 refine rm rfl F2 fun _ F3 => ?_
 refine hK1 _ _ (zS fun _ hK4 => ?_)
 refine zT fun _ hK5 => ?_
 refine zB 9 [(0, .pointer (some ⟨g, 0, none⟩)), (2, .pointer (some ⟨g2, 0, none⟩)), (3, .bool false), (11, .bool false), (15, u)] [0, 0] (zj (M2.blk (k := 0) rfl) dnil) [g, g] F3 fun _ F6 => ?_
 refine ze (w' := w2) (zb rfl rfl rfl (F6.get rfl)) rfl F6 rfl (.int .i64 (l.length : Int)) (z9 _ rfl (F6.get rfl) (M2.isb (k := 1) rfl) rfl) fun _ F7 => ?_
 refine ze (w' := w2) (zb rfl rfl rfl (F7.get rfl)) rfl F7 rfl (.bool false) (zoa _ _ _ _ rfl (F7.get rfl) rfl (decide_eq_false (by omega))) fun _ F8 => ?_
 refine rn rfl rfl F8 rfl (.bool false) (zqa rfl (F8.get rfl) (F8.get rfl)) fun _ F9 => ?_
 refine hK5 _ _ (wp_cond_false (F9.get rfl) ?_)
 refine wp_skip ?_
 refine hK4 _ _ (zS fun _ hK10 => ?_)
 have hD11 := (zj (M2.blk (k := 0) rfl) dnil)
 refine z5a F9 (SK [.inl (.pointer (some ⟨g, 0, none⟩)), .inl (.pointer (some ⟨g, 0, none⟩)), .inl (.pointer (some ⟨g, 0, none⟩)), .inl (u), .inl ((ixV (u) 0)), .inl (.int .u8 ((x0.toNat : Nat) : Int)), .inl (.int .i64 ((x0.toNat : Nat) : Int)), .inl (.int .i64 (((x0.toNat : Nat) : Int) * 256)), .inl (.int .i64 ((2 + x0.toNat * 256 : Nat) : Int)), .inl (.pointer (some ⟨g, 0, none⟩)), .inl (.pointer (some ⟨g, 0, none⟩)), .inl (.pointer (some ⟨g, 0, none⟩)), .inl (u), .inl ((ixV (u) 1)), .inl (.int .u8 ((x1.toNat : Nat) : Int)), .inl (.int .i64 ((x1.toNat : Nat) : Int)), .inl (.int .i64 ((2 + F : Nat) : Int)), .inl (.int .i64 ((2 + F : Nat) : Int))]) 18 rfl (by kernel_rfl) ⟨hop0 F9 (by kernel_rfl), hop0 F9 (by kernel_rfl), hop0 F9 (by kernel_rfl), hopP F9 hD11 0 (some g) (by kernel_rfl), ?_, ?_, ?_, ?_, ?_, hop0 F9 (by kernel_rfl), hop0 F9 (by kernel_rfl), hop0 F9 (by kernel_rfl), hopP F9 hD11 0 (some g) (by kernel_rfl), ?_, ?_, ?_, ?_, hop0 F9 (by kernel_rfl), trivial⟩ ?_
 ·intro ua uw hb hd
  have e23 : ua.eval (.tmp 23) = u := hd 23 (by decide)
  exact zk (F := (StK.eq ((ixV (u) 0))).F) (za rfl) ((ixV (u) 0)) (zgb _ _ rfl e23 ((M2.step hb).isb (k := 1) rfl) rfl rfl (by omega)) rfl
 ·intro ua uw hb hd
  have e24 : ua.eval (.tmp 24) = (ixV (u) 0) := hd 24 (by decide)
  exact zk (F := (StK.eq (.int .u8 ((x0.toNat : Nat) : Int))).F) (za rfl) (.int .u8 ((x0.toNat : Nat) : Int)) (zvb _ rfl e24 ((M2.step hb).isb (k := 1) rfl) h0 rfl) rfl
 ·intro ua uw hb hd
  have e25 : ua.eval (.tmp 25) = .int .u8 ((x0.toNat : Nat) : Int) := hd 25 (by decide)
  exact zk (F := (StK.eq (.int .i64 ((x0.toNat : Nat) : Int))).F) (za rfl) (.int .i64 ((x0.toNat : Nat) : Int)) (zxa _ _ _ rfl e25 Try.underlying5 Try.underlying3 (zta _)) rfl
 ·intro ua uw hb hd
  have e26 : ua.eval (.tmp 26) = .int .i64 ((x0.toNat : Nat) : Int) := hd 26 (by decide)
  exact zk (F := (StK.eq (.int .i64 (((x0.toNat : Nat) : Int) * 256))).F) (za rfl) (.int .i64 (((x0.toNat : Nat) : Int) * 256)) (y_shlI _ _ _ _ rfl e26 rfl (by decide) (shl8 (by omega))) rfl
 ·intro ua uw hb hd
  have e27 : ua.eval (.tmp 27) = .int .i64 (((x0.toNat : Nat) : Int) * 256) := hd 27 (by decide)
  exact zk (F := (StK.eq (.int .i64 ((2 + x0.toNat * 256 : Nat) : Int))).F) (za rfl) (.int .i64 ((2 + x0.toNat * 256 : Nat) : Int)) (zz _ _ _ _ rfl rfl e27 (by omega) (by omega)) rfl
 ·intro ua uw hb hd
  have e32 : ua.eval (.tmp 32) = u := hd 32 (by decide)
  exact zk (F := (StK.eq ((ixV (u) 1))).F) (za rfl) ((ixV (u) 1)) (zgb _ _ rfl e32 ((M2.step hb).isb (k := 1) rfl) rfl rfl (by omega)) rfl
 ·intro ua uw hb hd
  have e33 : ua.eval (.tmp 33) = (ixV (u) 1) := hd 33 (by decide)
  exact zk (F := (StK.eq (.int .u8 ((x1.toNat : Nat) : Int))).F) (za rfl) (.int .u8 ((x1.toNat : Nat) : Int)) (zvb _ rfl e33 ((M2.step hb).isb (k := 1) rfl) h1 rfl) rfl
 ·intro ua uw hb hd
  have e34 : ua.eval (.tmp 34) = .int .u8 ((x1.toNat : Nat) : Int) := hd 34 (by decide)
  exact zk (F := (StK.eq (.int .i64 ((x1.toNat : Nat) : Int))).F) (za rfl) (.int .i64 ((x1.toNat : Nat) : Int)) (zxa _ _ _ rfl e34 Try.underlying5 Try.underlying3 (zta _)) rfl
 ·intro ua uw hb hd
  have e28 : ua.eval (.tmp 28) = .int .i64 ((2 + x0.toNat * 256 : Nat) : Int) := hd 28 (by decide)
  have e35 : ua.eval (.tmp 35) = .int .i64 ((x1.toNat : Nat) : Int) := hd 35 (by decide)
  exact zk (F := (StK.eq (.int .i64 ((2 + F : Nat) : Int))).F) (za rfl) (.int .i64 ((2 + F : Nat) : Int)) (zz _ _ _ _ rfl e28 e35 (by omega) (by omega)) rfl
 intro p12 a12 w12 b12 G12 y12
 obtain ⟨-, -, -, -, -, -, -, -, -, -, -, -, -, -, -, -, -, q17, -⟩ := y12
 have r17 : p12 17 = .int .i64 ((2 + F : Nat) : Int) := q17 (by decide)
 simp only [List.take, layV, Nat.zero_add, Nat.reduceAdd, r17] at G12
 have M12 := M2.kc b12
 clear F9 M2 r17 q17
 refine hK10 _ _ (zS fun _ hK13 => ?_)
 refine zT fun _ hK14 => ?_
 refine rm rfl G12 fun _ F15 => ?_
 refine rn rfl rfl F15 rfl (.int .i64 (F : Int)) (y_subI _ _ _ _ rfl (F15.get rfl) rfl (by omega) (by omega)) fun _ F16 => ?_
 refine rn rfl rfl F16 rfl (.bool false) (zya _ _ _ _ rfl (F16.get rfl) rfl (decide_eq_false (by omega))) fun _ F17 => ?_
 refine hK14 _ _ (wp_cond_false (F17.get rfl) ?_)
 refine wp_skip ?_
 refine hK13 _ _ (zS fun _ hK18 => ?_)
 refine zT fun _ hK19 => ?_
 refine zB 5 [(0, .pointer (some ⟨g, 0, none⟩)), (2, .pointer (some ⟨g2, 0, none⟩)), (3, .bool false), (4, .int .i64 ((2 + F : Nat) : Int)), (44, .int .i64 ((2 + F : Nat) : Int)), (48, u)] [0] (zj (M12.blk (k := 0) rfl) dnil) [g] F17 fun _ F20 => ?_
 refine rn rfl rfl F20 rfl (.int .i64 (l.length : Int)) (z9 _ rfl (F20.get rfl) (M12.isb (k := 1) rfl) rfl) fun _ F21 => ?_
 refine rn rfl rfl F21 rfl (.bool true) (zya _ _ _ _ rfl (F21.get rfl) (F21.get rfl) (decide_eq_true (by omega))) fun _ F22 => ?_
 refine hK19 _ _ (wp_cond_true (F22.get rfl) ?_)
 refine zT fun _ hK23 => ?_
 refine rn rfl rfl F22 rfl (.agg (msgA ⟨0, 0, 0, 0, "".toUTF8, 0, 0, [], [], [], [], []⟩ ⟨zN, zN, zN, zN, zN⟩)) (by unfold execOp; kernel_rfl) fun _ F24 => ?_
 refine zn (za rfl) rfl F24 M12 (k := 2) rfl _ _ _ rfl (F24.get rfl) (F24.get rfl) (msgA ⟨0, 0, 0, 0, "".toUTF8, 0, 0, [], [], [], [], []⟩ ⟨zN, zN, zN, zN, zN⟩) _ rfl (zL rfl) (zy (w := w12) ⟨(zc _), (zc _), (zc _), (zc _), (zc _)⟩) (zt rfl) (by kernel_rfl) ?_
 intro w25 M25
 clear M12
 refine rm rfl F24 fun _ F26 => ?_
 refine hK23 _ _ (wp_ret ?_)
 try simp only [Exit.then, Exit.inBlock, Exit.jump]
 exact bodyPost_ret (resCT rfl (F26.get rfl) (M25.blk (k := 2) rfl) (F26.get rfl) Try.underlying29 rfl (by kernel_rfl)) F26.defers ⟨_, rfl, u, M25.close2 (k := k) (q := q) (R := R) rfl rfl (fun _ => rfl) hne, rfl⟩
theorem rnext_no {G : Option Nat} {w0 w : World} {R : List (Nat × Res)} (M0 : Mx G w0 w R) (k q g : Nat) (l : List UInt8) (u : Value) (n : Int) (hk : look R k = some (blkR g 96 #[u, .int .i64 n, .bool false])) (hq : look R q = some (bytR l u)) (hne : k ≠ q) (hl : l.length ≤ 1000000) (k5 k6 k7 k8 k9 : Nat) (x0 x1 : UInt8) (h0 : l[0]? = some x0) (h1 : l[1]? = some x1) (F : Nat) (hF : x0.toNat * 256 + x1.toNat = F) (h2 : 2 ≤ l.length) (hf : F ≤ 200) (hw : 2 + F ≤ l.length) (hD : decOk (l.take (2 + F)) = false) :
  Calls Try.prog 31 #[.pointer (some ⟨g, 0, none⟩)] w fun e w' => ∃ t, e = .returned t ∧ ∃ u' V, Mx G w0 w' ((k9, bytR (decR (l.take (2 + F))).l9 V.v9) :: (k8, bytR (decR (l.take (2 + F))).l8 V.v8) :: (k7, bytR (decR (l.take (2 + F))).l7 V.v7) :: (k6, bytR (decR (l.take (2 + F))).l6 V.v6) :: (k5, bytR (decR (l.take (2 + F))).l5 V.v5) :: (k, blkR g 96 #[u', .int .i64 n, .bool true]) :: (q, bytR l u') :: R) ∧ t = .tuple #[.agg (msgA (decR (l.take (2 + F))) V), .bool false] := by
 have hx0 := x0.toNat_lt
 have hx1 := x1.toNat_lt
 refine zg (args := [.pointer (some ⟨g, 0, none⟩)]) 79 Try.func31 rfl rfl rfl ?_
 intro fa F
 have M := (M0.open2 hk hq hne)
 refine zT fun _ hK1 => ?_
 refine zf (za rfl) rfl F rfl M 2 (t := 29) (c := msgA ⟨0, 0, 0, 0, "".toUTF8, 0, 0, [], [], [], [], []⟩ ⟨zN, zN, zN, zN, zN⟩) (by unfold execOp; kernel_rfl) ?_
 intro g2 a2 w2 F2 M2
 clear F M
 refine rm rfl F2 fun _ F3 => ?_
 refine hK1 _ _ (zS fun _ hK4 => ?_)
 refine zT fun _ hK5 => ?_
 refine zB 9 [(0, .pointer (some ⟨g, 0, none⟩)), (2, .pointer (some ⟨g2, 0, none⟩)), (3, .bool false), (11, .bool false), (15, u)] [0, 0] (zj (M2.blk (k := 0) rfl) dnil) [g, g] F3 fun _ F6 => ?_
 refine ze (w' := w2) (zb rfl rfl rfl (F6.get rfl)) rfl F6 rfl (.int .i64 (l.length : Int)) (z9 _ rfl (F6.get rfl) (M2.isb (k := 1) rfl) rfl) fun _ F7 => ?_
 refine ze (w' := w2) (zb rfl rfl rfl (F7.get rfl)) rfl F7 rfl (.bool false) (zoa _ _ _ _ rfl (F7.get rfl) rfl (decide_eq_false (by omega))) fun _ F8 => ?_
 refine rn rfl rfl F8 rfl (.bool false) (zqa rfl (F8.get rfl) (F8.get rfl)) fun _ F9 => ?_
 refine hK5 _ _ (wp_cond_false (F9.get rfl) ?_)
 refine wp_skip ?_
 refine hK4 _ _ (zS fun _ hK10 => ?_)
 have hD11 := (zj (M2.blk (k := 0) rfl) dnil)
 refine z5a F9 (SK [.inl (.pointer (some ⟨g, 0, none⟩)), .inl (.pointer (some ⟨g, 0, none⟩)), .inl (.pointer (some ⟨g, 0, none⟩)), .inl (u), .inl ((ixV (u) 0)), .inl (.int .u8 ((x0.toNat : Nat) : Int)), .inl (.int .i64 ((x0.toNat : Nat) : Int)), .inl (.int .i64 (((x0.toNat : Nat) : Int) * 256)), .inl (.int .i64 ((2 + x0.toNat * 256 : Nat) : Int)), .inl (.pointer (some ⟨g, 0, none⟩)), .inl (.pointer (some ⟨g, 0, none⟩)), .inl (.pointer (some ⟨g, 0, none⟩)), .inl (u), .inl ((ixV (u) 1)), .inl (.int .u8 ((x1.toNat : Nat) : Int)), .inl (.int .i64 ((x1.toNat : Nat) : Int)), .inl (.int .i64 ((2 + F : Nat) : Int)), .inl (.int .i64 ((2 + F : Nat) : Int))]) 18 rfl (by kernel_rfl) ⟨hop0 F9 (by kernel_rfl), hop0 F9 (by kernel_rfl), hop0 F9 (by kernel_rfl), hopP F9 hD11 0 (some g) (by kernel_rfl), ?_, ?_, ?_, ?_, ?_, hop0 F9 (by kernel_rfl), hop0 F9 (by kernel_rfl), hop0 F9 (by kernel_rfl), hopP F9 hD11 0 (some g) (by kernel_rfl), ?_, ?_, ?_, ?_, hop0 F9 (by kernel_rfl), trivial⟩ ?_
 ·intro ua uw hb hd
  have e23 : ua.eval (.tmp 23) = u := hd 23 (by decide)
  exact zk (F := (StK.eq ((ixV (u) 0))).F) (za rfl) ((ixV (u) 0)) (zgb _ _ rfl e23 ((M2.step hb).isb (k := 1) rfl) rfl rfl (by omega)) rfl
 ·intro ua uw hb hd
  have e24 : ua.eval (.tmp 24) = (ixV (u) 0) := hd 24 (by decide)
  exact zk (F := (StK.eq (.int .u8 ((x0.toNat : Nat) : Int))).F) (za rfl) (.int .u8 ((x0.toNat : Nat) : Int)) (zvb _ rfl e24 ((M2.step hb).isb (k := 1) rfl) h0 rfl) rfl
 ·intro ua uw hb hd
  have e25 : ua.eval (.tmp 25) = .int .u8 ((x0.toNat : Nat) : Int) := hd 25 (by decide)
  exact zk (F := (StK.eq (.int .i64 ((x0.toNat : Nat) : Int))).F) (za rfl) (.int .i64 ((x0.toNat : Nat) : Int)) (zxa _ _ _ rfl e25 Try.underlying5 Try.underlying3 (zta _)) rfl
 ·intro ua uw hb hd
  have e26 : ua.eval (.tmp 26) = .int .i64 ((x0.toNat : Nat) : Int) := hd 26 (by decide)
  exact zk (F := (StK.eq (.int .i64 (((x0.toNat : Nat) : Int) * 256))).F) (za rfl) (.int .i64 (((x0.toNat : Nat) : Int) * 256)) (y_shlI _ _ _ _ rfl e26 rfl (by decide) (shl8 (by omega))) rfl
 ·intro ua uw hb hd
  have e27 : ua.eval (.tmp 27) = .int .i64 (((x0.toNat : Nat) : Int) * 256) := hd 27 (by decide)
  exact zk (F := (StK.eq (.int .i64 ((2 + x0.toNat * 256 : Nat) : Int))).F) (za rfl) (.int .i64 ((2 + x0.toNat * 256 : Nat) : Int)) (zz _ _ _ _ rfl rfl e27 (by omega) (by omega)) rfl
 ·intro ua uw hb hd
  have e32 : ua.eval (.tmp 32) = u := hd 32 (by decide)
  exact zk (F := (StK.eq ((ixV (u) 1))).F) (za rfl) ((ixV (u) 1)) (zgb _ _ rfl e32 ((M2.step hb).isb (k := 1) rfl) rfl rfl (by omega)) rfl
 ·intro ua uw hb hd
  have e33 : ua.eval (.tmp 33) = (ixV (u) 1) := hd 33 (by decide)
  exact zk (F := (StK.eq (.int .u8 ((x1.toNat : Nat) : Int))).F) (za rfl) (.int .u8 ((x1.toNat : Nat) : Int)) (zvb _ rfl e33 ((M2.step hb).isb (k := 1) rfl) h1 rfl) rfl
 ·intro ua uw hb hd
  have e34 : ua.eval (.tmp 34) = .int .u8 ((x1.toNat : Nat) : Int) := hd 34 (by decide)
  exact zk (F := (StK.eq (.int .i64 ((x1.toNat : Nat) : Int))).F) (za rfl) (.int .i64 ((x1.toNat : Nat) : Int)) (zxa _ _ _ rfl e34 Try.underlying5 Try.underlying3 (zta _)) rfl
 ·intro ua uw hb hd
  have e28 : ua.eval (.tmp 28) = .int .i64 ((2 + x0.toNat * 256 : Nat) : Int) := hd 28 (by decide)
  have e35 : ua.eval (.tmp 35) = .int .i64 ((x1.toNat : Nat) : Int) := hd 35 (by decide)
  exact zk (F := (StK.eq (.int .i64 ((2 + F : Nat) : Int))).F) (za rfl) (.int .i64 ((2 + F : Nat) : Int)) (zz _ _ _ _ rfl e28 e35 (by omega) (by omega)) rfl
 intro p12 a12 w12 b12 G12 y12
 obtain ⟨-, -, -, -, -, -, -, -, -, -, -, -, -, -, -, -, -, q17, -⟩ := y12
 have r17 : p12 17 = .int .i64 ((2 + F : Nat) : Int) := q17 (by decide)
 simp only [List.take, layV, Nat.zero_add, Nat.reduceAdd, r17] at G12
 have M12 := M2.kc b12
 clear F9 M2 r17 q17
 refine hK10 _ _ (zS fun _ hK13 => ?_)
 refine zT fun _ hK14 => ?_
 refine rm rfl G12 fun _ F15 => ?_
 refine rn rfl rfl F15 rfl (.int .i64 (F : Int)) (y_subI _ _ _ _ rfl (F15.get rfl) rfl (by omega) (by omega)) fun _ F16 => ?_
 refine rn rfl rfl F16 rfl (.bool false) (zya _ _ _ _ rfl (F16.get rfl) rfl (decide_eq_false (by omega))) fun _ F17 => ?_
 refine hK14 _ _ (wp_cond_false (F17.get rfl) ?_)
 refine wp_skip ?_
 refine hK13 _ _ (zS fun _ hK18 => ?_)
 refine zT fun _ hK19 => ?_
 refine zB 5 [(0, .pointer (some ⟨g, 0, none⟩)), (2, .pointer (some ⟨g2, 0, none⟩)), (3, .bool false), (4, .int .i64 ((2 + F : Nat) : Int)), (44, .int .i64 ((2 + F : Nat) : Int)), (48, u)] [0] (zj (M12.blk (k := 0) rfl) dnil) [g] F17 fun _ F20 => ?_
 refine rn rfl rfl F20 rfl (.int .i64 (l.length : Int)) (z9 _ rfl (F20.get rfl) (M12.isb (k := 1) rfl) rfl) fun _ F21 => ?_
 refine rn rfl rfl F21 rfl (.bool false) (zya _ _ _ _ rfl (F21.get rfl) (F21.get rfl) (decide_eq_false (by omega))) fun _ F22 => ?_
 refine hK19 _ _ (wp_cond_false (F22.get rfl) ?_)
 refine wp_skip ?_
 refine hK18 _ _ (zS fun _ hK23 => ?_)
 refine zR ?_
 refine zB 5 [(0, .pointer (some ⟨g, 0, none⟩)), (2, .pointer (some ⟨g2, 0, none⟩)), (3, .bool false), (4, .int .i64 ((2 + F : Nat) : Int)), (56, u), (57, .int .i64 ((2 + F : Nat) : Int))] [0] (zj (M12.blk (k := 0) rfl) dnil) [g] F22 fun _ F24 => ?_
 refine z9a (za rfl) rfl F24 rfl (z8b _ _ rfl (F24.get rfl) (M12.isb (k := 1) rfl) (F24.get rfl) (j := (2 + F)) rfl (by omega)) ?_
 intro v25 a25 h25 F25
 have M25 := M12.partB 3 (k := 1) rfl h25.1 h25.2
 clear M12
 obtain ⟨A25, c25, rfl⟩ := (M25.isb (k := 3) rfl).shape
 refine zd (za rfl) rfl F25 rfl rfl (zE Try.func23 rfl) #[.slice A25 ((l.take (2 + F))).length c25] (zp (F25.get rfl)) (hD ▸ rdecode_ex (l.take (2 + F)) (.slice A25 ((l.take (2 + F))).length c25) (by simp only [List.length_take]; omega) w12 (M25.isb (k := 3) rfl)) ?_
 rintro _ w26 a26 ⟨V26, rfl, is26, lo26, b26⟩ F26
 have M26 := M25.newMsg b26 is26 lo26 5 6 7 8 9
 clear M25
 refine zA 3 [(52, .tuple #[.agg (msgA (decR (l.take (2 + F))) V26), .bool false]), (60, .agg (msgA (decR (l.take (2 + F))) V26)), (61, .bool false)] [] dnil [] F26 fun _ F27 => ?_
 refine zf (za rfl) rfl F27 rfl M26 3 (t := 29) (c := msgA ⟨0, 0, 0, 0, "".toUTF8, 0, 0, [], [], [], [], []⟩ ⟨zN, zN, zN, zN, zN⟩) (by unfold execOp; kernel_rfl) ?_
 intro g28 a28 w28 F28 M28
 clear F27 M26
 refine zn (za rfl) rfl F28 M28 (k := 3) rfl _ _ _ rfl (F28.get rfl) (F28.get rfl) (msgA (decR (l.take (2 + F))) V26) _ rfl (zL rfl) (zy is26) (zt rfl) (by kernel_rfl) ?_
 intro w29 M29
 clear M28
 refine rm rfl F28 fun _ F30 => ?_
 refine hK23 _ _ (zS fun _ hK31 => ?_)
 refine zR ?_
 refine zA 5 [(62, .pointer (some ⟨g, 0, none⟩)), (63, .bool false), (64, .bool true), (65, .pointer (some ⟨g, 0, none⟩)), (66, .pointer (some ⟨g, 2, none⟩))] [] dnil [] F30 fun _ F32 => ?_
 refine zn (za rfl) rfl F32 M29 (k := 0) rfl _ _ _ rfl (F32.get rfl) (F32.get rfl) (#[.bool true]) (#[u, .int .i64 n, .bool true]) rfl (zL rfl) (by simp [Value.oneCell']) (by kernel_rfl) (by kernel_rfl) ?_
 intro w33 M33
 clear M29
 refine hK31 _ _ (zS fun _ hK34 => ?_)
 refine zT fun _ hK35 => ?_
 refine rm rfl F32 fun _ F36 => ?_
 refine hK35 _ _ (wp_cond_false (F36.get rfl) ?_)
 refine wp_skip ?_
 refine hK34 _ _ (zS fun _ hK37 => ?_)
 refine zR ?_
 refine rn rfl rfl F36 rfl _ (zja _ _ rfl (F36.get rfl) (M33.blk (k := 3) rfl) (msgA (decR (l.take (2 + F))) V26) (zma rfl) Try.underlying29 rfl (by kernel_rfl)) fun _ F38 => ?_
 refine rm rfl F38 fun _ F39 => ?_
 refine zn (za rfl) rfl F39 M33 (k := 2) rfl _ _ _ rfl (F39.get rfl) (F39.get rfl) (msgA (decR (l.take (2 + F))) V26) _ rfl (zL rfl) (zy is26) (zt rfl) (by kernel_rfl) ?_
 intro w40 M40
 clear M33
 refine rm rfl F39 fun _ F41 => ?_
 refine hK37 _ _ (wp_ret ?_)
 try simp only [Exit.then, Exit.inBlock, Exit.jump]
 have Mr := M40.reT (P' := [(0, blkR g 96 (#[u, .int .i64 n, .bool true])), (1, bytR l u), (3, bytR ((decR (l.take (2 + F))).l5) V26.v5), (4, bytR ((decR (l.take (2 + F))).l6) V26.v6), (5, bytR ((decR (l.take (2 + F))).l7) V26.v7), (6, bytR ((decR (l.take (2 + F))).l8) V26.v8), (7, bytR ((decR (l.take (2 + F))).l9) V26.v9)]) (T := away k q R) ⟨⟨0, rfl, fun _ => rfl⟩, ⟨1, rfl, fun _ => rfl⟩, ⟨5, rfl, fun e => by cases e⟩, ⟨6, rfl, fun e => by cases e⟩, ⟨7, rfl, fun e => by cases e⟩, ⟨8, rfl, fun e => by cases e⟩, ⟨9, rfl, fun e => by cases e⟩, trivial⟩ (look_away_lt R) (fun _ => rfl)
 exact bodyPost_ret (resCT rfl (F41.get rfl) (M40.blk (k := 2) rfl) (F41.get rfl) Try.underlying29 rfl (by kernel_rfl)) F41.defers ⟨_, rfl, u, V26, Mr.close7 (k := k) (q := q) (R := R) k5 k6 k7 k8 k9 rfl rfl rfl rfl rfl rfl rfl (fun _ => rfl), rfl⟩
theorem rnext_ok {G : Option Nat} {w0 w : World} {R : List (Nat × Res)} (M0 : Mx G w0 w R) (k q g : Nat) (l : List UInt8) (u : Value) (n : Int) (hk : look R k = some (blkR g 96 #[u, .int .i64 n, .bool false])) (hq : look R q = some (bytR l u)) (hne : k ≠ q) (hl : l.length ≤ 1000000) (k5 k6 k7 k8 k9 : Nat) (x0 x1 : UInt8) (h0 : l[0]? = some x0) (h1 : l[1]? = some x1) (F : Nat) (hF : x0.toNat * 256 + x1.toNat = F) (h2 : 2 ≤ l.length) (hf : F ≤ 200) (hw : 2 + F ≤ l.length) (hD : decOk (l.take (2 + F)) = true) :
  Calls Try.prog 31 #[.pointer (some ⟨g, 0, none⟩)] w fun e w' => ∃ t, e = .returned t ∧ ∃ u' V, Mx G w0 w' ((k9, bytR (decR (l.take (2 + F))).l9 V.v9) :: (k8, bytR (decR (l.take (2 + F))).l8 V.v8) :: (k7, bytR (decR (l.take (2 + F))).l7 V.v7) :: (k6, bytR (decR (l.take (2 + F))).l6 V.v6) :: (k5, bytR (decR (l.take (2 + F))).l5 V.v5) :: (k, blkR g 96 #[u', .int .i64 n, .bool false]) :: (q, bytR (l.drop (2 + F)) u') :: R) ∧ t = .tuple #[.agg (msgA (decR (l.take (2 + F))) V), .bool true] := by
 have hx0 := x0.toNat_lt
 have hx1 := x1.toNat_lt
 refine zg (args := [.pointer (some ⟨g, 0, none⟩)]) 79 Try.func31 rfl rfl rfl ?_
 intro fa F
 have M := (M0.open2 hk hq hne)
 refine zT fun _ hK1 => ?_
 refine zf (za rfl) rfl F rfl M 2 (t := 29) (c := msgA ⟨0, 0, 0, 0, "".toUTF8, 0, 0, [], [], [], [], []⟩ ⟨zN, zN, zN, zN, zN⟩) (by unfold execOp; kernel_rfl) ?_
 intro g2 a2 w2 F2 M2
 clear F M
 refine rm rfl F2 fun _ F3 => ?_
 refine hK1 _ _ (zS fun _ hK4 => ?_)
 refine zT fun _ hK5 => ?_
 refine zB 9 [(0, .pointer (some ⟨g, 0, none⟩)), (2, .pointer (some ⟨g2, 0, none⟩)), (3, .bool false), (11, .bool false), (15, u)] [0, 0] (zj (M2.blk (k := 0) rfl) dnil) [g, g] F3 fun _ F6 => ?_
 refine ze (w' := w2) (zb rfl rfl rfl (F6.get rfl)) rfl F6 rfl (.int .i64 (l.length : Int)) (z9 _ rfl (F6.get rfl) (M2.isb (k := 1) rfl) rfl) fun _ F7 => ?_
 refine ze (w' := w2) (zb rfl rfl rfl (F7.get rfl)) rfl F7 rfl (.bool false) (zoa _ _ _ _ rfl (F7.get rfl) rfl (decide_eq_false (by omega))) fun _ F8 => ?_
 refine rn rfl rfl F8 rfl (.bool false) (zqa rfl (F8.get rfl) (F8.get rfl)) fun _ F9 => ?_
 refine hK5 _ _ (wp_cond_false (F9.get rfl) ?_)
 refine wp_skip ?_
 refine hK4 _ _ (zS fun _ hK10 => ?_)
 have hD11 := (zj (M2.blk (k := 0) rfl) dnil)
 refine z5a F9 (SK [.inl (.pointer (some ⟨g, 0, none⟩)), .inl (.pointer (some ⟨g, 0, none⟩)), .inl (.pointer (some ⟨g, 0, none⟩)), .inl (u), .inl ((ixV (u) 0)), .inl (.int .u8 ((x0.toNat : Nat) : Int)), .inl (.int .i64 ((x0.toNat : Nat) : Int)), .inl (.int .i64 (((x0.toNat : Nat) : Int) * 256)), .inl (.int .i64 ((2 + x0.toNat * 256 : Nat) : Int)), .inl (.pointer (some ⟨g, 0, none⟩)), .inl (.pointer (some ⟨g, 0, none⟩)), .inl (.pointer (some ⟨g, 0, none⟩)), .inl (u), .inl ((ixV (u) 1)), .inl (.int .u8 ((x1.toNat : Nat) : Int)), .inl (.int .i64 ((x1.toNat : Nat) : Int)), .inl (.int .i64 ((2 + F : Nat) : Int)), .inl (.int .i64 ((2 + F : Nat) : Int))]) 18 rfl (by kernel_rfl) ⟨hop0 F9 (by kernel_rfl), hop0 F9 (by kernel_rfl), hop0 F9 (by kernel_rfl), hopP F9 hD11 0 (some g) (by kernel_rfl), ?_, ?_, ?_, ?_, ?_, hop0 F9 (by kernel_rfl), hop0 F9 (by kernel_rfl), hop0 F9 (by kernel_rfl), hopP F9 hD11 0 (some g) (by kernel_rfl), ?_, ?_, ?_, ?_, hop0 F9 (by kernel_rfl), trivial⟩ ?_
 ·intro ua uw hb hd
  have e23 : ua.eval (.tmp 23) = u := hd 23 (by decide)
  exact zk (F := (StK.eq ((ixV (u) 0))).F) (za rfl) ((ixV (u) 0)) (zgb _ _ rfl e23 ((M2.step hb).isb (k := 1) rfl) rfl rfl (by omega)) rfl
 ·intro ua uw hb hd
  have e24 : ua.eval (.tmp 24) = (ixV (u) 0) := hd 24 (by decide)
  exact zk (F := (StK.eq (.int .u8 ((x0.toNat : Nat) : Int))).F) (za rfl) (.int .u8 ((x0.toNat : Nat) : Int)) (zvb _ rfl e24 ((M2.step hb).isb (k := 1) rfl) h0 rfl) rfl
 ·intro ua uw hb hd
  have e25 : ua.eval (.tmp 25) = .int .u8 ((x0.toNat : Nat) : Int) := hd 25 (by decide)
  exact zk (F := (StK.eq (.int .i64 ((x0.toNat : Nat) : Int))).F) (za rfl) (.int .i64 ((x0.toNat : Nat) : Int)) (zxa _ _ _ rfl e25 Try.underlying5 Try.underlying3 (zta _)) rfl
 ·intro ua uw hb hd
  have e26 : ua.eval (.tmp 26) = .int .i64 ((x0.toNat : Nat) : Int) := hd 26 (by decide)
  exact zk (F := (StK.eq (.int .i64 (((x0.toNat : Nat) : Int) * 256))).F) (za rfl) (.int .i64 (((x0.toNat : Nat) : Int) * 256)) (y_shlI _ _ _ _ rfl e26 rfl (by decide) (shl8 (by omega))) rfl
 ·intro ua uw hb hd
  have e27 : ua.eval (.tmp 27) = .int .i64 (((x0.toNat : Nat) : Int) * 256) := hd 27 (by decide)
  exact zk (F := (StK.eq (.int .i64 ((2 + x0.toNat * 256 : Nat) : Int))).F) (za rfl) (.int .i64 ((2 + x0.toNat * 256 : Nat) : Int)) (zz _ _ _ _ rfl rfl e27 (by omega) (by omega)) rfl
 ·intro ua uw hb hd
  have e32 : ua.eval (.tmp 32) = u := hd 32 (by decide)
  exact zk (F := (StK.eq ((ixV (u) 1))).F) (za rfl) ((ixV (u) 1)) (zgb _ _ rfl e32 ((M2.step hb).isb (k := 1) rfl) rfl rfl (by omega)) rfl
 ·intro ua uw hb hd
  have e33 : ua.eval (.tmp 33) = (ixV (u) 1) := hd 33 (by decide)
  exact zk (F := (StK.eq (.int .u8 ((x1.toNat : Nat) : Int))).F) (za rfl) (.int .u8 ((x1.toNat : Nat) : Int)) (zvb _ rfl e33 ((M2.step hb).isb (k := 1) rfl) h1 rfl) rfl
 ·intro ua uw hb hd
  have e34 : ua.eval (.tmp 34) = .int .u8 ((x1.toNat : Nat) : Int) := hd 34 (by decide)
  exact zk (F := (StK.eq (.int .i64 ((x1.toNat : Nat) : Int))).F) (za rfl) (.int .i64 ((x1.toNat : Nat) : Int)) (zxa _ _ _ rfl e34 Try.underlying5 Try.underlying3 (zta _)) rfl
 ·intro ua uw hb hd
  have e28 : ua.eval (.tmp 28) = .int .i64 ((2 + x0.toNat * 256 : Nat) : Int) := hd 28 (by decide)
  have e35 : ua.eval (.tmp 35) = .int .i64 ((x1.toNat : Nat) : Int) := hd 35 (by decide)
  exact zk (F := (StK.eq (.int .i64 ((2 + F : Nat) : Int))).F) (za rfl) (.int .i64 ((2 + F : Nat) : Int)) (zz _ _ _ _ rfl e28 e35 (by omega) (by omega)) rfl
 intro p12 a12 w12 b12 G12 y12
 obtain ⟨-, -, -, -, -, -, -, -, -, -, -, -, -, -, -, -, -, q17, -⟩ := y12
 have r17 : p12 17 = .int .i64 ((2 + F : Nat) : Int) := q17 (by decide)
 simp only [List.take, layV, Nat.zero_add, Nat.reduceAdd, r17] at G12
 have M12 := M2.kc b12
 clear F9 M2 r17 q17
 refine hK10 _ _ (zS fun _ hK13 => ?_)
 refine zT fun _ hK14 => ?_
 refine rm rfl G12 fun _ F15 => ?_
 refine rn rfl rfl F15 rfl (.int .i64 (F : Int)) (y_subI _ _ _ _ rfl (F15.get rfl) rfl (by omega) (by omega)) fun _ F16 => ?_
 refine rn rfl rfl F16 rfl (.bool false) (zya _ _ _ _ rfl (F16.get rfl) rfl (decide_eq_false (by omega))) fun _ F17 => ?_
 refine hK14 _ _ (wp_cond_false (F17.get rfl) ?_)
 refine wp_skip ?_
 refine hK13 _ _ (zS fun _ hK18 => ?_)
 refine zT fun _ hK19 => ?_
 refine zB 5 [(0, .pointer (some ⟨g, 0, none⟩)), (2, .pointer (some ⟨g2, 0, none⟩)), (3, .bool false), (4, .int .i64 ((2 + F : Nat) : Int)), (44, .int .i64 ((2 + F : Nat) : Int)), (48, u)] [0] (zj (M12.blk (k := 0) rfl) dnil) [g] F17 fun _ F20 => ?_
 refine rn rfl rfl F20 rfl (.int .i64 (l.length : Int)) (z9 _ rfl (F20.get rfl) (M12.isb (k := 1) rfl) rfl) fun _ F21 => ?_
 refine rn rfl rfl F21 rfl (.bool false) (zya _ _ _ _ rfl (F21.get rfl) (F21.get rfl) (decide_eq_false (by omega))) fun _ F22 => ?_
 refine hK19 _ _ (wp_cond_false (F22.get rfl) ?_)
 refine wp_skip ?_
 refine hK18 _ _ (zS fun _ hK23 => ?_)
 refine zR ?_
 refine zB 5 [(0, .pointer (some ⟨g, 0, none⟩)), (2, .pointer (some ⟨g2, 0, none⟩)), (3, .bool false), (4, .int .i64 ((2 + F : Nat) : Int)), (56, u), (57, .int .i64 ((2 + F : Nat) : Int))] [0] (zj (M12.blk (k := 0) rfl) dnil) [g] F22 fun _ F24 => ?_
 refine z9a (za rfl) rfl F24 rfl (z8b _ _ rfl (F24.get rfl) (M12.isb (k := 1) rfl) (F24.get rfl) (j := (2 + F)) rfl (by omega)) ?_
 intro v25 a25 h25 F25
 have M25 := M12.partB 3 (k := 1) rfl h25.1 h25.2
 clear M12
 obtain ⟨A25, c25, rfl⟩ := (M25.isb (k := 3) rfl).shape
 refine zd (za rfl) rfl F25 rfl rfl (zE Try.func23 rfl) #[.slice A25 ((l.take (2 + F))).length c25] (zp (F25.get rfl)) (hD ▸ rdecode_ex (l.take (2 + F)) (.slice A25 ((l.take (2 + F))).length c25) (by simp only [List.length_take]; omega) w12 (M25.isb (k := 3) rfl)) ?_
 rintro _ w26 a26 ⟨V26, rfl, is26, lo26, b26⟩ F26
 have M26 := M25.newMsg b26 is26 lo26 5 6 7 8 9
 clear M25
 refine zA 3 [(52, .tuple #[.agg (msgA (decR (l.take (2 + F))) V26), .bool true]), (60, .agg (msgA (decR (l.take (2 + F))) V26)), (61, .bool true)] [] dnil [] F26 fun _ F27 => ?_
 refine zf (za rfl) rfl F27 rfl M26 3 (t := 29) (c := msgA ⟨0, 0, 0, 0, "".toUTF8, 0, 0, [], [], [], [], []⟩ ⟨zN, zN, zN, zN, zN⟩) (by unfold execOp; kernel_rfl) ?_
 intro g28 a28 w28 F28 M28
 clear F27 M26
 refine zn (za rfl) rfl F28 M28 (k := 3) rfl _ _ _ rfl (F28.get rfl) (F28.get rfl) (msgA (decR (l.take (2 + F))) V26) _ rfl (zL rfl) (zy is26) (zt rfl) (by kernel_rfl) ?_
 intro w29 M29
 clear M28
 refine rm rfl F28 fun _ F30 => ?_
 refine hK23 _ _ (zS fun _ hK31 => ?_)
 refine zR ?_
 refine zA 5 [(62, .pointer (some ⟨g, 0, none⟩)), (63, .bool true), (64, .bool false), (65, .pointer (some ⟨g, 0, none⟩)), (66, .pointer (some ⟨g, 2, none⟩))] [] dnil [] F30 fun _ F32 => ?_
 refine zn (za rfl) rfl F32 M29 (k := 0) rfl _ _ _ rfl (F32.get rfl) (F32.get rfl) (#[.bool false]) (#[u, .int .i64 n, .bool false]) rfl (zL rfl) (by simp [Value.oneCell']) (by kernel_rfl) (by kernel_rfl) ?_
 intro w33 M33
 clear M29
 refine hK31 _ _ (zS fun _ hK34 => ?_)
 refine zT fun _ hK35 => ?_
 refine rm rfl F32 fun _ F36 => ?_
 refine hK35 _ _ (wp_cond_true (F36.get rfl) ?_)
 refine zR ?_
 refine zB 6 [(2, .pointer (some ⟨g2, 0, none⟩)), (3, .bool false), (5, .pointer (some ⟨g28, 0, none⟩)), (6, .bool true), (68, .pointer (some ⟨g, 0, none⟩)), (72, u), (73, .int .i64 ((2 + F : Nat) : Int))] [0] (zj (M33.blk (k := 0) rfl) dnil) [g] F36 fun _ F37 => ?_
 refine z9a (za rfl) rfl F37 rfl (y_slFrom _ _ rfl (F37.get rfl) (M33.isb (k := 1) rfl) (F37.get rfl) (i := (2 + F)) rfl (by omega)) ?_
 intro v38 a38 h38 F38
 have M38 := M33.partB 4 (k := 1) rfl h38.1 h38.2
 clear M33
 obtain ⟨A38, c38, rfl⟩ := (M38.isb (k := 4) rfl).shape
 refine zA 2 [(75, .pointer (some ⟨g, 0, none⟩)), (76, .pointer (some ⟨g, 0, none⟩))] [] dnil [] F38 fun _ F39 => ?_
 refine zn (za rfl) rfl F39 M38 (k := 0) rfl _ _ _ rfl (F39.get rfl) (F39.get rfl) (#[.slice A38 ((l.drop (2 + F))).length c38]) (#[.slice A38 ((l.drop (2 + F))).length c38, .int .i64 n, .bool false]) rfl (zL rfl) (zmb rfl) (by kernel_rfl) (by kernel_rfl) ?_
 intro w40 M40
 clear M38
 refine hK34 _ _ (zS fun _ hK41 => ?_)
 refine zR ?_
 refine rn rfl rfl F39 rfl _ (zja _ _ rfl (F39.get rfl) (M40.blk (k := 3) rfl) (msgA (decR (l.take (2 + F))) V26) (zma rfl) Try.underlying29 rfl (by kernel_rfl)) fun _ F42 => ?_
 refine rm rfl F42 fun _ F43 => ?_
 refine zn (za rfl) rfl F43 M40 (k := 2) rfl _ _ _ rfl (F43.get rfl) (F43.get rfl) (msgA (decR (l.take (2 + F))) V26) _ rfl (zL rfl) (zy is26) (zt rfl) (by kernel_rfl) ?_
 intro w44 M44
 clear M40
 refine rm rfl F43 fun _ F45 => ?_
 refine hK41 _ _ (wp_ret ?_)
 try simp only [Exit.then, Exit.inBlock, Exit.jump]
 have Mq := M44.partB 1 (k := 4) rfl (M44.isb (k := 4) rfl) (fun _ h => h)
 have Mr := Mq.reT (P' := [(0, blkR g 96 (#[.slice A38 ((l.drop (2 + F))).length c38, .int .i64 n, .bool false])), (1, bytR (l.drop (2 + F)) (.slice A38 ((l.drop (2 + F))).length c38)), (3, bytR ((decR (l.take (2 + F))).l5) V26.v5), (4, bytR ((decR (l.take (2 + F))).l6) V26.v6), (5, bytR ((decR (l.take (2 + F))).l7) V26.v7), (6, bytR ((decR (l.take (2 + F))).l8) V26.v8), (7, bytR ((decR (l.take (2 + F))).l9) V26.v9)]) (T := away k q R) ⟨⟨0, rfl, fun _ => rfl⟩, ⟨1, rfl, fun _ => rfl⟩, ⟨5, rfl, fun e => by cases e⟩, ⟨6, rfl, fun e => by cases e⟩, ⟨7, rfl, fun e => by cases e⟩, ⟨8, rfl, fun e => by cases e⟩, ⟨9, rfl, fun e => by cases e⟩, trivial⟩ (look_away_lt R) (fun _ => rfl)
 exact bodyPost_ret (resCT rfl (F45.get rfl) (M44.blk (k := 2) rfl) (F45.get rfl) Try.underlying29 rfl (by kernel_rfl)) F45.defers ⟨_, rfl, (.slice A38 ((l.drop (2 + F))).length c38), V26, Mr.close7 (k := k) (q := q) (R := R) k5 k6 k7 k8 k9 rfl rfl rfl rfl rfl rfl rfl (fun _ => rfl), rfl⟩
end Go.Proofs.Ytlbkogdmojlpmaa
namespace Go.Proofs.Ytlbkogdmojlpmaa
open Go.ChangeShapes Go.WideShapes Go.ChangeAt Go.RowKit
def wrOk (n : Int) (b : Bool) : Bool := !b && decide (n < 100000)
def wrL (ok : Bool) (l c : List UInt8) : List UInt8 := cond ok (l ++ c) []
def wrR (ok : Bool) (l c : List UInt8) : List UInt8 := cond ok (l ++ c) l
def wrN (ok : Bool) (n : Int) (c : List UInt8) : Int := cond ok (n + (c.length : Int)) n
def nxF (l : List UInt8) : Nat := (l.getD 0 0).toNat * 256 + (l.getD 1 0).toNat
noncomputable def nxOk (l : List UInt8) : Bool := decide (2 ≤ l.length) && decide (nxF l ≤ 200) && decide (2 + nxF l ≤ l.length) && decOk (l.take (2 + nxF l))
noncomputable def nxM (l : List UInt8) : MsgN := cond (nxOk l) (decR (l.take (2 + nxF l))) mZero
noncomputable def nxBad (l : List UInt8) : Bool := decide (2 ≤ l.length) && (decide (200 < nxF l) || (decide (2 + nxF l ≤ l.length) && !decOk (l.take (2 + nxF l))))
noncomputable def nxL (l : List UInt8) : List UInt8 := cond (nxOk l) (l.drop (2 + nxF l)) (cond (nxBad l) [] l)
noncomputable def nxR (l : List UInt8) : List UInt8 := cond (nxOk l) (l.drop (2 + nxF l)) l
theorem nx_short {l : List UInt8} (h : l.length < 2) : nxOk l = false ∧ nxBad l = false := by
  unfold nxOk nxBad
  rw [decide_eq_false (show ¬ 2 ≤ l.length by omega)]; exact ⟨rfl, rfl⟩
theorem nx_over {l : List UInt8} (h2 : 2 ≤ l.length) (h : 200 < nxF l) : nxOk l = false ∧ nxBad l = true := by
  unfold nxOk nxBad
  rw [decide_eq_true h2, decide_eq_true h, decide_eq_false (show ¬ nxF l ≤ 200 by omega)]; exact ⟨rfl, rfl⟩
theorem nx_wait {l : List UInt8} (h2 : 2 ≤ l.length) (h : nxF l ≤ 200) (hw : l.length < 2 + nxF l) : nxOk l = false ∧ nxBad l = false := by
  unfold nxOk nxBad
  rw [decide_eq_true h2, decide_eq_false (show ¬ 200 < nxF l by omega), decide_eq_true h, decide_eq_false (show ¬ 2 + nxF l ≤ l.length by omega)]; exact ⟨rfl, rfl⟩
theorem nx_whole {l : List UInt8} (h2 : 2 ≤ l.length) (h : nxF l ≤ 200) (hw : 2 + nxF l ≤ l.length) : nxOk l = decOk (l.take (2 + nxF l)) ∧ nxBad l = !decOk (l.take (2 + nxF l)) := by
  unfold nxOk nxBad
  rw [decide_eq_true h2, decide_eq_false (show ¬ 200 < nxF l by omega), decide_eq_true h, decide_eq_true hw]; exact ⟨rfl, rfl⟩
theorem nxF_is {l : List UInt8} (h2 : 2 ≤ l.length) : ∃ x0 x1, l[0]? = some x0 ∧ l[1]? = some x1 ∧ x0.toNat * 256 + x1.toNat = nxF l := by
  obtain ⟨x0, h0⟩ : ∃ x, l[0]? = some x := ⟨_, List.getElem?_eq_getElem (by omega)⟩
  obtain ⟨x1, h1⟩ : ∃ x, l[1]? = some x := ⟨_, List.getElem?_eq_getElem (by omega)⟩
  exact ⟨x0, x1, h0, h1, by rw [nxF, getD_of h0, getD_of h1]⟩
theorem Mx.five {G : Option Nat} {w0 w : World} {R : List (Nat × Res)} (M : Mx G w0 w R) (k5 k6 k7 k8 k9 : Nat) : Mx G w0 w ((k9, bytR mZero.l9 vZero.v9) :: (k8, bytR mZero.l8 vZero.v8) :: (k7, bytR mZero.l7 vZero.v7) :: (k6, bytR mZero.l6 vZero.v6) :: (k5, bytR mZero.l5 vZero.v5) :: R) :=
  ((((M.nilB k5).nilB k6).nilB k7).nilB k8).nilB k9
theorem swrite_any {G : Option Nat} {w0 w : World} {R : List (Nat × Res)} (M0 : Mx G w0 w R) (k q kb g : Nat) (l c : List UInt8) (u v : Value) (n : Int) (b : Bool) (hk : look R k = some (blkR g 94 #[u, .int .i64 n, .bool b])) (hq : look R q = some (tlR l u)) (hb : look R kb = some (bytR c v)) (hne : k ≠ q) (hnb : ¬ (kb = k ∨ kb = q))
    (hl : l.length + c.length ≤ 1000000) (hnn : 0 ≤ n ∧ n ≤ 1000000) (ok : Bool) (hok : wrOk n b = ok) :
    Calls Try.prog 28 #[.pointer (some ⟨g, 0, none⟩), v] w fun e w' => ∃ t, e = .returned t ∧ ∃ u', Mx G w0 w' ((k, blkR g 94 #[u', .int .i64 (wrN ok n c), .bool (!ok)]) :: (q, tlR (wrL ok l c) u') :: R) ∧ t = .bool ok := by
  subst hok
  cases b with
  | true => exact swrite_bad M0 k q kb g l c u v n hk hq hb hne hnb hl hnn
  | false =>
    by_cases h : 100000 ≤ n
    · rw [show wrOk n false = false from by unfold wrOk; rw [decide_eq_false (by omega)]; rfl]
      exact swrite_big M0 k q kb g l c u v n hk hq hb hne hnb hl hnn h
    · rw [show wrOk n false = true from by unfold wrOk; rw [decide_eq_true (by omega)]; rfl]
      exact swrite_ok M0 k q kb g l c u v n hk hq hb hne hnb hl hnn h
theorem rwrite_any {G : Option Nat} {w0 w : World} {R : List (Nat × Res)} (M0 : Mx G w0 w R) (k q kb g : Nat) (l c : List UInt8) (u v : Value) (n : Int) (b : Bool) (hk : look R k = some (blkR g 96 #[u, .int .i64 n, .bool b])) (hq : look R q = some (bytR l u)) (hb : look R kb = some (bytR c v)) (hne : k ≠ q) (hnb : ¬ (kb = k ∨ kb = q))
    (hl : l.length + c.length ≤ 1000000) (hnn : 0 ≤ n ∧ n ≤ 1000000) (ok : Bool) (hok : wrOk n b = ok) :
    Calls Try.prog 29 #[.pointer (some ⟨g, 0, none⟩), v] w fun e w' => ∃ t, e = .returned t ∧ ∃ u', Mx G w0 w' ((k, blkR g 96 #[u', .int .i64 (wrN ok n c), .bool (!ok)]) :: (q, bytR (wrR ok l c) u') :: R) ∧ t = .bool ok := by
  subst hok
  cases b with
  | true => exact rwrite_bad M0 k q kb g l c u v n hk hq hb hne hnb hl hnn
  | false =>
    by_cases h : 100000 ≤ n
    · rw [show wrOk n false = false from by unfold wrOk; rw [decide_eq_false (by omega)]; rfl]
      exact rwrite_big M0 k q kb g l c u v n hk hq hb hne hnb hl hnn h
    · rw [show wrOk n false = true from by unfold wrOk; rw [decide_eq_true (by omega)]; rfl]
      exact rwrite_ok M0 k q kb g l c u v n hk hq hb hne hnb hl hnn h
theorem next_any {G : Option Nat} {w0 w : World} {R : List (Nat × Res)} (M0 : Mx G w0 w R) (k q g : Nat) (l : List UInt8) (u : Value) (n : Int) (b : Bool) (hk : look R k = some (blkR g 94 #[u, .int .i64 n, .bool b])) (hq : look R q = some (tlR l u)) (hne : k ≠ q) (hl : l.length ≤ 1000000) (k5 k6 k7 k8 k9 : Nat) :
    Calls Try.prog 30 #[.pointer (some ⟨g, 0, none⟩)] w fun e w' => ∃ t, e = .returned t ∧ ∃ u' V, Mx G w0 w' ((k9, bytR (nxM l).l9 V.v9) :: (k8, bytR (nxM l).l8 V.v8) :: (k7, bytR (nxM l).l7 V.v7) :: (k6, bytR (nxM l).l6 V.v6) :: (k5, bytR (nxM l).l5 V.v5) :: (k, blkR g 94 #[u', .int .i64 n, .bool (b || nxBad l)]) :: (q, tlR (nxL l) u') :: R) ∧ t = .tuple #[.agg (msgA (nxM l) V), .bool (nxOk l)] := by
  by_cases h2 : l.length < 2
  · obtain ⟨e1, e2⟩ := nx_short h2
    refine (next_short M0 k q g l u n b hk hq hne hl h2).mono fun e w' ⟨t, h1, u', M, ht⟩ => ⟨t, h1, u', vZero, ?_, ?_⟩
    · rw [show nxM l = mZero from by rw [nxM, e1]; rfl, show nxL l = l from by rw [nxL, e1, e2]; rfl, e2, Bool.or_false]; exact M.five k5 k6 k7 k8 k9
    · rw [show nxM l = mZero from by rw [nxM, e1]; rfl, e1]; exact ht
  · have h2 : 2 ≤ l.length := by omega
    obtain ⟨x0, x1, hx0, hx1, hF⟩ := nxF_is h2
    by_cases hf : 200 < nxF l
    · obtain ⟨e1, e2⟩ := nx_over h2 hf
      refine (next_over M0 k q g l u n b hk hq hne hl x0 x1 hx0 hx1 (nxF l) hF h2 hf).mono fun e w' ⟨t, h1, u', M, ht⟩ => ⟨t, h1, u', vZero, ?_, ?_⟩
      · rw [show nxM l = mZero from by rw [nxM, e1]; rfl, show nxL l = [] from by rw [nxL, e1, e2]; rfl, e2, Bool.or_true]; exact M.five k5 k6 k7 k8 k9
      · rw [show nxM l = mZero from by rw [nxM, e1]; rfl, e1]; exact ht
    · have hf : nxF l ≤ 200 := by omega
      by_cases hw : l.length < 2 + nxF l
      · obtain ⟨e1, e2⟩ := nx_wait h2 hf hw
        refine (next_wait M0 k q g l u n b hk hq hne hl x0 x1 hx0 hx1 (nxF l) hF h2 hf hw).mono fun e w' ⟨t, h1, u', M, ht⟩ => ⟨t, h1, u', vZero, ?_, ?_⟩
        · rw [show nxM l = mZero from by rw [nxM, e1]; rfl, show nxL l = l from by rw [nxL, e1, e2]; rfl, e2, Bool.or_false]; exact M.five k5 k6 k7 k8 k9
        · rw [show nxM l = mZero from by rw [nxM, e1]; rfl, e1]; exact ht
      · have hw : 2 + nxF l ≤ l.length := by omega
        obtain ⟨e1, e2⟩ := nx_whole h2 hf hw
        cases hD : decOk (l.take (2 + nxF l)) with
        | true =>
          rw [hD] at e1 e2
          refine (next_ok M0 k q g l u n b hk hq hne hl k5 k6 k7 k8 k9 x0 x1 hx0 hx1 (nxF l) hF h2 hf hw hD).mono fun e w' ⟨t, h1, u', V, M, ht⟩ => ⟨t, h1, u', V, ?_, ?_⟩
          · rw [show nxM l = decR (l.take (2 + nxF l)) from by rw [nxM, e1]; rfl, show nxL l = l.drop (2 + nxF l) from by rw [nxL, e1]; rfl, e2, Bool.not_true, Bool.or_false]; exact M
          · rw [show nxM l = decR (l.take (2 + nxF l)) from by rw [nxM, e1]; rfl, e1]; exact ht
        | false =>
          rw [hD] at e1 e2
          refine (next_no M0 k q g l u n b hk hq hne hl x0 x1 hx0 hx1 (nxF l) hF h2 hf hw hD).mono fun e w' ⟨t, h1, u', M, ht⟩ => ⟨t, h1, u', vZero, ?_, ?_⟩
          · rw [show nxM l = mZero from by rw [nxM, e1]; rfl, show nxL l = [] from by rw [nxL, e1, e2]; rfl, e2, Bool.not_false, Bool.or_true]; exact M.five k5 k6 k7 k8 k9
          · rw [show nxM l = mZero from by rw [nxM, e1]; rfl, e1]; exact ht
theorem rnext_any {G : Option Nat} {w0 w : World} {R : List (Nat × Res)} (M0 : Mx G w0 w R) (k q g : Nat) (l : List UInt8) (u : Value) (n : Int) (hk : look R k = some (blkR g 96 #[u, .int .i64 n, .bool false])) (hq : look R q = some (bytR l u)) (hne : k ≠ q) (hl : l.length ≤ 1000000) (k5 k6 k7 k8 k9 : Nat) :
    Calls Try.prog 31 #[.pointer (some ⟨g, 0, none⟩)] w fun e w' => ∃ t, e = .returned t ∧ ∃ u' V, Mx G w0 w' ((k9, bytR (nxM l).l9 V.v9) :: (k8, bytR (nxM l).l8 V.v8) :: (k7, bytR (nxM l).l7 V.v7) :: (k6, bytR (nxM l).l6 V.v6) :: (k5, bytR (nxM l).l5 V.v5) :: (k, blkR g 96 #[u', .int .i64 n, .bool (nxBad l)]) :: (q, bytR (nxR l) u') :: R) ∧ t = .tuple #[.agg (msgA (nxM l) V), .bool (nxOk l)] := by
  by_cases h2 : l.length < 2
  · obtain ⟨e1, e2⟩ := nx_short h2
    refine (rnext_short M0 k q g l u n hk hq hne hl h2).mono fun e w' ⟨t, h1, u', M, ht⟩ => ⟨t, h1, u', vZero, ?_, ?_⟩
    · rw [show nxM l = mZero from by rw [nxM, e1]; rfl, show nxR l = l from by rw [nxR, e1]; rfl, e2]; exact M.five k5 k6 k7 k8 k9
    · rw [show nxM l = mZero from by rw [nxM, e1]; rfl, e1]; exact ht
  · have h2 : 2 ≤ l.length := by omega
    obtain ⟨x0, x1, hx0, hx1, hF⟩ := nxF_is h2
    by_cases hf : 200 < nxF l
    · obtain ⟨e1, e2⟩ := nx_over h2 hf
      refine (rnext_over M0 k q g l u n hk hq hne hl x0 x1 hx0 hx1 (nxF l) hF h2 hf).mono fun e w' ⟨t, h1, u', M, ht⟩ => ⟨t, h1, u', vZero, ?_, ?_⟩
      · rw [show nxM l = mZero from by rw [nxM, e1]; rfl, show nxR l = l from by rw [nxR, e1]; rfl, e2]; exact M.five k5 k6 k7 k8 k9
      · rw [show nxM l = mZero from by rw [nxM, e1]; rfl, e1]; exact ht
    · have hf : nxF l ≤ 200 := by omega
      by_cases hw : l.length < 2 + nxF l
      · obtain ⟨e1, e2⟩ := nx_wait h2 hf hw
        refine (rnext_wait M0 k q g l u n hk hq hne hl x0 x1 hx0 hx1 (nxF l) hF h2 hf hw).mono fun e w' ⟨t, h1, u', M, ht⟩ => ⟨t, h1, u', vZero, ?_, ?_⟩
        · rw [show nxM l = mZero from by rw [nxM, e1]; rfl, show nxR l = l from by rw [nxR, e1]; rfl, e2]; exact M.five k5 k6 k7 k8 k9
        · rw [show nxM l = mZero from by rw [nxM, e1]; rfl, e1]; exact ht
      · have hw : 2 + nxF l ≤ l.length := by omega
        obtain ⟨e1, e2⟩ := nx_whole h2 hf hw
        cases hD : decOk (l.take (2 + nxF l)) with
        | true =>
          rw [hD] at e1 e2
          refine (rnext_ok M0 k q g l u n hk hq hne hl k5 k6 k7 k8 k9 x0 x1 hx0 hx1 (nxF l) hF h2 hf hw hD).mono fun e w' ⟨t, h1, u', V, M, ht⟩ => ⟨t, h1, u', V, ?_, ?_⟩
          · rw [show nxM l = decR (l.take (2 + nxF l)) from by rw [nxM, e1]; rfl, show nxR l = l.drop (2 + nxF l) from by rw [nxR, e1]; rfl, e2]; exact M
          · rw [show nxM l = decR (l.take (2 + nxF l)) from by rw [nxM, e1]; rfl, e1]; exact ht
        | false =>
          rw [hD] at e1 e2
          refine (rnext_no M0 k q g l u n hk hq hne hl k5 k6 k7 k8 k9 x0 x1 hx0 hx1 (nxF l) hF h2 hf hw hD).mono fun e w' ⟨t, h1, u', V, M, ht⟩ => ⟨t, h1, u', V, ?_, ?_⟩
          · rw [show nxM l = decR (l.take (2 + nxF l)) from by rw [nxM, e1]; exact (decR_no hD).symm, show nxR l = l from by rw [nxR, e1]; rfl, e2]; exact M
          · rw [show nxM l = decR (l.take (2 + nxF l)) from by rw [nxM, e1]; exact (decR_no hD).symm, e1]; exact ht
end Go.Proofs.Ytlbkogdmojlpmaa
namespace Go.Proofs.Ytlbkogdmojlpmaa
open Go.ChangeShapes Go.WideShapes Go.ChangeAt Go.RowKit
theorem zo (a n : Int) (hn : 0 < n) (hn' : n < 9223372036854775808) (ha : -9223372036854775808 ≤ a) (ha' : a < 9223372036854775808) (w : World) :
    Calls Try.prog 22 #[.int .i64 a, .int .i64 n] w fun e w' => e = .returned (.int .i64 (a % n)) ∧ w = w' := by
  obtain ⟨h1, h2, h3, h4⟩ := tmod_case a n hn
  have hz : (n == 0) = false := by simp; omega
  by_cases h : a.tmod n < 0
  · have H := hid (h2 h)
    clear h1 h2
    go_enter Try.func22, Try.ntmps22
    go_wp2
    go_ret
    exact ⟨congrArg (fun x => Ending.returned (.int .i64 x)) H.out, rfl⟩
  · have H := hid (h1 (by omega))
    clear h1 h2
    go_enter Try.func22, Try.ntmps22
    go_wp2
    go_ret
    exact ⟨congrArg (fun x => Ending.returned (.int .i64 x)) H.out, rfl⟩
end Go.Proofs.Ytlbkogdmojlpmaa
namespace Go.Proofs.Ytlbkogdmojlpmaa
open Go.ChangeShapes Go.WideShapes Go.ChangeAt Go.RowKit
attribute [local irreducible] numR
end Go.Proofs.Ytlbkogdmojlpmaa
namespace Go.Proofs.Ytlbkogdmojlpmaa
open Go.ChangeShapes Go.WideShapes Go.ChangeAt Go.RowKit Go.Shelf
theorem z9b {w : World} {l : List UInt8} {v : Value} (h : IsB w l v) : (#[v]).all (·.oneCell') = true := by
  obtain ⟨A, c, rfl⟩ := h.shape
  simp [Value.oneCell']
theorem zsa {p q : Int} (hp : -9223372036854775808 ≤ p ∧ p < 9223372036854775808) (hq : 0 < q) : -9223372036854775808 ≤ p.tdiv q ∧ p.tdiv q ≤ 9223372036854775807 := by
  by_cases h : 0 ≤ p
  · rw [Int.tdiv_eq_ediv_of_nonneg h]
    have h1 := Int.ediv_le_self q h
    have h2 := Int.ediv_nonneg h (Int.le_of_lt hq)
    omega
  · obtain ⟨r, rfl⟩ : ∃ r, p = -r := ⟨-p, by omega⟩
    rw [Int.neg_tdiv, Int.tdiv_eq_ediv_of_nonneg (by omega)]
    have h1 := Int.ediv_le_self q (show 0 ≤ r by omega)
    have h2 := Int.ediv_nonneg (show 0 ≤ r by omega) (Int.le_of_lt hq)
    omega
section
variable {P : Program} {a : Act} {w w0 : World} {o : Oper} {G : Option Nat} {R : List (Nat × Res)}
theorem run_st (M : Mx G w0 w R) {k g off : Nat} {t : TypeId} {c : Array Value} (hk : look R k = some (blkR g t c)) (ty : TypeId) (x y : Operand) (ho : o.op = .store ty x y) (hx : a.eval x = .pointer (some ⟨g, off, none⟩)) {v : Value} (hy : a.eval y = v)
    (s c' : Array Value) (hv : v.cells = s) (hos : off + s.size ≤ c.size) (h1 : s.all (·.oneCell') = true) (hc' : (c.toList.take off ++ s.toList ++ c.toList.drop (off + s.size)).toArray = c') (hi : (P.info? ty).map (·.size) = some s.size) :
    ∃ w', (execOp a.eval o).run P w = .ok .skip w' ∧ Mx G w0 w' ((k, blkR g t c') :: R) :=
  ⟨_, y_st ty x y ho hx hy (M.blk hk) s c' hv hos h1 hc' hi, M.put hk (grown_setRow _ _ _) (setRow_heap w g c c' t (0, 0) (M.blk hk))⟩
theorem y_quoT (ty tz : TypeId) (x y : Operand) {p q z : Int} (ho : o.op = .binOp .quo ty x y tz) (hx : a.eval x = .int .i64 p) (hy : a.eval y = .int .i64 q) (hp : -9223372036854775808 ≤ p ∧ p < 9223372036854775808) (hq : 0 < q) (hz : p.tdiv q = z) : (execOp a.eval o).run Try.prog w = .ok (.value (.int .i64 z)) w := by
  subst hz
  have h0 : ¬ q = 0 := by omega
  have h1 : IntKind.i64.wrap (p.tdiv q) = p.tdiv q := Go.IntWalk.i64_in _ (zsa hp hq)
  unfold execOp; simp only [ho, hx, hy]; simp [go_sem, h0, h1]
end
end Go.Proofs.Ytlbkogdmojlpmaa
namespace Go.Proofs.Ytlbkogdmojlpmaa
open Go.ChangeShapes Go.WideShapes Go.ChangeAt Go.RowKit Go.Shelf
def Oz (w : World) (v : Value) (l : List UInt8) : Prop :=
  ∃ g c cur lo hi, v = .slice (some ⟨g, 0, none⟩) l.length c ∧ w.heap[g]? = some (.cells cur 5 (lo, hi)) ∧ l.length ≤ lo ∧ l.length ≤ c ∧ c ≤ maxLen ∧ ∀ (j : Nat) (b : UInt8), l[j]? = some b → cur[j]? = some (bv b)
def ozR (l : List UInt8) (v : Value) : Res := ⟨true, ofp v, fun w => Oz w v l⟩
theorem Oz.same {l : List UInt8} {v : Value} {u u' : World} (hs : Same (ofp v) u u') (h : Oz u v l) : Oz u' v l := by
  obtain ⟨g, c, cur, lo, hi, rfl, hg, h1, h2, h3, h4⟩ := h
  exact ⟨g, c, cur, lo, hi, rfl, hs g _ (by simp [ofp, Value.ownBlock]) hg, h1, h2, h3, h4⟩
theorem ozR_dep {l : List UInt8} {v : Value} : ∀ u u', Same (ozR l v).fp u u' → (ozR l v).F u → (ozR l v).F u' := fun _ _ hs h => Oz.same hs h
theorem Oz.isb {w : World} {v : Value} {l : List UInt8} (h : Oz w v l) : IsB w l v := by
  obtain ⟨g, c, cur, lo, hi, rfl, hg, h1, h2, h3, h4⟩ := h
  refine ⟨_, _, rfl, h2, h3, (fun e => by cases e), fun _ => ⟨_, rfl, heap_lt hg, fun j b hj => ?_⟩⟩
  rw [zdb, Nat.zero_add]
  simp [World.cell?, hg, h4 j b hj]
theorem Oz.lt {w : World} {v : Value} {l : List UInt8} (h : Oz w v l) : ∀ g, ofp v g → g < w.heap.size := fun q hq => by
  obtain ⟨g, c, cur, lo, hi, rfl, hg, h1, h2, h3, h4⟩ := h
  obtain rfl : g = q := by simpa [ofp, Value.ownBlock] using hq
  exact heap_lt hg
section
variable {G : Option Nat} {w0 w w' : World} {R : List (Nat × Res)} {l : List UInt8} {v : Value} {a : Act} {o : Oper}
theorem Mx.isZ (M : Mx G w0 w R) {k : Nat} (h : look R k = some (ozR l v)) : IsB w l v := Oz.isb (M.at_ k _ h)
theorem Mx.tameZ (M : Mx G w0 w R) {k : Nat} (hk : look R k = some (ozR l v)) : Mx G w0 w ((k, bytR l v) :: R) :=
  M.cons k _ (M.isZ hk) z0a (fun g hg => M.lt k _ hk g (zva hg)) (fun e => by cases e) fun j s e hj _ g hg hs => M.dis k j _ s hk e hj rfl g (zva hg) hs
theorem run_cvZ (M : Mx G w0 w R) (i : Nat) (x : Operand) (ho : o.op = .convert 9 22 x) {s : ByteArray} (hx : a.eval x = .string s) (hs : s.size ≤ 1000000) :
    ∃ v w', (execOp a.eval o).run Try.prog w = .ok (.value v) w' ∧ Mx G w0 w' ((i, ozR (sBy s) v) :: R) := by
  have hc := grownCap_ge w s.size 0 5
  have hm := grownCap_le_maxLen w s.size 0 5 (by unfold maxLen; omega)
  obtain ⟨w', hw'⟩ : ∃ w', w' = w.drew.alloc (.cells (bytesRow s (grownCap w s.size 0 5)) 5 ((bytesRow s (grownCap w s.size 0 5)).size, (bytesRow s (grownCap w s.size 0 5)).size + 1)) := ⟨_, rfl⟩
  have hh : w'.heap[w.heap.size]? = some (.cells (bytesRow s (grownCap w s.size 0 5)) 5 ((bytesRow s (grownCap w s.size 0 5)).size, (bytesRow s (grownCap w s.size 0 5)).size + 1)) := by
    rw [hw']; exact heap_alloc_new w.drew _
  have hcell : ∀ j b, (sBy s)[j]? = some b → (bytesRow s (grownCap w s.size 0 5))[j]? = some (bv b) := fun j b hj => by
    have hl := (List.getElem?_eq_some_iff.1 hj).1
    rw [sBy_len] at hl
    unfold bytesRow sBy at *
    rw [Array.getElem?_append]
    rw [if_pos (by simpa using hl)]
    rw [Array.getElem?_toList] at hj
    simp [hj, bv]
  have hlo : (sBy s).length ≤ (bytesRow s (grownCap w s.size 0 5)).size := by
    rw [sBy_len]; unfold bytesRow; simp
  refine ⟨.slice (some ⟨w.heap.size, 0, none⟩) s.size (grownCap w s.size 0 5), w', ?_, M.fresh (by rw [hw']; exact (zib w).trans (zub w.drew _)) i _ ⟨_, _, _, _, _, by rw [sBy_len], hh, hlo, by rw [sBy_len]; exact hc, hm, hcell⟩ ozR_dep fun g hg => ?_⟩
  · have h := run_bytes_of_string w 9 22 5 s Try.underlying9 Try.underlying22 Try.underlying5
    rw [hw']
    exact run_cv' _ _ x ho hx h
  · obtain rfl : w.heap.size = g := by simpa [ozR, ofp, Value.ownBlock] using hg
    exact ⟨Nat.le_refl _, heap_lt hh⟩
theorem run_setZ (M : Mx G w0 w R) {k : Nat} (hk : look R k = some (ozR l v)) (x y : Operand) (ho : o.op = .store 5 x y) {j : Nat} (hx : a.eval x = ixV v j) {z : Int} (b : UInt8) (hy : a.eval y = .int .u8 z) (hz : z = (b.toNat : Int)) (hj : j < l.length) :
    ∃ w', (execOp a.eval o).run Try.prog w = .ok .skip w' ∧ Mx G w0 w' ((k, ozR (l.set j b) v) :: R) := by
  subst hz
  have hown : Oz w v l := M.at_ k _ hk
  obtain ⟨g, c, cur, lo, hi, rfl, hg, h1, h2, h3, h4⟩ := hown
  have hi1 : (Try.prog.info? 5).map (·.size) = some 1 := by kernel_rfl
  have hold := h4 j l[j] (List.getElem?_eq_getElem hj)
  have hrun := run_storeCells_cells (P := Try.prog) g j [bv b] 0 w (fun q hq => by
      obtain rfl : q = 0 := by simpa using hq
      simp [World.cell?, hg, hold]) (fun q hq => by
      obtain rfl : q = 0 := by simpa using hq
      simp only [Nat.add_zero, World.frozen?, hg]
      simp; omega) (fun u hu => by
      obtain rfl : u = bv b := by simpa using hu
      simp [bv, Value.oneCell'])
  obtain ⟨cur', k1, k2, k3, k4⟩ := heap_setCells g [bv b] j w cur 5 (lo, hi) hg
  have hjc : j < cur.size := (Array.getElem?_eq_some_iff.1 hold).1
  refine ⟨w.setCells g j [bv b], ?_, M.write hk rfl (grown_setCells g _ _ _) (fun q e => by cases e; simp [ozR, ofp, Value.ownBlock]) _ ⟨g, c, cur', lo, hi, by rw [List.length_set], k1, by rw [List.length_set]; exact h1, by rw [List.length_set]; exact h2, h3, fun q u hq => ?_⟩ ozR_dep fun q hq => ?_⟩
  · have hrun2 : (Instr.storeAt 5 (.pointer (some ⟨g, j, none⟩)) (.int .u8 (b.toNat : Int))).run Try.prog w = .ok () (w.setCells g j [bv b]) := by
      simp only [Instr.storeAt, Instr.sureAddr, Sem.run_bind, Sem.run_pure, Result.andThen_ok]
      simp only [Nat.add_zero] at hrun
      cases hq : Try.prog.info? 5 with
      | none => simp [hq] at hi1
      | some i =>
        have hz : i.size = 1 := by simpa [hq] using hi1
        simp [storeVar, Sem.run_bind, sizeOf, typeInfo, hq, hz, Value.cells]
        simpa [bv] using hrun
    have hx' : a.eval x = .pointer (some ⟨g, j, none⟩) := by rw [hx]; simp [ixV, zdb]
    unfold execOp
    simp only [ho, hx', hy, Sem.run_bind, hrun2, Result.andThen_ok, Sem.run_pure]
  · rw [List.getElem?_set] at hq
    by_cases e : j = q
    · subst e
      rw [if_pos rfl, if_pos hj] at hq
      obtain rfl := Option.some.inj hq
      have := k3 0 (by simp) (by simpa using hjc)
      simpa using this
    · rw [if_neg e] at hq
      rw [k4 q (by simp; omega)]
      exact h4 q u hq
  · have e : g = q := by simpa [ozR, ofp, Value.ownBlock] using hq
    subst e
    refine ⟨heap_lt k1, .inl (by simp [ozR, ofp, Value.ownBlock])⟩
end
end Go.Proofs.Ytlbkogdmojlpmaa
