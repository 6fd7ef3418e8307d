/- What WireStreams stands on, part 10. -/
import Derived.Test.YtlbkogdmojlpmaaWireStreamsP1
import Derived.Test.YtlbkogdmojlpmaaWireStreamsP2
import Derived.Test.YtlbkogdmojlpmaaWireStreamsP3
import Derived.Test.YtlbkogdmojlpmaaWireStreamsP4
import Derived.Test.YtlbkogdmojlpmaaWireStreamsP5
import Derived.Test.YtlbkogdmojlpmaaWireStreamsP6
import Derived.Test.YtlbkogdmojlpmaaWireStreamsP7
import Derived.Test.YtlbkogdmojlpmaaWireStreamsP8
import Derived.Test.YtlbkogdmojlpmaaWireStreamsP9
set_option maxRecDepth 100000
set_option maxHeartbeats 8000000
set_option linter.unusedVariables false
set_option linter.unusedSimpArgs false
namespace Go.Proofs.Ytlbkogdmojlpmaa
open Go.ChangeShapes Go.WideShapes Go.ChangeAt Go.RowKit
def numP (l : List UInt8) (j : Nat) : Int := (l.take j).foldl (fun n x => bits .or .i64 (IntKind.i64.wrap (n * 2 ^ (8 : Int).toNat)) ((x.toNat : Nat) : Int)) 0
theorem numP_next {l : List UInt8} {j : Nat} {x : UInt8} (h : l[j]? = some x) : bits .or .i64 (IntKind.i64.wrap (numP l j * 2 ^ (8 : Int).toNat)) ((x.toNat : Nat) : Int) = numP l (j + 1) := by
  unfold numP
  rw [List.take_add_one, h, Option.toList_some, List.foldl_append]
  rfl
theorem zpb {c : List UInt8} : c.take (min c.length 32) = c.take 32 := by
  by_cases h : c.length ≤ 32
  · rw [Nat.min_eq_left h, List.take_of_length_le (Nat.le_refl _), List.take_of_length_le h]
  · rw [Nat.min_eq_right (by omega)]
theorem zwb (l : List UInt8) (v : Value) (N : Nat) (hl : l.length ≤ 32) (hN : zi l = N) (w : World) (h : IsB w l v) : Calls Try.prog 72 #[v] w fun e w' => e = .returned (.tuple #[numV N, .bool true]) ∧ Below w.heap.size w w' := by
  subst hN
  obtain ⟨A, c, rfl, h1, h2, h3, h4⟩ := h
  exact rread_any A l _ c rfl hl w h4
theorem rnumR_any (l : List UInt8) (v : Value) (hl : l.length ≤ 100000) (w : World) (hv : IsB w l v) :
  Calls Try.prog 70 #[v] w fun e w' => e = .returned (.int .i64 (numR l)) ∧ Below w.heap.size w w' := by
 refine zg (args := [v]) 24 Try.func70 rfl rfl rfl ?_
 intro fa F
 have M := Mx.start w
 replace M := M.argB 0 hv (fun g e => by cases e)
 refine zT fun _ hK1 => ?_
 refine rm rfl F fun _ F2 => ?_
 refine hK1 _ _ (zS fun _ hK3 => ?_)
 refine zR ?_
 refine rm rfl F2 fun _ F4 => ?_
 refine hK3 _ _ (zS fun _ hK5 => ?_)
 refine zT fun _ hK6 => ?_
 refine rm rfl F4 fun _ F7 => ?_
 refine hK6 _ _ (wp_block ?_)
 refine zzb (α := Nat) (n := 24) (G := none) (w0 := w) (fun x => [(0, v), (2, .int .i64 0), (4, .int .i64 (x : Int)), (3, .int .i64 (numP l x))]) (fun x => [(0, bytR l v)]) (fun k x => k = 8 - x ∧ (x ≤ l.length ∧ x ≤ 8)) _ 0 ⟨rfl, ⟨Nat.zero_le _, Nat.zero_le _⟩⟩ (F7.sub ⟨rfl, rfl, rfl, rfl, trivial⟩) (M.sub ⟨rfl, trivial⟩) ?_
 clear F7 M
 rintro k8 jn a8 w8 K8 ⟨ek8, I8⟩ F8 M8 hK8
 replace F8 : Fx 24 a8 [(0, v), (2, .int .i64 0), (4, .int .i64 (jn : Int)), (3, .int .i64 (numP l jn))] := F8
 replace M8 : Mx _ _ w8 [(0, bytR l v)] := M8
 replace I8 : jn ≤ l.length ∧ jn ≤ 8 := I8
 replace ek8 : k8 = 8 - jn := ek8
 by_cases hlt : jn < l.length
 rotate_left
 ·refine zS fun _ hK45 => ?_
  refine zT fun _ hK46 => ?_
  refine rm rfl F8 fun _ F47 => ?_
  refine rm rfl F47 fun _ F48 => ?_
  refine rn rfl rfl F48 rfl (.int .i64 (l.length : Int)) (z9 _ rfl (F48.get rfl) (M8.isb (k := 0) rfl) rfl) fun _ F49 => ?_
  refine rn rfl rfl F49 rfl (.bool false) (zoa _ _ _ _ rfl (F49.get rfl) (F49.get rfl) (decide_eq_false (show ¬ (jn : Int) < (l.length : Int) by omega))) fun _ F50 => ?_
  refine zB 4 [(0, v), (2, .int .i64 0), (4, .int .i64 (jn : Int)), (3, .int .i64 (numP l jn)), (12, .bool false)] [] dnil [] F50 fun _ F51 => ?_
  refine hK46 _ _ (wp_cond_false (F51.get rfl) ?_)
  refine wp_exit ?_
  simp only [Exit.then, Exit.inBlock, ↓reduceIte, Nat.reduceEqDiff]
  refine hK5 _ _ (zS fun _ hK52 => ?_)
  refine zR ?_
  refine rm rfl F51 fun _ F53 => ?_
  refine rm rfl F53 fun _ F54 => ?_
  refine hK52 _ _ (wp_ret ?_)
  try simp only [Exit.then, Exit.inBlock, Exit.jump]
  exact bodyPost_ret (res1 rfl (F54.get rfl)) F54.defers ⟨by rw [show numR l = numP l jn from by unfold numR numP; rw [List.take_of_length_le (by omega), List.take_of_length_le (by omega)]], M8.below⟩
 by_cases h8 : jn < 8
 rotate_left
 ·refine zS fun _ hK32 => ?_
  refine zT fun _ hK33 => ?_
  refine rm rfl F8 fun _ F34 => ?_
  refine rm rfl F34 fun _ F35 => ?_
  refine rn rfl rfl F35 rfl (.int .i64 (l.length : Int)) (z9 _ rfl (F35.get rfl) (M8.isb (k := 0) rfl) rfl) fun _ F36 => ?_
  refine rn rfl rfl F36 rfl (.bool true) (zoa _ _ _ _ rfl (F36.get rfl) (F36.get rfl) (decide_eq_true (show (jn : Int) < (l.length : Int) by omega))) fun _ F37 => ?_
  refine rm rfl F37 fun _ F38 => ?_
  refine rm rfl F38 fun _ F39 => ?_
  refine ze (w' := w8) (zb rfl rfl rfl (F39.get rfl)) rfl F39 rfl (.bool false) (zoa _ _ _ _ rfl (F39.get rfl) rfl (decide_eq_false (show ¬ (jn : Int) < 8 by omega))) fun _ F40 => ?_
  refine rn rfl rfl F40 rfl (.bool false) (z7b rfl (F40.get rfl) (F40.get rfl)) fun _ F41 => ?_
  refine hK33 _ _ (wp_cond_false (F41.get rfl) ?_)
  refine wp_exit ?_
  simp only [Exit.then, Exit.inBlock, ↓reduceIte, Nat.reduceEqDiff]
  refine hK5 _ _ (zS fun _ hK42 => ?_)
  refine zR ?_
  refine rm rfl F41 fun _ F43 => ?_
  refine rm rfl F43 fun _ F44 => ?_
  refine hK42 _ _ (wp_ret ?_)
  try simp only [Exit.then, Exit.inBlock, Exit.jump]
  exact bodyPost_ret (res1 rfl (F44.get rfl)) F44.defers ⟨by rw [show numR l = numP l jn from by rw [show jn = 8 by omega]; rfl], M8.below⟩
 obtain ⟨x, hx⟩ : ∃ x, l[jn]? = some x := ⟨_, List.getElem?_eq_getElem hlt⟩
 have hnx := numP_next hx
 refine zS fun _ hK9 => zS fun _ hK10 => ?_
 refine zR ?_
 refine rm rfl F8 fun _ F11 => ?_
 refine rm rfl F11 fun _ F12 => ?_
 refine rn rfl rfl F12 rfl (.int .i64 (l.length : Int)) (z9 _ rfl (F12.get rfl) (M8.isb (k := 0) rfl) rfl) fun _ F13 => ?_
 refine rn rfl rfl F13 rfl (.bool true) (zoa _ _ _ _ rfl (F13.get rfl) (F13.get rfl) (decide_eq_true (show (jn : Int) < (l.length : Int) by omega))) fun _ F14 => ?_
 refine rm rfl F14 fun _ F15 => ?_
 refine rm rfl F15 fun _ F16 => ?_
 refine ze (w' := w8) (zb rfl rfl rfl (F16.get rfl)) rfl F16 rfl (.bool true) (zoa _ _ _ _ rfl (F16.get rfl) rfl (decide_eq_true (show (jn : Int) < 8 by omega))) fun _ F17 => ?_
 refine rn rfl rfl F17 rfl (.bool true) (z7b rfl (F17.get rfl) (F17.get rfl)) fun _ F18 => ?_
 refine hK10 _ _ (wp_cond_true (F18.get rfl) ?_)
 refine wp_skip ?_
 refine hK9 _ _ (zS fun _ hK19 => ?_)
 refine wp_block ?_
 refine zR ?_
 refine rm rfl F18 fun _ F20 => ?_
 refine rn rfl rfl F20 rfl (.int .i64 (IntKind.i64.wrap (numP l jn * 2 ^ (8 : Int).toNat))) (y_shlI _ _ _ _ rfl (F20.get rfl) rfl (by decide) rfl) fun _ F21 => ?_
 refine rm rfl F21 fun _ F22 => ?_
 refine rm rfl F22 fun _ F23 => ?_
 refine rn rfl rfl F23 rfl ((ixV (v) jn)) (zgb _ _ rfl (F23.get rfl) (M8.isb (k := 0) rfl) (F23.get rfl) rfl hlt) fun _ F24 => ?_
 refine rn rfl rfl F24 rfl (.int .u8 ((x.toNat : Nat) : Int)) (zvb _ rfl (F24.get rfl) (M8.isb (k := 0) rfl) hx rfl) fun _ F25 => ?_
 refine rn rfl rfl F25 rfl (.int .i64 ((x.toNat : Nat) : Int)) (zxa _ _ _ rfl (F25.get rfl) Try.underlying5 Try.underlying3 (zta _)) fun _ F26 => ?_
 refine rn rfl rfl F26 rfl (.int .i64 (numP l (jn + 1))) (y_orU _ _ _ _ rfl (F26.get rfl) (F26.get rfl) hnx) fun _ F27 => ?_
 refine rm rfl F27 fun _ F28 => ?_
 refine hK19 _ _ (zR ?_)
 refine rm rfl F28 fun _ F29 => ?_
 refine rn rfl rfl F29 rfl (.int .i64 ((jn + 1 : Nat) : Int)) (zz _ _ _ _ rfl (F29.get rfl) rfl (by omega) (by omega)) fun _ F30 => ?_
 refine rm rfl F30 fun _ F31 => ?_
 subst ek8
 exact hK8 _ (jn + 1) _ _ (by omega) ⟨rfl, (by omega)⟩ (F31.sub ⟨rfl, rfl, rfl, rfl, trivial⟩) (M8.sub ⟨rfl, trivial⟩)
theorem rset_1 (m : MsgN) (V : MsgV) (c : List UInt8) (v : Value) (hc : c.length ≤ 100000)  (w : World) (hm : MsgIs w m V) (hv : IsB w c v) :
  Calls Try.prog 57 #[.agg (msgA m V), .int .i64 1, v] w fun e w' => ∃ t, e = .returned t ∧ ∃ u, t = .agg (msgA (setR m 1 c) (setV V 1 u)) ∧ Byt w' w.heap.size u c ∧ Below w.heap.size w w' := by
 refine zg (args := [.agg (msgA m V), .int .i64 1, v]) 72 Try.func57 rfl rfl rfl ?_
 intro fa F
 have M := Mx.start w
 replace M := M.argB 0 hm.h5 (fun g e => by cases e)
 replace M := M.argB 1 hm.h6 (fun g e => by cases e)
 replace M := M.argB 2 hm.h7 (fun g e => by cases e)
 replace M := M.argB 3 hm.h8 (fun g e => by cases e)
 replace M := M.argB 4 hm.h9 (fun g e => by cases e)
 replace M := M.argB 5 hv (fun g e => by cases e)
 refine zT fun _ hK1 => ?_
 refine zf (za rfl) rfl F rfl M 6 (t := 29) (c := msgA m V) (by unfold execOp; simp only [(F.get (t := 0) rfl)]; kernel_rfl) ?_
 intro g2 a2 w2 F2 M2
 clear F M
 refine zf (za rfl) rfl F2 rfl M2 7 (t := 29) (c := msgA ⟨0, 0, 0, 0, "".toUTF8, 0, 0, [], [], [], [], []⟩ ⟨zN, zN, zN, zN, zN⟩) (by unfold execOp; kernel_rfl) ?_
 intro g3 a3 w3 F3 M3
 clear F2 M2
 refine hK1 _ _ (zS fun _ hK4 => ?_)
 refine zR ?_
 refine rm rfl F3 fun _ F5 => ?_
 refine rm rfl F5 fun _ F6 => ?_
 refine rn rfl rfl F6 rfl (.int .i64 (c.length : Int)) (z9 _ rfl (F6.get rfl) (M3.isb (k := 5) rfl) rfl) fun _ F7 => ?_
 refine rn rfl rfl F7 rfl (.int .i64 ((min c.length 32 : Nat) : Int)) (y_min _ _ rfl (F7.get rfl) rfl (by split <;> omega)) fun _ F8 => ?_
 refine z9a (za rfl) rfl F8 rfl (z8b _ _ rfl (F8.get rfl) (M3.isb (k := 5) rfl) (F8.get rfl) (j := (min c.length 32)) rfl (Nat.min_le_left _ _)) ?_
 intro v9 a9 h9 F9
 have M9 := M3.partB 8 (k := 5) rfl h9.1 h9.2
 clear M3
 obtain ⟨A9, c9, rfl⟩ := (M9.isb (k := 8) rfl).shape
 refine zd (za rfl) rfl F9 rfl rfl (zE Try.func72 rfl) #[.slice A9 ((c.take (min c.length 32))).length c9] (zp (F9.get rfl)) (zh ((zwb (c.take (min c.length 32)) (.slice A9 ((c.take (min c.length 32))).length c9) (zi (c.take 32)) (by rw [List.length_take]; omega) (by rw [zpb]) w3 (M9.isb (k := 8) rfl)))) ?_
 rintro _ w10 a10 ⟨rfl, b10⟩ F10
 have M10 := M9.step b10
 refine zB 3 [(1, .int .i64 1), (2, v), (3, .pointer (some ⟨g2, 0, none⟩)), (6, .pointer (some ⟨g3, 0, none⟩)), (17, numV (zi (c.take 32))), (18, .bool true)] [] dnil [] F10 fun _ F11 => ?_
 refine zf (za rfl) rfl F11 rfl M10 9 (t := 27) (c := numA 0) (zda rfl) ?_
 intro g12 a12 w12 F12 M12
 clear F11 M10
 refine zn (za rfl) rfl F12 M12 (k := 9) rfl _ _ _ rfl (F12.get rfl) (F12.get rfl) (numA (zi (c.take 32))) _ rfl (zL rfl) (zaa _) (zt rfl) z7 ?_
 intro w13 M13
 clear M12
 refine rm rfl F12 fun _ F14 => ?_
 refine hK4 _ _ (zS fun _ hK15 => ?_)
 refine zR ?_
 refine zba (za rfl) rfl F14 rfl (z0b M13 10 rfl) ?_
 intro v16 a16 w16 F16 M16
 clear F14 M13
 obtain ⟨A16, c16, rfl⟩ := (M16.isO (k := 10) rfl).shape
 refine rm rfl F16 fun _ F17 => ?_
 refine zba (za rfl) rfl F17 rfl (z2a M16 (k := 10) rfl _ _ rfl (F17.get rfl) (F17.get rfl) (M16.isb (k := 5) rfl) (by simp only [List.length_nil]; omega)) ?_
 intro v18 a18 w18 F18 M18
 clear F17 M16
 obtain ⟨A18, c18, rfl⟩ := (M18.isO (k := 10) rfl).shape
 refine rm rfl F18 fun _ F19 => ?_
 refine hK15 _ _ (zS fun _ hK20 => ?_)
 refine zT fun _ hK21 => ?_
 refine rm rfl F19 fun _ F22 => ?_
 refine hK21 _ _ (wp_block ?_)
 refine zT fun _ hK23 => ?_
 refine zA 2 [(24, .bool true), (23, .bool true)] [] dnil [] F22 fun _ F24 => ?_
 refine hK23 _ _ (wp_cond_true (F24.get rfl) ?_)
 refine zR ?_
 refine rm rfl F24 fun _ F25 => ?_
 refine zd (za rfl) rfl F25 rfl rfl (zE Try.func70 rfl) #[v] (zp (F25.get rfl)) (zh ((rnumR_any c (v) hc w18 (M18.isb (k := 5) rfl)))) ?_
 rintro _ w26 a26 ⟨rfl, b26⟩ F26
 have M26 := M18.step b26
 refine rn rfl rfl F26 rfl (.pointer (some ⟨g2, 1, none⟩)) (y_fa (off := 1) rfl (F26.get rfl) (by kernel_rfl) rfl) fun _ F27 => ?_
 refine zn (za rfl) rfl F27 M26 (k := 6) rfl _ _ _ rfl (F27.get rfl) (F27.get rfl) (#[.int .i64 (numR c)]) (msgA ⟨m.k, (numR c), m.c, m.e, m.s, m.a, m.b, m.l5, m.l6, m.l7, m.l8, m.l9⟩ ⟨V.v5, V.v6, V.v7, V.v8, V.v9⟩) rfl (zL rfl) (zeb _ _) (by kernel_rfl) (by kernel_rfl) ?_
 intro w28 M28
 clear M26
 refine hK20 _ _ (zS fun _ hK29 => ?_)
 refine zR ?_
 refine rn rfl rfl F27 rfl _ (zja _ _ rfl (F27.get rfl) (M28.blk (k := 6) rfl) (msgA ⟨m.k, (numR c), m.c, m.e, m.s, m.a, m.b, m.l5, m.l6, m.l7, m.l8, m.l9⟩ ⟨V.v5, V.v6, V.v7, V.v8, V.v9⟩) (zma rfl) Try.underlying29 rfl (by kernel_rfl)) fun _ F30 => ?_
 refine zn (za rfl) rfl F30 M28 (k := 7) rfl _ _ _ rfl (F30.get rfl) (F30.get rfl) (msgA ⟨m.k, (numR c), m.c, m.e, m.s, m.a, m.b, m.l5, m.l6, m.l7, m.l8, m.l9⟩ ⟨V.v5, V.v6, V.v7, V.v8, V.v9⟩) _ rfl (zL rfl) (zy (w := w28) ⟨(M28.isb (k := 0) rfl), (M28.isb (k := 1) rfl), (M28.isb (k := 2) rfl), (M28.isb (k := 3) rfl), (M28.isb (k := 4) rfl)⟩) (zt rfl) (by kernel_rfl) ?_
 intro w31 M31
 clear M28
 refine hK29 _ _ (wp_ret ?_)
 try simp only [Exit.then, Exit.inBlock, Exit.jump]
 exact bodyPost_ret (results_cell_row rfl _ _ _ _ _ (0, 0) _ (F30.get rfl) (M31.blk (k := 7) rfl) Try.underlying29 rfl (by kernel_rfl)) F30.defers ⟨_, rfl, (.slice A18 (([] ++ c)).length c18), rfl, (by have h := M31.byt (k := 10) rfl; rwa [List.nil_append] at h), M31.below⟩
theorem rset_2 (m : MsgN) (V : MsgV) (c : List UInt8) (v : Value) (hc : c.length ≤ 100000)  (w : World) (hm : MsgIs w m V) (hv : IsB w c v) :
  Calls Try.prog 57 #[.agg (msgA m V), .int .i64 2, v] w fun e w' => ∃ t, e = .returned t ∧ ∃ u, t = .agg (msgA (setR m 2 c) (setV V 2 u)) ∧ Byt w' w.heap.size u c ∧ Below w.heap.size w w' := by
 refine zg (args := [.agg (msgA m V), .int .i64 2, v]) 72 Try.func57 rfl rfl rfl ?_
 intro fa F
 have M := Mx.start w
 replace M := M.argB 0 hm.h5 (fun g e => by cases e)
 replace M := M.argB 1 hm.h6 (fun g e => by cases e)
 replace M := M.argB 2 hm.h7 (fun g e => by cases e)
 replace M := M.argB 3 hm.h8 (fun g e => by cases e)
 replace M := M.argB 4 hm.h9 (fun g e => by cases e)
 replace M := M.argB 5 hv (fun g e => by cases e)
 refine zT fun _ hK1 => ?_
 refine zf (za rfl) rfl F rfl M 6 (t := 29) (c := msgA m V) (by unfold execOp; simp only [(F.get (t := 0) rfl)]; kernel_rfl) ?_
 intro g2 a2 w2 F2 M2
 clear F M
 refine zf (za rfl) rfl F2 rfl M2 7 (t := 29) (c := msgA ⟨0, 0, 0, 0, "".toUTF8, 0, 0, [], [], [], [], []⟩ ⟨zN, zN, zN, zN, zN⟩) (by unfold execOp; kernel_rfl) ?_
 intro g3 a3 w3 F3 M3
 clear F2 M2
 refine hK1 _ _ (zS fun _ hK4 => ?_)
 refine zR ?_
 refine rm rfl F3 fun _ F5 => ?_
 refine rm rfl F5 fun _ F6 => ?_
 refine rn rfl rfl F6 rfl (.int .i64 (c.length : Int)) (z9 _ rfl (F6.get rfl) (M3.isb (k := 5) rfl) rfl) fun _ F7 => ?_
 refine rn rfl rfl F7 rfl (.int .i64 ((min c.length 32 : Nat) : Int)) (y_min _ _ rfl (F7.get rfl) rfl (by split <;> omega)) fun _ F8 => ?_
 refine z9a (za rfl) rfl F8 rfl (z8b _ _ rfl (F8.get rfl) (M3.isb (k := 5) rfl) (F8.get rfl) (j := (min c.length 32)) rfl (Nat.min_le_left _ _)) ?_
 intro v9 a9 h9 F9
 have M9 := M3.partB 8 (k := 5) rfl h9.1 h9.2
 clear M3
 obtain ⟨A9, c9, rfl⟩ := (M9.isb (k := 8) rfl).shape
 refine zd (za rfl) rfl F9 rfl rfl (zE Try.func72 rfl) #[.slice A9 ((c.take (min c.length 32))).length c9] (zp (F9.get rfl)) (zh ((zwb (c.take (min c.length 32)) (.slice A9 ((c.take (min c.length 32))).length c9) (zi (c.take 32)) (by rw [List.length_take]; omega) (by rw [zpb]) w3 (M9.isb (k := 8) rfl)))) ?_
 rintro _ w10 a10 ⟨rfl, b10⟩ F10
 have M10 := M9.step b10
 refine zB 3 [(1, .int .i64 2), (2, v), (3, .pointer (some ⟨g2, 0, none⟩)), (6, .pointer (some ⟨g3, 0, none⟩)), (17, numV (zi (c.take 32))), (18, .bool true)] [] dnil [] F10 fun _ F11 => ?_
 refine zf (za rfl) rfl F11 rfl M10 9 (t := 27) (c := numA 0) (zda rfl) ?_
 intro g12 a12 w12 F12 M12
 clear F11 M10
 refine zn (za rfl) rfl F12 M12 (k := 9) rfl _ _ _ rfl (F12.get rfl) (F12.get rfl) (numA (zi (c.take 32))) _ rfl (zL rfl) (zaa _) (zt rfl) z7 ?_
 intro w13 M13
 clear M12
 refine rm rfl F12 fun _ F14 => ?_
 refine hK4 _ _ (zS fun _ hK15 => ?_)
 refine zR ?_
 refine zba (za rfl) rfl F14 rfl (z0b M13 10 rfl) ?_
 intro v16 a16 w16 F16 M16
 clear F14 M13
 obtain ⟨A16, c16, rfl⟩ := (M16.isO (k := 10) rfl).shape
 refine rm rfl F16 fun _ F17 => ?_
 refine zba (za rfl) rfl F17 rfl (z2a M16 (k := 10) rfl _ _ rfl (F17.get rfl) (F17.get rfl) (M16.isb (k := 5) rfl) (by simp only [List.length_nil]; omega)) ?_
 intro v18 a18 w18 F18 M18
 clear F17 M16
 obtain ⟨A18, c18, rfl⟩ := (M18.isO (k := 10) rfl).shape
 refine rm rfl F18 fun _ F19 => ?_
 refine hK15 _ _ (zS fun _ hK20 => ?_)
 refine zT fun _ hK21 => ?_
 refine rm rfl F19 fun _ F22 => ?_
 refine hK21 _ _ (wp_block ?_)
 refine zT fun _ hK23 => ?_
 refine zA 2 [(24, .bool false), (23, .bool false)] [] dnil [] F22 fun _ F24 => ?_
 refine hK23 _ _ (wp_cond_false (F24.get rfl) ?_)
 refine zT fun _ hK25 => ?_
 refine zA 2 [(29, .bool true), (28, .bool true)] [] dnil [] F24 fun _ F26 => ?_
 refine hK25 _ _ (wp_cond_true (F26.get rfl) ?_)
 refine zR ?_
 refine rm rfl F26 fun _ F27 => ?_
 refine rn rfl rfl F27 rfl (.string (⟨(c).toArray⟩)) (y_str _ rfl (F27.get rfl) (M18.isb (k := 5) rfl)) fun _ F28 => ?_
 refine rn rfl rfl F28 rfl (.pointer (some ⟨g2, 4, none⟩)) (y_fa (off := 4) rfl (F28.get rfl) (by kernel_rfl) rfl) fun _ F29 => ?_
 refine zn (za rfl) rfl F29 M18 (k := 6) rfl _ _ _ rfl (F29.get rfl) (F29.get rfl) (#[.string (⟨(c).toArray⟩)]) (msgA ⟨m.k, m.p, m.c, m.e, ⟨(c).toArray⟩, m.a, m.b, m.l5, m.l6, m.l7, m.l8, m.l9⟩ ⟨V.v5, V.v6, V.v7, V.v8, V.v9⟩) rfl (zL rfl) (one_str _) (by kernel_rfl) (by kernel_rfl) ?_
 intro w30 M30
 clear M18
 refine hK20 _ _ (zS fun _ hK31 => ?_)
 refine zR ?_
 refine rn rfl rfl F29 rfl _ (zja _ _ rfl (F29.get rfl) (M30.blk (k := 6) rfl) (msgA ⟨m.k, m.p, m.c, m.e, ⟨(c).toArray⟩, m.a, m.b, m.l5, m.l6, m.l7, m.l8, m.l9⟩ ⟨V.v5, V.v6, V.v7, V.v8, V.v9⟩) (zma rfl) Try.underlying29 rfl (by kernel_rfl)) fun _ F32 => ?_
 refine zn (za rfl) rfl F32 M30 (k := 7) rfl _ _ _ rfl (F32.get rfl) (F32.get rfl) (msgA ⟨m.k, m.p, m.c, m.e, ⟨(c).toArray⟩, m.a, m.b, m.l5, m.l6, m.l7, m.l8, m.l9⟩ ⟨V.v5, V.v6, V.v7, V.v8, V.v9⟩) _ rfl (zL rfl) (zy (w := w30) ⟨(M30.isb (k := 0) rfl), (M30.isb (k := 1) rfl), (M30.isb (k := 2) rfl), (M30.isb (k := 3) rfl), (M30.isb (k := 4) rfl)⟩) (zt rfl) (by kernel_rfl) ?_
 intro w33 M33
 clear M30
 refine hK31 _ _ (wp_ret ?_)
 try simp only [Exit.then, Exit.inBlock, Exit.jump]
 exact bodyPost_ret (results_cell_row rfl _ _ _ _ _ (0, 0) _ (F32.get rfl) (M33.blk (k := 7) rfl) Try.underlying29 rfl (by kernel_rfl)) F32.defers ⟨_, rfl, (.slice A18 (([] ++ c)).length c18), rfl, (by have h := M33.byt (k := 10) rfl; rwa [List.nil_append] at h), M33.below⟩
theorem rset_3 (m : MsgN) (V : MsgV) (c : List UInt8) (v : Value) (hc : c.length ≤ 100000)  (w : World) (hm : MsgIs w m V) (hv : IsB w c v) :
  Calls Try.prog 57 #[.agg (msgA m V), .int .i64 3, v] w fun e w' => ∃ t, e = .returned t ∧ ∃ u, t = .agg (msgA (setR m 3 c) (setV V 3 u)) ∧ Byt w' w.heap.size u c ∧ Below w.heap.size w w' := by
 refine zg (args := [.agg (msgA m V), .int .i64 3, v]) 72 Try.func57 rfl rfl rfl ?_
 intro fa F
 have M := Mx.start w
 replace M := M.argB 0 hm.h5 (fun g e => by cases e)
 replace M := M.argB 1 hm.h6 (fun g e => by cases e)
 replace M := M.argB 2 hm.h7 (fun g e => by cases e)
 replace M := M.argB 3 hm.h8 (fun g e => by cases e)
 replace M := M.argB 4 hm.h9 (fun g e => by cases e)
 replace M := M.argB 5 hv (fun g e => by cases e)
 refine zT fun _ hK1 => ?_
 refine zf (za rfl) rfl F rfl M 6 (t := 29) (c := msgA m V) (by unfold execOp; simp only [(F.get (t := 0) rfl)]; kernel_rfl) ?_
 intro g2 a2 w2 F2 M2
 clear F M
 refine zf (za rfl) rfl F2 rfl M2 7 (t := 29) (c := msgA ⟨0, 0, 0, 0, "".toUTF8, 0, 0, [], [], [], [], []⟩ ⟨zN, zN, zN, zN, zN⟩) (by unfold execOp; kernel_rfl) ?_
 intro g3 a3 w3 F3 M3
 clear F2 M2
 refine hK1 _ _ (zS fun _ hK4 => ?_)
 refine zR ?_
 refine rm rfl F3 fun _ F5 => ?_
 refine rm rfl F5 fun _ F6 => ?_
 refine rn rfl rfl F6 rfl (.int .i64 (c.length : Int)) (z9 _ rfl (F6.get rfl) (M3.isb (k := 5) rfl) rfl) fun _ F7 => ?_
 refine rn rfl rfl F7 rfl (.int .i64 ((min c.length 32 : Nat) : Int)) (y_min _ _ rfl (F7.get rfl) rfl (by split <;> omega)) fun _ F8 => ?_
 refine z9a (za rfl) rfl F8 rfl (z8b _ _ rfl (F8.get rfl) (M3.isb (k := 5) rfl) (F8.get rfl) (j := (min c.length 32)) rfl (Nat.min_le_left _ _)) ?_
 intro v9 a9 h9 F9
 have M9 := M3.partB 8 (k := 5) rfl h9.1 h9.2
 clear M3
 obtain ⟨A9, c9, rfl⟩ := (M9.isb (k := 8) rfl).shape
 refine zd (za rfl) rfl F9 rfl rfl (zE Try.func72 rfl) #[.slice A9 ((c.take (min c.length 32))).length c9] (zp (F9.get rfl)) (zh ((zwb (c.take (min c.length 32)) (.slice A9 ((c.take (min c.length 32))).length c9) (zi (c.take 32)) (by rw [List.length_take]; omega) (by rw [zpb]) w3 (M9.isb (k := 8) rfl)))) ?_
 rintro _ w10 a10 ⟨rfl, b10⟩ F10
 have M10 := M9.step b10
 refine zB 3 [(1, .int .i64 3), (2, v), (3, .pointer (some ⟨g2, 0, none⟩)), (6, .pointer (some ⟨g3, 0, none⟩)), (17, numV (zi (c.take 32))), (18, .bool true)] [] dnil [] F10 fun _ F11 => ?_
 refine zf (za rfl) rfl F11 rfl M10 9 (t := 27) (c := numA 0) (zda rfl) ?_
 intro g12 a12 w12 F12 M12
 clear F11 M10
 refine zn (za rfl) rfl F12 M12 (k := 9) rfl _ _ _ rfl (F12.get rfl) (F12.get rfl) (numA (zi (c.take 32))) _ rfl (zL rfl) (zaa _) (zt rfl) z7 ?_
 intro w13 M13
 clear M12
 refine rm rfl F12 fun _ F14 => ?_
 refine hK4 _ _ (zS fun _ hK15 => ?_)
 refine zR ?_
 refine zba (za rfl) rfl F14 rfl (z0b M13 10 rfl) ?_
 intro v16 a16 w16 F16 M16
 clear F14 M13
 obtain ⟨A16, c16, rfl⟩ := (M16.isO (k := 10) rfl).shape
 refine rm rfl F16 fun _ F17 => ?_
 refine zba (za rfl) rfl F17 rfl (z2a M16 (k := 10) rfl _ _ rfl (F17.get rfl) (F17.get rfl) (M16.isb (k := 5) rfl) (by simp only [List.length_nil]; omega)) ?_
 intro v18 a18 w18 F18 M18
 clear F17 M16
 obtain ⟨A18, c18, rfl⟩ := (M18.isO (k := 10) rfl).shape
 refine rm rfl F18 fun _ F19 => ?_
 refine hK15 _ _ (zS fun _ hK20 => ?_)
 refine zT fun _ hK21 => ?_
 refine rm rfl F19 fun _ F22 => ?_
 refine hK21 _ _ (wp_block ?_)
 refine zT fun _ hK23 => ?_
 refine zA 2 [(24, .bool false), (23, .bool false)] [] dnil [] F22 fun _ F24 => ?_
 refine hK23 _ _ (wp_cond_false (F24.get rfl) ?_)
 refine zT fun _ hK25 => ?_
 refine zA 2 [(29, .bool false), (28, .bool false)] [] dnil [] F24 fun _ F26 => ?_
 refine hK25 _ _ (wp_cond_false (F26.get rfl) ?_)
 refine zT fun _ hK27 => ?_
 refine zA 2 [(34, .bool true), (33, .bool true)] [] dnil [] F26 fun _ F28 => ?_
 refine hK27 _ _ (wp_cond_true (F28.get rfl) ?_)
 refine zR ?_
 refine zA 2 [(35, numV (zi (c.take 32))), (36, .pointer (some ⟨g2, 5, none⟩))] [0] (zj (M18.blk (k := 9) rfl) dnil) [g12] F28 fun _ F29 => ?_
 refine zn (za rfl) rfl F29 M18 (k := 6) rfl _ _ _ rfl (F29.get rfl) (F29.get rfl) (numA (zi (c.take 32))) (msgA ⟨m.k, m.p, m.c, m.e, m.s, (zi (c.take 32)), m.b, m.l5, m.l6, m.l7, m.l8, m.l9⟩ ⟨V.v5, V.v6, V.v7, V.v8, V.v9⟩) rfl (zL rfl) (zaa _) (by kernel_rfl) z7 ?_
 intro w30 M30
 clear M18
 refine hK20 _ _ (zS fun _ hK31 => ?_)
 refine zR ?_
 refine rn rfl rfl F29 rfl _ (zja _ _ rfl (F29.get rfl) (M30.blk (k := 6) rfl) (msgA ⟨m.k, m.p, m.c, m.e, m.s, (zi (c.take 32)), m.b, m.l5, m.l6, m.l7, m.l8, m.l9⟩ ⟨V.v5, V.v6, V.v7, V.v8, V.v9⟩) (zma rfl) Try.underlying29 rfl (by kernel_rfl)) fun _ F32 => ?_
 refine zn (za rfl) rfl F32 M30 (k := 7) rfl _ _ _ rfl (F32.get rfl) (F32.get rfl) (msgA ⟨m.k, m.p, m.c, m.e, m.s, (zi (c.take 32)), m.b, m.l5, m.l6, m.l7, m.l8, m.l9⟩ ⟨V.v5, V.v6, V.v7, V.v8, V.v9⟩) _ rfl (zL rfl) (zy (w := w30) ⟨(M30.isb (k := 0) rfl), (M30.isb (k := 1) rfl), (M30.isb (k := 2) rfl), (M30.isb (k := 3) rfl), (M30.isb (k := 4) rfl)⟩) (zt rfl) (by kernel_rfl) ?_
 intro w33 M33
 clear M30
 refine hK31 _ _ (wp_ret ?_)
 try simp only [Exit.then, Exit.inBlock, Exit.jump]
 exact bodyPost_ret (results_cell_row rfl _ _ _ _ _ (0, 0) _ (F32.get rfl) (M33.blk (k := 7) rfl) Try.underlying29 rfl (by kernel_rfl)) F32.defers ⟨_, rfl, (.slice A18 (([] ++ c)).length c18), rfl, (by have h := M33.byt (k := 10) rfl; rwa [List.nil_append] at h), M33.below⟩
theorem rset_4 (m : MsgN) (V : MsgV) (c : List UInt8) (v : Value) (hc : c.length ≤ 100000)  (w : World) (hm : MsgIs w m V) (hv : IsB w c v) :
  Calls Try.prog 57 #[.agg (msgA m V), .int .i64 4, v] w fun e w' => ∃ t, e = .returned t ∧ ∃ u, t = .agg (msgA (setR m 4 c) (setV V 4 u)) ∧ Byt w' w.heap.size u c ∧ Below w.heap.size w w' := by
 refine zg (args := [.agg (msgA m V), .int .i64 4, v]) 72 Try.func57 rfl rfl rfl ?_
 intro fa F
 have M := Mx.start w
 replace M := M.argB 0 hm.h5 (fun g e => by cases e)
 replace M := M.argB 1 hm.h6 (fun g e => by cases e)
 replace M := M.argB 2 hm.h7 (fun g e => by cases e)
 replace M := M.argB 3 hm.h8 (fun g e => by cases e)
 replace M := M.argB 4 hm.h9 (fun g e => by cases e)
 replace M := M.argB 5 hv (fun g e => by cases e)
 refine zT fun _ hK1 => ?_
 refine zf (za rfl) rfl F rfl M 6 (t := 29) (c := msgA m V) (by unfold execOp; simp only [(F.get (t := 0) rfl)]; kernel_rfl) ?_
 intro g2 a2 w2 F2 M2
 clear F M
 refine zf (za rfl) rfl F2 rfl M2 7 (t := 29) (c := msgA ⟨0, 0, 0, 0, "".toUTF8, 0, 0, [], [], [], [], []⟩ ⟨zN, zN, zN, zN, zN⟩) (by unfold execOp; kernel_rfl) ?_
 intro g3 a3 w3 F3 M3
 clear F2 M2
 refine hK1 _ _ (zS fun _ hK4 => ?_)
 refine zR ?_
 refine rm rfl F3 fun _ F5 => ?_
 refine rm rfl F5 fun _ F6 => ?_
 refine rn rfl rfl F6 rfl (.int .i64 (c.length : Int)) (z9 _ rfl (F6.get rfl) (M3.isb (k := 5) rfl) rfl) fun _ F7 => ?_
 refine rn rfl rfl F7 rfl (.int .i64 ((min c.length 32 : Nat) : Int)) (y_min _ _ rfl (F7.get rfl) rfl (by split <;> omega)) fun _ F8 => ?_
 refine z9a (za rfl) rfl F8 rfl (z8b _ _ rfl (F8.get rfl) (M3.isb (k := 5) rfl) (F8.get rfl) (j := (min c.length 32)) rfl (Nat.min_le_left _ _)) ?_
 intro v9 a9 h9 F9
 have M9 := M3.partB 8 (k := 5) rfl h9.1 h9.2
 clear M3
 obtain ⟨A9, c9, rfl⟩ := (M9.isb (k := 8) rfl).shape
 refine zd (za rfl) rfl F9 rfl rfl (zE Try.func72 rfl) #[.slice A9 ((c.take (min c.length 32))).length c9] (zp (F9.get rfl)) (zh ((zwb (c.take (min c.length 32)) (.slice A9 ((c.take (min c.length 32))).length c9) (zi (c.take 32)) (by rw [List.length_take]; omega) (by rw [zpb]) w3 (M9.isb (k := 8) rfl)))) ?_
 rintro _ w10 a10 ⟨rfl, b10⟩ F10
 have M10 := M9.step b10
 refine zB 3 [(1, .int .i64 4), (2, v), (3, .pointer (some ⟨g2, 0, none⟩)), (6, .pointer (some ⟨g3, 0, none⟩)), (17, numV (zi (c.take 32))), (18, .bool true)] [] dnil [] F10 fun _ F11 => ?_
 refine zf (za rfl) rfl F11 rfl M10 9 (t := 27) (c := numA 0) (zda rfl) ?_
 intro g12 a12 w12 F12 M12
 clear F11 M10
 refine zn (za rfl) rfl F12 M12 (k := 9) rfl _ _ _ rfl (F12.get rfl) (F12.get rfl) (numA (zi (c.take 32))) _ rfl (zL rfl) (zaa _) (zt rfl) z7 ?_
 intro w13 M13
 clear M12
 refine rm rfl F12 fun _ F14 => ?_
 refine hK4 _ _ (zS fun _ hK15 => ?_)
 refine zR ?_
 refine zba (za rfl) rfl F14 rfl (z0b M13 10 rfl) ?_
 intro v16 a16 w16 F16 M16
 clear F14 M13
 obtain ⟨A16, c16, rfl⟩ := (M16.isO (k := 10) rfl).shape
 refine rm rfl F16 fun _ F17 => ?_
 refine zba (za rfl) rfl F17 rfl (z2a M16 (k := 10) rfl _ _ rfl (F17.get rfl) (F17.get rfl) (M16.isb (k := 5) rfl) (by simp only [List.length_nil]; omega)) ?_
 intro v18 a18 w18 F18 M18
 clear F17 M16
 obtain ⟨A18, c18, rfl⟩ := (M18.isO (k := 10) rfl).shape
 refine rm rfl F18 fun _ F19 => ?_
 refine hK15 _ _ (zS fun _ hK20 => ?_)
 refine zT fun _ hK21 => ?_
 refine rm rfl F19 fun _ F22 => ?_
 refine hK21 _ _ (wp_block ?_)
 refine zT fun _ hK23 => ?_
 refine zA 2 [(24, .bool false), (23, .bool false)] [] dnil [] F22 fun _ F24 => ?_
 refine hK23 _ _ (wp_cond_false (F24.get rfl) ?_)
 refine zT fun _ hK25 => ?_
 refine zA 2 [(29, .bool false), (28, .bool false)] [] dnil [] F24 fun _ F26 => ?_
 refine hK25 _ _ (wp_cond_false (F26.get rfl) ?_)
 refine zT fun _ hK27 => ?_
 refine zA 2 [(34, .bool false), (33, .bool false)] [] dnil [] F26 fun _ F28 => ?_
 refine hK27 _ _ (wp_cond_false (F28.get rfl) ?_)
 refine zT fun _ hK29 => ?_
 refine zA 2 [(38, .bool true), (37, .bool true)] [] dnil [] F28 fun _ F30 => ?_
 refine hK29 _ _ (wp_cond_true (F30.get rfl) ?_)
 refine zR ?_
 refine zA 2 [(39, numV (zi (c.take 32))), (40, .pointer (some ⟨g2, 13, none⟩))] [0] (zj (M18.blk (k := 9) rfl) dnil) [g12] F30 fun _ F31 => ?_
 refine zn (za rfl) rfl F31 M18 (k := 6) rfl _ _ _ rfl (F31.get rfl) (F31.get rfl) (numA (zi (c.take 32))) (msgA ⟨m.k, m.p, m.c, m.e, m.s, m.a, (zi (c.take 32)), m.l5, m.l6, m.l7, m.l8, m.l9⟩ ⟨V.v5, V.v6, V.v7, V.v8, V.v9⟩) rfl (zL rfl) (zaa _) (by kernel_rfl) z7 ?_
 intro w32 M32
 clear M18
 refine hK20 _ _ (zS fun _ hK33 => ?_)
 refine zR ?_
 refine rn rfl rfl F31 rfl _ (zja _ _ rfl (F31.get rfl) (M32.blk (k := 6) rfl) (msgA ⟨m.k, m.p, m.c, m.e, m.s, m.a, (zi (c.take 32)), m.l5, m.l6, m.l7, m.l8, m.l9⟩ ⟨V.v5, V.v6, V.v7, V.v8, V.v9⟩) (zma rfl) Try.underlying29 rfl (by kernel_rfl)) fun _ F34 => ?_
 refine zn (za rfl) rfl F34 M32 (k := 7) rfl _ _ _ rfl (F34.get rfl) (F34.get rfl) (msgA ⟨m.k, m.p, m.c, m.e, m.s, m.a, (zi (c.take 32)), m.l5, m.l6, m.l7, m.l8, m.l9⟩ ⟨V.v5, V.v6, V.v7, V.v8, V.v9⟩) _ rfl (zL rfl) (zy (w := w32) ⟨(M32.isb (k := 0) rfl), (M32.isb (k := 1) rfl), (M32.isb (k := 2) rfl), (M32.isb (k := 3) rfl), (M32.isb (k := 4) rfl)⟩) (zt rfl) (by kernel_rfl) ?_
 intro w35 M35
 clear M32
 refine hK33 _ _ (wp_ret ?_)
 try simp only [Exit.then, Exit.inBlock, Exit.jump]
 exact bodyPost_ret (results_cell_row rfl _ _ _ _ _ (0, 0) _ (F34.get rfl) (M35.blk (k := 7) rfl) Try.underlying29 rfl (by kernel_rfl)) F34.defers ⟨_, rfl, (.slice A18 (([] ++ c)).length c18), rfl, (by have h := M35.byt (k := 10) rfl; rwa [List.nil_append] at h), M35.below⟩
theorem rset_5 (m : MsgN) (V : MsgV) (c : List UInt8) (v : Value) (hc : c.length ≤ 100000)  (w : World) (hm : MsgIs w m V) (hv : IsB w c v) :
  Calls Try.prog 57 #[.agg (msgA m V), .int .i64 5, v] w fun e w' => ∃ t, e = .returned t ∧ ∃ u, t = .agg (msgA (setR m 5 c) (setV V 5 u)) ∧ Byt w' w.heap.size u c ∧ Below w.heap.size w w' := by
 refine zg (args := [.agg (msgA m V), .int .i64 5, v]) 72 Try.func57 rfl rfl rfl ?_
 intro fa F
 have M := Mx.start w
 replace M := M.argB 0 hm.h5 (fun g e => by cases e)
 replace M := M.argB 1 hm.h6 (fun g e => by cases e)
 replace M := M.argB 2 hm.h7 (fun g e => by cases e)
 replace M := M.argB 3 hm.h8 (fun g e => by cases e)
 replace M := M.argB 4 hm.h9 (fun g e => by cases e)
 replace M := M.argB 5 hv (fun g e => by cases e)
 refine zT fun _ hK1 => ?_
 refine zf (za rfl) rfl F rfl M 6 (t := 29) (c := msgA m V) (by unfold execOp; simp only [(F.get (t := 0) rfl)]; kernel_rfl) ?_
 intro g2 a2 w2 F2 M2
 clear F M
 refine zf (za rfl) rfl F2 rfl M2 7 (t := 29) (c := msgA ⟨0, 0, 0, 0, "".toUTF8, 0, 0, [], [], [], [], []⟩ ⟨zN, zN, zN, zN, zN⟩) (by unfold execOp; kernel_rfl) ?_
 intro g3 a3 w3 F3 M3
 clear F2 M2
 refine hK1 _ _ (zS fun _ hK4 => ?_)
 refine zR ?_
 refine rm rfl F3 fun _ F5 => ?_
 refine rm rfl F5 fun _ F6 => ?_
 refine rn rfl rfl F6 rfl (.int .i64 (c.length : Int)) (z9 _ rfl (F6.get rfl) (M3.isb (k := 5) rfl) rfl) fun _ F7 => ?_
 refine rn rfl rfl F7 rfl (.int .i64 ((min c.length 32 : Nat) : Int)) (y_min _ _ rfl (F7.get rfl) rfl (by split <;> omega)) fun _ F8 => ?_
 refine z9a (za rfl) rfl F8 rfl (z8b _ _ rfl (F8.get rfl) (M3.isb (k := 5) rfl) (F8.get rfl) (j := (min c.length 32)) rfl (Nat.min_le_left _ _)) ?_
 intro v9 a9 h9 F9
 have M9 := M3.partB 8 (k := 5) rfl h9.1 h9.2
 clear M3
 obtain ⟨A9, c9, rfl⟩ := (M9.isb (k := 8) rfl).shape
 refine zd (za rfl) rfl F9 rfl rfl (zE Try.func72 rfl) #[.slice A9 ((c.take (min c.length 32))).length c9] (zp (F9.get rfl)) (zh ((zwb (c.take (min c.length 32)) (.slice A9 ((c.take (min c.length 32))).length c9) (zi (c.take 32)) (by rw [List.length_take]; omega) (by rw [zpb]) w3 (M9.isb (k := 8) rfl)))) ?_
 rintro _ w10 a10 ⟨rfl, b10⟩ F10
 have M10 := M9.step b10
 refine zB 3 [(1, .int .i64 5), (2, v), (3, .pointer (some ⟨g2, 0, none⟩)), (6, .pointer (some ⟨g3, 0, none⟩)), (17, numV (zi (c.take 32))), (18, .bool true)] [] dnil [] F10 fun _ F11 => ?_
 refine zf (za rfl) rfl F11 rfl M10 9 (t := 27) (c := numA 0) (zda rfl) ?_
 intro g12 a12 w12 F12 M12
 clear F11 M10
 refine zn (za rfl) rfl F12 M12 (k := 9) rfl _ _ _ rfl (F12.get rfl) (F12.get rfl) (numA (zi (c.take 32))) _ rfl (zL rfl) (zaa _) (zt rfl) z7 ?_
 intro w13 M13
 clear M12
 refine rm rfl F12 fun _ F14 => ?_
 refine hK4 _ _ (zS fun _ hK15 => ?_)
 refine zR ?_
 refine zba (za rfl) rfl F14 rfl (z0b M13 10 rfl) ?_
 intro v16 a16 w16 F16 M16
 clear F14 M13
 obtain ⟨A16, c16, rfl⟩ := (M16.isO (k := 10) rfl).shape
 refine rm rfl F16 fun _ F17 => ?_
 refine zba (za rfl) rfl F17 rfl (z2a M16 (k := 10) rfl _ _ rfl (F17.get rfl) (F17.get rfl) (M16.isb (k := 5) rfl) (by simp only [List.length_nil]; omega)) ?_
 intro v18 a18 w18 F18 M18
 clear F17 M16
 obtain ⟨A18, c18, rfl⟩ := (M18.isO (k := 10) rfl).shape
 refine rm rfl F18 fun _ F19 => ?_
 refine hK15 _ _ (zS fun _ hK20 => ?_)
 refine zT fun _ hK21 => ?_
 refine rm rfl F19 fun _ F22 => ?_
 refine hK21 _ _ (wp_block ?_)
 refine zT fun _ hK23 => ?_
 refine zA 2 [(24, .bool false), (23, .bool false)] [] dnil [] F22 fun _ F24 => ?_
 refine hK23 _ _ (wp_cond_false (F24.get rfl) ?_)
 refine zT fun _ hK25 => ?_
 refine zA 2 [(29, .bool false), (28, .bool false)] [] dnil [] F24 fun _ F26 => ?_
 refine hK25 _ _ (wp_cond_false (F26.get rfl) ?_)
 refine zT fun _ hK27 => ?_
 refine zA 2 [(34, .bool false), (33, .bool false)] [] dnil [] F26 fun _ F28 => ?_
 refine hK27 _ _ (wp_cond_false (F28.get rfl) ?_)
 refine zT fun _ hK29 => ?_
 refine zA 2 [(38, .bool false), (37, .bool false)] [] dnil [] F28 fun _ F30 => ?_
 refine hK29 _ _ (wp_cond_false (F30.get rfl) ?_)
 refine zT fun _ hK31 => ?_
 refine zA 2 [(42, .bool true), (41, .bool true)] [] dnil [] F30 fun _ F32 => ?_
 refine hK31 _ _ (wp_cond_true (F32.get rfl) ?_)
 refine zR ?_
 refine rm rfl F32 fun _ F33 => ?_
 refine rn rfl rfl F33 rfl (.pointer (some ⟨g2, 21, none⟩)) (y_fa (off := 21) rfl (F33.get rfl) (by kernel_rfl) rfl) fun _ F34 => ?_
 refine zn (za rfl) rfl F34 M18 (k := 6) rfl _ _ _ rfl (F34.get rfl) (F34.get rfl) (#[.slice A18 (([] ++ c)).length c18]) (msgA ⟨m.k, m.p, m.c, m.e, m.s, m.a, m.b, ([] ++ c), m.l6, m.l7, m.l8, m.l9⟩ ⟨.slice A18 (([] ++ c)).length c18, V.v6, V.v7, V.v8, V.v9⟩) rfl (zL rfl) (zmb rfl) (by kernel_rfl) (by kernel_rfl) ?_
 intro w35 M35
 clear M18
 refine hK20 _ _ (zS fun _ hK36 => ?_)
 refine zR ?_
 refine rn rfl rfl F34 rfl _ (zja _ _ rfl (F34.get rfl) (M35.blk (k := 6) rfl) (msgA ⟨m.k, m.p, m.c, m.e, m.s, m.a, m.b, ([] ++ c), m.l6, m.l7, m.l8, m.l9⟩ ⟨.slice A18 (([] ++ c)).length c18, V.v6, V.v7, V.v8, V.v9⟩) (zma rfl) Try.underlying29 rfl (by kernel_rfl)) fun _ F37 => ?_
 refine zn (za rfl) rfl F37 M35 (k := 7) rfl _ _ _ rfl (F37.get rfl) (F37.get rfl) (msgA ⟨m.k, m.p, m.c, m.e, m.s, m.a, m.b, ([] ++ c), m.l6, m.l7, m.l8, m.l9⟩ ⟨.slice A18 (([] ++ c)).length c18, V.v6, V.v7, V.v8, V.v9⟩) _ rfl (zL rfl) (zy (w := w35) ⟨(M35.isO (k := 10) rfl), (M35.isb (k := 1) rfl), (M35.isb (k := 2) rfl), (M35.isb (k := 3) rfl), (M35.isb (k := 4) rfl)⟩) (zt rfl) (by kernel_rfl) ?_
 intro w38 M38
 clear M35
 refine hK36 _ _ (wp_ret ?_)
 try simp only [Exit.then, Exit.inBlock, Exit.jump]
 exact bodyPost_ret (results_cell_row rfl _ _ _ _ _ (0, 0) _ (F37.get rfl) (M38.blk (k := 7) rfl) Try.underlying29 rfl (by kernel_rfl)) F37.defers ⟨_, rfl, (.slice A18 (([] ++ c)).length c18), rfl, (by have h := M38.byt (k := 10) rfl; rwa [List.nil_append] at h), M38.below⟩
theorem rset_6 (m : MsgN) (V : MsgV) (c : List UInt8) (v : Value) (hc : c.length ≤ 100000)  (w : World) (hm : MsgIs w m V) (hv : IsB w c v) :
  Calls Try.prog 57 #[.agg (msgA m V), .int .i64 6, v] w fun e w' => ∃ t, e = .returned t ∧ ∃ u, t = .agg (msgA (setR m 6 c) (setV V 6 u)) ∧ Byt w' w.heap.size u c ∧ Below w.heap.size w w' := by
 refine zg (args := [.agg (msgA m V), .int .i64 6, v]) 72 Try.func57 rfl rfl rfl ?_
 intro fa F
 have M := Mx.start w
 replace M := M.argB 0 hm.h5 (fun g e => by cases e)
 replace M := M.argB 1 hm.h6 (fun g e => by cases e)
 replace M := M.argB 2 hm.h7 (fun g e => by cases e)
 replace M := M.argB 3 hm.h8 (fun g e => by cases e)
 replace M := M.argB 4 hm.h9 (fun g e => by cases e)
 replace M := M.argB 5 hv (fun g e => by cases e)
 refine zT fun _ hK1 => ?_
 refine zf (za rfl) rfl F rfl M 6 (t := 29) (c := msgA m V) (by unfold execOp; simp only [(F.get (t := 0) rfl)]; kernel_rfl) ?_
 intro g2 a2 w2 F2 M2
 clear F M
 refine zf (za rfl) rfl F2 rfl M2 7 (t := 29) (c := msgA ⟨0, 0, 0, 0, "".toUTF8, 0, 0, [], [], [], [], []⟩ ⟨zN, zN, zN, zN, zN⟩) (by unfold execOp; kernel_rfl) ?_
 intro g3 a3 w3 F3 M3
 clear F2 M2
 refine hK1 _ _ (zS fun _ hK4 => ?_)
 refine zR ?_
 refine rm rfl F3 fun _ F5 => ?_
 refine rm rfl F5 fun _ F6 => ?_
 refine rn rfl rfl F6 rfl (.int .i64 (c.length : Int)) (z9 _ rfl (F6.get rfl) (M3.isb (k := 5) rfl) rfl) fun _ F7 => ?_
 refine rn rfl rfl F7 rfl (.int .i64 ((min c.length 32 : Nat) : Int)) (y_min _ _ rfl (F7.get rfl) rfl (by split <;> omega)) fun _ F8 => ?_
 refine z9a (za rfl) rfl F8 rfl (z8b _ _ rfl (F8.get rfl) (M3.isb (k := 5) rfl) (F8.get rfl) (j := (min c.length 32)) rfl (Nat.min_le_left _ _)) ?_
 intro v9 a9 h9 F9
 have M9 := M3.partB 8 (k := 5) rfl h9.1 h9.2
 clear M3
 obtain ⟨A9, c9, rfl⟩ := (M9.isb (k := 8) rfl).shape
 refine zd (za rfl) rfl F9 rfl rfl (zE Try.func72 rfl) #[.slice A9 ((c.take (min c.length 32))).length c9] (zp (F9.get rfl)) (zh ((zwb (c.take (min c.length 32)) (.slice A9 ((c.take (min c.length 32))).length c9) (zi (c.take 32)) (by rw [List.length_take]; omega) (by rw [zpb]) w3 (M9.isb (k := 8) rfl)))) ?_
 rintro _ w10 a10 ⟨rfl, b10⟩ F10
 have M10 := M9.step b10
 refine zB 3 [(1, .int .i64 6), (2, v), (3, .pointer (some ⟨g2, 0, none⟩)), (6, .pointer (some ⟨g3, 0, none⟩)), (17, numV (zi (c.take 32))), (18, .bool true)] [] dnil [] F10 fun _ F11 => ?_
 refine zf (za rfl) rfl F11 rfl M10 9 (t := 27) (c := numA 0) (zda rfl) ?_
 intro g12 a12 w12 F12 M12
 clear F11 M10
 refine zn (za rfl) rfl F12 M12 (k := 9) rfl _ _ _ rfl (F12.get rfl) (F12.get rfl) (numA (zi (c.take 32))) _ rfl (zL rfl) (zaa _) (zt rfl) z7 ?_
 intro w13 M13
 clear M12
 refine rm rfl F12 fun _ F14 => ?_
 refine hK4 _ _ (zS fun _ hK15 => ?_)
 refine zR ?_
 refine zba (za rfl) rfl F14 rfl (z0b M13 10 rfl) ?_
 intro v16 a16 w16 F16 M16
 clear F14 M13
 obtain ⟨A16, c16, rfl⟩ := (M16.isO (k := 10) rfl).shape
 refine rm rfl F16 fun _ F17 => ?_
 refine zba (za rfl) rfl F17 rfl (z2a M16 (k := 10) rfl _ _ rfl (F17.get rfl) (F17.get rfl) (M16.isb (k := 5) rfl) (by simp only [List.length_nil]; omega)) ?_
 intro v18 a18 w18 F18 M18
 clear F17 M16
 obtain ⟨A18, c18, rfl⟩ := (M18.isO (k := 10) rfl).shape
 refine rm rfl F18 fun _ F19 => ?_
 refine hK15 _ _ (zS fun _ hK20 => ?_)
 refine zT fun _ hK21 => ?_
 refine rm rfl F19 fun _ F22 => ?_
 refine hK21 _ _ (wp_block ?_)
 refine zT fun _ hK23 => ?_
 refine zA 2 [(24, .bool false), (23, .bool false)] [] dnil [] F22 fun _ F24 => ?_
 refine hK23 _ _ (wp_cond_false (F24.get rfl) ?_)
 refine zT fun _ hK25 => ?_
 refine zA 2 [(29, .bool false), (28, .bool false)] [] dnil [] F24 fun _ F26 => ?_
 refine hK25 _ _ (wp_cond_false (F26.get rfl) ?_)
 refine zT fun _ hK27 => ?_
 refine zA 2 [(34, .bool false), (33, .bool false)] [] dnil [] F26 fun _ F28 => ?_
 refine hK27 _ _ (wp_cond_false (F28.get rfl) ?_)
 refine zT fun _ hK29 => ?_
 refine zA 2 [(38, .bool false), (37, .bool false)] [] dnil [] F28 fun _ F30 => ?_
 refine hK29 _ _ (wp_cond_false (F30.get rfl) ?_)
 refine zT fun _ hK31 => ?_
 refine zA 2 [(42, .bool false), (41, .bool false)] [] dnil [] F30 fun _ F32 => ?_
 refine hK31 _ _ (wp_cond_false (F32.get rfl) ?_)
 refine zT fun _ hK33 => ?_
 refine zA 2 [(46, .bool true), (45, .bool true)] [] dnil [] F32 fun _ F34 => ?_
 refine hK33 _ _ (wp_cond_true (F34.get rfl) ?_)
 refine zR ?_
 refine rm rfl F34 fun _ F35 => ?_
 refine rn rfl rfl F35 rfl (.pointer (some ⟨g2, 22, none⟩)) (y_fa (off := 22) rfl (F35.get rfl) (by kernel_rfl) rfl) fun _ F36 => ?_
 refine zn (za rfl) rfl F36 M18 (k := 6) rfl _ _ _ rfl (F36.get rfl) (F36.get rfl) (#[.slice A18 (([] ++ c)).length c18]) (msgA ⟨m.k, m.p, m.c, m.e, m.s, m.a, m.b, m.l5, ([] ++ c), m.l7, m.l8, m.l9⟩ ⟨V.v5, .slice A18 (([] ++ c)).length c18, V.v7, V.v8, V.v9⟩) rfl (zL rfl) (zmb rfl) (by kernel_rfl) (by kernel_rfl) ?_
 intro w37 M37
 clear M18
 refine hK20 _ _ (zS fun _ hK38 => ?_)
 refine zR ?_
 refine rn rfl rfl F36 rfl _ (zja _ _ rfl (F36.get rfl) (M37.blk (k := 6) rfl) (msgA ⟨m.k, m.p, m.c, m.e, m.s, m.a, m.b, m.l5, ([] ++ c), m.l7, m.l8, m.l9⟩ ⟨V.v5, .slice A18 (([] ++ c)).length c18, V.v7, V.v8, V.v9⟩) (zma rfl) Try.underlying29 rfl (by kernel_rfl)) fun _ F39 => ?_
 refine zn (za rfl) rfl F39 M37 (k := 7) rfl _ _ _ rfl (F39.get rfl) (F39.get rfl) (msgA ⟨m.k, m.p, m.c, m.e, m.s, m.a, m.b, m.l5, ([] ++ c), m.l7, m.l8, m.l9⟩ ⟨V.v5, .slice A18 (([] ++ c)).length c18, V.v7, V.v8, V.v9⟩) _ rfl (zL rfl) (zy (w := w37) ⟨(M37.isb (k := 0) rfl), (M37.isO (k := 10) rfl), (M37.isb (k := 2) rfl), (M37.isb (k := 3) rfl), (M37.isb (k := 4) rfl)⟩) (zt rfl) (by kernel_rfl) ?_
 intro w40 M40
 clear M37
 refine hK38 _ _ (wp_ret ?_)
 try simp only [Exit.then, Exit.inBlock, Exit.jump]
 exact bodyPost_ret (results_cell_row rfl _ _ _ _ _ (0, 0) _ (F39.get rfl) (M40.blk (k := 7) rfl) Try.underlying29 rfl (by kernel_rfl)) F39.defers ⟨_, rfl, (.slice A18 (([] ++ c)).length c18), rfl, (by have h := M40.byt (k := 10) rfl; rwa [List.nil_append] at h), M40.below⟩
theorem rset_7 (m : MsgN) (V : MsgV) (c : List UInt8) (v : Value) (hc : c.length ≤ 100000)  (w : World) (hm : MsgIs w m V) (hv : IsB w c v) :
  Calls Try.prog 57 #[.agg (msgA m V), .int .i64 7, v] w fun e w' => ∃ t, e = .returned t ∧ ∃ u, t = .agg (msgA (setR m 7 c) (setV V 7 u)) ∧ Byt w' w.heap.size u c ∧ Below w.heap.size w w' := by
 refine zg (args := [.agg (msgA m V), .int .i64 7, v]) 72 Try.func57 rfl rfl rfl ?_
 intro fa F
 have M := Mx.start w
 replace M := M.argB 0 hm.h5 (fun g e => by cases e)
 replace M := M.argB 1 hm.h6 (fun g e => by cases e)
 replace M := M.argB 2 hm.h7 (fun g e => by cases e)
 replace M := M.argB 3 hm.h8 (fun g e => by cases e)
 replace M := M.argB 4 hm.h9 (fun g e => by cases e)
 replace M := M.argB 5 hv (fun g e => by cases e)
 refine zT fun _ hK1 => ?_
 refine zf (za rfl) rfl F rfl M 6 (t := 29) (c := msgA m V) (by unfold execOp; simp only [(F.get (t := 0) rfl)]; kernel_rfl) ?_
 intro g2 a2 w2 F2 M2
 clear F M
 refine zf (za rfl) rfl F2 rfl M2 7 (t := 29) (c := msgA ⟨0, 0, 0, 0, "".toUTF8, 0, 0, [], [], [], [], []⟩ ⟨zN, zN, zN, zN, zN⟩) (by unfold execOp; kernel_rfl) ?_
 intro g3 a3 w3 F3 M3
 clear F2 M2
 refine hK1 _ _ (zS fun _ hK4 => ?_)
 refine zR ?_
 refine rm rfl F3 fun _ F5 => ?_
 refine rm rfl F5 fun _ F6 => ?_
 refine rn rfl rfl F6 rfl (.int .i64 (c.length : Int)) (z9 _ rfl (F6.get rfl) (M3.isb (k := 5) rfl) rfl) fun _ F7 => ?_
 refine rn rfl rfl F7 rfl (.int .i64 ((min c.length 32 : Nat) : Int)) (y_min _ _ rfl (F7.get rfl) rfl (by split <;> omega)) fun _ F8 => ?_
 refine z9a (za rfl) rfl F8 rfl (z8b _ _ rfl (F8.get rfl) (M3.isb (k := 5) rfl) (F8.get rfl) (j := (min c.length 32)) rfl (Nat.min_le_left _ _)) ?_
 intro v9 a9 h9 F9
 have M9 := M3.partB 8 (k := 5) rfl h9.1 h9.2
 clear M3
 obtain ⟨A9, c9, rfl⟩ := (M9.isb (k := 8) rfl).shape
 refine zd (za rfl) rfl F9 rfl rfl (zE Try.func72 rfl) #[.slice A9 ((c.take (min c.length 32))).length c9] (zp (F9.get rfl)) (zh ((zwb (c.take (min c.length 32)) (.slice A9 ((c.take (min c.length 32))).length c9) (zi (c.take 32)) (by rw [List.length_take]; omega) (by rw [zpb]) w3 (M9.isb (k := 8) rfl)))) ?_
 rintro _ w10 a10 ⟨rfl, b10⟩ F10
 have M10 := M9.step b10
 refine zB 3 [(1, .int .i64 7), (2, v), (3, .pointer (some ⟨g2, 0, none⟩)), (6, .pointer (some ⟨g3, 0, none⟩)), (17, numV (zi (c.take 32))), (18, .bool true)] [] dnil [] F10 fun _ F11 => ?_
 refine zf (za rfl) rfl F11 rfl M10 9 (t := 27) (c := numA 0) (zda rfl) ?_
 intro g12 a12 w12 F12 M12
 clear F11 M10
 refine zn (za rfl) rfl F12 M12 (k := 9) rfl _ _ _ rfl (F12.get rfl) (F12.get rfl) (numA (zi (c.take 32))) _ rfl (zL rfl) (zaa _) (zt rfl) z7 ?_
 intro w13 M13
 clear M12
 refine rm rfl F12 fun _ F14 => ?_
 refine hK4 _ _ (zS fun _ hK15 => ?_)
 refine zR ?_
 refine zba (za rfl) rfl F14 rfl (z0b M13 10 rfl) ?_
 intro v16 a16 w16 F16 M16
 clear F14 M13
 obtain ⟨A16, c16, rfl⟩ := (M16.isO (k := 10) rfl).shape
 refine rm rfl F16 fun _ F17 => ?_
 refine zba (za rfl) rfl F17 rfl (z2a M16 (k := 10) rfl _ _ rfl (F17.get rfl) (F17.get rfl) (M16.isb (k := 5) rfl) (by simp only [List.length_nil]; omega)) ?_
 intro v18 a18 w18 F18 M18
 clear F17 M16
 obtain ⟨A18, c18, rfl⟩ := (M18.isO (k := 10) rfl).shape
 refine rm rfl F18 fun _ F19 => ?_
 refine hK15 _ _ (zS fun _ hK20 => ?_)
 refine zT fun _ hK21 => ?_
 refine rm rfl F19 fun _ F22 => ?_
 refine hK21 _ _ (wp_block ?_)
 refine zT fun _ hK23 => ?_
 refine zA 2 [(24, .bool false), (23, .bool false)] [] dnil [] F22 fun _ F24 => ?_
 refine hK23 _ _ (wp_cond_false (F24.get rfl) ?_)
 refine zT fun _ hK25 => ?_
 refine zA 2 [(29, .bool false), (28, .bool false)] [] dnil [] F24 fun _ F26 => ?_
 refine hK25 _ _ (wp_cond_false (F26.get rfl) ?_)
 refine zT fun _ hK27 => ?_
 refine zA 2 [(34, .bool false), (33, .bool false)] [] dnil [] F26 fun _ F28 => ?_
 refine hK27 _ _ (wp_cond_false (F28.get rfl) ?_)
 refine zT fun _ hK29 => ?_
 refine zA 2 [(38, .bool false), (37, .bool false)] [] dnil [] F28 fun _ F30 => ?_
 refine hK29 _ _ (wp_cond_false (F30.get rfl) ?_)
 refine zT fun _ hK31 => ?_
 refine zA 2 [(42, .bool false), (41, .bool false)] [] dnil [] F30 fun _ F32 => ?_
 refine hK31 _ _ (wp_cond_false (F32.get rfl) ?_)
 refine zT fun _ hK33 => ?_
 refine zA 2 [(46, .bool false), (45, .bool false)] [] dnil [] F32 fun _ F34 => ?_
 refine hK33 _ _ (wp_cond_false (F34.get rfl) ?_)
 refine zT fun _ hK35 => ?_
 refine zA 2 [(50, .bool true), (49, .bool true)] [] dnil [] F34 fun _ F36 => ?_
 refine hK35 _ _ (wp_cond_true (F36.get rfl) ?_)
 refine zR ?_
 refine rm rfl F36 fun _ F37 => ?_
 refine rn rfl rfl F37 rfl (.pointer (some ⟨g2, 23, none⟩)) (y_fa (off := 23) rfl (F37.get rfl) (by kernel_rfl) rfl) fun _ F38 => ?_
 refine zn (za rfl) rfl F38 M18 (k := 6) rfl _ _ _ rfl (F38.get rfl) (F38.get rfl) (#[.slice A18 (([] ++ c)).length c18]) (msgA ⟨m.k, m.p, m.c, m.e, m.s, m.a, m.b, m.l5, m.l6, ([] ++ c), m.l8, m.l9⟩ ⟨V.v5, V.v6, .slice A18 (([] ++ c)).length c18, V.v8, V.v9⟩) rfl (zL rfl) (zmb rfl) (by kernel_rfl) (by kernel_rfl) ?_
 intro w39 M39
 clear M18
 refine hK20 _ _ (zS fun _ hK40 => ?_)
 refine zR ?_
 refine rn rfl rfl F38 rfl _ (zja _ _ rfl (F38.get rfl) (M39.blk (k := 6) rfl) (msgA ⟨m.k, m.p, m.c, m.e, m.s, m.a, m.b, m.l5, m.l6, ([] ++ c), m.l8, m.l9⟩ ⟨V.v5, V.v6, .slice A18 (([] ++ c)).length c18, V.v8, V.v9⟩) (zma rfl) Try.underlying29 rfl (by kernel_rfl)) fun _ F41 => ?_
 refine zn (za rfl) rfl F41 M39 (k := 7) rfl _ _ _ rfl (F41.get rfl) (F41.get rfl) (msgA ⟨m.k, m.p, m.c, m.e, m.s, m.a, m.b, m.l5, m.l6, ([] ++ c), m.l8, m.l9⟩ ⟨V.v5, V.v6, .slice A18 (([] ++ c)).length c18, V.v8, V.v9⟩) _ rfl (zL rfl) (zy (w := w39) ⟨(M39.isb (k := 0) rfl), (M39.isb (k := 1) rfl), (M39.isO (k := 10) rfl), (M39.isb (k := 3) rfl), (M39.isb (k := 4) rfl)⟩) (zt rfl) (by kernel_rfl) ?_
 intro w42 M42
 clear M39
 refine hK40 _ _ (wp_ret ?_)
 try simp only [Exit.then, Exit.inBlock, Exit.jump]
 exact bodyPost_ret (results_cell_row rfl _ _ _ _ _ (0, 0) _ (F41.get rfl) (M42.blk (k := 7) rfl) Try.underlying29 rfl (by kernel_rfl)) F41.defers ⟨_, rfl, (.slice A18 (([] ++ c)).length c18), rfl, (by have h := M42.byt (k := 10) rfl; rwa [List.nil_append] at h), M42.below⟩
theorem rset_8 (m : MsgN) (V : MsgV) (c : List UInt8) (v : Value) (hc : c.length ≤ 100000)  (w : World) (hm : MsgIs w m V) (hv : IsB w c v) :
  Calls Try.prog 57 #[.agg (msgA m V), .int .i64 8, v] w fun e w' => ∃ t, e = .returned t ∧ ∃ u, t = .agg (msgA (setR m 8 c) (setV V 8 u)) ∧ Byt w' w.heap.size u c ∧ Below w.heap.size w w' := by
 refine zg (args := [.agg (msgA m V), .int .i64 8, v]) 72 Try.func57 rfl rfl rfl ?_
 intro fa F
 have M := Mx.start w
 replace M := M.argB 0 hm.h5 (fun g e => by cases e)
 replace M := M.argB 1 hm.h6 (fun g e => by cases e)
 replace M := M.argB 2 hm.h7 (fun g e => by cases e)
 replace M := M.argB 3 hm.h8 (fun g e => by cases e)
 replace M := M.argB 4 hm.h9 (fun g e => by cases e)
 replace M := M.argB 5 hv (fun g e => by cases e)
 refine zT fun _ hK1 => ?_
 refine zf (za rfl) rfl F rfl M 6 (t := 29) (c := msgA m V) (by unfold execOp; simp only [(F.get (t := 0) rfl)]; kernel_rfl) ?_
 intro g2 a2 w2 F2 M2
 clear F M
 refine zf (za rfl) rfl F2 rfl M2 7 (t := 29) (c := msgA ⟨0, 0, 0, 0, "".toUTF8, 0, 0, [], [], [], [], []⟩ ⟨zN, zN, zN, zN, zN⟩) (by unfold execOp; kernel_rfl) ?_
 intro g3 a3 w3 F3 M3
 clear F2 M2
 refine hK1 _ _ (zS fun _ hK4 => ?_)
 refine zR ?_
 refine rm rfl F3 fun _ F5 => ?_
 refine rm rfl F5 fun _ F6 => ?_
 refine rn rfl rfl F6 rfl (.int .i64 (c.length : Int)) (z9 _ rfl (F6.get rfl) (M3.isb (k := 5) rfl) rfl) fun _ F7 => ?_
 refine rn rfl rfl F7 rfl (.int .i64 ((min c.length 32 : Nat) : Int)) (y_min _ _ rfl (F7.get rfl) rfl (by split <;> omega)) fun _ F8 => ?_
 refine z9a (za rfl) rfl F8 rfl (z8b _ _ rfl (F8.get rfl) (M3.isb (k := 5) rfl) (F8.get rfl) (j := (min c.length 32)) rfl (Nat.min_le_left _ _)) ?_
 intro v9 a9 h9 F9
 have M9 := M3.partB 8 (k := 5) rfl h9.1 h9.2
 clear M3
 obtain ⟨A9, c9, rfl⟩ := (M9.isb (k := 8) rfl).shape
 refine zd (za rfl) rfl F9 rfl rfl (zE Try.func72 rfl) #[.slice A9 ((c.take (min c.length 32))).length c9] (zp (F9.get rfl)) (zh ((zwb (c.take (min c.length 32)) (.slice A9 ((c.take (min c.length 32))).length c9) (zi (c.take 32)) (by rw [List.length_take]; omega) (by rw [zpb]) w3 (M9.isb (k := 8) rfl)))) ?_
 rintro _ w10 a10 ⟨rfl, b10⟩ F10
 have M10 := M9.step b10
 refine zB 3 [(1, .int .i64 8), (2, v), (3, .pointer (some ⟨g2, 0, none⟩)), (6, .pointer (some ⟨g3, 0, none⟩)), (17, numV (zi (c.take 32))), (18, .bool true)] [] dnil [] F10 fun _ F11 => ?_
 refine zf (za rfl) rfl F11 rfl M10 9 (t := 27) (c := numA 0) (zda rfl) ?_
 intro g12 a12 w12 F12 M12
 clear F11 M10
 refine zn (za rfl) rfl F12 M12 (k := 9) rfl _ _ _ rfl (F12.get rfl) (F12.get rfl) (numA (zi (c.take 32))) _ rfl (zL rfl) (zaa _) (zt rfl) z7 ?_
 intro w13 M13
 clear M12
 refine rm rfl F12 fun _ F14 => ?_
 refine hK4 _ _ (zS fun _ hK15 => ?_)
 refine zR ?_
 refine zba (za rfl) rfl F14 rfl (z0b M13 10 rfl) ?_
 intro v16 a16 w16 F16 M16
 clear F14 M13
 obtain ⟨A16, c16, rfl⟩ := (M16.isO (k := 10) rfl).shape
 refine rm rfl F16 fun _ F17 => ?_
 refine zba (za rfl) rfl F17 rfl (z2a M16 (k := 10) rfl _ _ rfl (F17.get rfl) (F17.get rfl) (M16.isb (k := 5) rfl) (by simp only [List.length_nil]; omega)) ?_
 intro v18 a18 w18 F18 M18
 clear F17 M16
 obtain ⟨A18, c18, rfl⟩ := (M18.isO (k := 10) rfl).shape
 refine rm rfl F18 fun _ F19 => ?_
 refine hK15 _ _ (zS fun _ hK20 => ?_)
 refine zT fun _ hK21 => ?_
 refine rm rfl F19 fun _ F22 => ?_
 refine hK21 _ _ (wp_block ?_)
 refine zT fun _ hK23 => ?_
 refine zA 2 [(24, .bool false), (23, .bool false)] [] dnil [] F22 fun _ F24 => ?_
 refine hK23 _ _ (wp_cond_false (F24.get rfl) ?_)
 refine zT fun _ hK25 => ?_
 refine zA 2 [(29, .bool false), (28, .bool false)] [] dnil [] F24 fun _ F26 => ?_
 refine hK25 _ _ (wp_cond_false (F26.get rfl) ?_)
 refine zT fun _ hK27 => ?_
 refine zA 2 [(34, .bool false), (33, .bool false)] [] dnil [] F26 fun _ F28 => ?_
 refine hK27 _ _ (wp_cond_false (F28.get rfl) ?_)
 refine zT fun _ hK29 => ?_
 refine zA 2 [(38, .bool false), (37, .bool false)] [] dnil [] F28 fun _ F30 => ?_
 refine hK29 _ _ (wp_cond_false (F30.get rfl) ?_)
 refine zT fun _ hK31 => ?_
 refine zA 2 [(42, .bool false), (41, .bool false)] [] dnil [] F30 fun _ F32 => ?_
 refine hK31 _ _ (wp_cond_false (F32.get rfl) ?_)
 refine zT fun _ hK33 => ?_
 refine zA 2 [(46, .bool false), (45, .bool false)] [] dnil [] F32 fun _ F34 => ?_
 refine hK33 _ _ (wp_cond_false (F34.get rfl) ?_)
 refine zT fun _ hK35 => ?_
 refine zA 2 [(50, .bool false), (49, .bool false)] [] dnil [] F34 fun _ F36 => ?_
 refine hK35 _ _ (wp_cond_false (F36.get rfl) ?_)
 refine zT fun _ hK37 => ?_
 refine zA 2 [(54, .bool true), (53, .bool true)] [] dnil [] F36 fun _ F38 => ?_
 refine hK37 _ _ (wp_cond_true (F38.get rfl) ?_)
 refine zR ?_
 refine rm rfl F38 fun _ F39 => ?_
 refine rn rfl rfl F39 rfl (.pointer (some ⟨g2, 24, none⟩)) (y_fa (off := 24) rfl (F39.get rfl) (by kernel_rfl) rfl) fun _ F40 => ?_
 refine zn (za rfl) rfl F40 M18 (k := 6) rfl _ _ _ rfl (F40.get rfl) (F40.get rfl) (#[.slice A18 (([] ++ c)).length c18]) (msgA ⟨m.k, m.p, m.c, m.e, m.s, m.a, m.b, m.l5, m.l6, m.l7, ([] ++ c), m.l9⟩ ⟨V.v5, V.v6, V.v7, .slice A18 (([] ++ c)).length c18, V.v9⟩) rfl (zL rfl) (zmb rfl) (by kernel_rfl) (by kernel_rfl) ?_
 intro w41 M41
 clear M18
 refine hK20 _ _ (zS fun _ hK42 => ?_)
 refine zR ?_
 refine rn rfl rfl F40 rfl _ (zja _ _ rfl (F40.get rfl) (M41.blk (k := 6) rfl) (msgA ⟨m.k, m.p, m.c, m.e, m.s, m.a, m.b, m.l5, m.l6, m.l7, ([] ++ c), m.l9⟩ ⟨V.v5, V.v6, V.v7, .slice A18 (([] ++ c)).length c18, V.v9⟩) (zma rfl) Try.underlying29 rfl (by kernel_rfl)) fun _ F43 => ?_
 refine zn (za rfl) rfl F43 M41 (k := 7) rfl _ _ _ rfl (F43.get rfl) (F43.get rfl) (msgA ⟨m.k, m.p, m.c, m.e, m.s, m.a, m.b, m.l5, m.l6, m.l7, ([] ++ c), m.l9⟩ ⟨V.v5, V.v6, V.v7, .slice A18 (([] ++ c)).length c18, V.v9⟩) _ rfl (zL rfl) (zy (w := w41) ⟨(M41.isb (k := 0) rfl), (M41.isb (k := 1) rfl), (M41.isb (k := 2) rfl), (M41.isO (k := 10) rfl), (M41.isb (k := 4) rfl)⟩) (zt rfl) (by kernel_rfl) ?_
 intro w44 M44
 clear M41
 refine hK42 _ _ (wp_ret ?_)
 try simp only [Exit.then, Exit.inBlock, Exit.jump]
 exact bodyPost_ret (results_cell_row rfl _ _ _ _ _ (0, 0) _ (F43.get rfl) (M44.blk (k := 7) rfl) Try.underlying29 rfl (by kernel_rfl)) F43.defers ⟨_, rfl, (.slice A18 (([] ++ c)).length c18), rfl, (by have h := M44.byt (k := 10) rfl; rwa [List.nil_append] at h), M44.below⟩
theorem rset_9 (m : MsgN) (V : MsgV) (c : List UInt8) (v : Value) (hc : c.length ≤ 100000)  (w : World) (hm : MsgIs w m V) (hv : IsB w c v) :
  Calls Try.prog 57 #[.agg (msgA m V), .int .i64 9, v] w fun e w' => ∃ t, e = .returned t ∧ ∃ u, t = .agg (msgA (setR m 9 c) (setV V 9 u)) ∧ Byt w' w.heap.size u c ∧ Below w.heap.size w w' := by
 refine zg (args := [.agg (msgA m V), .int .i64 9, v]) 72 Try.func57 rfl rfl rfl ?_
 intro fa F
 have M := Mx.start w
 replace M := M.argB 0 hm.h5 (fun g e => by cases e)
 replace M := M.argB 1 hm.h6 (fun g e => by cases e)
 replace M := M.argB 2 hm.h7 (fun g e => by cases e)
 replace M := M.argB 3 hm.h8 (fun g e => by cases e)
 replace M := M.argB 4 hm.h9 (fun g e => by cases e)
 replace M := M.argB 5 hv (fun g e => by cases e)
 refine zT fun _ hK1 => ?_
 refine zf (za rfl) rfl F rfl M 6 (t := 29) (c := msgA m V) (by unfold execOp; simp only [(F.get (t := 0) rfl)]; kernel_rfl) ?_
 intro g2 a2 w2 F2 M2
 clear F M
 refine zf (za rfl) rfl F2 rfl M2 7 (t := 29) (c := msgA ⟨0, 0, 0, 0, "".toUTF8, 0, 0, [], [], [], [], []⟩ ⟨zN, zN, zN, zN, zN⟩) (by unfold execOp; kernel_rfl) ?_
 intro g3 a3 w3 F3 M3
 clear F2 M2
 refine hK1 _ _ (zS fun _ hK4 => ?_)
 refine zR ?_
 refine rm rfl F3 fun _ F5 => ?_
 refine rm rfl F5 fun _ F6 => ?_
 refine rn rfl rfl F6 rfl (.int .i64 (c.length : Int)) (z9 _ rfl (F6.get rfl) (M3.isb (k := 5) rfl) rfl) fun _ F7 => ?_
 refine rn rfl rfl F7 rfl (.int .i64 ((min c.length 32 : Nat) : Int)) (y_min _ _ rfl (F7.get rfl) rfl (by split <;> omega)) fun _ F8 => ?_
 refine z9a (za rfl) rfl F8 rfl (z8b _ _ rfl (F8.get rfl) (M3.isb (k := 5) rfl) (F8.get rfl) (j := (min c.length 32)) rfl (Nat.min_le_left _ _)) ?_
 intro v9 a9 h9 F9
 have M9 := M3.partB 8 (k := 5) rfl h9.1 h9.2
 clear M3
 obtain ⟨A9, c9, rfl⟩ := (M9.isb (k := 8) rfl).shape
 refine zd (za rfl) rfl F9 rfl rfl (zE Try.func72 rfl) #[.slice A9 ((c.take (min c.length 32))).length c9] (zp (F9.get rfl)) (zh ((zwb (c.take (min c.length 32)) (.slice A9 ((c.take (min c.length 32))).length c9) (zi (c.take 32)) (by rw [List.length_take]; omega) (by rw [zpb]) w3 (M9.isb (k := 8) rfl)))) ?_
 rintro _ w10 a10 ⟨rfl, b10⟩ F10
 have M10 := M9.step b10
 refine zB 3 [(1, .int .i64 9), (2, v), (3, .pointer (some ⟨g2, 0, none⟩)), (6, .pointer (some ⟨g3, 0, none⟩)), (17, numV (zi (c.take 32))), (18, .bool true)] [] dnil [] F10 fun _ F11 => ?_
 refine zf (za rfl) rfl F11 rfl M10 9 (t := 27) (c := numA 0) (zda rfl) ?_
 intro g12 a12 w12 F12 M12
 clear F11 M10
 refine zn (za rfl) rfl F12 M12 (k := 9) rfl _ _ _ rfl (F12.get rfl) (F12.get rfl) (numA (zi (c.take 32))) _ rfl (zL rfl) (zaa _) (zt rfl) z7 ?_
 intro w13 M13
 clear M12
 refine rm rfl F12 fun _ F14 => ?_
 refine hK4 _ _ (zS fun _ hK15 => ?_)
 refine zR ?_
 refine zba (za rfl) rfl F14 rfl (z0b M13 10 rfl) ?_
 intro v16 a16 w16 F16 M16
 clear F14 M13
 obtain ⟨A16, c16, rfl⟩ := (M16.isO (k := 10) rfl).shape
 refine rm rfl F16 fun _ F17 => ?_
 refine zba (za rfl) rfl F17 rfl (z2a M16 (k := 10) rfl _ _ rfl (F17.get rfl) (F17.get rfl) (M16.isb (k := 5) rfl) (by simp only [List.length_nil]; omega)) ?_
 intro v18 a18 w18 F18 M18
 clear F17 M16
 obtain ⟨A18, c18, rfl⟩ := (M18.isO (k := 10) rfl).shape
 refine rm rfl F18 fun _ F19 => ?_
 refine hK15 _ _ (zS fun _ hK20 => ?_)
 refine zT fun _ hK21 => ?_
 refine rm rfl F19 fun _ F22 => ?_
 refine hK21 _ _ (wp_block ?_)
 refine zT fun _ hK23 => ?_
 refine zA 2 [(24, .bool false), (23, .bool false)] [] dnil [] F22 fun _ F24 => ?_
 refine hK23 _ _ (wp_cond_false (F24.get rfl) ?_)
 refine zT fun _ hK25 => ?_
 refine zA 2 [(29, .bool false), (28, .bool false)] [] dnil [] F24 fun _ F26 => ?_
 refine hK25 _ _ (wp_cond_false (F26.get rfl) ?_)
 refine zT fun _ hK27 => ?_
 refine zA 2 [(34, .bool false), (33, .bool false)] [] dnil [] F26 fun _ F28 => ?_
 refine hK27 _ _ (wp_cond_false (F28.get rfl) ?_)
 refine zT fun _ hK29 => ?_
 refine zA 2 [(38, .bool false), (37, .bool false)] [] dnil [] F28 fun _ F30 => ?_
 refine hK29 _ _ (wp_cond_false (F30.get rfl) ?_)
 refine zT fun _ hK31 => ?_
 refine zA 2 [(42, .bool false), (41, .bool false)] [] dnil [] F30 fun _ F32 => ?_
 refine hK31 _ _ (wp_cond_false (F32.get rfl) ?_)
 refine zT fun _ hK33 => ?_
 refine zA 2 [(46, .bool false), (45, .bool false)] [] dnil [] F32 fun _ F34 => ?_
 refine hK33 _ _ (wp_cond_false (F34.get rfl) ?_)
 refine zT fun _ hK35 => ?_
 refine zA 2 [(50, .bool false), (49, .bool false)] [] dnil [] F34 fun _ F36 => ?_
 refine hK35 _ _ (wp_cond_false (F36.get rfl) ?_)
 refine zT fun _ hK37 => ?_
 refine zA 2 [(54, .bool false), (53, .bool false)] [] dnil [] F36 fun _ F38 => ?_
 refine hK37 _ _ (wp_cond_false (F38.get rfl) ?_)
 refine zT fun _ hK39 => ?_
 refine zA 2 [(58, .bool true), (57, .bool true)] [] dnil [] F38 fun _ F40 => ?_
 refine hK39 _ _ (wp_cond_true (F40.get rfl) ?_)
 refine zR ?_
 refine rm rfl F40 fun _ F41 => ?_
 refine rn rfl rfl F41 rfl (.pointer (some ⟨g2, 25, none⟩)) (y_fa (off := 25) rfl (F41.get rfl) (by kernel_rfl) rfl) fun _ F42 => ?_
 refine zn (za rfl) rfl F42 M18 (k := 6) rfl _ _ _ rfl (F42.get rfl) (F42.get rfl) (#[.slice A18 (([] ++ c)).length c18]) (msgA ⟨m.k, m.p, m.c, m.e, m.s, m.a, m.b, m.l5, m.l6, m.l7, m.l8, ([] ++ c)⟩ ⟨V.v5, V.v6, V.v7, V.v8, .slice A18 (([] ++ c)).length c18⟩) rfl (zL rfl) (zmb rfl) (by kernel_rfl) (by kernel_rfl) ?_
 intro w43 M43
 clear M18
 refine hK20 _ _ (zS fun _ hK44 => ?_)
 refine zR ?_
 refine rn rfl rfl F42 rfl _ (zja _ _ rfl (F42.get rfl) (M43.blk (k := 6) rfl) (msgA ⟨m.k, m.p, m.c, m.e, m.s, m.a, m.b, m.l5, m.l6, m.l7, m.l8, ([] ++ c)⟩ ⟨V.v5, V.v6, V.v7, V.v8, .slice A18 (([] ++ c)).length c18⟩) (zma rfl) Try.underlying29 rfl (by kernel_rfl)) fun _ F45 => ?_
 refine zn (za rfl) rfl F45 M43 (k := 7) rfl _ _ _ rfl (F45.get rfl) (F45.get rfl) (msgA ⟨m.k, m.p, m.c, m.e, m.s, m.a, m.b, m.l5, m.l6, m.l7, m.l8, ([] ++ c)⟩ ⟨V.v5, V.v6, V.v7, V.v8, .slice A18 (([] ++ c)).length c18⟩) _ rfl (zL rfl) (zy (w := w43) ⟨(M43.isb (k := 0) rfl), (M43.isb (k := 1) rfl), (M43.isb (k := 2) rfl), (M43.isb (k := 3) rfl), (M43.isO (k := 10) rfl)⟩) (zt rfl) (by kernel_rfl) ?_
 intro w46 M46
 clear M43
 refine hK44 _ _ (wp_ret ?_)
 try simp only [Exit.then, Exit.inBlock, Exit.jump]
 exact bodyPost_ret (results_cell_row rfl _ _ _ _ _ (0, 0) _ (F45.get rfl) (M46.blk (k := 7) rfl) Try.underlying29 rfl (by kernel_rfl)) F45.defers ⟨_, rfl, (.slice A18 (([] ++ c)).length c18), rfl, (by have h := M46.byt (k := 10) rfl; rwa [List.nil_append] at h), M46.below⟩
theorem rset_10 (m : MsgN) (V : MsgV) (c : List UInt8) (v : Value) (hc : c.length ≤ 100000)  (w : World) (hm : MsgIs w m V) (hv : IsB w c v) :
  Calls Try.prog 57 #[.agg (msgA m V), .int .i64 10, v] w fun e w' => ∃ t, e = .returned t ∧ ∃ u, t = .agg (msgA (setR m 10 c) (setV V 10 u)) ∧ Byt w' w.heap.size u c ∧ Below w.heap.size w w' := by
 refine zg (args := [.agg (msgA m V), .int .i64 10, v]) 72 Try.func57 rfl rfl rfl ?_
 intro fa F
 have M := Mx.start w
 replace M := M.argB 0 hm.h5 (fun g e => by cases e)
 replace M := M.argB 1 hm.h6 (fun g e => by cases e)
 replace M := M.argB 2 hm.h7 (fun g e => by cases e)
 replace M := M.argB 3 hm.h8 (fun g e => by cases e)
 replace M := M.argB 4 hm.h9 (fun g e => by cases e)
 replace M := M.argB 5 hv (fun g e => by cases e)
 refine zT fun _ hK1 => ?_
 refine zf (za rfl) rfl F rfl M 6 (t := 29) (c := msgA m V) (by unfold execOp; simp only [(F.get (t := 0) rfl)]; kernel_rfl) ?_
 intro g2 a2 w2 F2 M2
 clear F M
 refine zf (za rfl) rfl F2 rfl M2 7 (t := 29) (c := msgA ⟨0, 0, 0, 0, "".toUTF8, 0, 0, [], [], [], [], []⟩ ⟨zN, zN, zN, zN, zN⟩) (by unfold execOp; kernel_rfl) ?_
 intro g3 a3 w3 F3 M3
 clear F2 M2
 refine hK1 _ _ (zS fun _ hK4 => ?_)
 refine zR ?_
 refine rm rfl F3 fun _ F5 => ?_
 refine rm rfl F5 fun _ F6 => ?_
 refine rn rfl rfl F6 rfl (.int .i64 (c.length : Int)) (z9 _ rfl (F6.get rfl) (M3.isb (k := 5) rfl) rfl) fun _ F7 => ?_
 refine rn rfl rfl F7 rfl (.int .i64 ((min c.length 32 : Nat) : Int)) (y_min _ _ rfl (F7.get rfl) rfl (by split <;> omega)) fun _ F8 => ?_
 refine z9a (za rfl) rfl F8 rfl (z8b _ _ rfl (F8.get rfl) (M3.isb (k := 5) rfl) (F8.get rfl) (j := (min c.length 32)) rfl (Nat.min_le_left _ _)) ?_
 intro v9 a9 h9 F9
 have M9 := M3.partB 8 (k := 5) rfl h9.1 h9.2
 clear M3
 obtain ⟨A9, c9, rfl⟩ := (M9.isb (k := 8) rfl).shape
 refine zd (za rfl) rfl F9 rfl rfl (zE Try.func72 rfl) #[.slice A9 ((c.take (min c.length 32))).length c9] (zp (F9.get rfl)) (zh ((zwb (c.take (min c.length 32)) (.slice A9 ((c.take (min c.length 32))).length c9) (zi (c.take 32)) (by rw [List.length_take]; omega) (by rw [zpb]) w3 (M9.isb (k := 8) rfl)))) ?_
 rintro _ w10 a10 ⟨rfl, b10⟩ F10
 have M10 := M9.step b10
 refine zB 3 [(1, .int .i64 10), (2, v), (3, .pointer (some ⟨g2, 0, none⟩)), (6, .pointer (some ⟨g3, 0, none⟩)), (17, numV (zi (c.take 32))), (18, .bool true)] [] dnil [] F10 fun _ F11 => ?_
 refine zf (za rfl) rfl F11 rfl M10 9 (t := 27) (c := numA 0) (zda rfl) ?_
 intro g12 a12 w12 F12 M12
 clear F11 M10
 refine zn (za rfl) rfl F12 M12 (k := 9) rfl _ _ _ rfl (F12.get rfl) (F12.get rfl) (numA (zi (c.take 32))) _ rfl (zL rfl) (zaa _) (zt rfl) z7 ?_
 intro w13 M13
 clear M12
 refine rm rfl F12 fun _ F14 => ?_
 refine hK4 _ _ (zS fun _ hK15 => ?_)
 refine zR ?_
 refine zba (za rfl) rfl F14 rfl (z0b M13 10 rfl) ?_
 intro v16 a16 w16 F16 M16
 clear F14 M13
 obtain ⟨A16, c16, rfl⟩ := (M16.isO (k := 10) rfl).shape
 refine rm rfl F16 fun _ F17 => ?_
 refine zba (za rfl) rfl F17 rfl (z2a M16 (k := 10) rfl _ _ rfl (F17.get rfl) (F17.get rfl) (M16.isb (k := 5) rfl) (by simp only [List.length_nil]; omega)) ?_
 intro v18 a18 w18 F18 M18
 clear F17 M16
 obtain ⟨A18, c18, rfl⟩ := (M18.isO (k := 10) rfl).shape
 refine rm rfl F18 fun _ F19 => ?_
 refine hK15 _ _ (zS fun _ hK20 => ?_)
 refine zT fun _ hK21 => ?_
 refine rm rfl F19 fun _ F22 => ?_
 refine hK21 _ _ (wp_block ?_)
 refine zT fun _ hK23 => ?_
 refine zA 2 [(24, .bool false), (23, .bool false)] [] dnil [] F22 fun _ F24 => ?_
 refine hK23 _ _ (wp_cond_false (F24.get rfl) ?_)
 refine zT fun _ hK25 => ?_
 refine zA 2 [(29, .bool false), (28, .bool false)] [] dnil [] F24 fun _ F26 => ?_
 refine hK25 _ _ (wp_cond_false (F26.get rfl) ?_)
 refine zT fun _ hK27 => ?_
 refine zA 2 [(34, .bool false), (33, .bool false)] [] dnil [] F26 fun _ F28 => ?_
 refine hK27 _ _ (wp_cond_false (F28.get rfl) ?_)
 refine zT fun _ hK29 => ?_
 refine zA 2 [(38, .bool false), (37, .bool false)] [] dnil [] F28 fun _ F30 => ?_
 refine hK29 _ _ (wp_cond_false (F30.get rfl) ?_)
 refine zT fun _ hK31 => ?_
 refine zA 2 [(42, .bool false), (41, .bool false)] [] dnil [] F30 fun _ F32 => ?_
 refine hK31 _ _ (wp_cond_false (F32.get rfl) ?_)
 refine zT fun _ hK33 => ?_
 refine zA 2 [(46, .bool false), (45, .bool false)] [] dnil [] F32 fun _ F34 => ?_
 refine hK33 _ _ (wp_cond_false (F34.get rfl) ?_)
 refine zT fun _ hK35 => ?_
 refine zA 2 [(50, .bool false), (49, .bool false)] [] dnil [] F34 fun _ F36 => ?_
 refine hK35 _ _ (wp_cond_false (F36.get rfl) ?_)
 refine zT fun _ hK37 => ?_
 refine zA 2 [(54, .bool false), (53, .bool false)] [] dnil [] F36 fun _ F38 => ?_
 refine hK37 _ _ (wp_cond_false (F38.get rfl) ?_)
 refine zT fun _ hK39 => ?_
 refine zA 2 [(58, .bool false), (57, .bool false)] [] dnil [] F38 fun _ F40 => ?_
 refine hK39 _ _ (wp_cond_false (F40.get rfl) ?_)
 refine zT fun _ hK41 => ?_
 refine zA 2 [(62, .bool true), (61, .bool true)] [] dnil [] F40 fun _ F42 => ?_
 refine hK41 _ _ (wp_cond_true (F42.get rfl) ?_)
 refine zR ?_
 refine rm rfl F42 fun _ F43 => ?_
 refine zd (za rfl) rfl F43 rfl rfl (zE Try.func70 rfl) #[v] (zp (F43.get rfl)) (zh ((rnumR_any c (v) hc w18 (M18.isb (k := 5) rfl)))) ?_
 rintro _ w44 a44 ⟨rfl, b44⟩ F44
 have M44 := M18.step b44
 refine rn rfl rfl F44 rfl (.pointer (some ⟨g2, 2, none⟩)) (y_fa (off := 2) rfl (F44.get rfl) (by kernel_rfl) rfl) fun _ F45 => ?_
 refine zn (za rfl) rfl F45 M44 (k := 6) rfl _ _ _ rfl (F45.get rfl) (F45.get rfl) (#[.int .i64 (numR c)]) (msgA ⟨m.k, m.p, (numR c), m.e, m.s, m.a, m.b, m.l5, m.l6, m.l7, m.l8, m.l9⟩ ⟨V.v5, V.v6, V.v7, V.v8, V.v9⟩) rfl (zL rfl) (zeb _ _) (by kernel_rfl) (by kernel_rfl) ?_
 intro w46 M46
 clear M44
 refine hK20 _ _ (zS fun _ hK47 => ?_)
 refine zR ?_
 refine rn rfl rfl F45 rfl _ (zja _ _ rfl (F45.get rfl) (M46.blk (k := 6) rfl) (msgA ⟨m.k, m.p, (numR c), m.e, m.s, m.a, m.b, m.l5, m.l6, m.l7, m.l8, m.l9⟩ ⟨V.v5, V.v6, V.v7, V.v8, V.v9⟩) (zma rfl) Try.underlying29 rfl (by kernel_rfl)) fun _ F48 => ?_
 refine zn (za rfl) rfl F48 M46 (k := 7) rfl _ _ _ rfl (F48.get rfl) (F48.get rfl) (msgA ⟨m.k, m.p, (numR c), m.e, m.s, m.a, m.b, m.l5, m.l6, m.l7, m.l8, m.l9⟩ ⟨V.v5, V.v6, V.v7, V.v8, V.v9⟩) _ rfl (zL rfl) (zy (w := w46) ⟨(M46.isb (k := 0) rfl), (M46.isb (k := 1) rfl), (M46.isb (k := 2) rfl), (M46.isb (k := 3) rfl), (M46.isb (k := 4) rfl)⟩) (zt rfl) (by kernel_rfl) ?_
 intro w49 M49
 clear M46
 refine hK47 _ _ (wp_ret ?_)
 try simp only [Exit.then, Exit.inBlock, Exit.jump]
 exact bodyPost_ret (results_cell_row rfl _ _ _ _ _ (0, 0) _ (F48.get rfl) (M49.blk (k := 7) rfl) Try.underlying29 rfl (by kernel_rfl)) F48.defers ⟨_, rfl, (.slice A18 (([] ++ c)).length c18), rfl, (by have h := M49.byt (k := 10) rfl; rwa [List.nil_append] at h), M49.below⟩
theorem rset_11 (m : MsgN) (V : MsgV) (c : List UInt8) (v : Value) (hc : c.length ≤ 100000)  (w : World) (hm : MsgIs w m V) (hv : IsB w c v) :
  Calls Try.prog 57 #[.agg (msgA m V), .int .i64 11, v] w fun e w' => ∃ t, e = .returned t ∧ ∃ u, t = .agg (msgA (setR m 11 c) (setV V 11 u)) ∧ Byt w' w.heap.size u c ∧ Below w.heap.size w w' := by
 refine zg (args := [.agg (msgA m V), .int .i64 11, v]) 72 Try.func57 rfl rfl rfl ?_
 intro fa F
 have M := Mx.start w
 replace M := M.argB 0 hm.h5 (fun g e => by cases e)
 replace M := M.argB 1 hm.h6 (fun g e => by cases e)
 replace M := M.argB 2 hm.h7 (fun g e => by cases e)
 replace M := M.argB 3 hm.h8 (fun g e => by cases e)
 replace M := M.argB 4 hm.h9 (fun g e => by cases e)
 replace M := M.argB 5 hv (fun g e => by cases e)
 refine zT fun _ hK1 => ?_
 refine zf (za rfl) rfl F rfl M 6 (t := 29) (c := msgA m V) (by unfold execOp; simp only [(F.get (t := 0) rfl)]; kernel_rfl) ?_
 intro g2 a2 w2 F2 M2
 clear F M
 refine zf (za rfl) rfl F2 rfl M2 7 (t := 29) (c := msgA ⟨0, 0, 0, 0, "".toUTF8, 0, 0, [], [], [], [], []⟩ ⟨zN, zN, zN, zN, zN⟩) (by unfold execOp; kernel_rfl) ?_
 intro g3 a3 w3 F3 M3
 clear F2 M2
 refine hK1 _ _ (zS fun _ hK4 => ?_)
 refine zR ?_
 refine rm rfl F3 fun _ F5 => ?_
 refine rm rfl F5 fun _ F6 => ?_
 refine rn rfl rfl F6 rfl (.int .i64 (c.length : Int)) (z9 _ rfl (F6.get rfl) (M3.isb (k := 5) rfl) rfl) fun _ F7 => ?_
 refine rn rfl rfl F7 rfl (.int .i64 ((min c.length 32 : Nat) : Int)) (y_min _ _ rfl (F7.get rfl) rfl (by split <;> omega)) fun _ F8 => ?_
 refine z9a (za rfl) rfl F8 rfl (z8b _ _ rfl (F8.get rfl) (M3.isb (k := 5) rfl) (F8.get rfl) (j := (min c.length 32)) rfl (Nat.min_le_left _ _)) ?_
 intro v9 a9 h9 F9
 have M9 := M3.partB 8 (k := 5) rfl h9.1 h9.2
 clear M3
 obtain ⟨A9, c9, rfl⟩ := (M9.isb (k := 8) rfl).shape
 refine zd (za rfl) rfl F9 rfl rfl (zE Try.func72 rfl) #[.slice A9 ((c.take (min c.length 32))).length c9] (zp (F9.get rfl)) (zh ((zwb (c.take (min c.length 32)) (.slice A9 ((c.take (min c.length 32))).length c9) (zi (c.take 32)) (by rw [List.length_take]; omega) (by rw [zpb]) w3 (M9.isb (k := 8) rfl)))) ?_
 rintro _ w10 a10 ⟨rfl, b10⟩ F10
 have M10 := M9.step b10
 refine zB 3 [(1, .int .i64 11), (2, v), (3, .pointer (some ⟨g2, 0, none⟩)), (6, .pointer (some ⟨g3, 0, none⟩)), (17, numV (zi (c.take 32))), (18, .bool true)] [] dnil [] F10 fun _ F11 => ?_
 refine zf (za rfl) rfl F11 rfl M10 9 (t := 27) (c := numA 0) (zda rfl) ?_
 intro g12 a12 w12 F12 M12
 clear F11 M10
 refine zn (za rfl) rfl F12 M12 (k := 9) rfl _ _ _ rfl (F12.get rfl) (F12.get rfl) (numA (zi (c.take 32))) _ rfl (zL rfl) (zaa _) (zt rfl) z7 ?_
 intro w13 M13
 clear M12
 refine rm rfl F12 fun _ F14 => ?_
 refine hK4 _ _ (zS fun _ hK15 => ?_)
 refine zR ?_
 refine zba (za rfl) rfl F14 rfl (z0b M13 10 rfl) ?_
 intro v16 a16 w16 F16 M16
 clear F14 M13
 obtain ⟨A16, c16, rfl⟩ := (M16.isO (k := 10) rfl).shape
 refine rm rfl F16 fun _ F17 => ?_
 refine zba (za rfl) rfl F17 rfl (z2a M16 (k := 10) rfl _ _ rfl (F17.get rfl) (F17.get rfl) (M16.isb (k := 5) rfl) (by simp only [List.length_nil]; omega)) ?_
 intro v18 a18 w18 F18 M18
 clear F17 M16
 obtain ⟨A18, c18, rfl⟩ := (M18.isO (k := 10) rfl).shape
 refine rm rfl F18 fun _ F19 => ?_
 refine hK15 _ _ (zS fun _ hK20 => ?_)
 refine zT fun _ hK21 => ?_
 refine rm rfl F19 fun _ F22 => ?_
 refine hK21 _ _ (wp_block ?_)
 refine zT fun _ hK23 => ?_
 refine zA 2 [(24, .bool false), (23, .bool false)] [] dnil [] F22 fun _ F24 => ?_
 refine hK23 _ _ (wp_cond_false (F24.get rfl) ?_)
 refine zT fun _ hK25 => ?_
 refine zA 2 [(29, .bool false), (28, .bool false)] [] dnil [] F24 fun _ F26 => ?_
 refine hK25 _ _ (wp_cond_false (F26.get rfl) ?_)
 refine zT fun _ hK27 => ?_
 refine zA 2 [(34, .bool false), (33, .bool false)] [] dnil [] F26 fun _ F28 => ?_
 refine hK27 _ _ (wp_cond_false (F28.get rfl) ?_)
 refine zT fun _ hK29 => ?_
 refine zA 2 [(38, .bool false), (37, .bool false)] [] dnil [] F28 fun _ F30 => ?_
 refine hK29 _ _ (wp_cond_false (F30.get rfl) ?_)
 refine zT fun _ hK31 => ?_
 refine zA 2 [(42, .bool false), (41, .bool false)] [] dnil [] F30 fun _ F32 => ?_
 refine hK31 _ _ (wp_cond_false (F32.get rfl) ?_)
 refine zT fun _ hK33 => ?_
 refine zA 2 [(46, .bool false), (45, .bool false)] [] dnil [] F32 fun _ F34 => ?_
 refine hK33 _ _ (wp_cond_false (F34.get rfl) ?_)
 refine zT fun _ hK35 => ?_
 refine zA 2 [(50, .bool false), (49, .bool false)] [] dnil [] F34 fun _ F36 => ?_
 refine hK35 _ _ (wp_cond_false (F36.get rfl) ?_)
 refine zT fun _ hK37 => ?_
 refine zA 2 [(54, .bool false), (53, .bool false)] [] dnil [] F36 fun _ F38 => ?_
 refine hK37 _ _ (wp_cond_false (F38.get rfl) ?_)
 refine zT fun _ hK39 => ?_
 refine zA 2 [(58, .bool false), (57, .bool false)] [] dnil [] F38 fun _ F40 => ?_
 refine hK39 _ _ (wp_cond_false (F40.get rfl) ?_)
 refine zT fun _ hK41 => ?_
 refine zA 2 [(62, .bool false), (61, .bool false)] [] dnil [] F40 fun _ F42 => ?_
 refine hK41 _ _ (wp_cond_false (F42.get rfl) ?_)
 refine zT fun _ hK43 => ?_
 refine zA 2 [(67, .bool true), (66, .bool true)] [] dnil [] F42 fun _ F44 => ?_
 refine hK43 _ _ (wp_cond_true (F44.get rfl) ?_)
 refine zR ?_
 refine rm rfl F44 fun _ F45 => ?_
 refine zd (za rfl) rfl F45 rfl rfl (zE Try.func70 rfl) #[v] (zp (F45.get rfl)) (zh ((rnumR_any c (v) hc w18 (M18.isb (k := 5) rfl)))) ?_
 rintro _ w46 a46 ⟨rfl, b46⟩ F46
 have M46 := M18.step b46
 refine rn rfl rfl F46 rfl (.pointer (some ⟨g2, 3, none⟩)) (y_fa (off := 3) rfl (F46.get rfl) (by kernel_rfl) rfl) fun _ F47 => ?_
 refine zn (za rfl) rfl F47 M46 (k := 6) rfl _ _ _ rfl (F47.get rfl) (F47.get rfl) (#[.int .i64 (numR c)]) (msgA ⟨m.k, m.p, m.c, (numR c), m.s, m.a, m.b, m.l5, m.l6, m.l7, m.l8, m.l9⟩ ⟨V.v5, V.v6, V.v7, V.v8, V.v9⟩) rfl (zL rfl) (zeb _ _) (by kernel_rfl) (by kernel_rfl) ?_
 intro w48 M48
 clear M46
 refine hK20 _ _ (zS fun _ hK49 => ?_)
 refine zR ?_
 refine rn rfl rfl F47 rfl _ (zja _ _ rfl (F47.get rfl) (M48.blk (k := 6) rfl) (msgA ⟨m.k, m.p, m.c, (numR c), m.s, m.a, m.b, m.l5, m.l6, m.l7, m.l8, m.l9⟩ ⟨V.v5, V.v6, V.v7, V.v8, V.v9⟩) (zma rfl) Try.underlying29 rfl (by kernel_rfl)) fun _ F50 => ?_
 refine zn (za rfl) rfl F50 M48 (k := 7) rfl _ _ _ rfl (F50.get rfl) (F50.get rfl) (msgA ⟨m.k, m.p, m.c, (numR c), m.s, m.a, m.b, m.l5, m.l6, m.l7, m.l8, m.l9⟩ ⟨V.v5, V.v6, V.v7, V.v8, V.v9⟩) _ rfl (zL rfl) (zy (w := w48) ⟨(M48.isb (k := 0) rfl), (M48.isb (k := 1) rfl), (M48.isb (k := 2) rfl), (M48.isb (k := 3) rfl), (M48.isb (k := 4) rfl)⟩) (zt rfl) (by kernel_rfl) ?_
 intro w51 M51
 clear M48
 refine hK49 _ _ (wp_ret ?_)
 try simp only [Exit.then, Exit.inBlock, Exit.jump]
 exact bodyPost_ret (results_cell_row rfl _ _ _ _ _ (0, 0) _ (F50.get rfl) (M51.blk (k := 7) rfl) Try.underlying29 rfl (by kernel_rfl)) F50.defers ⟨_, rfl, (.slice A18 (([] ++ c)).length c18), rfl, (by have h := M51.byt (k := 10) rfl; rwa [List.nil_append] at h), M51.below⟩
theorem rset_no (m : MsgN) (V : MsgV) (c : List UInt8) (v : Value) (hc : c.length ≤ 100000) (n : Nat) (hn : n < 1 ∨ 11 < n) (w : World) (hm : MsgIs w m V) (hv : IsB w c v) :
  Calls Try.prog 57 #[.agg (msgA m V), .int .i64 (n : Int), v] w fun e w' => ∃ t, e = .returned t ∧ ∃ u, t = .agg (msgA (setR m n c) (setV V n u)) ∧ Byt w' w.heap.size u c ∧ Below w.heap.size w w' := by
 refine zg (args := [.agg (msgA m V), .int .i64 (n : Int), v]) 72 Try.func57 rfl rfl rfl ?_
 intro fa F
 have M := Mx.start w
 replace M := M.argB 0 hm.h5 (fun g e => by cases e)
 replace M := M.argB 1 hm.h6 (fun g e => by cases e)
 replace M := M.argB 2 hm.h7 (fun g e => by cases e)
 replace M := M.argB 3 hm.h8 (fun g e => by cases e)
 replace M := M.argB 4 hm.h9 (fun g e => by cases e)
 replace M := M.argB 5 hv (fun g e => by cases e)
 refine zT fun _ hK1 => ?_
 refine zf (za rfl) rfl F rfl M 6 (t := 29) (c := msgA m V) (by unfold execOp; simp only [(F.get (t := 0) rfl)]; kernel_rfl) ?_
 intro g2 a2 w2 F2 M2
 clear F M
 refine zf (za rfl) rfl F2 rfl M2 7 (t := 29) (c := msgA ⟨0, 0, 0, 0, "".toUTF8, 0, 0, [], [], [], [], []⟩ ⟨zN, zN, zN, zN, zN⟩) (by unfold execOp; kernel_rfl) ?_
 intro g3 a3 w3 F3 M3
 clear F2 M2
 refine hK1 _ _ (zS fun _ hK4 => ?_)
 refine zR ?_
 refine rm rfl F3 fun _ F5 => ?_
 refine rm rfl F5 fun _ F6 => ?_
 refine rn rfl rfl F6 rfl (.int .i64 (c.length : Int)) (z9 _ rfl (F6.get rfl) (M3.isb (k := 5) rfl) rfl) fun _ F7 => ?_
 refine rn rfl rfl F7 rfl (.int .i64 ((min c.length 32 : Nat) : Int)) (y_min _ _ rfl (F7.get rfl) rfl (by split <;> omega)) fun _ F8 => ?_
 refine z9a (za rfl) rfl F8 rfl (z8b _ _ rfl (F8.get rfl) (M3.isb (k := 5) rfl) (F8.get rfl) (j := (min c.length 32)) rfl (Nat.min_le_left _ _)) ?_
 intro v9 a9 h9 F9
 have M9 := M3.partB 8 (k := 5) rfl h9.1 h9.2
 clear M3
 obtain ⟨A9, c9, rfl⟩ := (M9.isb (k := 8) rfl).shape
 refine zd (za rfl) rfl F9 rfl rfl (zE Try.func72 rfl) #[.slice A9 ((c.take (min c.length 32))).length c9] (zp (F9.get rfl)) (zh ((zwb (c.take (min c.length 32)) (.slice A9 ((c.take (min c.length 32))).length c9) (zi (c.take 32)) (by rw [List.length_take]; omega) (by rw [zpb]) w3 (M9.isb (k := 8) rfl)))) ?_
 rintro _ w10 a10 ⟨rfl, b10⟩ F10
 have M10 := M9.step b10
 refine zB 3 [(1, .int .i64 (n : Int)), (2, v), (3, .pointer (some ⟨g2, 0, none⟩)), (6, .pointer (some ⟨g3, 0, none⟩)), (17, numV (zi (c.take 32))), (18, .bool true)] [] dnil [] F10 fun _ F11 => ?_
 refine zf (za rfl) rfl F11 rfl M10 9 (t := 27) (c := numA 0) (zda rfl) ?_
 intro g12 a12 w12 F12 M12
 clear F11 M10
 refine zn (za rfl) rfl F12 M12 (k := 9) rfl _ _ _ rfl (F12.get rfl) (F12.get rfl) (numA (zi (c.take 32))) _ rfl (zL rfl) (zaa _) (zt rfl) z7 ?_
 intro w13 M13
 clear M12
 refine rm rfl F12 fun _ F14 => ?_
 refine hK4 _ _ (zS fun _ hK15 => ?_)
 refine zR ?_
 refine zba (za rfl) rfl F14 rfl (z0b M13 10 rfl) ?_
 intro v16 a16 w16 F16 M16
 clear F14 M13
 obtain ⟨A16, c16, rfl⟩ := (M16.isO (k := 10) rfl).shape
 refine rm rfl F16 fun _ F17 => ?_
 refine zba (za rfl) rfl F17 rfl (z2a M16 (k := 10) rfl _ _ rfl (F17.get rfl) (F17.get rfl) (M16.isb (k := 5) rfl) (by simp only [List.length_nil]; omega)) ?_
 intro v18 a18 w18 F18 M18
 clear F17 M16
 obtain ⟨A18, c18, rfl⟩ := (M18.isO (k := 10) rfl).shape
 refine rm rfl F18 fun _ F19 => ?_
 refine hK15 _ _ (zS fun _ hK20 => ?_)
 refine zT fun _ hK21 => ?_
 refine rm rfl F19 fun _ F22 => ?_
 refine hK21 _ _ (wp_block ?_)
 refine zT fun _ hK23 => ?_
 refine rn rfl rfl F22 rfl (.bool false) (zq _ _ _ _ rfl (F22.get rfl) rfl Try.underlying3 (zr (by omega))) fun _ F24 => ?_
 refine rm rfl F24 fun _ F25 => ?_
 refine hK23 _ _ (wp_cond_false (F25.get rfl) ?_)
 refine zT fun _ hK26 => ?_
 refine rn rfl rfl F25 rfl (.bool false) (zq _ _ _ _ rfl (F25.get rfl) rfl Try.underlying3 (zr (by omega))) fun _ F27 => ?_
 refine rm rfl F27 fun _ F28 => ?_
 refine hK26 _ _ (wp_cond_false (F28.get rfl) ?_)
 refine zT fun _ hK29 => ?_
 refine rn rfl rfl F28 rfl (.bool false) (zq _ _ _ _ rfl (F28.get rfl) rfl Try.underlying3 (zr (by omega))) fun _ F30 => ?_
 refine rm rfl F30 fun _ F31 => ?_
 refine hK29 _ _ (wp_cond_false (F31.get rfl) ?_)
 refine zT fun _ hK32 => ?_
 refine rn rfl rfl F31 rfl (.bool false) (zq _ _ _ _ rfl (F31.get rfl) rfl Try.underlying3 (zr (by omega))) fun _ F33 => ?_
 refine rm rfl F33 fun _ F34 => ?_
 refine hK32 _ _ (wp_cond_false (F34.get rfl) ?_)
 refine zT fun _ hK35 => ?_
 refine rn rfl rfl F34 rfl (.bool false) (zq _ _ _ _ rfl (F34.get rfl) rfl Try.underlying3 (zr (by omega))) fun _ F36 => ?_
 refine rm rfl F36 fun _ F37 => ?_
 refine hK35 _ _ (wp_cond_false (F37.get rfl) ?_)
 refine zT fun _ hK38 => ?_
 refine rn rfl rfl F37 rfl (.bool false) (zq _ _ _ _ rfl (F37.get rfl) rfl Try.underlying3 (zr (by omega))) fun _ F39 => ?_
 refine rm rfl F39 fun _ F40 => ?_
 refine hK38 _ _ (wp_cond_false (F40.get rfl) ?_)
 refine zT fun _ hK41 => ?_
 refine rn rfl rfl F40 rfl (.bool false) (zq _ _ _ _ rfl (F40.get rfl) rfl Try.underlying3 (zr (by omega))) fun _ F42 => ?_
 refine rm rfl F42 fun _ F43 => ?_
 refine hK41 _ _ (wp_cond_false (F43.get rfl) ?_)
 refine zT fun _ hK44 => ?_
 refine rn rfl rfl F43 rfl (.bool false) (zq _ _ _ _ rfl (F43.get rfl) rfl Try.underlying3 (zr (by omega))) fun _ F45 => ?_
 refine rm rfl F45 fun _ F46 => ?_
 refine hK44 _ _ (wp_cond_false (F46.get rfl) ?_)
 refine zT fun _ hK47 => ?_
 refine rn rfl rfl F46 rfl (.bool false) (zq _ _ _ _ rfl (F46.get rfl) rfl Try.underlying3 (zr (by omega))) fun _ F48 => ?_
 refine rm rfl F48 fun _ F49 => ?_
 refine hK47 _ _ (wp_cond_false (F49.get rfl) ?_)
 refine zT fun _ hK50 => ?_
 refine rn rfl rfl F49 rfl (.bool false) (zq _ _ _ _ rfl (F49.get rfl) rfl Try.underlying3 (zr (by omega))) fun _ F51 => ?_
 refine rm rfl F51 fun _ F52 => ?_
 refine hK50 _ _ (wp_cond_false (F52.get rfl) ?_)
 refine zT fun _ hK53 => ?_
 refine rn rfl rfl F52 rfl (.bool false) (zq _ _ _ _ rfl (F52.get rfl) rfl Try.underlying3 (zr (by omega))) fun _ F54 => ?_
 refine rm rfl F54 fun _ F55 => ?_
 refine hK53 _ _ (wp_cond_false (F55.get rfl) ?_)
 refine wp_skip ?_
 refine hK20 _ _ (zS fun _ hK56 => ?_)
 refine zR ?_
 refine rn rfl rfl F55 rfl _ (zja _ _ rfl (F55.get rfl) (M18.blk (k := 6) rfl) (msgA m V) (zma rfl) Try.underlying29 rfl (by kernel_rfl)) fun _ F57 => ?_
 refine zn (za rfl) rfl F57 M18 (k := 7) rfl _ _ _ rfl (F57.get rfl) (F57.get rfl) (msgA m V) _ rfl (zL rfl) (zy (w := w18) ⟨(M18.isb (k := 0) rfl), (M18.isb (k := 1) rfl), (M18.isb (k := 2) rfl), (M18.isb (k := 3) rfl), (M18.isb (k := 4) rfl)⟩) (zt rfl) (by kernel_rfl) ?_
 intro w58 M58
 clear M18
 refine hK56 _ _ (wp_ret ?_)
 try simp only [Exit.then, Exit.inBlock, Exit.jump]
 exact bodyPost_ret (results_cell_row rfl _ _ _ _ _ (0, 0) _ (F57.get rfl) (M58.blk (k := 7) rfl) Try.underlying29 rfl (by kernel_rfl)) F57.defers ⟨_, rfl, (.slice A18 (([] ++ c)).length c18), by rw [setR_no hn, setV_no hn], (by have h := M58.byt (k := 10) rfl; rwa [List.nil_append] at h), M58.below⟩
theorem rset_any (m : MsgN) (V : MsgV) (c : List UInt8) (v : Value) (hc : c.length ≤ 100000) (n : Nat) (w : World) (hm : MsgIs w m V) (hv : IsB w c v) :
    Calls Try.prog 57 #[.agg (msgA m V), .int .i64 (n : Int), v] w fun e w' => ∃ t, e = .returned t ∧ ∃ u, t = .agg (msgA (setR m n c) (setV V n u)) ∧ Byt w' w.heap.size u c ∧ Below w.heap.size w w' := by
  have : n = 1 ∨ n = 2 ∨ n = 3 ∨ n = 4 ∨ n = 5 ∨ n = 6 ∨ n = 7 ∨ n = 8 ∨ n = 9 ∨ n = 10 ∨ n = 11 ∨ (n < 1 ∨ 11 < n) := by omega
  rcases this with rfl | rfl | rfl | rfl | rfl | rfl | rfl | rfl | rfl | rfl | rfl | hn
  · exact rset_1 m V c v hc w hm hv
  · exact rset_2 m V c v hc w hm hv
  · exact rset_3 m V c v hc w hm hv
  · exact rset_4 m V c v hc w hm hv
  · exact rset_5 m V c v hc w hm hv
  · exact rset_6 m V c v hc w hm hv
  · exact rset_7 m V c v hc w hm hv
  · exact rset_8 m V c v hc w hm hv
  · exact rset_9 m V c v hc w hm hv
  · exact rset_10 m V c v hc w hm hv
  · exact rset_11 m V c v hc w hm hv
  · exact rset_no m V c v hc n hn w hm hv
end Go.Proofs.Ytlbkogdmojlpmaa
