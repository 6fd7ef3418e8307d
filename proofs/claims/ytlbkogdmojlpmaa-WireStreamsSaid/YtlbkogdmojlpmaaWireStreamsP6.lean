/- What WireStreams stands on, part 6. -/
import Derived.Test.YtlbkogdmojlpmaaWireStreamsP1
import Derived.Test.YtlbkogdmojlpmaaWireStreamsP2
import Derived.Test.YtlbkogdmojlpmaaWireStreamsP3
import Derived.Test.YtlbkogdmojlpmaaWireStreamsP4
import Derived.Test.YtlbkogdmojlpmaaWireStreamsP5
set_option maxRecDepth 100000
set_option maxHeartbeats 8000000
set_option linter.unusedVariables false
set_option linter.unusedSimpArgs false
namespace Go.Proofs.Ytlbkogdmojlpmaa
open Go.ChangeShapes Go.WideShapes Go.ChangeAt Go.RowKit
def z7a (l : List UInt8) : Nat := if l.length ≤ 32 then zi l else 0
theorem lread_any (l : List UInt8) (v : Value) (hm : l.length ≤ 100000) (w : World) (hv : IsB w l v) : Calls Try.prog 82 #[v] w fun e w' => e = .returned (.tuple #[numV (z7a l), .bool (decide (l.length ≤ 32))]) ∧ Below w.heap.size w w' := by
  obtain ⟨A, c, rfl, h1, h2, h3, h4⟩ := hv
  unfold z7a
  by_cases h : l.length ≤ 32
  · rw [if_pos h, decide_eq_true h]
    exact read_any A l l.length c rfl h h1 h2 w h4
  · rw [if_neg h, decide_eq_false h]
    exact read_none A l.length c (by omega) (by omega) w
def setM (m : MsgN) (n : Nat) (c : List UInt8) : MsgN := match n with
  | 1 => { m with p := numI c }
  | 2 => { m with s := ⟨c.toArray⟩ }
  | 3 => { m with a := z7a c }
  | 4 => { m with b := z7a c }
  | 5 => { m with l5 := c }
  | 6 => { m with l6 := c }
  | 7 => { m with l7 := c }
  | 8 => { m with l8 := c }
  | 9 => { m with l9 := c }
  | 10 => { m with c := numI c }
  | 11 => { m with e := numI c }
  | _ => m
def setV (V : MsgV) (n : Nat) (v : Value) : MsgV := match n with
  | 5 => { V with v5 := v }
  | 6 => { V with v6 := v }
  | 7 => { V with v7 := v }
  | 8 => { V with v8 := v }
  | 9 => { V with v9 := v }
  | _ => V
theorem setM_no {m : MsgN} {n : Nat} {c : List UInt8} (h : n < 1 ∨ 11 < n) : setM m n c = m := by
  unfold setM
  split <;> first | rfl | omega
theorem setV_no {V : MsgV} {n : Nat} {v : Value} (h : n < 1 ∨ 11 < n) : setV V n v = V := by
  unfold setV
  split <;> first | rfl | omega
theorem set_1 (g : Nat) (m : MsgN) (V : MsgV) (c : List UInt8) (v : Value) (hc : c.length ≤ 100000)  (w : World) (hg : w.heap[g]? = some (.cells (msgA m V) 29 (0, 0))) (hv : IsB w c v) (hd : ¬ bfp v g) :
  Calls Try.prog 54 #[.pointer (some ⟨g, 0, none⟩), .int .i64 1, v] w fun e w' => e = .returned (.tuple #[]) ∧ w'.heap[g]? = some (.cells (msgA (setM m 1 c) (setV V 1 v)) 29 (0, 0)) ∧ w.grownBy w' (some g) := by
 obtain ⟨A, cc, rfl⟩ := hv.shape
 refine zg (args := [.pointer (some ⟨g, 0, none⟩), .int .i64 1, .slice A c.length cc]) 97 Try.func54 rfl rfl rfl ?_
 intro fa F
 have M := Mx.theG hg 0
 replace M := M.argB 1 hv (fun b e => by cases e; exact hd)
 refine zT fun _ hK1 => ?_
 refine rm rfl F fun _ F2 => ?_
 refine hK1 _ _ (wp_block ?_)
 refine zT fun _ hK3 => ?_
 refine zA 2 [(10, .bool true), (9, .bool true)] [] dnil [] F2 fun _ F4 => ?_
 refine hK3 _ _ (wp_cond_true (F4.get rfl) ?_)
 refine zR ?_
 refine rm rfl F4 fun _ F5 => ?_
 refine rm rfl F5 fun _ F6 => ?_
 refine zd (za rfl) rfl F6 rfl rfl (zE Try.func81 rfl) #[.slice A c.length cc] (zp (F6.get rfl)) (zh ((number_any c (.slice A c.length cc) hc w (M.isb (k := 1) rfl)))) ?_
 rintro _ w7 a7 ⟨rfl, b7⟩ F7
 have M7 := M.step b7
 refine zB 5 [(15, .int .i64 (numI c)), (18, .pointer (some ⟨g, 1, none⟩))] [] dnil [] F7 fun _ F8 => ?_
 refine zn (za rfl) rfl F8 M7 (k := 0) rfl _ _ _ rfl (F8.get rfl) (F8.get rfl) (#[.int .i64 (numI c)]) (msgA ⟨m.k, (numI c), m.c, m.e, m.s, m.a, m.b, m.l5, m.l6, m.l7, m.l8, m.l9⟩ ⟨V.v5, V.v6, V.v7, V.v8, V.v9⟩) rfl (zL rfl) (zeb _ _) (by kernel_rfl) (by kernel_rfl) ?_
 intro w9 M9
 clear M7
 refine wpList_nil ?_
 try simp only [Exit.then, Exit.inBlock, Exit.jump]
 exact bodyPost_end (res0 rfl) F8.defers ⟨rfl, M9.blk (k := 0) rfl, M9.grown⟩
theorem set_2 (g : Nat) (m : MsgN) (V : MsgV) (c : List UInt8) (v : Value) (hc : c.length ≤ 100000)  (w : World) (hg : w.heap[g]? = some (.cells (msgA m V) 29 (0, 0))) (hv : IsB w c v) (hd : ¬ bfp v g) :
  Calls Try.prog 54 #[.pointer (some ⟨g, 0, none⟩), .int .i64 2, v] w fun e w' => e = .returned (.tuple #[]) ∧ w'.heap[g]? = some (.cells (msgA (setM m 2 c) (setV V 2 v)) 29 (0, 0)) ∧ w.grownBy w' (some g) := by
 obtain ⟨A, cc, rfl⟩ := hv.shape
 refine zg (args := [.pointer (some ⟨g, 0, none⟩), .int .i64 2, .slice A c.length cc]) 97 Try.func54 rfl rfl rfl ?_
 intro fa F
 have M := Mx.theG hg 0
 replace M := M.argB 1 hv (fun b e => by cases e; exact hd)
 refine zT fun _ hK1 => ?_
 refine rm rfl F fun _ F2 => ?_
 refine hK1 _ _ (wp_block ?_)
 refine zT fun _ hK3 => ?_
 refine zA 2 [(10, .bool false), (9, .bool false)] [] dnil [] F2 fun _ F4 => ?_
 refine hK3 _ _ (wp_cond_false (F4.get rfl) ?_)
 refine zT fun _ hK5 => ?_
 refine zA 2 [(20, .bool true), (19, .bool true)] [] dnil [] F4 fun _ F6 => ?_
 refine hK5 _ _ (wp_cond_true (F6.get rfl) ?_)
 refine zR ?_
 refine rm rfl F6 fun _ F7 => ?_
 refine rm rfl F7 fun _ F8 => ?_
 refine rn rfl rfl F8 rfl (.string (⟨(c).toArray⟩)) (y_str _ rfl (F8.get rfl) (M.isb (k := 1) rfl)) fun _ F9 => ?_
 refine zB 2 [(23, .string (⟨(c).toArray⟩)), (25, .pointer (some ⟨g, 4, none⟩))] [] dnil [] F9 fun _ F10 => ?_
 refine zn (za rfl) rfl F10 M (k := 0) rfl _ _ _ rfl (F10.get rfl) (F10.get rfl) (#[.string (⟨(c).toArray⟩)]) (msgA ⟨m.k, m.p, m.c, m.e, ⟨(c).toArray⟩, m.a, m.b, m.l5, m.l6, m.l7, m.l8, m.l9⟩ ⟨V.v5, V.v6, V.v7, V.v8, V.v9⟩) rfl (zL rfl) (one_str _) (by kernel_rfl) (by kernel_rfl) ?_
 intro w11 M11
 clear M
 refine wpList_nil ?_
 try simp only [Exit.then, Exit.inBlock, Exit.jump]
 exact bodyPost_end (res0 rfl) F10.defers ⟨rfl, M11.blk (k := 0) rfl, M11.grown⟩
theorem set_3 (g : Nat) (m : MsgN) (V : MsgV) (c : List UInt8) (v : Value) (hc : c.length ≤ 100000)  (w : World) (hg : w.heap[g]? = some (.cells (msgA m V) 29 (0, 0))) (hv : IsB w c v) (hd : ¬ bfp v g) :
  Calls Try.prog 54 #[.pointer (some ⟨g, 0, none⟩), .int .i64 3, v] w fun e w' => e = .returned (.tuple #[]) ∧ w'.heap[g]? = some (.cells (msgA (setM m 3 c) (setV V 3 v)) 29 (0, 0)) ∧ w.grownBy w' (some g) := by
 obtain ⟨A, cc, rfl⟩ := hv.shape
 refine zg (args := [.pointer (some ⟨g, 0, none⟩), .int .i64 3, .slice A c.length cc]) 97 Try.func54 rfl rfl rfl ?_
 intro fa F
 have M := Mx.theG hg 0
 replace M := M.argB 1 hv (fun b e => by cases e; exact hd)
 refine zT fun _ hK1 => ?_
 refine rm rfl F fun _ F2 => ?_
 refine hK1 _ _ (wp_block ?_)
 refine zT fun _ hK3 => ?_
 refine zA 2 [(10, .bool false), (9, .bool false)] [] dnil [] F2 fun _ F4 => ?_
 refine hK3 _ _ (wp_cond_false (F4.get rfl) ?_)
 refine zT fun _ hK5 => ?_
 refine zA 2 [(20, .bool false), (19, .bool false)] [] dnil [] F4 fun _ F6 => ?_
 refine hK5 _ _ (wp_cond_false (F6.get rfl) ?_)
 refine zT fun _ hK7 => ?_
 refine zA 2 [(27, .bool true), (26, .bool true)] [] dnil [] F6 fun _ F8 => ?_
 refine hK7 _ _ (wp_cond_true (F8.get rfl) ?_)
 refine zR ?_
 refine rm rfl F8 fun _ F9 => ?_
 refine rm rfl F9 fun _ F10 => ?_
 refine zd (za rfl) rfl F10 rfl rfl (zE Try.func82 rfl) #[.slice A c.length cc] (zp (F10.get rfl)) (zh ((lread_any c (.slice A c.length cc) hc w (M.isb (k := 1) rfl)))) ?_
 rintro _ w11 a11 ⟨rfl, b11⟩ F11
 have M11 := M.step b11
 refine zB 5 [(32, numV (z7a c)), (35, .pointer (some ⟨g, 5, none⟩))] [] dnil [] F11 fun _ F12 => ?_
 refine zn (za rfl) rfl F12 M11 (k := 0) rfl _ _ _ rfl (F12.get rfl) (F12.get rfl) (numA (z7a c)) (msgA ⟨m.k, m.p, m.c, m.e, m.s, (z7a c), m.b, m.l5, m.l6, m.l7, m.l8, m.l9⟩ ⟨V.v5, V.v6, V.v7, V.v8, V.v9⟩) rfl (zL rfl) (zaa _) (by kernel_rfl) z7 ?_
 intro w13 M13
 clear M11
 refine wpList_nil ?_
 try simp only [Exit.then, Exit.inBlock, Exit.jump]
 exact bodyPost_end (res0 rfl) F12.defers ⟨rfl, M13.blk (k := 0) rfl, M13.grown⟩
theorem set_4 (g : Nat) (m : MsgN) (V : MsgV) (c : List UInt8) (v : Value) (hc : c.length ≤ 100000)  (w : World) (hg : w.heap[g]? = some (.cells (msgA m V) 29 (0, 0))) (hv : IsB w c v) (hd : ¬ bfp v g) :
  Calls Try.prog 54 #[.pointer (some ⟨g, 0, none⟩), .int .i64 4, v] w fun e w' => e = .returned (.tuple #[]) ∧ w'.heap[g]? = some (.cells (msgA (setM m 4 c) (setV V 4 v)) 29 (0, 0)) ∧ w.grownBy w' (some g) := by
 obtain ⟨A, cc, rfl⟩ := hv.shape
 refine zg (args := [.pointer (some ⟨g, 0, none⟩), .int .i64 4, .slice A c.length cc]) 97 Try.func54 rfl rfl rfl ?_
 intro fa F
 have M := Mx.theG hg 0
 replace M := M.argB 1 hv (fun b e => by cases e; exact hd)
 refine zT fun _ hK1 => ?_
 refine rm rfl F fun _ F2 => ?_
 refine hK1 _ _ (wp_block ?_)
 refine zT fun _ hK3 => ?_
 refine zA 2 [(10, .bool false), (9, .bool false)] [] dnil [] F2 fun _ F4 => ?_
 refine hK3 _ _ (wp_cond_false (F4.get rfl) ?_)
 refine zT fun _ hK5 => ?_
 refine zA 2 [(20, .bool false), (19, .bool false)] [] dnil [] F4 fun _ F6 => ?_
 refine hK5 _ _ (wp_cond_false (F6.get rfl) ?_)
 refine zT fun _ hK7 => ?_
 refine zA 2 [(27, .bool false), (26, .bool false)] [] dnil [] F6 fun _ F8 => ?_
 refine hK7 _ _ (wp_cond_false (F8.get rfl) ?_)
 refine zT fun _ hK9 => ?_
 refine zA 2 [(37, .bool true), (36, .bool true)] [] dnil [] F8 fun _ F10 => ?_
 refine hK9 _ _ (wp_cond_true (F10.get rfl) ?_)
 refine zR ?_
 refine rm rfl F10 fun _ F11 => ?_
 refine rm rfl F11 fun _ F12 => ?_
 refine zd (za rfl) rfl F12 rfl rfl (zE Try.func82 rfl) #[.slice A c.length cc] (zp (F12.get rfl)) (zh ((lread_any c (.slice A c.length cc) hc w (M.isb (k := 1) rfl)))) ?_
 rintro _ w13 a13 ⟨rfl, b13⟩ F13
 have M13 := M.step b13
 refine zB 5 [(42, numV (z7a c)), (45, .pointer (some ⟨g, 13, none⟩))] [] dnil [] F13 fun _ F14 => ?_
 refine zn (za rfl) rfl F14 M13 (k := 0) rfl _ _ _ rfl (F14.get rfl) (F14.get rfl) (numA (z7a c)) (msgA ⟨m.k, m.p, m.c, m.e, m.s, m.a, (z7a c), m.l5, m.l6, m.l7, m.l8, m.l9⟩ ⟨V.v5, V.v6, V.v7, V.v8, V.v9⟩) rfl (zL rfl) (zaa _) (by kernel_rfl) z7 ?_
 intro w15 M15
 clear M13
 refine wpList_nil ?_
 try simp only [Exit.then, Exit.inBlock, Exit.jump]
 exact bodyPost_end (res0 rfl) F14.defers ⟨rfl, M15.blk (k := 0) rfl, M15.grown⟩
theorem set_5 (g : Nat) (m : MsgN) (V : MsgV) (c : List UInt8) (v : Value) (hc : c.length ≤ 100000)  (w : World) (hg : w.heap[g]? = some (.cells (msgA m V) 29 (0, 0))) (hv : IsB w c v) (hd : ¬ bfp v g) :
  Calls Try.prog 54 #[.pointer (some ⟨g, 0, none⟩), .int .i64 5, v] w fun e w' => e = .returned (.tuple #[]) ∧ w'.heap[g]? = some (.cells (msgA (setM m 5 c) (setV V 5 v)) 29 (0, 0)) ∧ w.grownBy w' (some g) := by
 obtain ⟨A, cc, rfl⟩ := hv.shape
 refine zg (args := [.pointer (some ⟨g, 0, none⟩), .int .i64 5, .slice A c.length cc]) 97 Try.func54 rfl rfl rfl ?_
 intro fa F
 have M := Mx.theG hg 0
 replace M := M.argB 1 hv (fun b e => by cases e; exact hd)
 refine zT fun _ hK1 => ?_
 refine rm rfl F fun _ F2 => ?_
 refine hK1 _ _ (wp_block ?_)
 refine zT fun _ hK3 => ?_
 refine zA 2 [(10, .bool false), (9, .bool false)] [] dnil [] F2 fun _ F4 => ?_
 refine hK3 _ _ (wp_cond_false (F4.get rfl) ?_)
 refine zT fun _ hK5 => ?_
 refine zA 2 [(20, .bool false), (19, .bool false)] [] dnil [] F4 fun _ F6 => ?_
 refine hK5 _ _ (wp_cond_false (F6.get rfl) ?_)
 refine zT fun _ hK7 => ?_
 refine zA 2 [(27, .bool false), (26, .bool false)] [] dnil [] F6 fun _ F8 => ?_
 refine hK7 _ _ (wp_cond_false (F8.get rfl) ?_)
 refine zT fun _ hK9 => ?_
 refine zA 2 [(37, .bool false), (36, .bool false)] [] dnil [] F8 fun _ F10 => ?_
 refine hK9 _ _ (wp_cond_false (F10.get rfl) ?_)
 refine zT fun _ hK11 => ?_
 refine zA 2 [(47, .bool true), (46, .bool true)] [] dnil [] F10 fun _ F12 => ?_
 refine hK11 _ _ (wp_cond_true (F12.get rfl) ?_)
 refine zR ?_
 refine zB 4 [(49, .slice A c.length cc), (51, .pointer (some ⟨g, 21, none⟩))] [] dnil [] F12 fun _ F13 => ?_
 refine zn (za rfl) rfl F13 M (k := 0) rfl _ _ _ rfl (F13.get rfl) (F13.get rfl) (#[.slice A c.length cc]) (msgA ⟨m.k, m.p, m.c, m.e, m.s, m.a, m.b, c, m.l6, m.l7, m.l8, m.l9⟩ ⟨.slice A c.length cc, V.v6, V.v7, V.v8, V.v9⟩) rfl (zL rfl) (zmb rfl) (by kernel_rfl) (by kernel_rfl) ?_
 intro w14 M14
 clear M
 refine wpList_nil ?_
 try simp only [Exit.then, Exit.inBlock, Exit.jump]
 exact bodyPost_end (res0 rfl) F13.defers ⟨rfl, M14.blk (k := 0) rfl, M14.grown⟩
theorem set_6 (g : Nat) (m : MsgN) (V : MsgV) (c : List UInt8) (v : Value) (hc : c.length ≤ 100000)  (w : World) (hg : w.heap[g]? = some (.cells (msgA m V) 29 (0, 0))) (hv : IsB w c v) (hd : ¬ bfp v g) :
  Calls Try.prog 54 #[.pointer (some ⟨g, 0, none⟩), .int .i64 6, v] w fun e w' => e = .returned (.tuple #[]) ∧ w'.heap[g]? = some (.cells (msgA (setM m 6 c) (setV V 6 v)) 29 (0, 0)) ∧ w.grownBy w' (some g) := by
 obtain ⟨A, cc, rfl⟩ := hv.shape
 refine zg (args := [.pointer (some ⟨g, 0, none⟩), .int .i64 6, .slice A c.length cc]) 97 Try.func54 rfl rfl rfl ?_
 intro fa F
 have M := Mx.theG hg 0
 replace M := M.argB 1 hv (fun b e => by cases e; exact hd)
 refine zT fun _ hK1 => ?_
 refine rm rfl F fun _ F2 => ?_
 refine hK1 _ _ (wp_block ?_)
 refine zT fun _ hK3 => ?_
 refine zA 2 [(10, .bool false), (9, .bool false)] [] dnil [] F2 fun _ F4 => ?_
 refine hK3 _ _ (wp_cond_false (F4.get rfl) ?_)
 refine zT fun _ hK5 => ?_
 refine zA 2 [(20, .bool false), (19, .bool false)] [] dnil [] F4 fun _ F6 => ?_
 refine hK5 _ _ (wp_cond_false (F6.get rfl) ?_)
 refine zT fun _ hK7 => ?_
 refine zA 2 [(27, .bool false), (26, .bool false)] [] dnil [] F6 fun _ F8 => ?_
 refine hK7 _ _ (wp_cond_false (F8.get rfl) ?_)
 refine zT fun _ hK9 => ?_
 refine zA 2 [(37, .bool false), (36, .bool false)] [] dnil [] F8 fun _ F10 => ?_
 refine hK9 _ _ (wp_cond_false (F10.get rfl) ?_)
 refine zT fun _ hK11 => ?_
 refine zA 2 [(47, .bool false), (46, .bool false)] [] dnil [] F10 fun _ F12 => ?_
 refine hK11 _ _ (wp_cond_false (F12.get rfl) ?_)
 refine zT fun _ hK13 => ?_
 refine zA 2 [(53, .bool true), (52, .bool true)] [] dnil [] F12 fun _ F14 => ?_
 refine hK13 _ _ (wp_cond_true (F14.get rfl) ?_)
 refine zR ?_
 refine zB 4 [(55, .slice A c.length cc), (57, .pointer (some ⟨g, 22, none⟩))] [] dnil [] F14 fun _ F15 => ?_
 refine zn (za rfl) rfl F15 M (k := 0) rfl _ _ _ rfl (F15.get rfl) (F15.get rfl) (#[.slice A c.length cc]) (msgA ⟨m.k, m.p, m.c, m.e, m.s, m.a, m.b, m.l5, c, m.l7, m.l8, m.l9⟩ ⟨V.v5, .slice A c.length cc, V.v7, V.v8, V.v9⟩) rfl (zL rfl) (zmb rfl) (by kernel_rfl) (by kernel_rfl) ?_
 intro w16 M16
 clear M
 refine wpList_nil ?_
 try simp only [Exit.then, Exit.inBlock, Exit.jump]
 exact bodyPost_end (res0 rfl) F15.defers ⟨rfl, M16.blk (k := 0) rfl, M16.grown⟩
theorem set_7 (g : Nat) (m : MsgN) (V : MsgV) (c : List UInt8) (v : Value) (hc : c.length ≤ 100000)  (w : World) (hg : w.heap[g]? = some (.cells (msgA m V) 29 (0, 0))) (hv : IsB w c v) (hd : ¬ bfp v g) :
  Calls Try.prog 54 #[.pointer (some ⟨g, 0, none⟩), .int .i64 7, v] w fun e w' => e = .returned (.tuple #[]) ∧ w'.heap[g]? = some (.cells (msgA (setM m 7 c) (setV V 7 v)) 29 (0, 0)) ∧ w.grownBy w' (some g) := by
 obtain ⟨A, cc, rfl⟩ := hv.shape
 refine zg (args := [.pointer (some ⟨g, 0, none⟩), .int .i64 7, .slice A c.length cc]) 97 Try.func54 rfl rfl rfl ?_
 intro fa F
 have M := Mx.theG hg 0
 replace M := M.argB 1 hv (fun b e => by cases e; exact hd)
 refine zT fun _ hK1 => ?_
 refine rm rfl F fun _ F2 => ?_
 refine hK1 _ _ (wp_block ?_)
 refine zT fun _ hK3 => ?_
 refine zA 2 [(10, .bool false), (9, .bool false)] [] dnil [] F2 fun _ F4 => ?_
 refine hK3 _ _ (wp_cond_false (F4.get rfl) ?_)
 refine zT fun _ hK5 => ?_
 refine zA 2 [(20, .bool false), (19, .bool false)] [] dnil [] F4 fun _ F6 => ?_
 refine hK5 _ _ (wp_cond_false (F6.get rfl) ?_)
 refine zT fun _ hK7 => ?_
 refine zA 2 [(27, .bool false), (26, .bool false)] [] dnil [] F6 fun _ F8 => ?_
 refine hK7 _ _ (wp_cond_false (F8.get rfl) ?_)
 refine zT fun _ hK9 => ?_
 refine zA 2 [(37, .bool false), (36, .bool false)] [] dnil [] F8 fun _ F10 => ?_
 refine hK9 _ _ (wp_cond_false (F10.get rfl) ?_)
 refine zT fun _ hK11 => ?_
 refine zA 2 [(47, .bool false), (46, .bool false)] [] dnil [] F10 fun _ F12 => ?_
 refine hK11 _ _ (wp_cond_false (F12.get rfl) ?_)
 refine zT fun _ hK13 => ?_
 refine zA 2 [(53, .bool false), (52, .bool false)] [] dnil [] F12 fun _ F14 => ?_
 refine hK13 _ _ (wp_cond_false (F14.get rfl) ?_)
 refine zT fun _ hK15 => ?_
 refine zA 2 [(59, .bool true), (58, .bool true)] [] dnil [] F14 fun _ F16 => ?_
 refine hK15 _ _ (wp_cond_true (F16.get rfl) ?_)
 refine zR ?_
 refine zB 4 [(61, .slice A c.length cc), (63, .pointer (some ⟨g, 23, none⟩))] [] dnil [] F16 fun _ F17 => ?_
 refine zn (za rfl) rfl F17 M (k := 0) rfl _ _ _ rfl (F17.get rfl) (F17.get rfl) (#[.slice A c.length cc]) (msgA ⟨m.k, m.p, m.c, m.e, m.s, m.a, m.b, m.l5, m.l6, c, m.l8, m.l9⟩ ⟨V.v5, V.v6, .slice A c.length cc, V.v8, V.v9⟩) rfl (zL rfl) (zmb rfl) (by kernel_rfl) (by kernel_rfl) ?_
 intro w18 M18
 clear M
 refine wpList_nil ?_
 try simp only [Exit.then, Exit.inBlock, Exit.jump]
 exact bodyPost_end (res0 rfl) F17.defers ⟨rfl, M18.blk (k := 0) rfl, M18.grown⟩
theorem set_8 (g : Nat) (m : MsgN) (V : MsgV) (c : List UInt8) (v : Value) (hc : c.length ≤ 100000)  (w : World) (hg : w.heap[g]? = some (.cells (msgA m V) 29 (0, 0))) (hv : IsB w c v) (hd : ¬ bfp v g) :
  Calls Try.prog 54 #[.pointer (some ⟨g, 0, none⟩), .int .i64 8, v] w fun e w' => e = .returned (.tuple #[]) ∧ w'.heap[g]? = some (.cells (msgA (setM m 8 c) (setV V 8 v)) 29 (0, 0)) ∧ w.grownBy w' (some g) := by
 obtain ⟨A, cc, rfl⟩ := hv.shape
 refine zg (args := [.pointer (some ⟨g, 0, none⟩), .int .i64 8, .slice A c.length cc]) 97 Try.func54 rfl rfl rfl ?_
 intro fa F
 have M := Mx.theG hg 0
 replace M := M.argB 1 hv (fun b e => by cases e; exact hd)
 refine zT fun _ hK1 => ?_
 refine rm rfl F fun _ F2 => ?_
 refine hK1 _ _ (wp_block ?_)
 refine zT fun _ hK3 => ?_
 refine zA 2 [(10, .bool false), (9, .bool false)] [] dnil [] F2 fun _ F4 => ?_
 refine hK3 _ _ (wp_cond_false (F4.get rfl) ?_)
 refine zT fun _ hK5 => ?_
 refine zA 2 [(20, .bool false), (19, .bool false)] [] dnil [] F4 fun _ F6 => ?_
 refine hK5 _ _ (wp_cond_false (F6.get rfl) ?_)
 refine zT fun _ hK7 => ?_
 refine zA 2 [(27, .bool false), (26, .bool false)] [] dnil [] F6 fun _ F8 => ?_
 refine hK7 _ _ (wp_cond_false (F8.get rfl) ?_)
 refine zT fun _ hK9 => ?_
 refine zA 2 [(37, .bool false), (36, .bool false)] [] dnil [] F8 fun _ F10 => ?_
 refine hK9 _ _ (wp_cond_false (F10.get rfl) ?_)
 refine zT fun _ hK11 => ?_
 refine zA 2 [(47, .bool false), (46, .bool false)] [] dnil [] F10 fun _ F12 => ?_
 refine hK11 _ _ (wp_cond_false (F12.get rfl) ?_)
 refine zT fun _ hK13 => ?_
 refine zA 2 [(53, .bool false), (52, .bool false)] [] dnil [] F12 fun _ F14 => ?_
 refine hK13 _ _ (wp_cond_false (F14.get rfl) ?_)
 refine zT fun _ hK15 => ?_
 refine zA 2 [(59, .bool false), (58, .bool false)] [] dnil [] F14 fun _ F16 => ?_
 refine hK15 _ _ (wp_cond_false (F16.get rfl) ?_)
 refine zT fun _ hK17 => ?_
 refine zA 2 [(65, .bool true), (64, .bool true)] [] dnil [] F16 fun _ F18 => ?_
 refine hK17 _ _ (wp_cond_true (F18.get rfl) ?_)
 refine zR ?_
 refine zB 4 [(67, .slice A c.length cc), (69, .pointer (some ⟨g, 24, none⟩))] [] dnil [] F18 fun _ F19 => ?_
 refine zn (za rfl) rfl F19 M (k := 0) rfl _ _ _ rfl (F19.get rfl) (F19.get rfl) (#[.slice A c.length cc]) (msgA ⟨m.k, m.p, m.c, m.e, m.s, m.a, m.b, m.l5, m.l6, m.l7, c, m.l9⟩ ⟨V.v5, V.v6, V.v7, .slice A c.length cc, V.v9⟩) rfl (zL rfl) (zmb rfl) (by kernel_rfl) (by kernel_rfl) ?_
 intro w20 M20
 clear M
 refine wpList_nil ?_
 try simp only [Exit.then, Exit.inBlock, Exit.jump]
 exact bodyPost_end (res0 rfl) F19.defers ⟨rfl, M20.blk (k := 0) rfl, M20.grown⟩
theorem set_9 (g : Nat) (m : MsgN) (V : MsgV) (c : List UInt8) (v : Value) (hc : c.length ≤ 100000)  (w : World) (hg : w.heap[g]? = some (.cells (msgA m V) 29 (0, 0))) (hv : IsB w c v) (hd : ¬ bfp v g) :
  Calls Try.prog 54 #[.pointer (some ⟨g, 0, none⟩), .int .i64 9, v] w fun e w' => e = .returned (.tuple #[]) ∧ w'.heap[g]? = some (.cells (msgA (setM m 9 c) (setV V 9 v)) 29 (0, 0)) ∧ w.grownBy w' (some g) := by
 obtain ⟨A, cc, rfl⟩ := hv.shape
 refine zg (args := [.pointer (some ⟨g, 0, none⟩), .int .i64 9, .slice A c.length cc]) 97 Try.func54 rfl rfl rfl ?_
 intro fa F
 have M := Mx.theG hg 0
 replace M := M.argB 1 hv (fun b e => by cases e; exact hd)
 refine zT fun _ hK1 => ?_
 refine rm rfl F fun _ F2 => ?_
 refine hK1 _ _ (wp_block ?_)
 refine zT fun _ hK3 => ?_
 refine zA 2 [(10, .bool false), (9, .bool false)] [] dnil [] F2 fun _ F4 => ?_
 refine hK3 _ _ (wp_cond_false (F4.get rfl) ?_)
 refine zT fun _ hK5 => ?_
 refine zA 2 [(20, .bool false), (19, .bool false)] [] dnil [] F4 fun _ F6 => ?_
 refine hK5 _ _ (wp_cond_false (F6.get rfl) ?_)
 refine zT fun _ hK7 => ?_
 refine zA 2 [(27, .bool false), (26, .bool false)] [] dnil [] F6 fun _ F8 => ?_
 refine hK7 _ _ (wp_cond_false (F8.get rfl) ?_)
 refine zT fun _ hK9 => ?_
 refine zA 2 [(37, .bool false), (36, .bool false)] [] dnil [] F8 fun _ F10 => ?_
 refine hK9 _ _ (wp_cond_false (F10.get rfl) ?_)
 refine zT fun _ hK11 => ?_
 refine zA 2 [(47, .bool false), (46, .bool false)] [] dnil [] F10 fun _ F12 => ?_
 refine hK11 _ _ (wp_cond_false (F12.get rfl) ?_)
 refine zT fun _ hK13 => ?_
 refine zA 2 [(53, .bool false), (52, .bool false)] [] dnil [] F12 fun _ F14 => ?_
 refine hK13 _ _ (wp_cond_false (F14.get rfl) ?_)
 refine zT fun _ hK15 => ?_
 refine zA 2 [(59, .bool false), (58, .bool false)] [] dnil [] F14 fun _ F16 => ?_
 refine hK15 _ _ (wp_cond_false (F16.get rfl) ?_)
 refine zT fun _ hK17 => ?_
 refine zA 2 [(65, .bool false), (64, .bool false)] [] dnil [] F16 fun _ F18 => ?_
 refine hK17 _ _ (wp_cond_false (F18.get rfl) ?_)
 refine zT fun _ hK19 => ?_
 refine zA 2 [(71, .bool true), (70, .bool true)] [] dnil [] F18 fun _ F20 => ?_
 refine hK19 _ _ (wp_cond_true (F20.get rfl) ?_)
 refine zR ?_
 refine zB 4 [(73, .slice A c.length cc), (75, .pointer (some ⟨g, 25, none⟩))] [] dnil [] F20 fun _ F21 => ?_
 refine zn (za rfl) rfl F21 M (k := 0) rfl _ _ _ rfl (F21.get rfl) (F21.get rfl) (#[.slice A c.length cc]) (msgA ⟨m.k, m.p, m.c, m.e, m.s, m.a, m.b, m.l5, m.l6, m.l7, m.l8, c⟩ ⟨V.v5, V.v6, V.v7, V.v8, .slice A c.length cc⟩) rfl (zL rfl) (zmb rfl) (by kernel_rfl) (by kernel_rfl) ?_
 intro w22 M22
 clear M
 refine wpList_nil ?_
 try simp only [Exit.then, Exit.inBlock, Exit.jump]
 exact bodyPost_end (res0 rfl) F21.defers ⟨rfl, M22.blk (k := 0) rfl, M22.grown⟩
theorem set_10 (g : Nat) (m : MsgN) (V : MsgV) (c : List UInt8) (v : Value) (hc : c.length ≤ 100000)  (w : World) (hg : w.heap[g]? = some (.cells (msgA m V) 29 (0, 0))) (hv : IsB w c v) (hd : ¬ bfp v g) :
  Calls Try.prog 54 #[.pointer (some ⟨g, 0, none⟩), .int .i64 10, v] w fun e w' => e = .returned (.tuple #[]) ∧ w'.heap[g]? = some (.cells (msgA (setM m 10 c) (setV V 10 v)) 29 (0, 0)) ∧ w.grownBy w' (some g) := by
 obtain ⟨A, cc, rfl⟩ := hv.shape
 refine zg (args := [.pointer (some ⟨g, 0, none⟩), .int .i64 10, .slice A c.length cc]) 97 Try.func54 rfl rfl rfl ?_
 intro fa F
 have M := Mx.theG hg 0
 replace M := M.argB 1 hv (fun b e => by cases e; exact hd)
 refine zT fun _ hK1 => ?_
 refine rm rfl F fun _ F2 => ?_
 refine hK1 _ _ (wp_block ?_)
 refine zT fun _ hK3 => ?_
 refine zA 2 [(10, .bool false), (9, .bool false)] [] dnil [] F2 fun _ F4 => ?_
 refine hK3 _ _ (wp_cond_false (F4.get rfl) ?_)
 refine zT fun _ hK5 => ?_
 refine zA 2 [(20, .bool false), (19, .bool false)] [] dnil [] F4 fun _ F6 => ?_
 refine hK5 _ _ (wp_cond_false (F6.get rfl) ?_)
 refine zT fun _ hK7 => ?_
 refine zA 2 [(27, .bool false), (26, .bool false)] [] dnil [] F6 fun _ F8 => ?_
 refine hK7 _ _ (wp_cond_false (F8.get rfl) ?_)
 refine zT fun _ hK9 => ?_
 refine zA 2 [(37, .bool false), (36, .bool false)] [] dnil [] F8 fun _ F10 => ?_
 refine hK9 _ _ (wp_cond_false (F10.get rfl) ?_)
 refine zT fun _ hK11 => ?_
 refine zA 2 [(47, .bool false), (46, .bool false)] [] dnil [] F10 fun _ F12 => ?_
 refine hK11 _ _ (wp_cond_false (F12.get rfl) ?_)
 refine zT fun _ hK13 => ?_
 refine zA 2 [(53, .bool false), (52, .bool false)] [] dnil [] F12 fun _ F14 => ?_
 refine hK13 _ _ (wp_cond_false (F14.get rfl) ?_)
 refine zT fun _ hK15 => ?_
 refine zA 2 [(59, .bool false), (58, .bool false)] [] dnil [] F14 fun _ F16 => ?_
 refine hK15 _ _ (wp_cond_false (F16.get rfl) ?_)
 refine zT fun _ hK17 => ?_
 refine zA 2 [(65, .bool false), (64, .bool false)] [] dnil [] F16 fun _ F18 => ?_
 refine hK17 _ _ (wp_cond_false (F18.get rfl) ?_)
 refine zT fun _ hK19 => ?_
 refine zA 2 [(71, .bool false), (70, .bool false)] [] dnil [] F18 fun _ F20 => ?_
 refine hK19 _ _ (wp_cond_false (F20.get rfl) ?_)
 refine zT fun _ hK21 => ?_
 refine zA 2 [(77, .bool true), (76, .bool true)] [] dnil [] F20 fun _ F22 => ?_
 refine hK21 _ _ (wp_cond_true (F22.get rfl) ?_)
 refine zR ?_
 refine rm rfl F22 fun _ F23 => ?_
 refine rm rfl F23 fun _ F24 => ?_
 refine zd (za rfl) rfl F24 rfl rfl (zE Try.func81 rfl) #[.slice A c.length cc] (zp (F24.get rfl)) (zh ((number_any c (.slice A c.length cc) hc w (M.isb (k := 1) rfl)))) ?_
 rintro _ w25 a25 ⟨rfl, b25⟩ F25
 have M25 := M.step b25
 refine zB 5 [(82, .int .i64 (numI c)), (85, .pointer (some ⟨g, 2, none⟩))] [] dnil [] F25 fun _ F26 => ?_
 refine zn (za rfl) rfl F26 M25 (k := 0) rfl _ _ _ rfl (F26.get rfl) (F26.get rfl) (#[.int .i64 (numI c)]) (msgA ⟨m.k, m.p, (numI c), m.e, m.s, m.a, m.b, m.l5, m.l6, m.l7, m.l8, m.l9⟩ ⟨V.v5, V.v6, V.v7, V.v8, V.v9⟩) rfl (zL rfl) (zeb _ _) (by kernel_rfl) (by kernel_rfl) ?_
 intro w27 M27
 clear M25
 refine wpList_nil ?_
 try simp only [Exit.then, Exit.inBlock, Exit.jump]
 exact bodyPost_end (res0 rfl) F26.defers ⟨rfl, M27.blk (k := 0) rfl, M27.grown⟩
theorem set_11 (g : Nat) (m : MsgN) (V : MsgV) (c : List UInt8) (v : Value) (hc : c.length ≤ 100000)  (w : World) (hg : w.heap[g]? = some (.cells (msgA m V) 29 (0, 0))) (hv : IsB w c v) (hd : ¬ bfp v g) :
  Calls Try.prog 54 #[.pointer (some ⟨g, 0, none⟩), .int .i64 11, v] w fun e w' => e = .returned (.tuple #[]) ∧ w'.heap[g]? = some (.cells (msgA (setM m 11 c) (setV V 11 v)) 29 (0, 0)) ∧ w.grownBy w' (some g) := by
 obtain ⟨A, cc, rfl⟩ := hv.shape
 refine zg (args := [.pointer (some ⟨g, 0, none⟩), .int .i64 11, .slice A c.length cc]) 97 Try.func54 rfl rfl rfl ?_
 intro fa F
 have M := Mx.theG hg 0
 replace M := M.argB 1 hv (fun b e => by cases e; exact hd)
 refine zT fun _ hK1 => ?_
 refine rm rfl F fun _ F2 => ?_
 refine hK1 _ _ (wp_block ?_)
 refine zT fun _ hK3 => ?_
 refine zA 2 [(10, .bool false), (9, .bool false)] [] dnil [] F2 fun _ F4 => ?_
 refine hK3 _ _ (wp_cond_false (F4.get rfl) ?_)
 refine zT fun _ hK5 => ?_
 refine zA 2 [(20, .bool false), (19, .bool false)] [] dnil [] F4 fun _ F6 => ?_
 refine hK5 _ _ (wp_cond_false (F6.get rfl) ?_)
 refine zT fun _ hK7 => ?_
 refine zA 2 [(27, .bool false), (26, .bool false)] [] dnil [] F6 fun _ F8 => ?_
 refine hK7 _ _ (wp_cond_false (F8.get rfl) ?_)
 refine zT fun _ hK9 => ?_
 refine zA 2 [(37, .bool false), (36, .bool false)] [] dnil [] F8 fun _ F10 => ?_
 refine hK9 _ _ (wp_cond_false (F10.get rfl) ?_)
 refine zT fun _ hK11 => ?_
 refine zA 2 [(47, .bool false), (46, .bool false)] [] dnil [] F10 fun _ F12 => ?_
 refine hK11 _ _ (wp_cond_false (F12.get rfl) ?_)
 refine zT fun _ hK13 => ?_
 refine zA 2 [(53, .bool false), (52, .bool false)] [] dnil [] F12 fun _ F14 => ?_
 refine hK13 _ _ (wp_cond_false (F14.get rfl) ?_)
 refine zT fun _ hK15 => ?_
 refine zA 2 [(59, .bool false), (58, .bool false)] [] dnil [] F14 fun _ F16 => ?_
 refine hK15 _ _ (wp_cond_false (F16.get rfl) ?_)
 refine zT fun _ hK17 => ?_
 refine zA 2 [(65, .bool false), (64, .bool false)] [] dnil [] F16 fun _ F18 => ?_
 refine hK17 _ _ (wp_cond_false (F18.get rfl) ?_)
 refine zT fun _ hK19 => ?_
 refine zA 2 [(71, .bool false), (70, .bool false)] [] dnil [] F18 fun _ F20 => ?_
 refine hK19 _ _ (wp_cond_false (F20.get rfl) ?_)
 refine zT fun _ hK21 => ?_
 refine zA 2 [(77, .bool false), (76, .bool false)] [] dnil [] F20 fun _ F22 => ?_
 refine hK21 _ _ (wp_cond_false (F22.get rfl) ?_)
 refine zT fun _ hK23 => ?_
 refine rn rfl rfl F22 rfl (.bool true) (zq _ _ _ _ rfl (F22.get rfl) rfl Try.underlying3 (zka (by decide))) fun _ F24 => ?_
 refine rm rfl F24 fun _ F25 => ?_
 refine hK23 _ _ (wp_cond_true (F25.get rfl) ?_)
 refine zT fun _ hK26 => ?_
 refine rm rfl F25 fun _ F27 => ?_
 refine zd (za rfl) rfl F27 rfl rfl (zE Try.func81 rfl) #[.slice A c.length cc] (zp (F27.get rfl)) (zh ((number_any c (.slice A c.length cc) hc w (M.isb (k := 1) rfl)))) ?_
 rintro _ w28 a28 ⟨rfl, b28⟩ F28
 have M28 := M.step b28
 refine zB 5 [(0, .pointer (some ⟨g, 0, none⟩)), (6, .int .i64 (numI c))] [] dnil [] F28 fun _ F29 => ?_
 refine hK26 _ _ (zR ?_)
 refine zB 4 [(94, .int .i64 (numI c)), (96, .pointer (some ⟨g, 3, none⟩))] [] dnil [] F29 fun _ F30 => ?_
 refine zn (za rfl) rfl F30 M28 (k := 0) rfl _ _ _ rfl (F30.get rfl) (F30.get rfl) (#[.int .i64 (numI c)]) (msgA ⟨m.k, m.p, m.c, (numI c), m.s, m.a, m.b, m.l5, m.l6, m.l7, m.l8, m.l9⟩ ⟨V.v5, V.v6, V.v7, V.v8, V.v9⟩) rfl (zL rfl) (zeb _ _) (by kernel_rfl) (by kernel_rfl) ?_
 intro w31 M31
 clear M28
 refine wpList_nil ?_
 try simp only [Exit.then, Exit.inBlock, Exit.jump]
 exact bodyPost_end (res0 rfl) F30.defers ⟨rfl, M31.blk (k := 0) rfl, M31.grown⟩
theorem set_no (g : Nat) (m : MsgN) (V : MsgV) (c : List UInt8) (v : Value) (hc : c.length ≤ 100000) (n : Nat) (hn : n < 1 ∨ 11 < n) (w : World) (hg : w.heap[g]? = some (.cells (msgA m V) 29 (0, 0))) (hv : IsB w c v) (hd : ¬ bfp v g) :
  Calls Try.prog 54 #[.pointer (some ⟨g, 0, none⟩), .int .i64 (n : Int), v] w fun e w' => e = .returned (.tuple #[]) ∧ w'.heap[g]? = some (.cells (msgA (setM m n c) (setV V n v)) 29 (0, 0)) ∧ w.grownBy w' (some g) := by
 obtain ⟨A, cc, rfl⟩ := hv.shape
 refine zg (args := [.pointer (some ⟨g, 0, none⟩), .int .i64 (n : Int), .slice A c.length cc]) 97 Try.func54 rfl rfl rfl ?_
 intro fa F
 have M := Mx.theG hg 0
 replace M := M.argB 1 hv (fun b e => by cases e; exact hd)
 refine zT fun _ hK1 => ?_
 refine rm rfl F fun _ F2 => ?_
 refine hK1 _ _ (wp_block ?_)
 refine zT fun _ hK3 => ?_
 refine rn rfl rfl F2 rfl (.bool false) (zq _ _ _ _ rfl (F2.get rfl) rfl Try.underlying3 (zr (by omega))) fun _ F4 => ?_
 refine rm rfl F4 fun _ F5 => ?_
 refine hK3 _ _ (wp_cond_false (F5.get rfl) ?_)
 refine zT fun _ hK6 => ?_
 refine rn rfl rfl F5 rfl (.bool false) (zq _ _ _ _ rfl (F5.get rfl) rfl Try.underlying3 (zr (by omega))) fun _ F7 => ?_
 refine rm rfl F7 fun _ F8 => ?_
 refine hK6 _ _ (wp_cond_false (F8.get rfl) ?_)
 refine zT fun _ hK9 => ?_
 refine rn rfl rfl F8 rfl (.bool false) (zq _ _ _ _ rfl (F8.get rfl) rfl Try.underlying3 (zr (by omega))) fun _ F10 => ?_
 refine rm rfl F10 fun _ F11 => ?_
 refine hK9 _ _ (wp_cond_false (F11.get rfl) ?_)
 refine zT fun _ hK12 => ?_
 refine rn rfl rfl F11 rfl (.bool false) (zq _ _ _ _ rfl (F11.get rfl) rfl Try.underlying3 (zr (by omega))) fun _ F13 => ?_
 refine rm rfl F13 fun _ F14 => ?_
 refine hK12 _ _ (wp_cond_false (F14.get rfl) ?_)
 refine zT fun _ hK15 => ?_
 refine rn rfl rfl F14 rfl (.bool false) (zq _ _ _ _ rfl (F14.get rfl) rfl Try.underlying3 (zr (by omega))) fun _ F16 => ?_
 refine rm rfl F16 fun _ F17 => ?_
 refine hK15 _ _ (wp_cond_false (F17.get rfl) ?_)
 refine zT fun _ hK18 => ?_
 refine rn rfl rfl F17 rfl (.bool false) (zq _ _ _ _ rfl (F17.get rfl) rfl Try.underlying3 (zr (by omega))) fun _ F19 => ?_
 refine rm rfl F19 fun _ F20 => ?_
 refine hK18 _ _ (wp_cond_false (F20.get rfl) ?_)
 refine zT fun _ hK21 => ?_
 refine rn rfl rfl F20 rfl (.bool false) (zq _ _ _ _ rfl (F20.get rfl) rfl Try.underlying3 (zr (by omega))) fun _ F22 => ?_
 refine rm rfl F22 fun _ F23 => ?_
 refine hK21 _ _ (wp_cond_false (F23.get rfl) ?_)
 refine zT fun _ hK24 => ?_
 refine rn rfl rfl F23 rfl (.bool false) (zq _ _ _ _ rfl (F23.get rfl) rfl Try.underlying3 (zr (by omega))) fun _ F25 => ?_
 refine rm rfl F25 fun _ F26 => ?_
 refine hK24 _ _ (wp_cond_false (F26.get rfl) ?_)
 refine zT fun _ hK27 => ?_
 refine rn rfl rfl F26 rfl (.bool false) (zq _ _ _ _ rfl (F26.get rfl) rfl Try.underlying3 (zr (by omega))) fun _ F28 => ?_
 refine rm rfl F28 fun _ F29 => ?_
 refine hK27 _ _ (wp_cond_false (F29.get rfl) ?_)
 refine zT fun _ hK30 => ?_
 refine rn rfl rfl F29 rfl (.bool false) (zq _ _ _ _ rfl (F29.get rfl) rfl Try.underlying3 (zr (by omega))) fun _ F31 => ?_
 refine rm rfl F31 fun _ F32 => ?_
 refine hK30 _ _ (wp_cond_false (F32.get rfl) ?_)
 refine zT fun _ hK33 => ?_
 refine rn rfl rfl F32 rfl (.bool false) (zq _ _ _ _ rfl (F32.get rfl) rfl Try.underlying3 (zr (by omega))) fun _ F34 => ?_
 refine rm rfl F34 fun _ F35 => ?_
 refine hK33 _ _ (wp_cond_false (F35.get rfl) ?_)
 refine wp_skip ?_
 try simp only [Exit.then, Exit.inBlock, Exit.jump]
 exact bodyPost_end (res0 rfl) F35.defers ⟨rfl, (by rw [setM_no hn, setV_no hn]; exact M.blk (k := 0) rfl), M.grown⟩
theorem set_any (g : Nat) (m : MsgN) (V : MsgV) (c : List UInt8) (v : Value) (hc : c.length ≤ 100000) (n : Nat) (w : World) (hg : w.heap[g]? = some (.cells (msgA m V) 29 (0, 0))) (hv : IsB w c v) (hd : ¬ bfp v g) :
    Calls Try.prog 54 #[.pointer (some ⟨g, 0, none⟩), .int .i64 (n : Int), v] w fun e w' => e = .returned (.tuple #[]) ∧ w'.heap[g]? = some (.cells (msgA (setM m n c) (setV V n v)) 29 (0, 0)) ∧ w.grownBy w' (some g) := by
  have : n = 1 ∨ n = 2 ∨ n = 3 ∨ n = 4 ∨ n = 5 ∨ n = 6 ∨ n = 7 ∨ n = 8 ∨ n = 9 ∨ n = 10 ∨ n = 11 ∨ (n < 1 ∨ 11 < n) := by omega
  rcases this with rfl | rfl | rfl | rfl | rfl | rfl | rfl | rfl | rfl | rfl | rfl | hn
  · exact set_1 g m V c v hc w hg hv hd
  · exact set_2 g m V c v hc w hg hv hd
  · exact set_3 g m V c v hc w hg hv hd
  · exact set_4 g m V c v hc w hg hv hd
  · exact set_5 g m V c v hc w hg hv hd
  · exact set_6 g m V c v hc w hg hv hd
  · exact set_7 g m V c v hc w hg hv hd
  · exact set_8 g m V c v hc w hg hv hd
  · exact set_9 g m V c v hc w hg hv hd
  · exact set_10 g m V c v hc w hg hv hd
  · exact set_11 g m V c v hc w hg hv hd
  · exact set_no g m V c v hc n hn w hg hv hd
end Go.Proofs.Ytlbkogdmojlpmaa
namespace Go.Proofs.Ytlbkogdmojlpmaa
open Go.ChangeShapes Go.WideShapes Go.ChangeAt Go.RowKit
theorem encode_ex (m : MsgN) (V : MsgV) (ho : MsgOk m) (hs : m.s.size ≤ 1000) (w : World) (hm : MsgIs w m V) : Calls Try.prog 17 #[.agg (msgA m V)] w fun e w' => ∃ t, e = .returned t ∧ ∃ v, t = .tuple #[v, .bool (z4a m)] ∧ Byt w' w.heap.size v (encL m) ∧ Below w.heap.size w w' :=
  (encode_any m V ho hs w hm).mono fun e w' ⟨v, h1, h2, h3⟩ => ⟨_, h1, v, rfl, h2, h3⟩
theorem zy {w : World} {m : MsgN} {V : MsgV} (h : MsgIs w m V) : (msgA m V).all (·.oneCell') = true := by
  obtain ⟨v5, v6, v7, v8, v9⟩ := V
  obtain ⟨A5, c5, rfl⟩ := h.h5.shape
  obtain ⟨A6, c6, rfl⟩ := h.h6.shape
  obtain ⟨A7, c7, rfl⟩ := h.h7.shape
  obtain ⟨A8, c8, rfl⟩ := h.h8.shape
  obtain ⟨A9, c9, rfl⟩ := h.h9.shape
  simp [msgA, numF, Value.oneCell']
def mZero : MsgN := ⟨0, 0, 0, 0, ⟨#[]⟩, 0, 0, [], [], [], [], []⟩
def vZero : MsgV := ⟨zN, zN, zN, zN, zN⟩
theorem vZero_is (w : World) : MsgIs w mZero vZero := ⟨zc _, zc _, zc _, zc _, zc _⟩
theorem vZero_fp (g : Nat) (h : z6a vZero g) : False := by
  rcases h with h | h | h | h | h <;> exact z6 g h
def subV (V' V : MsgV) (g : Nat) : Prop := (bfp V'.v5 g → bfp V.v5 g) ∧ (bfp V'.v6 g → bfp V.v6 g) ∧ (bfp V'.v7 g → bfp V.v7 g) ∧ (bfp V'.v8 g → bfp V.v8 g) ∧ (bfp V'.v9 g → bfp V.v9 g)
noncomputable def zhb (m : MsgN) (b : List UInt8) : Bool := z4a m && decide (encL m = b)
noncomputable def provM (m : MsgN) (b : List UInt8) : MsgN := if zhb m b = true then m else mZero
theorem proven_any (m : MsgN) (V : MsgV) (b : List UInt8) (bv : Value) (ho : MsgOk m) (hs : m.s.size ≤ 1000) (w : World) (hm : MsgIs w m V) (hb : IsB w b bv) :
  Calls Try.prog 56 #[.agg (msgA m V), .func (.func 17) #[] #[], bv] w fun e w' => ∃ V', e = .returned (.tuple #[.agg (msgA (provM m b) V'), .bool (zhb m b)]) ∧ MsgIs w' (provM m b) V' ∧ (∀ g, subV V' V g) ∧ Below w.heap.size w w' := by
 obtain ⟨bE, hE⟩ : ∃ x, z4a m = x := ⟨_, rfl⟩
 obtain ⟨bQ, hQ⟩ : ∃ x, decide (encL m = b) = x := ⟨_, rfl⟩
 refine zg (args := [.agg (msgA m V), .func (.func 17) #[] #[], bv]) 27 Try.func56 rfl rfl rfl ?_
 intro fa F
 have M := Mx.start w
 replace M := M.argB 0 hm.h5 (fun g e => by cases e)
 replace M := M.argB 1 hm.h6 (fun g e => by cases e)
 replace M := M.argB 2 hm.h7 (fun g e => by cases e)
 replace M := M.argB 3 hm.h8 (fun g e => by cases e)
 replace M := M.argB 4 hm.h9 (fun g e => by cases e)
 replace M := M.argB 5 hb (fun g e => by cases e)
 refine zT fun _ hK1 => ?_
 refine zf (za rfl) rfl F rfl M 6 (t := 29) (c := msgA m V) (by unfold execOp; simp only [(F.get (t := 0) rfl)]; kernel_rfl) ?_
 intro g2 a2 w2 F2 M2
 clear F M
 refine zf (za rfl) rfl F2 rfl M2 7 (t := 29) (c := msgA ⟨0, 0, 0, 0, "".toUTF8, 0, 0, [], [], [], [], []⟩ ⟨zN, zN, zN, zN, zN⟩) (by unfold execOp; kernel_rfl) ?_
 intro g3 a3 w3 F3 M3
 clear F2 M2
 refine rm rfl F3 fun _ F4 => ?_
 refine hK1 _ _ (zS fun _ hK5 => ?_)
 refine zR ?_
 refine rm rfl F4 fun _ F6 => ?_
 refine rn rfl rfl F6 rfl _ (zja _ _ rfl (F6.get rfl) (M3.blk (k := 6) rfl) (msgA m V) (zma rfl) Try.underlying29 rfl (by kernel_rfl)) fun _ F7 => ?_
 refine wl_callV (za rfl) rfl F7 rfl rfl (F7.get rfl) (zE Try.func17 rfl) #[.agg (msgA m V)] (show _ ++ _ = _ from by rw [(zp (F7.get rfl))]; rfl) (hE ▸ encode_ex m V ho hs w3 ⟨M3.isb (k := 0) rfl, M3.isb (k := 1) rfl, M3.isb (k := 2) rfl, M3.isb (k := 3) rfl, M3.isb (k := 4) rfl⟩) ?_
 rintro _ w8 a8 ⟨v8, rfl, hv8, b8⟩ F8
 have M8 := M3.newO b8 8 hv8
 clear M3 b8 hv8
 obtain ⟨A8, c8, rfl⟩ := (M8.isO (k := 8) rfl).shape
 refine zB 5 [(2, bv), (3, .pointer (some ⟨g2, 0, none⟩)), (6, .pointer (some ⟨g3, 0, none⟩)), (7, .bool false), (8, .slice A8 ((encL m)).length c8), (9, .bool bE)] [] dnil [] F8 fun _ F9 => ?_
 refine hK5 _ _ (zS fun _ hK10 => ?_)
 refine zT fun _ hK11 => ?_
 refine rm rfl F9 fun _ F12 => ?_
 cases bE
 ·refine zB 7 [(3, .pointer (some ⟨g2, 0, none⟩)), (6, .pointer (some ⟨g3, 0, none⟩)), (7, .bool false), (24, .bool true)] [] dnil [] F12 fun _ F13 => ?_
  refine hK11 _ _ (wp_cond_true (F13.get rfl) ?_)
  refine zT fun _ hK14 => ?_
  refine zf (za rfl) rfl F13 rfl M8 9 (t := 29) (c := msgA ⟨0, 0, 0, 0, "".toUTF8, 0, 0, [], [], [], [], []⟩ ⟨zN, zN, zN, zN, zN⟩) (by unfold execOp; kernel_rfl) ?_
  intro g15 a15 w15 F15 M15
  clear F13 M8
  refine hK14 _ _ (zS fun _ hK16 => ?_)
  refine zR ?_
  refine rn rfl rfl F15 rfl _ (zja _ _ rfl (F15.get rfl) (M15.blk (k := 9) rfl) (msgA ⟨0, 0, 0, 0, "".toUTF8, 0, 0, [], [], [], [], []⟩ ⟨zN, zN, zN, zN, zN⟩) (zma rfl) Try.underlying29 rfl (by kernel_rfl)) fun _ F17 => ?_
  refine zn (za rfl) rfl F17 M15 (k := 7) rfl _ _ _ rfl (F17.get rfl) (F17.get rfl) (msgA ⟨0, 0, 0, 0, "".toUTF8, 0, 0, [], [], [], [], []⟩ ⟨zN, zN, zN, zN, zN⟩) _ rfl (zL rfl) (zy (w := w) ⟨zc _, zc _, zc _, zc _, zc _⟩) (zt rfl) (by kernel_rfl) ?_
  intro w18 M18
  clear M15
  refine rm rfl F17 fun _ F19 => ?_
  refine hK16 _ _ (wp_ret ?_)
  try simp only [Exit.then, Exit.inBlock, Exit.jump]
  exact bodyPost_ret (resCT rfl (F19.get rfl) (M18.blk (k := 7) rfl) (F19.get rfl) Try.underlying29 rfl (by kernel_rfl)) F19.defers ⟨vZero, by rw [provM, show zhb m b = false from by rw [zhb, hE]; rfl]; rfl, by rw [provM, show zhb m b = false from by rw [zhb, hE]; rfl]; exact vZero_is _, fun g => ⟨fun h => (z6 g h).elim, fun h => (z6 g h).elim, fun h => (z6 g h).elim, fun h => (z6 g h).elim, fun h => (z6 g h).elim⟩, M18.below⟩
 refine zA 4 [(18, .bool false), (19, .bool false), (20, .slice A8 ((encL m)).length c8), (21, bv)] [] dnil [] F12 fun _ F20 => ?_
 refine zd (zb rfl rfl rfl (F20.get rfl)) rfl F20 rfl rfl (zE Try.func83 rfl) #[.slice A8 ((encL m)).length c8, bv] (zea (F20.get rfl) (F20.get rfl)) (zh ((hQ ▸ equal_any (encL m) b (.slice A8 ((encL m)).length c8) (bv) w8 (M8.isO (k := 8) rfl) (M8.isb (k := 5) rfl)))) ?_
 rintro _ w21 a21 ⟨rfl, b21⟩ F21
 have M21 := M8.step b21
 cases bQ
 rotate_left
 ·refine zA 2 [(23, .bool false), (24, .bool false)] [] dnil [] F21 fun _ F29 => ?_
  refine hK11 _ _ (wp_cond_false (F29.get rfl) ?_)
  refine wp_skip ?_
  refine hK10 _ _ (zS fun _ hK30 => ?_)
  refine zR ?_
  refine rn rfl rfl F29 rfl _ (zja _ _ rfl (F29.get rfl) (M21.blk (k := 6) rfl) (msgA m V) (zma rfl) Try.underlying29 rfl (by kernel_rfl)) fun _ F31 => ?_
  refine zn (za rfl) rfl F31 M21 (k := 7) rfl _ _ _ rfl (F31.get rfl) (F31.get rfl) (msgA m V) _ rfl (zL rfl) (zy hm) (zt rfl) (by kernel_rfl) ?_
  intro w32 M32
  clear M21
  refine rm rfl F31 fun _ F33 => ?_
  refine hK30 _ _ (wp_ret ?_)
  try simp only [Exit.then, Exit.inBlock, Exit.jump]
  exact bodyPost_ret (resCT rfl (F33.get rfl) (M32.blk (k := 7) rfl) (F33.get rfl) Try.underlying29 rfl (by kernel_rfl)) F33.defers ⟨V, by rw [provM, show zhb m b = true from by rw [zhb, hE, hQ]; rfl]; rfl, by rw [provM, show zhb m b = true from by rw [zhb, hE, hQ]; rfl]; exact ⟨M32.isb (k := 0) rfl, M32.isb (k := 1) rfl, M32.isb (k := 2) rfl, M32.isb (k := 3) rfl, M32.isb (k := 4) rfl⟩, fun g => ⟨id, id, id, id, id⟩, M32.below⟩
 refine zA 2 [(23, .bool true), (24, .bool true)] [] dnil [] F21 fun _ F22 => ?_
 refine hK11 _ _ (wp_cond_true (F22.get rfl) ?_)
 refine zT fun _ hK23 => ?_
 refine zf (za rfl) rfl F22 rfl M21 9 (t := 29) (c := msgA ⟨0, 0, 0, 0, "".toUTF8, 0, 0, [], [], [], [], []⟩ ⟨zN, zN, zN, zN, zN⟩) (by unfold execOp; kernel_rfl) ?_
 intro g24 a24 w24 F24 M24
 clear F22 M21
 refine hK23 _ _ (zS fun _ hK25 => ?_)
 refine zR ?_
 refine rn rfl rfl F24 rfl _ (zja _ _ rfl (F24.get rfl) (M24.blk (k := 9) rfl) (msgA ⟨0, 0, 0, 0, "".toUTF8, 0, 0, [], [], [], [], []⟩ ⟨zN, zN, zN, zN, zN⟩) (zma rfl) Try.underlying29 rfl (by kernel_rfl)) fun _ F26 => ?_
 refine zn (za rfl) rfl F26 M24 (k := 7) rfl _ _ _ rfl (F26.get rfl) (F26.get rfl) (msgA ⟨0, 0, 0, 0, "".toUTF8, 0, 0, [], [], [], [], []⟩ ⟨zN, zN, zN, zN, zN⟩) _ rfl (zL rfl) (zy (w := w) ⟨zc _, zc _, zc _, zc _, zc _⟩) (zt rfl) (by kernel_rfl) ?_
 intro w27 M27
 clear M24
 refine rm rfl F26 fun _ F28 => ?_
 refine hK25 _ _ (wp_ret ?_)
 try simp only [Exit.then, Exit.inBlock, Exit.jump]
 exact bodyPost_ret (resCT rfl (F28.get rfl) (M27.blk (k := 7) rfl) (F28.get rfl) Try.underlying29 rfl (by kernel_rfl)) F28.defers ⟨vZero, by rw [provM, show zhb m b = false from by rw [zhb, hE, hQ]; rfl]; rfl, by rw [provM, show zhb m b = false from by rw [zhb, hE, hQ]; rfl]; exact vZero_is _, fun g => ⟨fun h => (z6 g h).elim, fun h => (z6 g h).elim, fun h => (z6 g h).elim, fun h => (z6 g h).elim, fun h => (z6 g h).elim⟩, M27.below⟩
end Go.Proofs.Ytlbkogdmojlpmaa
namespace Go.Proofs.Ytlbkogdmojlpmaa
open Go.ChangeShapes Go.WideShapes Go.ChangeAt Go.RowKit
theorem set_ex (g : Nat) (m : MsgN) (V : MsgV) (c : List UInt8) (v : Value) (hc : c.length ≤ 100000) (n : Nat) (w : World) (hg : w.heap[g]? = some (.cells (msgA m V) 29 (0, 0))) (hv : IsB w c v) (hd : ¬ bfp v g) : Calls Try.prog 54 #[.pointer (some ⟨g, 0, none⟩), .int .i64 (n : Int), v] w fun e w' => ∃ t, e = .returned t ∧ t = .tuple #[] ∧ w'.heap[g]? = some (.cells (msgA (setM m n c) (setV V n v)) 29 (0, 0)) ∧ w.grownBy w' (some g) :=
  (set_any g m V c v hc n w hg hv hd).mono fun e w' ⟨h1, h2, h3⟩ => ⟨_, h1, rfl, h2, h3⟩
theorem proven_ex (m : MsgN) (V : MsgV) (b : List UInt8) (bv : Value) (ho : MsgOk m) (hs : m.s.size ≤ 1000) (w : World) (hm : MsgIs w m V) (hb : IsB w b bv) : Calls Try.prog 56 #[.agg (msgA m V), .func (.func 17) #[] #[], bv] w fun e w' => ∃ t, e = .returned t ∧ ∃ V', t = .tuple #[.agg (msgA (provM m b) V'), .bool (zhb m b)] ∧ MsgIs w' (provM m b) V' ∧ (∀ g, subV V' V g) ∧ Below w.heap.size w w' :=
  (proven_any m V b bv ho hs w hm hb).mono fun e w' ⟨V', h1, h2, h3, h4⟩ => ⟨_, h1, V', rfl, h2, h3, h4⟩
theorem Mx.nilB {G : Option Nat} {w0 w : World} {R : List (Nat × Res)} (M : Mx G w0 w R) (i : Nat) : Mx G w0 w ((i, bytR [] (zN)) :: R) :=
  M.cons i _ (zc _) z0a (fun g hg => (z6 g hg).elim) (fun e => by cases e) fun _ _ _ _ _ g hg => (z6 g hg).elim
def ReIn (R : List (Nat × Res)) : List (Nat × Res) → Prop
  | [] => True
  | p :: L => (∃ q, look R q = some p.2 ∧ (p.2.wr = true → q = p.1)) ∧ ReIn R L
theorem ReIn.at {R : List (Nat × Res)} : ∀ {L : List (Nat × Res)}, ReIn R L → ∀ i r, look L i = some r → ∃ q, look R q = some r ∧ (r.wr = true → q = i)
  | [], _, i, r, h => by cases h
  | p :: L, h, i, r, e => by
    obtain ⟨k, x⟩ := p
    rw [look_cons] at e
    split at e
    · rename_i hk
      cases e; subst hk; exact h.1
    · exact h.2.at i r e
theorem Mx.re {G : Option Nat} {w0 w : World} {R R' : List (Nat × Res)} (M : Mx G w0 w R) (h : ReIn R R') : Mx G w0 w R' := by
  refine ⟨M.grown, fun i r e => ?_, fun i r e => ?_, fun i r e => ?_, fun i r e => ?_, fun i j r s e1 e2 hij hw => ?_⟩
  · obtain ⟨q, hq, -⟩ := h.at i r e; exact M.at_ q r hq
  · obtain ⟨q, hq, -⟩ := h.at i r e; exact M.dep q r hq
  · obtain ⟨q, hq, -⟩ := h.at i r e; exact M.lt q r hq
  · obtain ⟨q, hq, -⟩ := h.at i r e; exact M.own q r hq
  · obtain ⟨q, hq, h1⟩ := h.at i r e1
    obtain ⟨q2, hq2, h2⟩ := h.at j s e2
    refine M.dis q q2 r s hq hq2 (fun e => ?_) hw
    have hqi := h1 hw
    subst e
    rw [hq] at hq2
    cases hq2
    exact hij (hqi.symm.trans (h2 hw))
theorem set_l5 {R : List (Nat × Res)} {m : MsgN} {V : MsgV} {c : List UInt8} {v : Value} {k iv : Nat} (h : look R k = some (bytR m.l5 V.v5)) (hv : look R iv = some (bytR c v)) (n : Nat) : ∃ q, look R q = some (bytR (setM m n c).l5 (setV V n v).v5) ∧ ((bytR (setM m n c).l5 (setV V n v).v5).wr = true → q = k) := by
  by_cases hn : n = 5
  · subst hn; exact ⟨iv, hv, fun e => by cases e⟩
  · have e1 : (setM m n c).l5 = m.l5 := by unfold setM; split <;> first | rfl | exact absurd rfl hn
    have e2 : (setV V n v).v5 = V.v5 := by unfold setV; split <;> first | rfl | exact absurd rfl hn
    rw [e1, e2]
    exact ⟨k, h, fun e => by cases e⟩
theorem set_l6 {R : List (Nat × Res)} {m : MsgN} {V : MsgV} {c : List UInt8} {v : Value} {k iv : Nat} (h : look R k = some (bytR m.l6 V.v6)) (hv : look R iv = some (bytR c v)) (n : Nat) : ∃ q, look R q = some (bytR (setM m n c).l6 (setV V n v).v6) ∧ ((bytR (setM m n c).l6 (setV V n v).v6).wr = true → q = k) := by
  by_cases hn : n = 6
  · subst hn; exact ⟨iv, hv, fun e => by cases e⟩
  · have e1 : (setM m n c).l6 = m.l6 := by unfold setM; split <;> first | rfl | exact absurd rfl hn
    have e2 : (setV V n v).v6 = V.v6 := by unfold setV; split <;> first | rfl | exact absurd rfl hn
    rw [e1, e2]
    exact ⟨k, h, fun e => by cases e⟩
theorem set_l7 {R : List (Nat × Res)} {m : MsgN} {V : MsgV} {c : List UInt8} {v : Value} {k iv : Nat} (h : look R k = some (bytR m.l7 V.v7)) (hv : look R iv = some (bytR c v)) (n : Nat) : ∃ q, look R q = some (bytR (setM m n c).l7 (setV V n v).v7) ∧ ((bytR (setM m n c).l7 (setV V n v).v7).wr = true → q = k) := by
  by_cases hn : n = 7
  · subst hn; exact ⟨iv, hv, fun e => by cases e⟩
  · have e1 : (setM m n c).l7 = m.l7 := by unfold setM; split <;> first | rfl | exact absurd rfl hn
    have e2 : (setV V n v).v7 = V.v7 := by unfold setV; split <;> first | rfl | exact absurd rfl hn
    rw [e1, e2]
    exact ⟨k, h, fun e => by cases e⟩
theorem set_l8 {R : List (Nat × Res)} {m : MsgN} {V : MsgV} {c : List UInt8} {v : Value} {k iv : Nat} (h : look R k = some (bytR m.l8 V.v8)) (hv : look R iv = some (bytR c v)) (n : Nat) : ∃ q, look R q = some (bytR (setM m n c).l8 (setV V n v).v8) ∧ ((bytR (setM m n c).l8 (setV V n v).v8).wr = true → q = k) := by
  by_cases hn : n = 8
  · subst hn; exact ⟨iv, hv, fun e => by cases e⟩
  · have e1 : (setM m n c).l8 = m.l8 := by unfold setM; split <;> first | rfl | exact absurd rfl hn
    have e2 : (setV V n v).v8 = V.v8 := by unfold setV; split <;> first | rfl | exact absurd rfl hn
    rw [e1, e2]
    exact ⟨k, h, fun e => by cases e⟩
theorem set_l9 {R : List (Nat × Res)} {m : MsgN} {V : MsgV} {c : List UInt8} {v : Value} {k iv : Nat} (h : look R k = some (bytR m.l9 V.v9)) (hv : look R iv = some (bytR c v)) (n : Nat) : ∃ q, look R q = some (bytR (setM m n c).l9 (setV V n v).v9) ∧ ((bytR (setM m n c).l9 (setV V n v).v9).wr = true → q = k) := by
  by_cases hn : n = 9
  · subst hn; exact ⟨iv, hv, fun e => by cases e⟩
  · have e1 : (setM m n c).l9 = m.l9 := by unfold setM; split <;> first | rfl | exact absurd rfl hn
    have e2 : (setV V n v).v9 = V.v9 := by unfold setV; split <;> first | rfl | exact absurd rfl hn
    rw [e1, e2]
    exact ⟨k, h, fun e => by cases e⟩
theorem setV_fp {V : MsgV} {v : Value} {N : Nat} (h : ∀ q, z6a V q → N ≤ q) (hv : ∀ q, bfp v q → N ≤ q) (n : Nat) : ∀ q, z6a (setV V n v) q → N ≤ q := by
  intro q hq
  unfold setV at hq
  split at hq <;> first
    | exact h q hq
    | (rcases hq with hq | hq | hq | hq | hq <;> first
        | exact hv q hq
        | exact h q (.inl hq)
        | exact h q (.inr (.inl hq))
        | exact h q (.inr (.inr (.inl hq)))
        | exact h q (.inr (.inr (.inr (.inl hq))))
        | exact h q (.inr (.inr (.inr (.inr hq)))))
theorem sub_fp {V V' : MsgV} {N : Nat} (h : ∀ g, subV V' V g) (hv : ∀ q, z6a V q → N ≤ q) : ∀ q, z6a V' q → N ≤ q := fun q hq => by
  obtain ⟨h5, h6, h7, h8, h9⟩ := h q
  rcases hq with hq | hq | hq | hq | hq
  · exact hv q (.inl (h5 hq))
  · exact hv q (.inr (.inl (h6 hq)))
  · exact hv q (.inr (.inr (.inl (h7 hq))))
  · exact hv q (.inr (.inr (.inr (.inl (h8 hq)))))
  · exact hv q (.inr (.inr (.inr (.inr (h9 hq)))))
theorem numI_in (c : List UInt8) : -9223372036854775808 ≤ numI c ∧ numI c < 9223372036854775808 := by
  unfold numI
  split
  · rename_i h
    have := (of_decide_eq_true h).2
    omega
  · omega
theorem readO_lt (c : List UInt8) : z7a c < 4294967296 ^ 8 := by
  unfold z7a
  split
  · rename_i h; exact readN_lt_num h
  · exact Nat.pow_pos (by omega)
theorem setM_ok {m : MsgN} (ho : MsgOk m) (hs : m.s.size ≤ 1000) {c : List UInt8} (hc : c.length ≤ 1000) (n : Nat) : MsgOk (setM m n c) ∧ (setM m n c).s.size ≤ 1000 := by
  have hn := numI_in c
  have hr := readO_lt c
  have e : (⟨c.toArray⟩ : ByteArray).size = c.length := by simp [ByteArray.size]
  unfold setM
  split <;> refine ⟨⟨?_, ?_, ?_, ?_, ?_, ?_, ?_⟩, ?_⟩ <;> first
    | exact ho.k | exact hn | exact ho.p | exact ho.c | exact ho.e | exact hr | exact ho.a | exact ho.b | exact hs | (show (⟨c.toArray⟩ : ByteArray).size ≤ _; omega) | exact ho.s
def readM : Nat → List UInt8 → MsgN → MsgN
  | 0, _, m => m
  | k + 1, l, m => if l = [] then m else readM k ((((l.drop 1)).drop 1).drop (zi ((l.drop 1).take 1))) (setM m (zi (l.take 1)) (((l.drop 1).drop 1).take (zi ((l.drop 1).take 1))))
theorem readM_nil {K : Nat} {m m' : MsgN} (h : readM K [] m = m') : m = m' := by
  cases K with
  | zero => exact h
  | succ K => rw [← h]; exact (if_pos rfl).symm
theorem readM_cons {K : Nat} {l : List UInt8} {m : MsgN} (h : l ≠ []) (hK : 0 < K) : readM K l m = readM (K - 1) ((((l.drop 1)).drop 1).drop (zi ((l.drop 1).take 1))) (setM m (zi (l.take 1)) (((l.drop 1).drop 1).take (zi ((l.drop 1).take 1)))) := by
  obtain ⟨k, rfl⟩ : ∃ k, K = k + 1 := ⟨K - 1, by omega⟩
  exact if_neg h
def decM (b : List UInt8) : MsgN := readM ((b.drop 2).drop 1).length ((b.drop 2).drop 1) (MsgN.mk ((zi ((b.drop 2).take 1) : Nat) : Int) 0 0 0 ("".toUTF8) 0 0 [] [] [] [] [])
theorem dec0_ok (b : List UInt8) : MsgOk (MsgN.mk ((zi ((b.drop 2).take 1) : Nat) : Int) 0 0 0 ("".toUTF8) 0 0 [] [] [] [] []) := by
  have := readN_one (b.drop 2)
  exact ⟨(show (-9223372036854775808 : Int) ≤ ((zi ((b.drop 2).take 1) : Nat) : Int) ∧ ((zi ((b.drop 2).take 1) : Nat) : Int) < 9223372036854775808 by omega), (show (-9223372036854775808 : Int) ≤ 0 ∧ (0 : Int) < 9223372036854775808 by decide), (show (-9223372036854775808 : Int) ≤ 0 ∧ (0 : Int) < 9223372036854775808 by decide), (show (-9223372036854775808 : Int) ≤ 0 ∧ (0 : Int) < 9223372036854775808 by decide), (show ("".toUTF8 : ByteArray).size ≤ 1000000 by decide), (show 0 < 4294967296 ^ 8 by decide), (show 0 < 4294967296 ^ 8 by decide)⟩
noncomputable def decOk (b : List UInt8) : Bool := zhb (decM b) b
noncomputable def decR (b : List UInt8) : MsgN := provM (decM b) b
theorem decM_prov {m : MsgN} {b : List UInt8} (h : m = decM b) : decOk b = zhb m b := by rw [h]; rfl
theorem decR_prov {m : MsgN} {b : List UInt8} (h : m = decM b) : decR b = provM m b := by rw [h]; rfl
theorem decode_any (b : List UInt8) (bv : Value) (hl : b.length ≤ 100000) (w : World) (hb : IsB w b bv) :
  Calls Try.prog 20 #[bv] w fun e w' => ∃ V, e = .returned (.tuple #[.agg (msgA (decR b) V), .bool (decOk b)]) ∧ MsgIs w' (decR b) V ∧ (∀ q, z6a V q → w.heap.size ≤ q) ∧ Below w.heap.size w w' := by
 obtain ⟨A0, c0, rfl⟩ := hb.shape
 refine zg (args := [.slice A0 b.length c0]) 25 Try.func20 rfl rfl rfl ?_
 intro fa F
 have M := Mx.start w
 replace M := M.argB 0 hb (fun g e => by cases e)
 refine zT fun _ hK1 => ?_
 refine zf (za rfl) rfl F rfl M 1 (t := 29) (c := msgA ⟨0, 0, 0, 0, "".toUTF8, 0, 0, [], [], [], [], []⟩ ⟨zN, zN, zN, zN, zN⟩) (by unfold execOp; kernel_rfl) ?_
 intro g2 a2 w2 F2 M2
 clear F M
 refine rm rfl F2 fun _ F3 => ?_
 refine hK1 _ _ (zS fun _ hK4 => ?_)
 refine zR ?_
 refine rm rfl F3 fun _ F5 => ?_
 refine rn rfl rfl F5 rfl (.agg (#[.slice A0 b.length c0])) (by unfold execOp; simp only [List.map_toArray, List.map_cons, List.map_nil, (F5.get (t := 7) rfl)]; kernel_rfl) fun _ F6 => ?_
 refine zf (za rfl) rfl F6 rfl M2 2 (t := 83) (c := #[zN]) (by unfold execOp; kernel_rfl) ?_
 intro g7 a7 w7 F7 M7
 clear F6 M2
 refine zn (za rfl) rfl F7 M7 (k := 2) rfl _ _ _ rfl (F7.get rfl) (F7.get rfl) (#[.slice A0 b.length c0]) _ rfl (zL rfl) (by first | rfl | simp [Value.oneCell']) (zt rfl) (by kernel_rfl) ?_
 intro w8 M8
 clear M7
 refine hK4 _ _ (zS fun _ hK9 => ?_)
 refine zR ?_
 refine zd (za rfl) rfl F7 rfl rfl (zE Try.func52 rfl) #[.pointer (some ⟨g7, 0, none⟩), .int .i64 2] (zea (F7.get rfl) rfl) (take_any g7 b (.slice A0 b.length c0) 2 hl (by omega) w8 (M8.blk (k := 2) rfl) (M8.isb (k := 0) rfl) (fun hb => M8.dis 2 0 _ _ rfl rfl (by decide) rfl g7 rfl hb)) ?_
 rintro v10 w10 a10 ⟨u10, hv10, hu10, hs10, hc10, hg10⟩ F10
 have M10 := M8.took (k := 2) (ku := 0) rfl hg10 hc10 4 3 hv10 hu10 hs10 rfl rfl
 clear M8 hg10 hc10
 obtain ⟨A10u, c10u, rfl⟩ := hu10.shape
 clear hu10
 clear hv10
 obtain ⟨A10, c10, rfl⟩ := (M10.isO (k := 4) rfl).shape
 refine hK9 _ _ (zS fun _ hK11 => ?_)
 refine zR ?_
 refine zd (za rfl) rfl F10 rfl rfl (zE Try.func53 rfl) #[.pointer (some ⟨g7, 0, none⟩)] (zp (F10.get rfl)) (roctet_any g7 (b.drop 2) (.slice A10u ((b.drop 2)).length c10u) (by simp only [List.length_drop]; omega) w10 (M10.blk (k := 2) rfl) (M10.isb (k := 3) rfl) (fun hb => M10.dis 2 3 _ _ rfl rfl (by decide) rfl g7 rfl hb)) ?_
 rintro _ w12 a12 ⟨rfl, u12, hu12, hs12, hc12, hg12⟩ F12
 have M12 := M10.took0 (k := 2) (ku := 3) rfl hg12 hc12 5 hu12 hs12 rfl
 clear M10 hg12 hc12
 obtain ⟨A12u, c12u, rfl⟩ := hu12.shape
 clear hu12
 refine rn rfl rfl F12 rfl (.agg (msgA ⟨((zi ((b.drop 2).take 1) : Nat) : Int), 0, 0, 0, "".toUTF8, 0, 0, [], [], [], [], []⟩ ⟨zN, zN, zN, zN, zN⟩)) (by unfold execOp; simp only [List.map_toArray, List.map_cons, List.map_nil, (F12.get (t := 10) rfl)]; kernel_rfl) fun _ F13 => ?_
 refine zf (za rfl) rfl F13 rfl M12 6 (t := 29) (c := msgA ⟨0, 0, 0, 0, "".toUTF8, 0, 0, [], [], [], [], []⟩ ⟨zN, zN, zN, zN, zN⟩) (by unfold execOp; kernel_rfl) ?_
 intro g14 a14 w14 F14 M14
 clear F13 M12
 refine zn (za rfl) rfl F14 M14 (k := 6) rfl _ _ _ rfl (F14.get rfl) (F14.get rfl) (msgA ⟨((zi ((b.drop 2).take 1) : Nat) : Int), 0, 0, 0, "".toUTF8, 0, 0, [], [], [], [], []⟩ ⟨zN, zN, zN, zN, zN⟩) _ rfl (zL rfl) (zy (w := w) ⟨zc _, zc _, zc _, zc _, zc _⟩) (zt rfl) (by kernel_rfl) ?_
 intro w15 M15
 clear M14
 refine hK11 _ _ (zS fun _ hK16 => ?_)
 refine wp_block ?_
 have M17 := M15.nilB 7
 clear M15
 have M18 := M17.nilB 8
 clear M17
 have M19 := M18.nilB 9
 clear M18
 have M20 := M19.nilB 10
 clear M19
 have M21 := M20.nilB 11
 clear M20
 refine zzb (α := Nat × List UInt8 × MsgN × MsgV × Value) (n := 25) (G := none) (w0 := w) (fun x => [(0, .slice A0 b.length c0), (2, .pointer (some ⟨g2, 0, none⟩)), (3, .bool false), (7, .slice A0 b.length c0), (8, .agg (#[.slice A0 b.length c0])), (4, .pointer (some ⟨g7, 0, none⟩)), (9, .slice A10 ((b.take 2)).length c10), (10, .int .i64 ((zi ((b.drop 2).take 1) : Nat) : Int)), (11, .agg (msgA ⟨((zi ((b.drop 2).take 1) : Nat) : Int), 0, 0, 0, "".toUTF8, 0, 0, [], [], [], [], []⟩ ⟨zN, zN, zN, zN, zN⟩)), (5, .pointer (some ⟨g14, 0, none⟩))]) (fun x => [(0, bytR b (.slice A0 b.length c0)), (2, blkR g7 83 (#[x.2.2.2.2])), (5, bytR x.2.1 x.2.2.2.2), (6, blkR g14 29 (msgA x.2.2.1 x.2.2.2.1)), (1, blkR g2 29 (msgA ⟨0, 0, 0, 0, "".toUTF8, 0, 0, [], [], [], [], []⟩ ⟨zN, zN, zN, zN, zN⟩)), (7, bytR x.2.2.1.l5 x.2.2.2.1.v5), (8, bytR x.2.2.1.l6 x.2.2.2.1.v6), (9, bytR x.2.2.1.l7 x.2.2.2.1.v7), (10, bytR x.2.2.1.l8 x.2.2.2.1.v8), (11, bytR x.2.2.1.l9 x.2.2.2.1.v9)]) (fun k x => k = (x.1 + 1) ∧ (x.2.1.length ≤ x.1 ∧ readM x.1 x.2.1 x.2.2.1 = decM b ∧ MsgOk x.2.2.1 ∧ x.2.2.1.s.size ≤ 1000 ∧ x.2.1.length ≤ 100000 ∧ (∀ q, z6a x.2.2.2.1 q → w.heap.size ≤ q))) _ ⟨((b.drop 2).drop 1).length, ((b.drop 2).drop 1), (MsgN.mk ((zi ((b.drop 2).take 1) : Nat) : Int) 0 0 0 ("".toUTF8) 0 0 [] [] [] [] []), vZero, (.slice A12u (((b.drop 2).drop 1)).length c12u)⟩ ⟨rfl, ⟨Nat.le_refl _, rfl, dec0_ok _, (show ("".toUTF8 : ByteArray).size ≤ 1000 by decide), (by simp only [List.length_drop]; omega), fun q h => (vZero_fp q h).elim⟩⟩ (F14.sub ⟨rfl, rfl, rfl, rfl, rfl, rfl, rfl, rfl, rfl, rfl, trivial⟩) (M21.sub ⟨rfl, rfl, rfl, rfl, rfl, rfl, rfl, rfl, rfl, rfl, trivial⟩) ?_
 clear F14 M21
 rintro k22 ⟨K, l, m, V, u⟩ a22 w22 K22 ⟨ek22, I22⟩ F22 M22 hK22
 replace F22 : Fx 25 a22 [(0, .slice A0 b.length c0), (2, .pointer (some ⟨g2, 0, none⟩)), (3, .bool false), (7, .slice A0 b.length c0), (8, .agg (#[.slice A0 b.length c0])), (4, .pointer (some ⟨g7, 0, none⟩)), (9, .slice A10 ((b.take 2)).length c10), (10, .int .i64 ((zi ((b.drop 2).take 1) : Nat) : Int)), (11, .agg (msgA ⟨((zi ((b.drop 2).take 1) : Nat) : Int), 0, 0, 0, "".toUTF8, 0, 0, [], [], [], [], []⟩ ⟨zN, zN, zN, zN, zN⟩)), (5, .pointer (some ⟨g14, 0, none⟩))] := F22
 replace M22 : Mx _ _ w22 [(0, bytR b (.slice A0 b.length c0)), (2, blkR g7 83 (#[u])), (5, bytR l u), (6, blkR g14 29 (msgA m V)), (1, blkR g2 29 (msgA ⟨0, 0, 0, 0, "".toUTF8, 0, 0, [], [], [], [], []⟩ ⟨zN, zN, zN, zN, zN⟩)), (7, bytR m.l5 V.v5), (8, bytR m.l6 V.v6), (9, bytR m.l7 V.v7), (10, bytR m.l8 V.v8), (11, bytR m.l9 V.v9)] := M22
 replace I22 : l.length ≤ K ∧ readM K l m = decM b ∧ MsgOk m ∧ m.s.size ≤ 1000 ∧ l.length ≤ 100000 ∧ (∀ q, z6a V q → w.heap.size ≤ q) := I22
 replace ek22 : k22 = (K + 1) := ek22
 obtain ⟨hk, hM, hok, hsz, hll, hfp⟩ := I22
 by_cases hnil : l = []
 ·subst hnil
  have hMF := readM_nil hM
  refine zS fun _ hK23 => zS fun _ hK24 => ?_
  refine zR ?_
  refine zA 2 [(12, .pointer (some ⟨g7, 0, none⟩)), (13, u)] [0] (zj (M22.blk (k := 2) rfl) dnil) [g7] F22 fun _ F25 => ?_
  refine rn rfl rfl F25 rfl (.int .i64 0) (z9 _ rfl (F25.get rfl) (M22.isb (k := 5) rfl) rfl) fun _ F26 => ?_
  refine rn rfl rfl F26 rfl (.bool false) (zya _ _ _ _ rfl (F26.get rfl) rfl (decide_eq_false (by decide))) fun _ F27 => ?_
  refine hK24 _ _ (wp_cond_false (F27.get rfl) ?_)
  refine wp_exit ?_
  simp only [Exit.then, Exit.inBlock, ↓reduceIte, Nat.reduceEqDiff]
  refine hK16 _ _ (zS fun _ hK28 => ?_)
  refine zR ?_
  refine rn rfl rfl F27 rfl _ (zja _ _ rfl (F27.get rfl) (M22.blk (k := 6) rfl) (msgA m V) (zma rfl) Try.underlying29 rfl (by kernel_rfl)) fun _ F29 => ?_
  refine rm rfl F29 fun _ F30 => ?_
  refine zd (za rfl) rfl F30 rfl rfl (zE Try.func56 rfl) #[.agg (msgA m V), .func (.func 17) #[] #[], .slice A0 b.length c0] (args3 (F30.get rfl) rfl (F30.get rfl)) (proven_ex m V b (.slice A0 b.length c0) hok hsz w22 ⟨M22.isb (k := 7) rfl, M22.isb (k := 8) rfl, M22.isb (k := 9) rfl, M22.isb (k := 10) rfl, M22.isb (k := 11) rfl⟩ (M22.isb (k := 0) rfl)) ?_
  rintro _ w31 a31 ⟨V31, rfl, is31, lo31, b31⟩ F31
  have M31 := M22.step b31
  replace M31 := M31.part 12 _ is31.h5 z0a rfl (k := 7) rfl rfl (fun g => (lo31 g).1)
  replace M31 := M31.part 13 _ is31.h6 z0a rfl (k := 8) rfl rfl (fun g => (lo31 g).2.1)
  replace M31 := M31.part 14 _ is31.h7 z0a rfl (k := 9) rfl rfl (fun g => (lo31 g).2.2.1)
  replace M31 := M31.part 15 _ is31.h8 z0a rfl (k := 10) rfl rfl (fun g => (lo31 g).2.2.2.1)
  replace M31 := M31.part 16 _ is31.h9 z0a rfl (k := 11) rfl rfl (fun g => (lo31 g).2.2.2.2)
  refine zA 2 [(23, .agg (msgA (provM m b) V31)), (24, .bool (zhb m b))] [] dnil [] F31 fun _ F32 => ?_
  refine zn (za rfl) rfl F32 M31 (k := 1) rfl _ _ _ rfl (F32.get rfl) (F32.get rfl) (msgA (provM m b) V31) _ rfl (zL rfl) (zy is31) (zt rfl) (by kernel_rfl) ?_
  intro w33 M33
  clear M31
  refine rm rfl F32 fun _ F34 => ?_
  refine hK28 _ _ (wp_ret ?_)
  try simp only [Exit.then, Exit.inBlock, Exit.jump]
  exact bodyPost_ret (resCT rfl (F34.get rfl) (M33.blk (k := 1) rfl) (F34.get rfl) Try.underlying29 rfl (by kernel_rfl)) F34.defers ⟨V31, (by rw [decR_prov hMF, decM_prov hMF] <;> rfl), by rw [decR_prov hMF]; exact ⟨M33.isb (k := 12) rfl, M33.isb (k := 13) rfl, M33.isb (k := 14) rfl, M33.isb (k := 15) rfl, M33.isb (k := 16) rfl⟩, sub_fp lo31 hfp, M33.below⟩
 have hlp := List.length_pos_iff.2 hnil
 have hr1 := readN_one (l.drop 1)
 refine zS fun _ hK35 => zS fun _ hK36 => ?_
 refine zR ?_
 refine zA 2 [(12, .pointer (some ⟨g7, 0, none⟩)), (13, u)] [0] (zj (M22.blk (k := 2) rfl) dnil) [g7] F22 fun _ F37 => ?_
 refine rn rfl rfl F37 rfl (.int .i64 (l.length : Int)) (z9 _ rfl (F37.get rfl) (M22.isb (k := 5) rfl) rfl) fun _ F38 => ?_
 refine rn rfl rfl F38 rfl (.bool true) (zya _ _ _ _ rfl (F38.get rfl) rfl (decide_eq_true (by have := List.length_pos_iff.2 hnil; omega))) fun _ F39 => ?_
 refine hK36 _ _ (wp_cond_true (F39.get rfl) ?_)
 refine wp_skip ?_
 refine hK35 _ _ (wp_block ?_)
 refine zT fun _ hK40 => ?_
 refine zd (za rfl) rfl F39 rfl rfl (zE Try.func53 rfl) #[.pointer (some ⟨g7, 0, none⟩)] (zp (F39.get rfl)) (roctet_any g7 l (u) hll w22 (M22.blk (k := 2) rfl) (M22.isb (k := 5) rfl) (fun hb => M22.dis 2 5 _ _ rfl rfl (by decide) rfl g7 rfl hb)) ?_
 rintro _ w41 a41 ⟨rfl, u41, hu41, hs41, hc41, hg41⟩ F41
 have M41 := M22.took0 (k := 2) (ku := 5) rfl hg41 hc41 12 hu41 hs41 rfl
 clear M22 hg41 hc41
 obtain ⟨A41u, c41u, rfl⟩ := hu41.shape
 clear hu41
 refine rm rfl F41 fun _ F42 => ?_
 refine hK40 _ _ (zR ?_)
 refine rm rfl F42 fun _ F43 => ?_
 refine zd (za rfl) rfl F43 rfl rfl (zE Try.func55 rfl) #[.pointer (some ⟨g7, 0, none⟩)] (zp (F43.get rfl)) (rcounted_any g7 (l.drop 1) (.slice A41u ((l.drop 1)).length c41u) (by simp only [List.length_drop]; omega) w41 (M41.blk (k := 2) rfl) (M41.isb (k := 12) rfl) (fun hb => M41.dis 2 12 _ _ rfl rfl (by decide) rfl g7 rfl hb)) ?_
 rintro v44 w44 a44 ⟨u44, hv44, hu44, hs44, hc44, hg44⟩ F44
 have M44 := M41.took (k := 2) (ku := 12) rfl hg44 hc44 14 13 hv44 hu44 hs44 rfl rfl
 clear M41 hg44 hc44
 obtain ⟨A44u, c44u, rfl⟩ := hu44.shape
 clear hu44
 clear hv44
 obtain ⟨A44, c44, rfl⟩ := (M44.isO (k := 14) rfl).shape
 refine zd (za rfl) rfl F44 rfl rfl (zE Try.func54 rfl) #[.pointer (some ⟨g14, 0, none⟩), .int .i64 ((zi (l.take 1) : Nat) : Int), .slice A44 ((((l.drop 1).drop 1).take (zi ((l.drop 1).take 1)))).length c44] (args3 (F44.get rfl) (F44.get rfl) (F44.get rfl)) (set_ex g14 m V (((l.drop 1).drop 1).take (zi ((l.drop 1).take 1))) (.slice A44 ((((l.drop 1).drop 1).take (zi ((l.drop 1).take 1)))).length c44) (by simp only [List.length_take, List.length_drop]; omega) (zi (l.take 1)) w44 (M44.blk (k := 6) rfl) (M44.isO (k := 14) rfl) (fun hb => M44.dis 14 6 _ _ rfl rfl (by decide) rfl g14 (zva hb) rfl)) ?_
 rintro _ w45 a45 ⟨rfl, hc45, hg45⟩ F45
 have og45 := M44.owns (k := 14) rfl
 have M45 := (M44.put (k := 6) rfl hg45 hc45).tame (k := 14) rfl
 clear M44 hg45 hc45
 have Mz46 : Mx none w _ [(0, bytR b (.slice A0 b.length c0)), (2, blkR g7 83 (#[.slice A44u ((((l.drop 1).drop 1).drop (zi ((l.drop 1).take 1)))).length c44u])), (5, bytR (((l.drop 1).drop 1).drop (zi ((l.drop 1).take 1))) (.slice A44u ((((l.drop 1).drop 1).drop (zi ((l.drop 1).take 1)))).length c44u)), (6, blkR g14 29 (msgA (setM m (zi (l.take 1)) (((l.drop 1).drop 1).take (zi ((l.drop 1).take 1)))) (setV V (zi (l.take 1)) (.slice A44 ((((l.drop 1).drop 1).take (zi ((l.drop 1).take 1)))).length c44)))), (1, blkR g2 29 (msgA ⟨0, 0, 0, 0, "".toUTF8, 0, 0, [], [], [], [], []⟩ ⟨zN, zN, zN, zN, zN⟩)), (7, bytR ((setM m (zi (l.take 1)) (((l.drop 1).drop 1).take (zi ((l.drop 1).take 1)))).l5) ((setV V (zi (l.take 1)) (.slice A44 ((((l.drop 1).drop 1).take (zi ((l.drop 1).take 1)))).length c44)).v5)), (8, bytR ((setM m (zi (l.take 1)) (((l.drop 1).drop 1).take (zi ((l.drop 1).take 1)))).l6) ((setV V (zi (l.take 1)) (.slice A44 ((((l.drop 1).drop 1).take (zi ((l.drop 1).take 1)))).length c44)).v6)), (9, bytR ((setM m (zi (l.take 1)) (((l.drop 1).drop 1).take (zi ((l.drop 1).take 1)))).l7) ((setV V (zi (l.take 1)) (.slice A44 ((((l.drop 1).drop 1).take (zi ((l.drop 1).take 1)))).length c44)).v7)), (10, bytR ((setM m (zi (l.take 1)) (((l.drop 1).drop 1).take (zi ((l.drop 1).take 1)))).l8) ((setV V (zi (l.take 1)) (.slice A44 ((((l.drop 1).drop 1).take (zi ((l.drop 1).take 1)))).length c44)).v8)), (11, bytR ((setM m (zi (l.take 1)) (((l.drop 1).drop 1).take (zi ((l.drop 1).take 1)))).l9) ((setV V (zi (l.take 1)) (.slice A44 ((((l.drop 1).drop 1).take (zi ((l.drop 1).take 1)))).length c44)).v9))] := M45.re ⟨⟨0, rfl, fun _ => rfl⟩, ⟨2, rfl, fun _ => rfl⟩, ⟨13, rfl, fun e => by cases e⟩, ⟨6, rfl, fun _ => rfl⟩, ⟨1, rfl, fun _ => rfl⟩, set_l5 (k := 7) (iv := 14) rfl rfl (zi (l.take 1)), set_l6 (k := 8) (iv := 14) rfl rfl (zi (l.take 1)), set_l7 (k := 9) (iv := 14) rfl rfl (zi (l.take 1)), set_l8 (k := 10) (iv := 14) rfl rfl (zi (l.take 1)), set_l9 (k := 11) (iv := 14) rfl rfl (zi (l.take 1)), trivial⟩
 subst ek22
 exact hK22 _ ⟨(K - 1), (((l.drop 1).drop 1).drop (zi ((l.drop 1).take 1))), (setM m (zi (l.take 1)) (((l.drop 1).drop 1).take (zi ((l.drop 1).take 1)))), (setV V (zi (l.take 1)) (.slice A44 ((((l.drop 1).drop 1).take (zi ((l.drop 1).take 1)))).length c44)), (.slice A44u ((((l.drop 1).drop 1).drop (zi ((l.drop 1).take 1)))).length c44u)⟩ _ _ (by omega) ⟨rfl, ⟨(by simp only [List.length_drop]; omega), (by rw [← hM]; exact (readM_cons hnil (by omega)).symm), (setM_ok hok hsz (by rw [List.length_take]; omega) (zi (l.take 1))).1, (setM_ok hok hsz (by rw [List.length_take]; omega) (zi (l.take 1))).2, (by simp only [List.length_drop]; omega), setV_fp hfp (fun q h => og45 q (zva h)) (zi (l.take 1))⟩⟩ (F45.sub ⟨rfl, rfl, rfl, rfl, rfl, rfl, rfl, rfl, rfl, rfl, trivial⟩) (Mz46.sub ⟨rfl, rfl, rfl, rfl, rfl, rfl, rfl, rfl, rfl, rfl, trivial⟩)
end Go.Proofs.Ytlbkogdmojlpmaa
namespace Go.Proofs.Ytlbkogdmojlpmaa
open Go.ChangeShapes Go.WideShapes Go.ChangeAt Go.RowKit
structure RecN where
  p : Int
  s : ByteArray
  l2 : List UInt8
  a : Nat
  b : Nat
  l5 : List UInt8
  t : Int
  c : Int
  z : Int
structure RecV where
  v2 : Value
  v5 : Value
def recA (r : RecN) (V : RecV) : Array Value := #[.int .i64 r.p, .string r.s, V.v2, numF r.a 0, numF r.a 1, numF r.a 2, numF r.a 3, numF r.a 4, numF r.a 5, numF r.a 6, numF r.a 7, numF r.b 0, numF r.b 1, numF r.b 2, numF r.b 3, numF r.b 4, numF r.b 5, numF r.b 6, numF r.b 7, V.v5, .int .i64 r.t, .int .i64 r.c, .int .i64 r.z]
structure RecIs (w : World) (r : RecN) (V : RecV) : Prop where
  h2 : IsB w r.l2 V.v2
  h5 : IsB w r.l5 V.v5
structure RecOk (r : RecN) : Prop where
  p : -9223372036854775808 ≤ r.p ∧ r.p < 9223372036854775808
  t : -9223372036854775808 ≤ r.t ∧ r.t < 9223372036854775808
  c : -9223372036854775808 ≤ r.c ∧ r.c < 9223372036854775808
  z : -9223372036854775808 ≤ r.z ∧ r.z < 9223372036854775808
  s : r.s.size ≤ 1000
  a : r.a < 4294967296 ^ 8
  b : r.b < 4294967296 ^ 8
theorem recA_one {w : World} {r : RecN} {V : RecV} (h : RecIs w r V) : (recA r V).all (·.oneCell') = true := by
  obtain ⟨v2, v5⟩ := V
  obtain ⟨A2, c2, rfl⟩ := h.h2.shape
  obtain ⟨A5, c5, rfl⟩ := h.h5.shape
  simp [recA, numF, Value.oneCell']
noncomputable def zkb (r : RecN) : Bool := protoB r.p && nameB r.s && decide ((r.l2.length : Int) ≤ 16) && decide ((r.l5.length : Int) ≤ 48) && decide (topI r.a 8 ≤ 32) && decide (topI r.b 8 ≤ 32) && decide (0 ≤ r.t) && decide (r.t ≤ 255) && decide (0 ≤ r.c) && decide (0 ≤ r.z)
theorem keeps_any (r : RecN) (V : RecV) (hs : r.s.size ≤ 1000) (w : World) (hm : RecIs w r V) :
  Calls Try.prog 62 #[.agg (recA r V)] w fun e w' => e = .returned (.bool (zkb r)) ∧ Below w.heap.size w w' := by
 refine zg (args := [.agg (recA r V)]) 55 Try.func62 rfl rfl rfl ?_
 intro fa F
 have M := Mx.start w
 replace M := M.argB 0 hm.h2 (fun g e => by cases e)
 replace M := M.argB 1 hm.h5 (fun g e => by cases e)
 obtain ⟨bP, hP⟩ : ∃ b, protoB r.p = b := ⟨_, rfl⟩
 obtain ⟨bN, hN⟩ : ∃ b, nameB r.s = b := ⟨_, rfl⟩
 refine zT fun _ hK1 => ?_
 refine zf (za rfl) rfl F rfl M 2 (t := 54) (c := recA r V) (by unfold execOp; simp only [(F.get (t := 0) rfl)]; kernel_rfl) ?_
 intro g2 a2 w2 F2 M2
 clear F M
 refine rm rfl F2 fun _ F3 => ?_
 refine hK1 _ _ (zS fun _ hK4 => ?_)
 refine zR ?_
 refine zB 2 [(1, .pointer (some ⟨g2, 0, none⟩)), (2, .bool false), (4, .int .i64 r.p)] [0] (zj (M2.blk (k := 2) rfl) dnil) [g2] F3 fun _ F5 => ?_
 refine zd (za rfl) rfl F5 rfl rfl (zE Try.func77 rfl) #[.int .i64 r.p] (zp (F5.get rfl)) (zh ((hP ▸ isProto_any r.p w2))) ?_
 rintro _ w6 a6 ⟨rfl, b6⟩ F6
 have M6 := M2.step b6
 refine rm rfl F6 fun _ F7 => ?_
 cases bP
 ·refine zB 49 [(2, .bool false)] [] dnil [] F7 fun _ F8 => ?_
  refine hK4 _ _ (wp_ret ?_)
  try simp only [Exit.then, Exit.inBlock, Exit.jump]
  exact bodyPost_ret (res1 rfl (F8.get rfl)) F8.defers ⟨by rw [show zkb r = false from by unfold zkb; simp [hP, hN]], M6.below⟩
 refine zB 2 [(1, .pointer (some ⟨g2, 0, none⟩)), (2, .bool false), (6, .bool true), (8, .string r.s)] [0] (zj (M6.blk (k := 2) rfl) dnil) [g2] F7 fun _ F9 => ?_
 refine zd (zb rfl rfl rfl (F9.get rfl)) rfl F9 rfl rfl (zE Try.func78 rfl) #[.string r.s] (zp (F9.get rfl)) (zh ((hN ▸ isname_any r.s hs w6))) ?_
 rintro _ w10 a10 ⟨rfl, b10⟩ F10
 have M10 := M6.step b10
 refine rn rfl rfl F10 rfl (.bool bN) (z7b rfl (F10.get rfl) (F10.get rfl)) fun _ F11 => ?_
 refine rm rfl F11 fun _ F12 => ?_
 cases bN
 ·refine zB 44 [(2, .bool false)] [] dnil [] F12 fun _ F13 => ?_
  refine hK4 _ _ (wp_ret ?_)
  try simp only [Exit.then, Exit.inBlock, Exit.jump]
  exact bodyPost_ret (res1 rfl (F13.get rfl)) F13.defers ⟨by rw [show zkb r = false from by unfold zkb; simp [hP, hN]], M10.below⟩
 refine zB 2 [(1, .pointer (some ⟨g2, 0, none⟩)), (2, .bool false), (11, .bool true), (13, V.v2)] [0] (zj (M10.blk (k := 2) rfl) dnil) [g2] F12 fun _ F14 => ?_
 refine ze (w' := w10) (zb rfl rfl rfl (F14.get rfl)) rfl F14 rfl (.int .i64 (r.l2.length : Int)) (z9 _ rfl (F14.get rfl) (M10.isb (k := 0) rfl) rfl) fun _ F15 => ?_
 by_cases h16 : (r.l2.length : Int) ≤ 16
 rotate_left
 ·refine ze (w' := w10) (zb rfl rfl rfl (F15.get rfl)) rfl F15 rfl (.bool false) (z8 _ _ _ _ rfl (F15.get rfl) rfl (decide_eq_false h16)) fun _ F57 => ?_
  refine zB 40 [(2, .bool false)] [] dnil [] F57 fun _ F58 => ?_
  refine hK4 _ _ (wp_ret ?_)
  try simp only [Exit.then, Exit.inBlock, Exit.jump]
  exact bodyPost_ret (res1 rfl (F58.get rfl)) F58.defers ⟨by rw [show zkb r = false from by unfold zkb; simp [hP, hN, h16]], M10.below⟩
 refine ze (w' := w10) (zb rfl rfl rfl (F15.get rfl)) rfl F15 rfl (.bool true) (z8 _ _ _ _ rfl (F15.get rfl) rfl (decide_eq_true h16)) fun _ F17 => ?_
 refine zB 4 [(1, .pointer (some ⟨g2, 0, none⟩)), (2, .bool false), (17, .bool true), (19, V.v5)] [0] (zj (M10.blk (k := 2) rfl) dnil) [g2] F17 fun _ F18 => ?_
 refine ze (w' := w10) (zb rfl rfl rfl (F18.get rfl)) rfl F18 rfl (.int .i64 (r.l5.length : Int)) (z9 _ rfl (F18.get rfl) (M10.isb (k := 1) rfl) rfl) fun _ F19 => ?_
 by_cases h20 : (r.l5.length : Int) ≤ 48
 rotate_left
 ·refine ze (w' := w10) (zb rfl rfl rfl (F19.get rfl)) rfl F19 rfl (.bool false) (z8 _ _ _ _ rfl (F19.get rfl) rfl (decide_eq_false h20)) fun _ F55 => ?_
  refine zB 34 [(2, .bool false)] [] dnil [] F55 fun _ F56 => ?_
  refine hK4 _ _ (wp_ret ?_)
  try simp only [Exit.then, Exit.inBlock, Exit.jump]
  exact bodyPost_ret (res1 rfl (F56.get rfl)) F56.defers ⟨by rw [show zkb r = false from by unfold zkb; simp [hP, hN, h16, h20]], M10.below⟩
 refine ze (w' := w10) (zb rfl rfl rfl (F19.get rfl)) rfl F19 rfl (.bool true) (z8 _ _ _ _ rfl (F19.get rfl) rfl (decide_eq_true h20)) fun _ F21 => ?_
 refine zB 4 [(1, .pointer (some ⟨g2, 0, none⟩)), (2, .bool false), (23, .bool true), (25, numV r.a)] [0] (zj (M10.blk (k := 2) rfl) dnil) [g2] F21 fun _ F22 => ?_
 refine zd (zb rfl rfl rfl (F22.get rfl)) rfl F22 rfl rfl (zE Try.func79 rfl) #[numV r.a] (zp (F22.get rfl)) (zh (bits_any r.a w10)) ?_
 rintro _ w23 a23 ⟨rfl, b23⟩ F23
 have M23 := M10.step b23
 by_cases h24 : (topI r.a 8) ≤ 32
 rotate_left
 ·refine ze (w' := w23) (zb rfl rfl rfl (F23.get rfl)) rfl F23 rfl (.bool false) (z8 _ _ _ _ rfl (F23.get rfl) rfl (decide_eq_false h24)) fun _ F53 => ?_
  refine zB 28 [(2, .bool false)] [] dnil [] F53 fun _ F54 => ?_
  refine hK4 _ _ (wp_ret ?_)
  try simp only [Exit.then, Exit.inBlock, Exit.jump]
  exact bodyPost_ret (res1 rfl (F54.get rfl)) F54.defers ⟨by rw [show zkb r = false from by unfold zkb; simp [hP, hN, h16, h20, h24]], M23.below⟩
 refine ze (w' := w23) (zb rfl rfl rfl (F23.get rfl)) rfl F23 rfl (.bool true) (z8 _ _ _ _ rfl (F23.get rfl) rfl (decide_eq_true h24)) fun _ F25 => ?_
 refine zB 4 [(1, .pointer (some ⟨g2, 0, none⟩)), (2, .bool false), (29, .bool true), (31, numV r.b)] [0] (zj (M23.blk (k := 2) rfl) dnil) [g2] F25 fun _ F26 => ?_
 refine zd (zb rfl rfl rfl (F26.get rfl)) rfl F26 rfl rfl (zE Try.func79 rfl) #[numV r.b] (zp (F26.get rfl)) (zh (bits_any r.b w23)) ?_
 rintro _ w27 a27 ⟨rfl, b27⟩ F27
 have M27 := M23.step b27
 by_cases h28 : (topI r.b 8) ≤ 32
 rotate_left
 ·refine ze (w' := w27) (zb rfl rfl rfl (F27.get rfl)) rfl F27 rfl (.bool false) (z8 _ _ _ _ rfl (F27.get rfl) rfl (decide_eq_false h28)) fun _ F51 => ?_
  refine zB 22 [(2, .bool false)] [] dnil [] F51 fun _ F52 => ?_
  refine hK4 _ _ (wp_ret ?_)
  try simp only [Exit.then, Exit.inBlock, Exit.jump]
  exact bodyPost_ret (res1 rfl (F52.get rfl)) F52.defers ⟨by rw [show zkb r = false from by unfold zkb; simp [hP, hN, h16, h20, h24, h28]], M27.below⟩
 refine ze (w' := w27) (zb rfl rfl rfl (F27.get rfl)) rfl F27 rfl (.bool true) (z8 _ _ _ _ rfl (F27.get rfl) rfl (decide_eq_true h28)) fun _ F29 => ?_
 refine zB 4 [(1, .pointer (some ⟨g2, 0, none⟩)), (2, .bool false), (35, .bool true), (37, .int .i64 r.t)] [0] (zj (M27.blk (k := 2) rfl) dnil) [g2] F29 fun _ F30 => ?_
 by_cases h31 : 0 ≤ r.t
 rotate_left
 ·refine ze (w' := w27) (zb rfl rfl rfl (F30.get rfl)) rfl F30 rfl (.bool false) (zob _ _ _ _ rfl (F30.get rfl) rfl (decide_eq_false h31)) fun _ F49 => ?_
  refine zB 17 [(2, .bool false)] [] dnil [] F49 fun _ F50 => ?_
  refine hK4 _ _ (wp_ret ?_)
  try simp only [Exit.then, Exit.inBlock, Exit.jump]
  exact bodyPost_ret (res1 rfl (F50.get rfl)) F50.defers ⟨by rw [show zkb r = false from by unfold zkb; simp [hP, hN, h16, h20, h24, h28, h31]], M27.below⟩
 refine ze (w' := w27) (zb rfl rfl rfl (F30.get rfl)) rfl F30 rfl (.bool true) (zob _ _ _ _ rfl (F30.get rfl) rfl (decide_eq_true h31)) fun _ F32 => ?_
 refine zB 4 [(1, .pointer (some ⟨g2, 0, none⟩)), (2, .bool false), (40, .bool true), (42, .int .i64 r.t)] [0] (zj (M27.blk (k := 2) rfl) dnil) [g2] F32 fun _ F33 => ?_
 by_cases h34 : r.t ≤ 255
 rotate_left
 ·refine ze (w' := w27) (zb rfl rfl rfl (F33.get rfl)) rfl F33 rfl (.bool false) (z8 _ _ _ _ rfl (F33.get rfl) rfl (decide_eq_false h34)) fun _ F47 => ?_
  refine zB 12 [(2, .bool false)] [] dnil [] F47 fun _ F48 => ?_
  refine hK4 _ _ (wp_ret ?_)
  try simp only [Exit.then, Exit.inBlock, Exit.jump]
  exact bodyPost_ret (res1 rfl (F48.get rfl)) F48.defers ⟨by rw [show zkb r = false from by unfold zkb; simp [hP, hN, h16, h20, h24, h28, h31, h34]], M27.below⟩
 refine ze (w' := w27) (zb rfl rfl rfl (F33.get rfl)) rfl F33 rfl (.bool true) (z8 _ _ _ _ rfl (F33.get rfl) rfl (decide_eq_true h34)) fun _ F35 => ?_
 refine zB 4 [(1, .pointer (some ⟨g2, 0, none⟩)), (2, .bool false), (45, .bool true), (47, .int .i64 r.c)] [0] (zj (M27.blk (k := 2) rfl) dnil) [g2] F35 fun _ F36 => ?_
 by_cases h37 : 0 ≤ r.c
 rotate_left
 ·refine ze (w' := w27) (zb rfl rfl rfl (F36.get rfl)) rfl F36 rfl (.bool false) (zob _ _ _ _ rfl (F36.get rfl) rfl (decide_eq_false h37)) fun _ F45 => ?_
  refine zB 7 [(2, .bool false)] [] dnil [] F45 fun _ F46 => ?_
  refine hK4 _ _ (wp_ret ?_)
  try simp only [Exit.then, Exit.inBlock, Exit.jump]
  exact bodyPost_ret (res1 rfl (F46.get rfl)) F46.defers ⟨by rw [show zkb r = false from by unfold zkb; simp [hP, hN, h16, h20, h24, h28, h31, h34, h37]], M27.below⟩
 refine ze (w' := w27) (zb rfl rfl rfl (F36.get rfl)) rfl F36 rfl (.bool true) (zob _ _ _ _ rfl (F36.get rfl) rfl (decide_eq_true h37)) fun _ F38 => ?_
 refine zB 4 [(2, .bool false), (50, .bool true), (52, .int .i64 r.z)] [0] (zj (M27.blk (k := 2) rfl) dnil) [g2] F38 fun _ F39 => ?_
 by_cases h40 : 0 ≤ r.z
 ·refine ze (w' := w27) (zb rfl rfl rfl (F39.get rfl)) rfl F39 rfl (.bool true) (zob _ _ _ _ rfl (F39.get rfl) rfl (decide_eq_true h40)) fun _ F41 => ?_
  refine zB 2 [(2, .bool true)] [] dnil [] F41 fun _ F42 => ?_
  refine hK4 _ _ (wp_ret ?_)
  try simp only [Exit.then, Exit.inBlock, Exit.jump]
  exact bodyPost_ret (res1 rfl (F42.get rfl)) F42.defers ⟨by rw [show zkb r = true from by unfold zkb; simp [hP, hN, h16, h20, h24, h28, h31, h34, h37, h40]], M27.below⟩
 refine ze (w' := w27) (zb rfl rfl rfl (F39.get rfl)) rfl F39 rfl (.bool false) (zob _ _ _ _ rfl (F39.get rfl) rfl (decide_eq_false h40)) fun _ F43 => ?_
 refine zB 2 [(2, .bool false)] [] dnil [] F43 fun _ F44 => ?_
 refine hK4 _ _ (wp_ret ?_)
 try simp only [Exit.then, Exit.inBlock, Exit.jump]
 exact bodyPost_ret (res1 rfl (F44.get rfl)) F44.defers ⟨by rw [show zkb r = false from by unfold zkb; simp [hP, hN, h16, h20, h24, h28, h31, h34, h37, h40]], M27.below⟩
end Go.Proofs.Ytlbkogdmojlpmaa
namespace Go.Proofs.Ytlbkogdmojlpmaa
open Go.ChangeShapes Go.WideShapes Go.ChangeAt Go.RowKit
def cntL (l c : List UInt8) : List UInt8 := l ++ [zx (c.length : Int)] ++ c
theorem cntL_len (l c : List UInt8) : (cntL l c).length = l.length + 1 + c.length := by simp [cntL]; omega
theorem counted_ex (l c : List UInt8) (v u : Value) (hl : l.length + c.length ≤ 100000) (w : World) (hb : Byt w 0 v l) (hu : IsB w c u) (hd : ∀ g, v.ownBlock = some g → ¬ bfp u g) : Calls Try.prog 45 #[v, u] w fun e w' => ∃ v', e = .returned v' ∧ Byt w' 0 v' (cntL l c) ∧ (∀ g, v'.ownBlock = some g → w.heap.size ≤ g ∨ v.ownBlock = some g) ∧ w.grownBy w' v.ownBlock :=
  counted_any l c v u hl w hb hu hd
theorem fourL_len (a : Nat) : (fourL a).length = 4 := by unfold fourL; simp [zwa]
theorem keep_len {r : RecN} (h : zkb r = true) : (sBy r.s).length ≤ 16 ∧ r.l2.length ≤ 16 ∧ r.l5.length ≤ 48 := by
  unfold zkb at h
  simp only [Bool.and_eq_true, decide_eq_true_eq] at h
  obtain ⟨⟨⟨⟨⟨⟨⟨⟨⟨h1, h2⟩, h3⟩, h4⟩, _⟩, _⟩, _⟩, _⟩, _⟩, _⟩ := h
  unfold nameB at h2
  have := (@of_decide_eq_true _ (Classical.propDecidable _) h2).2.1
  exact ⟨by simp [sBy]; omega, by omega, by omega⟩
def recL (r : RecN) : List UInt8 := ((((cntL (cntL (cntL [zx r.p] (sBy r.s)) r.l2) r.l5 ++ fourL r.a) ++ fourL r.b) ++ [zx r.t]) ++ zlb r.c) ++ zlb r.z
noncomputable def recE (r : RecN) : List UInt8 := if zkb r = true then recL r else []
theorem record_any (r : RecN) (V : RecV) (ho : RecOk r) (w : World) (hm : RecIs w r V) :
  Calls Try.prog 35 #[.agg (recA r V)] w fun e w' => ∃ v, e = .returned (.tuple #[v, .bool (zkb r)]) ∧ Byt w' w.heap.size v (recE r) ∧ Below w.heap.size w w' := by
 obtain ⟨bK, hK⟩ : ∃ b, zkb r = b := ⟨_, rfl⟩
 have hkk : bK = true → (sBy r.s).length ≤ 16 ∧ r.l2.length ≤ 16 ∧ r.l5.length ≤ 48 := fun h => keep_len (hK.trans h)
 have h4a := fourL_len r.a
 have h4b := fourL_len r.b
 have h8c := z2b r.c
 have h8z := z2b r.z
 refine zg (args := [.agg (recA r V)]) 51 Try.func35 rfl rfl rfl ?_
 intro fa F
 have M := Mx.start w
 replace M := M.argB 0 hm.h2 (fun g e => by cases e)
 replace M := M.argB 1 hm.h5 (fun g e => by cases e)
 refine zT fun _ hK1 => ?_
 refine zf (za rfl) rfl F rfl M 2 (t := 54) (c := recA r V) (by unfold execOp; simp only [(F.get (t := 0) rfl)]; kernel_rfl) ?_
 intro g2 a2 w2 F2 M2
 clear F M
 refine rm rfl F2 fun _ F3 => ?_
 refine rm rfl F3 fun _ F4 => ?_
 refine hK1 _ _ (zS fun _ hK5 => ?_)
 refine zT fun _ hK6 => ?_
 refine rn rfl rfl F4 rfl _ (zja _ _ rfl (F4.get rfl) (M2.blk (k := 2) rfl) (recA r V) (zma rfl) Try.underlying54 rfl (by kernel_rfl)) fun _ F7 => ?_
 refine zd (za rfl) rfl F7 rfl rfl (zE Try.func62 rfl) #[.agg (recA r V)] (zp (F7.get rfl)) (zh ((hK ▸ keeps_any r V ho.s w2 ⟨M2.isb (k := 0) rfl, M2.isb (k := 1) rfl⟩))) ?_
 rintro _ w8 a8 ⟨rfl, b8⟩ F8
 have M8 := M2.step b8
 cases bK
 ·refine rn rfl rfl F8 rfl (.bool true) (run_not _ _ rfl (F8.get (t := 6) rfl)) fun _ F9 => ?_
  refine hK6 _ _ (wp_cond_true (F9.get rfl) ?_)
  refine zT fun _ hK10 => ?_
  refine rm rfl F9 fun _ F11 => ?_
  refine rm rfl F11 fun _ F12 => ?_
  refine hK10 _ _ (wp_ret ?_)
  try simp only [Exit.then, Exit.inBlock, Exit.jump]
  exact bodyPost_ret (res2 rfl (F12.get rfl) (F12.get rfl)) F12.defers ⟨zN, (by rw [hK]), (by rw [show recE r = [] from if_neg (by rw [hK]; exact Bool.false_ne_true)]; exact Byt.nil _ _), M8.below⟩
 obtain ⟨hls, hl2, hl5⟩ := hkk rfl
 refine rn rfl rfl F8 rfl (.bool false) (run_not _ _ rfl (F8.get (t := 6) rfl)) fun _ F13 => ?_
 refine hK6 _ _ (wp_cond_false (F13.get rfl) ?_)
 refine wp_skip ?_
 refine hK5 _ _ (zS fun _ hK14 => ?_)
 refine zR ?_
 refine zB 2 [(1, .pointer (some ⟨g2, 0, none⟩)), (2, zN), (3, .bool false), (9, .int .i64 r.p)] [0] (zj (M8.blk (k := 2) rfl) dnil) [g2] F13 fun _ F15 => ?_
 refine rn rfl rfl F15 rfl (.int .u8 (((zx r.p).toNat : Nat) : Int)) (zxa _ _ _ rfl (F15.get rfl) Try.underlying3 Try.underlying5 (z3a _)) fun _ F16 => ?_
 refine zba (za rfl) rfl F16 rfl (zbc M8 3 [(zx r.p)] 1 rfl (by decide) (by decide) rfl (by simp only [List.map_toArray, List.map_cons, List.map_nil, (F16.get (t := 10) rfl)]; kernel_rfl)) ?_
 intro v17 a17 w17 F17 M17
 clear F16 M8
 obtain ⟨A17, c17, rfl⟩ := (M17.isO (k := 3) rfl).shape
 refine rm rfl F17 fun _ F18 => ?_
 refine hK14 _ _ (zS fun _ hK19 => ?_)
 refine zR ?_
 refine zA 3 [(12, .slice A17 ([(zx r.p)]).length c17), (13, .pointer (some ⟨g2, 1, none⟩)), (14, .string r.s)] [0] (zj (M17.blk (k := 2) rfl) dnil) [g2] F18 fun _ F20 => ?_
 refine zba (za rfl) rfl F20 rfl (run_cvS M17 4 _ rfl (F20.get rfl) (Nat.le_trans ho.s (by omega))) ?_
 intro v21 a21 w21 F21 M21
 clear F20 M17
 have fr21 := M21.frN (k := 4) rfl
 replace M21 := M21.unN (k := 4) rfl
 obtain ⟨A21, c21, rfl⟩ := (M21.isb (k := 4) rfl).shape
 refine zd (za rfl) rfl F21 rfl rfl (zE Try.func45 rfl) #[.slice A17 ([(zx r.p)]).length c17, .slice A21 ((sBy r.s)).length c21] (zea (F21.get rfl) (F21.get rfl)) (counted_ex [(zx r.p)] (sBy r.s) (.slice A17 ([(zx r.p)]).length c17) (.slice A21 ((sBy r.s)).length c21) (by simp only [cntL_len, List.length_append, List.length_cons, List.length_nil]; omega) w21 (M21.at_ 3 _ rfl) (M21.isb (k := 4) rfl) (fun g e hg => M21.dis 3 4 _ _ rfl rfl (by decide) rfl g e hg)) ?_
 rintro v22 w22 a22 ⟨hv22, hlo22, gb22⟩ F22
 have M22 := M21.growO (k := 3) rfl gb22 hv22 hlo22
 clear M21 gb22 hv22 hlo22
 obtain ⟨A22, c22, rfl⟩ := (M22.isO (k := 3) rfl).shape
 refine rm rfl F22 fun _ F23 => ?_
 refine hK19 _ _ (zS fun _ hK24 => ?_)
 refine zR ?_
 refine zA 3 [(17, .slice A22 ((cntL [(zx r.p)] (sBy r.s))).length c22), (18, .pointer (some ⟨g2, 2, none⟩)), (19, V.v2)] [0] (zj (M22.blk (k := 2) rfl) dnil) [g2] F23 fun _ F25 => ?_
 refine zd (za rfl) rfl F25 rfl rfl (zE Try.func45 rfl) #[.slice A22 ((cntL [(zx r.p)] (sBy r.s))).length c22, V.v2] (zea (F25.get rfl) (F25.get rfl)) (counted_ex (cntL [(zx r.p)] (sBy r.s)) r.l2 (.slice A22 ((cntL [(zx r.p)] (sBy r.s))).length c22) (V.v2) (by simp only [cntL_len, List.length_append, List.length_cons, List.length_nil]; omega) w22 (M22.at_ 3 _ rfl) (M22.isb (k := 0) rfl) (fun g e hg => M22.dis 3 0 _ _ rfl rfl (by decide) rfl g e hg)) ?_
 rintro v26 w26 a26 ⟨hv26, hlo26, gb26⟩ F26
 have M26 := M22.growO (k := 3) rfl gb26 hv26 hlo26
 clear M22 gb26 hv26 hlo26
 obtain ⟨A26, c26, rfl⟩ := (M26.isO (k := 3) rfl).shape
 refine rm rfl F26 fun _ F27 => ?_
 refine hK24 _ _ (zS fun _ hK28 => ?_)
 refine zR ?_
 refine zA 3 [(21, .slice A26 ((cntL (cntL [(zx r.p)] (sBy r.s)) r.l2)).length c26), (22, .pointer (some ⟨g2, 19, none⟩)), (23, V.v5)] [0] (zj (M26.blk (k := 2) rfl) dnil) [g2] F27 fun _ F29 => ?_
 refine zd (za rfl) rfl F29 rfl rfl (zE Try.func45 rfl) #[.slice A26 ((cntL (cntL [(zx r.p)] (sBy r.s)) r.l2)).length c26, V.v5] (zea (F29.get rfl) (F29.get rfl)) (counted_ex (cntL (cntL [(zx r.p)] (sBy r.s)) r.l2) r.l5 (.slice A26 ((cntL (cntL [(zx r.p)] (sBy r.s)) r.l2)).length c26) (V.v5) (by simp only [cntL_len, List.length_append, List.length_cons, List.length_nil]; omega) w26 (M26.at_ 3 _ rfl) (M26.isb (k := 1) rfl) (fun g e hg => M26.dis 3 1 _ _ rfl rfl (by decide) rfl g e hg)) ?_
 rintro v30 w30 a30 ⟨hv30, hlo30, gb30⟩ F30
 have M30 := M26.growO (k := 3) rfl gb30 hv30 hlo30
 clear M26 gb30 hv30 hlo30
 obtain ⟨A30, c30, rfl⟩ := (M30.isO (k := 3) rfl).shape
 refine rm rfl F30 fun _ F31 => ?_
 refine hK28 _ _ (zS fun _ hK32 => ?_)
 refine zR ?_
 refine rm rfl F31 fun _ F33 => ?_
 refine zA 2 [(26, .pointer (some ⟨g2, 3, none⟩)), (27, numV r.a)] [0] (zj (M30.blk (k := 2) rfl) dnil) [g2] F33 fun _ F34 => ?_
 refine zd (za rfl) rfl F34 rfl rfl (zE Try.func63 rfl) #[numV r.a] (zp (F34.get rfl)) (four_any r.a w30) ?_
 rintro v35 w35 a35 h35 F35
 have M35 := M30.newB h35.2.2 5 h35.1 h35.2.1
 have fr35 := fun g hg => Nat.le_trans M30.le (h35.2.1 g hg)
 clear M30 h35
 obtain ⟨A35, c35, rfl⟩ := (M35.isb (k := 5) rfl).shape
 refine zba (za rfl) rfl F35 rfl (z2a M35 (k := 3) rfl _ _ rfl (F35.get rfl) (F35.get rfl) (M35.isb (k := 5) rfl) (by simp only [cntL_len, List.length_append, List.length_cons, List.length_nil]; omega)) ?_
 intro v36 a36 w36 F36 M36
 clear F35 M35
 obtain ⟨A36, c36, rfl⟩ := (M36.isO (k := 3) rfl).shape
 refine rm rfl F36 fun _ F37 => ?_
 refine hK32 _ _ (zS fun _ hK38 => ?_)
 refine zR ?_
 refine rm rfl F37 fun _ F39 => ?_
 refine zA 2 [(31, .pointer (some ⟨g2, 11, none⟩)), (32, numV r.b)] [0] (zj (M36.blk (k := 2) rfl) dnil) [g2] F39 fun _ F40 => ?_
 refine zd (za rfl) rfl F40 rfl rfl (zE Try.func63 rfl) #[numV r.b] (zp (F40.get rfl)) (four_any r.b w36) ?_
 rintro v41 w41 a41 h41 F41
 have M41 := M36.newB h41.2.2 6 h41.1 h41.2.1
 have fr41 := fun g hg => Nat.le_trans M36.le (h41.2.1 g hg)
 clear M36 h41
 obtain ⟨A41, c41, rfl⟩ := (M41.isb (k := 6) rfl).shape
 refine zba (za rfl) rfl F41 rfl (z2a M41 (k := 3) rfl _ _ rfl (F41.get rfl) (F41.get rfl) (M41.isb (k := 6) rfl) (by simp only [cntL_len, List.length_append, List.length_cons, List.length_nil]; omega)) ?_
 intro v42 a42 w42 F42 M42
 clear F41 M41
 obtain ⟨A42, c42, rfl⟩ := (M42.isO (k := 3) rfl).shape
 refine rm rfl F42 fun _ F43 => ?_
 refine hK38 _ _ (zS fun _ hK44 => ?_)
 refine zR ?_
 refine rm rfl F43 fun _ F45 => ?_
 refine zA 2 [(36, .pointer (some ⟨g2, 20, none⟩)), (37, .int .i64 r.t)] [0] (zj (M42.blk (k := 2) rfl) dnil) [g2] F45 fun _ F46 => ?_
 refine rn rfl rfl F46 rfl (.int .u8 (((zx r.t).toNat : Nat) : Int)) (zxa _ _ _ rfl (F46.get rfl) Try.underlying3 Try.underlying5 (z3a _)) fun _ F47 => ?_
 refine zba (za rfl) rfl F47 rfl (zbc M42 7 [(zx r.t)] 1 rfl (by decide) (by decide) rfl (by simp only [List.map_toArray, List.map_cons, List.map_nil, (F47.get (t := 38) rfl)]; kernel_rfl)) ?_
 intro v48 a48 w48 F48 M48
 clear F47 M42
 obtain ⟨A48, c48, rfl⟩ := (M48.isO (k := 7) rfl).shape
 refine zba (za rfl) rfl F48 rfl (z2a M48 (k := 3) rfl _ _ rfl (F48.get rfl) (F48.get rfl) (M48.isO (k := 7) rfl) (by simp only [cntL_len, List.length_append, List.length_cons, List.length_nil]; omega)) ?_
 intro v49 a49 w49 F49 M49
 clear F48 M48
 obtain ⟨A49, c49, rfl⟩ := (M49.isO (k := 3) rfl).shape
 refine rm rfl F49 fun _ F50 => ?_
 refine hK44 _ _ (zS fun _ hK51 => ?_)
 refine zR ?_
 refine rm rfl F50 fun _ F52 => ?_
 refine zA 2 [(42, .pointer (some ⟨g2, 21, none⟩)), (43, .int .i64 r.c)] [0] (zj (M49.blk (k := 2) rfl) dnil) [g2] F52 fun _ F53 => ?_
 refine zd (za rfl) rfl F53 rfl rfl (zE Try.func64 rfl) #[.int .i64 r.c] (zp (F53.get rfl)) (eightI_any r.c w49) ?_
 rintro v54 w54 a54 h54 F54
 have M54 := M49.newO h54.2 8 h54.1
 clear M49 h54
 obtain ⟨A54, c54, rfl⟩ := (M54.isO (k := 8) rfl).shape
 refine zba (za rfl) rfl F54 rfl (z2a M54 (k := 3) rfl _ _ rfl (F54.get rfl) (F54.get rfl) (M54.isO (k := 8) rfl) (by simp only [cntL_len, List.length_append, List.length_cons, List.length_nil]; omega)) ?_
 intro v55 a55 w55 F55 M55
 clear F54 M54
 obtain ⟨A55, c55, rfl⟩ := (M55.isO (k := 3) rfl).shape
 refine rm rfl F55 fun _ F56 => ?_
 refine hK51 _ _ (zS fun _ hK57 => ?_)
 refine zR ?_
 refine rm rfl F56 fun _ F58 => ?_
 refine zA 2 [(47, .pointer (some ⟨g2, 22, none⟩)), (48, .int .i64 r.z)] [0] (zj (M55.blk (k := 2) rfl) dnil) [g2] F58 fun _ F59 => ?_
 refine zd (za rfl) rfl F59 rfl rfl (zE Try.func64 rfl) #[.int .i64 r.z] (zp (F59.get rfl)) (eightI_any r.z w55) ?_
 rintro v60 w60 a60 h60 F60
 have M60 := M55.newO h60.2 9 h60.1
 clear M55 h60
 obtain ⟨A60, c60, rfl⟩ := (M60.isO (k := 9) rfl).shape
 refine zba (za rfl) rfl F60 rfl (z2a M60 (k := 3) rfl _ _ rfl (F60.get rfl) (F60.get rfl) (M60.isO (k := 9) rfl) (by simp only [cntL_len, List.length_append, List.length_cons, List.length_nil]; omega)) ?_
 intro v61 a61 w61 F61 M61
 clear F60 M60
 obtain ⟨A61, c61, rfl⟩ := (M61.isO (k := 3) rfl).shape
 refine rm rfl F61 fun _ F62 => ?_
 refine rm rfl F62 fun _ F63 => ?_
 refine hK57 _ _ (wp_ret ?_)
 try simp only [Exit.then, Exit.inBlock, Exit.jump]
 exact bodyPost_ret (res2 rfl (F63.get rfl) (F63.get rfl)) F63.defers ⟨_, (by rw [hK]), (by rw [show recE r = recL r from if_pos hK]; exact M61.byt (k := 3) rfl), M61.below⟩
end Go.Proofs.Ytlbkogdmojlpmaa
namespace Go.Proofs.Ytlbkogdmojlpmaa
open Go.ChangeShapes Go.WideShapes Go.ChangeAt Go.RowKit
theorem rfour_any (g : Nat) (l : List UInt8) (u : Value) (hl : l.length ≤ 100000) (w : World) (hg : w.heap[g]? = some (.cells #[u] 83 (0, 0))) (hu : IsB w l u) (hd : ¬ bfp u g) :
  Calls Try.prog 67 #[.pointer (some ⟨g, 0, none⟩)] w fun e w' => ∃ v, e = .returned v ∧ v = numV (z7a (l.take 4)) ∧ ∃ u', IsB w' (l.drop 4) u' ∧ (∀ b, bfp u' b → bfp u b) ∧ w'.heap[g]? = some (.cells #[u'] 83 (0, 0)) ∧ w.grownBy w' (some g) := by
 refine zg (args := [.pointer (some ⟨g, 0, none⟩)]) 12 Try.func67 rfl rfl rfl ?_
 intro fa F
 have M := Mx.theG hg 0
 replace M := M.argB 1 hu (fun b e => by cases e; exact hd)
 refine zT fun _ hK1 => ?_
 refine zf (za rfl) rfl F rfl M 2 (t := 27) (c := numA 0) (zda rfl) ?_
 intro g2 a2 w2 F2 M2
 clear F M
 refine hK1 _ _ (zS fun _ hK3 => ?_)
 refine zR ?_
 refine rm rfl F2 fun _ F4 => ?_
 refine zd (za rfl) rfl F4 rfl rfl (zE Try.func52 rfl) #[.pointer (some ⟨g, 0, none⟩), .int .i64 4] (zea (F4.get rfl) rfl) (take_any g l (u) 4 hl (by omega) w2 (M2.blk (k := 0) rfl) (M2.isb (k := 1) rfl) (fun hb => M2.dis 0 1 _ _ rfl rfl (by decide) rfl g rfl hb)) ?_
 rintro v5 w5 a5 ⟨u5, hv5, hu5, hs5, hc5, hg5⟩ F5
 have M5 := M2.took (k := 0) (ku := 1) rfl hg5 hc5 4 3 hv5 hu5 hs5 rfl rfl
 clear M2 hg5 hc5
 obtain ⟨A5u, c5u, rfl⟩ := hu5.shape
 clear hu5
 clear hv5
 obtain ⟨A5, c5, rfl⟩ := (M5.isO (k := 4) rfl).shape
 refine zd (za rfl) rfl F5 rfl rfl (zE Try.func82 rfl) #[.slice A5 ((l.take 4)).length c5] (zp (F5.get rfl)) (zh ((lread_any (l.take 4) (.slice A5 ((l.take 4)).length c5) (by simp only [List.length_take]; omega) w5 (M5.isO (k := 4) rfl)))) ?_
 rintro _ w6 a6 ⟨rfl, b6⟩ F6
 have M6 := M5.step b6
 refine zB 3 [(2, .pointer (some ⟨g2, 0, none⟩)), (9, numV (z7a (l.take 4))), (10, .bool (decide ((l.take 4).length ≤ 32)))] [] dnil [] F6 fun _ F7 => ?_
 refine zf (za rfl) rfl F7 rfl M6 5 (t := 27) (c := numA 0) (zda rfl) ?_
 intro g8 a8 w8 F8 M8
 clear F7 M6
 refine zn (za rfl) rfl F8 M8 (k := 5) rfl _ _ _ rfl (F8.get rfl) (F8.get rfl) (numA (z7a (l.take 4))) _ rfl (zL rfl) (zaa _) (zt rfl) z7 ?_
 intro w9 M9
 clear M8
 refine rm rfl F8 fun _ F10 => ?_
 refine hK3 _ _ (zS fun _ hK11 => ?_)
 refine zR ?_
 refine rn rfl rfl F10 rfl (numV (z7a (l.take 4))) (zja _ _ rfl (F10.get rfl) (M9.blk (k := 5) rfl) (numA (z7a (l.take 4))) (zma rfl) Try.underlying27 rfl z7) fun _ F12 => ?_
 refine zn (za rfl) rfl F12 M9 (k := 2) rfl _ _ _ rfl (F12.get rfl) (F12.get rfl) (numA (z7a (l.take 4))) _ rfl (zL rfl) (zaa _) (zt rfl) z7 ?_
 intro w13 M13
 clear M9
 refine hK11 _ _ (wp_ret ?_)
 try simp only [Exit.then, Exit.inBlock, Exit.jump]
 exact bodyPost_ret (results_cell_row rfl _ _ _ _ _ (0, 0) _ (F12.get rfl) (M13.blk (k := 2) rfl) Try.underlying27 rfl z7) F12.defers ⟨_, rfl, rfl, .slice A5u ((l.drop 4)).length c5u, M13.isb (k := 3) rfl, fun b h => (hs5 b h), M13.blk (k := 0) rfl, M13.grown⟩
theorem record_ex (r : RecN) (V : RecV) (ho : RecOk r) (w : World) (hm : RecIs w r V) : Calls Try.prog 35 #[.agg (recA r V)] w fun e w' => ∃ t, e = .returned t ∧ ∃ v, t = .tuple #[v, .bool (zkb r)] ∧ Byt w' w.heap.size v (recE r) ∧ Below w.heap.size w w' :=
  (record_any r V ho w hm).mono fun e w' ⟨v, h1, h2, h3⟩ => ⟨_, h1, v, rfl, h2, h3⟩
def rZero : RecN := ⟨0, ⟨#[]⟩, [], 0, 0, [], 0, 0, 0⟩
def rvZero : RecV := ⟨zN, zN⟩
theorem rvZero_is (w : World) : RecIs w rZero rvZero := ⟨zc _, zc _⟩
def subRV (V' V : RecV) (g : Nat) : Prop := (bfp V'.v2 g → bfp V.v2 g) ∧ (bfp V'.v5 g → bfp V.v5 g)
noncomputable def zyb (r : RecN) (b : List UInt8) : Bool := zkb r && decide (recE r = b)
noncomputable def provR (r : RecN) (b : List UInt8) : RecN := if zyb r b = true then r else rZero
theorem provenR_any (r : RecN) (V : RecV) (b : List UInt8) (bv : Value) (ho : RecOk r) (w : World) (hm : RecIs w r V) (hb : IsB w b bv) :
  Calls Try.prog 69 #[.agg (recA r V), .func (.func 35) #[] #[], bv] w fun e w' => ∃ t, e = .returned t ∧ ∃ V', t = .tuple #[.agg (recA (provR r b) V'), .bool (zyb r b)] ∧ RecIs w' (provR r b) V' ∧ (∀ g, subRV V' V g) ∧ Below w.heap.size w w' := by
 obtain ⟨bE, hE⟩ : ∃ x, zkb r = x := ⟨_, rfl⟩
 obtain ⟨bQ, hQ⟩ : ∃ x, decide (recE r = b) = x := ⟨_, rfl⟩
 refine zg (args := [.agg (recA r V), .func (.func 35) #[] #[], bv]) 27 Try.func69 rfl rfl rfl ?_
 intro fa F
 have M := Mx.start w
 replace M := M.argB 0 hm.h2 (fun g e => by cases e)
 replace M := M.argB 1 hm.h5 (fun g e => by cases e)
 replace M := M.argB 2 hb (fun g e => by cases e)
 refine zT fun _ hK1 => ?_
 refine zf (za rfl) rfl F rfl M 3 (t := 54) (c := recA r V) (by unfold execOp; simp only [(F.get (t := 0) rfl)]; kernel_rfl) ?_
 intro g2 a2 w2 F2 M2
 clear F M
 refine zf (za rfl) rfl F2 rfl M2 4 (t := 54) (c := recA ⟨0, "".toUTF8, [], 0, 0, [], 0, 0, 0⟩ ⟨zN, zN⟩) (by unfold execOp; kernel_rfl) ?_
 intro g3 a3 w3 F3 M3
 clear F2 M2
 refine rm rfl F3 fun _ F4 => ?_
 refine hK1 _ _ (zS fun _ hK5 => ?_)
 refine zR ?_
 refine rm rfl F4 fun _ F6 => ?_
 refine rn rfl rfl F6 rfl _ (zja _ _ rfl (F6.get rfl) (M3.blk (k := 3) rfl) (recA r V) (zma rfl) Try.underlying54 rfl (by kernel_rfl)) fun _ F7 => ?_
 refine wl_callV (za rfl) rfl F7 rfl rfl (F7.get rfl) (zE Try.func35 rfl) #[.agg (recA r V)] (show _ ++ _ = _ from by rw [(zp (F7.get rfl))]; rfl) (hE ▸ record_ex r V ho w3 ⟨M3.isb (k := 0) rfl, M3.isb (k := 1) rfl⟩) ?_
 rintro _ w8 a8 ⟨v8, rfl, hv8, b8⟩ F8
 have M8 := M3.newO b8 5 hv8
 clear M3 b8 hv8
 obtain ⟨A8, c8, rfl⟩ := (M8.isO (k := 5) rfl).shape
 refine zB 5 [(2, bv), (3, .pointer (some ⟨g2, 0, none⟩)), (6, .pointer (some ⟨g3, 0, none⟩)), (7, .bool false), (8, .slice A8 ((recE r)).length c8), (9, .bool bE)] [] dnil [] F8 fun _ F9 => ?_
 refine hK5 _ _ (zS fun _ hK10 => ?_)
 refine zT fun _ hK11 => ?_
 refine rm rfl F9 fun _ F12 => ?_
 cases bE
 ·refine zB 7 [(3, .pointer (some ⟨g2, 0, none⟩)), (6, .pointer (some ⟨g3, 0, none⟩)), (7, .bool false), (24, .bool true)] [] dnil [] F12 fun _ F13 => ?_
  refine hK11 _ _ (wp_cond_true (F13.get rfl) ?_)
  refine zT fun _ hK14 => ?_
  refine zf (za rfl) rfl F13 rfl M8 6 (t := 54) (c := recA ⟨0, "".toUTF8, [], 0, 0, [], 0, 0, 0⟩ ⟨zN, zN⟩) (by unfold execOp; kernel_rfl) ?_
  intro g15 a15 w15 F15 M15
  clear F13 M8
  refine hK14 _ _ (zS fun _ hK16 => ?_)
  refine zR ?_
  refine rn rfl rfl F15 rfl _ (zja _ _ rfl (F15.get rfl) (M15.blk (k := 6) rfl) (recA ⟨0, "".toUTF8, [], 0, 0, [], 0, 0, 0⟩ ⟨zN, zN⟩) (zma rfl) Try.underlying54 rfl (by kernel_rfl)) fun _ F17 => ?_
  refine zn (za rfl) rfl F17 M15 (k := 4) rfl _ _ _ rfl (F17.get rfl) (F17.get rfl) (recA ⟨0, "".toUTF8, [], 0, 0, [], 0, 0, 0⟩ ⟨zN, zN⟩) _ rfl (zL rfl) (recA_one (w := w) ⟨zc _, zc _⟩) (zt rfl) (by kernel_rfl) ?_
  intro w18 M18
  clear M15
  refine rm rfl F17 fun _ F19 => ?_
  refine hK16 _ _ (wp_ret ?_)
  try simp only [Exit.then, Exit.inBlock, Exit.jump]
  exact bodyPost_ret (resCT rfl (F19.get rfl) (M18.blk (k := 4) rfl) (F19.get rfl) Try.underlying54 rfl (by kernel_rfl)) F19.defers ⟨_, rfl, rvZero, by rw [provR, show zyb r b = false from by rw [zyb, hE]; rfl]; rfl, by rw [provR, show zyb r b = false from by rw [zyb, hE]; rfl]; exact rvZero_is _, fun g => ⟨fun h => (z6 g h).elim, fun h => (z6 g h).elim⟩, M18.below⟩
 refine zA 4 [(18, .bool false), (19, .bool false), (20, .slice A8 ((recE r)).length c8), (21, bv)] [] dnil [] F12 fun _ F20 => ?_
 refine zd (zb rfl rfl rfl (F20.get rfl)) rfl F20 rfl rfl (zE Try.func83 rfl) #[.slice A8 ((recE r)).length c8, bv] (zea (F20.get rfl) (F20.get rfl)) (zh ((hQ ▸ equal_any (recE r) b (.slice A8 ((recE r)).length c8) (bv) w8 (M8.isO (k := 5) rfl) (M8.isb (k := 2) rfl)))) ?_
 rintro _ w21 a21 ⟨rfl, b21⟩ F21
 have M21 := M8.step b21
 cases bQ
 rotate_left
 ·refine zA 2 [(23, .bool false), (24, .bool false)] [] dnil [] F21 fun _ F29 => ?_
  refine hK11 _ _ (wp_cond_false (F29.get rfl) ?_)
  refine wp_skip ?_
  refine hK10 _ _ (zS fun _ hK30 => ?_)
  refine zR ?_
  refine rn rfl rfl F29 rfl _ (zja _ _ rfl (F29.get rfl) (M21.blk (k := 3) rfl) (recA r V) (zma rfl) Try.underlying54 rfl (by kernel_rfl)) fun _ F31 => ?_
  refine zn (za rfl) rfl F31 M21 (k := 4) rfl _ _ _ rfl (F31.get rfl) (F31.get rfl) (recA r V) _ rfl (zL rfl) (recA_one hm) (zt rfl) (by kernel_rfl) ?_
  intro w32 M32
  clear M21
  refine rm rfl F31 fun _ F33 => ?_
  refine hK30 _ _ (wp_ret ?_)
  try simp only [Exit.then, Exit.inBlock, Exit.jump]
  exact bodyPost_ret (resCT rfl (F33.get rfl) (M32.blk (k := 4) rfl) (F33.get rfl) Try.underlying54 rfl (by kernel_rfl)) F33.defers ⟨_, rfl, V, by rw [provR, show zyb r b = true from by rw [zyb, hE, hQ]; rfl]; rfl, by rw [provR, show zyb r b = true from by rw [zyb, hE, hQ]; rfl]; exact ⟨M32.isb (k := 0) rfl, M32.isb (k := 1) rfl⟩, fun g => ⟨id, id⟩, M32.below⟩
 refine zA 2 [(23, .bool true), (24, .bool true)] [] dnil [] F21 fun _ F22 => ?_
 refine hK11 _ _ (wp_cond_true (F22.get rfl) ?_)
 refine zT fun _ hK23 => ?_
 refine zf (za rfl) rfl F22 rfl M21 6 (t := 54) (c := recA ⟨0, "".toUTF8, [], 0, 0, [], 0, 0, 0⟩ ⟨zN, zN⟩) (by unfold execOp; kernel_rfl) ?_
 intro g24 a24 w24 F24 M24
 clear F22 M21
 refine hK23 _ _ (zS fun _ hK25 => ?_)
 refine zR ?_
 refine rn rfl rfl F24 rfl _ (zja _ _ rfl (F24.get rfl) (M24.blk (k := 6) rfl) (recA ⟨0, "".toUTF8, [], 0, 0, [], 0, 0, 0⟩ ⟨zN, zN⟩) (zma rfl) Try.underlying54 rfl (by kernel_rfl)) fun _ F26 => ?_
 refine zn (za rfl) rfl F26 M24 (k := 4) rfl _ _ _ rfl (F26.get rfl) (F26.get rfl) (recA ⟨0, "".toUTF8, [], 0, 0, [], 0, 0, 0⟩ ⟨zN, zN⟩) _ rfl (zL rfl) (recA_one (w := w) ⟨zc _, zc _⟩) (zt rfl) (by kernel_rfl) ?_
 intro w27 M27
 clear M24
 refine rm rfl F26 fun _ F28 => ?_
 refine hK25 _ _ (wp_ret ?_)
 try simp only [Exit.then, Exit.inBlock, Exit.jump]
 exact bodyPost_ret (resCT rfl (F28.get rfl) (M27.blk (k := 4) rfl) (F28.get rfl) Try.underlying54 rfl (by kernel_rfl)) F28.defers ⟨_, rfl, rvZero, by rw [provR, show zyb r b = false from by rw [zyb, hE, hQ]; rfl]; rfl, by rw [provR, show zyb r b = false from by rw [zyb, hE, hQ]; rfl]; exact rvZero_is _, fun g => ⟨fun h => (z6 g h).elim, fun h => (z6 g h).elim⟩, M27.below⟩
end Go.Proofs.Ytlbkogdmojlpmaa
