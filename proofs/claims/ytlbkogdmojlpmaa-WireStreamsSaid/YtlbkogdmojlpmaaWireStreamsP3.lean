/- What WireStreams stands on, part 3. -/
import Derived.Great.BuildSlice
import Derived.RangeFuncNested
import Derived.RangeFuncBound
import Derived.RangeFuncCalls
import Derived.RangeFuncLeaves
import Derived.Shelf.RegionOpen
import Derived.OwnWalkIn
import Derived.TacticsInMore
import Derived.LoopNIn
import Derived.LoopIn
import Derived.OrdersIn
import Derived.Test.YtlbkogdmojlpmaaWireStreamsP1
import Derived.Test.YtlbkogdmojlpmaaWireStreamsP2
set_option maxRecDepth 100000
set_option maxHeartbeats 8000000
set_option linter.unusedVariables false
set_option linter.unusedSimpArgs false
namespace Go.Proofs.Ytlbkogdmojlpmaa
open Go.ChangeShapes Go.WideShapes Go.ChangeAt Go.RowKit
structure MsgN where
  k : Int
  p : Int
  c : Int
  e : Int
  s : ByteArray
  a : Nat
  b : Nat
  l5 : List UInt8
  l6 : List UInt8
  l7 : List UInt8
  l8 : List UInt8
  l9 : List UInt8
structure MsgV where
  v5 : Value
  v6 : Value
  v7 : Value
  v8 : Value
  v9 : Value
def msgA (m : MsgN) (V : MsgV) : Array Value := #[.int .i64 m.k, .int .i64 m.p, .int .i64 m.c, .int .i64 m.e, .string m.s, numF m.a 0, numF m.a 1, numF m.a 2, numF m.a 3, numF m.a 4, numF m.a 5, numF m.a 6, numF m.a 7, numF m.b 0, numF m.b 1, numF m.b 2, numF m.b 3, numF m.b 4, numF m.b 5, numF m.b 6, numF m.b 7, V.v5, V.v6, V.v7, V.v8, V.v9]
structure MsgIs (w : World) (m : MsgN) (V : MsgV) : Prop where
  h5 : IsB w m.l5 V.v5
  h6 : IsB w m.l6 V.v6
  h7 : IsB w m.l7 V.v7
  h8 : IsB w m.l8 V.v8
  h9 : IsB w m.l9 V.v9
structure MsgOk (m : MsgN) : Prop where
  k : -9223372036854775808 ≤ m.k ∧ m.k < 9223372036854775808
  p : -9223372036854775808 ≤ m.p ∧ m.p < 9223372036854775808
  c : -9223372036854775808 ≤ m.c ∧ m.c < 9223372036854775808
  e : -9223372036854775808 ≤ m.e ∧ m.e < 9223372036854775808
  s : m.s.size ≤ 1000000
  a : m.a < 4294967296 ^ 8
  b : m.b < 4294967296 ^ 8
theorem MsgIs.step {w w' : World} {m : MsgN} {V : MsgV} (h : MsgIs w m V) (hb : Below w.heap.size w w') : MsgIs w' m V := ⟨h.h5.step hb, h.h6.step hb, h.h7.step hb, h.h8.step hb, h.h9.step hb⟩
def z6a (V : MsgV) (g : Nat) : Prop := bfp V.v5 g ∨ bfp V.v6 g ∨ bfp V.v7 g ∨ bfp V.v8 g ∨ bfp V.v9 g
def zu (m : MsgN) : Nat → List UInt8
  | 1 => octL m.p
  | 2 => sBy m.s
  | 3 => fourO m.a
  | 4 => fourO m.b
  | 5 => m.l5
  | 6 => m.l6
  | 7 => m.l7
  | 8 => m.l8
  | 9 => m.l9
  | 10 => eightO m.c
  | 11 => octL m.e
  | _ => []
theorem content_1 (m : MsgN) (V : MsgV) (ho : MsgOk m) (w : World) (hm : MsgIs w m V) :
  Calls Try.prog 76 #[.agg (msgA m V), .int .i64 1] w fun e w' => ∃ v, e = .returned v ∧ IsB w' (zu m 1) v ∧ (∀ g, bfp v g → w.heap.size ≤ g ∨ z6a V g) ∧ Below w.heap.size w w' := by
 refine zg (args := [.agg (msgA m V), .int .i64 1]) 56 Try.func76 rfl rfl rfl ?_
 intro fa F
 have M := Mx.start w
 replace M := M.argB 0 hm.h5 (fun g e => by cases e)
 replace M := M.argB 1 hm.h6 (fun g e => by cases e)
 replace M := M.argB 2 hm.h7 (fun g e => by cases e)
 replace M := M.argB 3 hm.h8 (fun g e => by cases e)
 replace M := M.argB 4 hm.h9 (fun g e => by cases e)
 refine zT fun _ hK1 => ?_
 refine zf (za rfl) rfl F rfl M 5 (t := 29) (c := msgA m V) (by unfold execOp; simp only [(F.get (t := 0) rfl)]; kernel_rfl) ?_
 intro g2 a2 w2 F2 M2
 clear F M
 refine rm rfl F2 fun _ F3 => ?_
 refine hK1 _ _ (zS fun _ hK4 => ?_)
 refine zT fun _ hK5 => ?_
 refine rm rfl F3 fun _ F6 => ?_
 refine hK5 _ _ (wp_block ?_)
 refine zT fun _ hK7 => ?_
 refine zA 2 [(7, .bool true), (6, .bool true)] [] dnil [] F6 fun _ F8 => ?_
 refine hK7 _ _ (wp_cond_true (F8.get rfl) ?_)
 refine zT fun _ hK9 => ?_
 refine zB 2 [(4, zN), (9, .int .i64 m.p)] [0] (zj (M2.blk (k := 5) rfl) dnil) [g2] F8 fun _ F10 => ?_
 refine zd (za rfl) rfl F10 rfl rfl (zE Try.func87 rfl) #[.int .i64 m.p] (zp (F10.get rfl)) (octet_any m.p w2) ?_
 rintro v11 w11 a11 h11 F11
 have M11 := M2.newO h11.2 6 h11.1
 clear M2 h11
 obtain ⟨A11, c11, rfl⟩ := (M11.isO (k := 6) rfl).shape
 refine rm rfl F11 fun _ F12 => ?_
 refine hK9 _ _ (wp_ret ?_)
 try simp only [Exit.then, Exit.inBlock, Exit.jump]
 exact bodyPost_ret (res1 rfl (F12.get rfl)) F12.defers ⟨_, rfl, M11.isO (k := 6) rfl, (fun g hg => .inl (M11.owns (k := 6) rfl g (zva hg))), M11.below⟩
theorem content_2 (m : MsgN) (V : MsgV) (ho : MsgOk m) (w : World) (hm : MsgIs w m V) :
  Calls Try.prog 76 #[.agg (msgA m V), .int .i64 2] w fun e w' => ∃ v, e = .returned v ∧ IsB w' (zu m 2) v ∧ (∀ g, bfp v g → w.heap.size ≤ g ∨ z6a V g) ∧ Below w.heap.size w w' := by
 refine zg (args := [.agg (msgA m V), .int .i64 2]) 56 Try.func76 rfl rfl rfl ?_
 intro fa F
 have M := Mx.start w
 replace M := M.argB 0 hm.h5 (fun g e => by cases e)
 replace M := M.argB 1 hm.h6 (fun g e => by cases e)
 replace M := M.argB 2 hm.h7 (fun g e => by cases e)
 replace M := M.argB 3 hm.h8 (fun g e => by cases e)
 replace M := M.argB 4 hm.h9 (fun g e => by cases e)
 refine zT fun _ hK1 => ?_
 refine zf (za rfl) rfl F rfl M 5 (t := 29) (c := msgA m V) (by unfold execOp; simp only [(F.get (t := 0) rfl)]; kernel_rfl) ?_
 intro g2 a2 w2 F2 M2
 clear F M
 refine rm rfl F2 fun _ F3 => ?_
 refine hK1 _ _ (zS fun _ hK4 => ?_)
 refine zT fun _ hK5 => ?_
 refine rm rfl F3 fun _ F6 => ?_
 refine hK5 _ _ (wp_block ?_)
 refine zT fun _ hK7 => ?_
 refine zA 2 [(7, .bool false), (6, .bool false)] [] dnil [] F6 fun _ F8 => ?_
 refine hK7 _ _ (wp_cond_false (F8.get rfl) ?_)
 refine zT fun _ hK9 => ?_
 refine zA 2 [(12, .bool true), (11, .bool true)] [] dnil [] F8 fun _ F10 => ?_
 refine hK9 _ _ (wp_cond_true (F10.get rfl) ?_)
 refine zT fun _ hK11 => ?_
 refine zB 2 [(4, zN), (14, .string m.s)] [0] (zj (M2.blk (k := 5) rfl) dnil) [g2] F10 fun _ F12 => ?_
 refine zba (za rfl) rfl F12 rfl (run_cvS M2 6 _ rfl (F12.get rfl) ho.s) ?_
 intro v13 a13 w13 F13 M13
 clear F12 M2
 have fr13 := M13.frN (k := 6) rfl
 replace M13 := M13.unN (k := 6) rfl
 obtain ⟨A13, c13, rfl⟩ := (M13.isb (k := 6) rfl).shape
 refine rm rfl F13 fun _ F14 => ?_
 refine hK11 _ _ (wp_ret ?_)
 try simp only [Exit.then, Exit.inBlock, Exit.jump]
 exact bodyPost_ret (res1 rfl (F14.get rfl)) F14.defers ⟨_, rfl, M13.isb (k := 6) rfl, (fun g hg => .inl (fr13 g hg)), M13.below⟩
theorem content_3 (m : MsgN) (V : MsgV) (ho : MsgOk m) (w : World) (hm : MsgIs w m V) :
  Calls Try.prog 76 #[.agg (msgA m V), .int .i64 3] w fun e w' => ∃ v, e = .returned v ∧ IsB w' (zu m 3) v ∧ (∀ g, bfp v g → w.heap.size ≤ g ∨ z6a V g) ∧ Below w.heap.size w w' := by
 refine zg (args := [.agg (msgA m V), .int .i64 3]) 56 Try.func76 rfl rfl rfl ?_
 intro fa F
 have M := Mx.start w
 replace M := M.argB 0 hm.h5 (fun g e => by cases e)
 replace M := M.argB 1 hm.h6 (fun g e => by cases e)
 replace M := M.argB 2 hm.h7 (fun g e => by cases e)
 replace M := M.argB 3 hm.h8 (fun g e => by cases e)
 replace M := M.argB 4 hm.h9 (fun g e => by cases e)
 refine zT fun _ hK1 => ?_
 refine zf (za rfl) rfl F rfl M 5 (t := 29) (c := msgA m V) (by unfold execOp; simp only [(F.get (t := 0) rfl)]; kernel_rfl) ?_
 intro g2 a2 w2 F2 M2
 clear F M
 refine rm rfl F2 fun _ F3 => ?_
 refine hK1 _ _ (zS fun _ hK4 => ?_)
 refine zT fun _ hK5 => ?_
 refine rm rfl F3 fun _ F6 => ?_
 refine hK5 _ _ (wp_block ?_)
 refine zT fun _ hK7 => ?_
 refine zA 2 [(7, .bool false), (6, .bool false)] [] dnil [] F6 fun _ F8 => ?_
 refine hK7 _ _ (wp_cond_false (F8.get rfl) ?_)
 refine zT fun _ hK9 => ?_
 refine zA 2 [(12, .bool false), (11, .bool false)] [] dnil [] F8 fun _ F10 => ?_
 refine hK9 _ _ (wp_cond_false (F10.get rfl) ?_)
 refine zT fun _ hK11 => ?_
 refine zA 2 [(17, .bool true), (16, .bool true)] [] dnil [] F10 fun _ F12 => ?_
 refine hK11 _ _ (wp_cond_true (F12.get rfl) ?_)
 refine zT fun _ hK13 => ?_
 refine zB 2 [(4, zN), (19, numV m.a)] [0] (zj (M2.blk (k := 5) rfl) dnil) [g2] F12 fun _ F14 => ?_
 refine zd (za rfl) rfl F14 rfl rfl (zE Try.func88 rfl) #[numV m.a] (zp (F14.get rfl)) (fourO_any m.a ho.a w2) ?_
 rintro v15 w15 a15 h15 F15
 have M15 := M2.newB h15.2.2 6 h15.1 h15.2.1
 have fr15 := fun g hg => Nat.le_trans M2.le (h15.2.1 g hg)
 clear M2 h15
 obtain ⟨A15, c15, rfl⟩ := (M15.isb (k := 6) rfl).shape
 refine rm rfl F15 fun _ F16 => ?_
 refine hK13 _ _ (wp_ret ?_)
 try simp only [Exit.then, Exit.inBlock, Exit.jump]
 exact bodyPost_ret (res1 rfl (F16.get rfl)) F16.defers ⟨_, rfl, M15.isb (k := 6) rfl, (fun g hg => .inl (fr15 g hg)), M15.below⟩
theorem content_4 (m : MsgN) (V : MsgV) (ho : MsgOk m) (w : World) (hm : MsgIs w m V) :
  Calls Try.prog 76 #[.agg (msgA m V), .int .i64 4] w fun e w' => ∃ v, e = .returned v ∧ IsB w' (zu m 4) v ∧ (∀ g, bfp v g → w.heap.size ≤ g ∨ z6a V g) ∧ Below w.heap.size w w' := by
 refine zg (args := [.agg (msgA m V), .int .i64 4]) 56 Try.func76 rfl rfl rfl ?_
 intro fa F
 have M := Mx.start w
 replace M := M.argB 0 hm.h5 (fun g e => by cases e)
 replace M := M.argB 1 hm.h6 (fun g e => by cases e)
 replace M := M.argB 2 hm.h7 (fun g e => by cases e)
 replace M := M.argB 3 hm.h8 (fun g e => by cases e)
 replace M := M.argB 4 hm.h9 (fun g e => by cases e)
 refine zT fun _ hK1 => ?_
 refine zf (za rfl) rfl F rfl M 5 (t := 29) (c := msgA m V) (by unfold execOp; simp only [(F.get (t := 0) rfl)]; kernel_rfl) ?_
 intro g2 a2 w2 F2 M2
 clear F M
 refine rm rfl F2 fun _ F3 => ?_
 refine hK1 _ _ (zS fun _ hK4 => ?_)
 refine zT fun _ hK5 => ?_
 refine rm rfl F3 fun _ F6 => ?_
 refine hK5 _ _ (wp_block ?_)
 refine zT fun _ hK7 => ?_
 refine zA 2 [(7, .bool false), (6, .bool false)] [] dnil [] F6 fun _ F8 => ?_
 refine hK7 _ _ (wp_cond_false (F8.get rfl) ?_)
 refine zT fun _ hK9 => ?_
 refine zA 2 [(12, .bool false), (11, .bool false)] [] dnil [] F8 fun _ F10 => ?_
 refine hK9 _ _ (wp_cond_false (F10.get rfl) ?_)
 refine zT fun _ hK11 => ?_
 refine zA 2 [(17, .bool false), (16, .bool false)] [] dnil [] F10 fun _ F12 => ?_
 refine hK11 _ _ (wp_cond_false (F12.get rfl) ?_)
 refine zT fun _ hK13 => ?_
 refine zA 2 [(22, .bool true), (21, .bool true)] [] dnil [] F12 fun _ F14 => ?_
 refine hK13 _ _ (wp_cond_true (F14.get rfl) ?_)
 refine zT fun _ hK15 => ?_
 refine zB 2 [(4, zN), (24, numV m.b)] [0] (zj (M2.blk (k := 5) rfl) dnil) [g2] F14 fun _ F16 => ?_
 refine zd (za rfl) rfl F16 rfl rfl (zE Try.func88 rfl) #[numV m.b] (zp (F16.get rfl)) (fourO_any m.b ho.b w2) ?_
 rintro v17 w17 a17 h17 F17
 have M17 := M2.newB h17.2.2 6 h17.1 h17.2.1
 have fr17 := fun g hg => Nat.le_trans M2.le (h17.2.1 g hg)
 clear M2 h17
 obtain ⟨A17, c17, rfl⟩ := (M17.isb (k := 6) rfl).shape
 refine rm rfl F17 fun _ F18 => ?_
 refine hK15 _ _ (wp_ret ?_)
 try simp only [Exit.then, Exit.inBlock, Exit.jump]
 exact bodyPost_ret (res1 rfl (F18.get rfl)) F18.defers ⟨_, rfl, M17.isb (k := 6) rfl, (fun g hg => .inl (fr17 g hg)), M17.below⟩
theorem content_5 (m : MsgN) (V : MsgV) (ho : MsgOk m) (w : World) (hm : MsgIs w m V) :
  Calls Try.prog 76 #[.agg (msgA m V), .int .i64 5] w fun e w' => ∃ v, e = .returned v ∧ IsB w' (zu m 5) v ∧ (∀ g, bfp v g → w.heap.size ≤ g ∨ z6a V g) ∧ Below w.heap.size w w' := by
 refine zg (args := [.agg (msgA m V), .int .i64 5]) 56 Try.func76 rfl rfl rfl ?_
 intro fa F
 have M := Mx.start w
 replace M := M.argB 0 hm.h5 (fun g e => by cases e)
 replace M := M.argB 1 hm.h6 (fun g e => by cases e)
 replace M := M.argB 2 hm.h7 (fun g e => by cases e)
 replace M := M.argB 3 hm.h8 (fun g e => by cases e)
 replace M := M.argB 4 hm.h9 (fun g e => by cases e)
 refine zT fun _ hK1 => ?_
 refine zf (za rfl) rfl F rfl M 5 (t := 29) (c := msgA m V) (by unfold execOp; simp only [(F.get (t := 0) rfl)]; kernel_rfl) ?_
 intro g2 a2 w2 F2 M2
 clear F M
 refine rm rfl F2 fun _ F3 => ?_
 refine hK1 _ _ (zS fun _ hK4 => ?_)
 refine zT fun _ hK5 => ?_
 refine rm rfl F3 fun _ F6 => ?_
 refine hK5 _ _ (wp_block ?_)
 refine zT fun _ hK7 => ?_
 refine zA 2 [(7, .bool false), (6, .bool false)] [] dnil [] F6 fun _ F8 => ?_
 refine hK7 _ _ (wp_cond_false (F8.get rfl) ?_)
 refine zT fun _ hK9 => ?_
 refine zA 2 [(12, .bool false), (11, .bool false)] [] dnil [] F8 fun _ F10 => ?_
 refine hK9 _ _ (wp_cond_false (F10.get rfl) ?_)
 refine zT fun _ hK11 => ?_
 refine zA 2 [(17, .bool false), (16, .bool false)] [] dnil [] F10 fun _ F12 => ?_
 refine hK11 _ _ (wp_cond_false (F12.get rfl) ?_)
 refine zT fun _ hK13 => ?_
 refine zA 2 [(22, .bool false), (21, .bool false)] [] dnil [] F12 fun _ F14 => ?_
 refine hK13 _ _ (wp_cond_false (F14.get rfl) ?_)
 refine zT fun _ hK15 => ?_
 refine zA 2 [(27, .bool true), (26, .bool true)] [] dnil [] F14 fun _ F16 => ?_
 refine hK15 _ _ (wp_cond_true (F16.get rfl) ?_)
 refine zT fun _ hK17 => ?_
 refine zB 3 [(4, V.v5)] [0] (zj (M2.blk (k := 5) rfl) dnil) [g2] F16 fun _ F18 => ?_
 refine hK17 _ _ (wp_ret ?_)
 try simp only [Exit.then, Exit.inBlock, Exit.jump]
 exact bodyPost_ret (res1 rfl (F18.get rfl)) F18.defers ⟨_, rfl, M2.isb (k := 0) rfl, (fun g hg => .inr (.inl hg)), M2.below⟩
theorem content_6 (m : MsgN) (V : MsgV) (ho : MsgOk m) (w : World) (hm : MsgIs w m V) :
  Calls Try.prog 76 #[.agg (msgA m V), .int .i64 6] w fun e w' => ∃ v, e = .returned v ∧ IsB w' (zu m 6) v ∧ (∀ g, bfp v g → w.heap.size ≤ g ∨ z6a V g) ∧ Below w.heap.size w w' := by
 refine zg (args := [.agg (msgA m V), .int .i64 6]) 56 Try.func76 rfl rfl rfl ?_
 intro fa F
 have M := Mx.start w
 replace M := M.argB 0 hm.h5 (fun g e => by cases e)
 replace M := M.argB 1 hm.h6 (fun g e => by cases e)
 replace M := M.argB 2 hm.h7 (fun g e => by cases e)
 replace M := M.argB 3 hm.h8 (fun g e => by cases e)
 replace M := M.argB 4 hm.h9 (fun g e => by cases e)
 refine zT fun _ hK1 => ?_
 refine zf (za rfl) rfl F rfl M 5 (t := 29) (c := msgA m V) (by unfold execOp; simp only [(F.get (t := 0) rfl)]; kernel_rfl) ?_
 intro g2 a2 w2 F2 M2
 clear F M
 refine rm rfl F2 fun _ F3 => ?_
 refine hK1 _ _ (zS fun _ hK4 => ?_)
 refine zT fun _ hK5 => ?_
 refine rm rfl F3 fun _ F6 => ?_
 refine hK5 _ _ (wp_block ?_)
 refine zT fun _ hK7 => ?_
 refine zA 2 [(7, .bool false), (6, .bool false)] [] dnil [] F6 fun _ F8 => ?_
 refine hK7 _ _ (wp_cond_false (F8.get rfl) ?_)
 refine zT fun _ hK9 => ?_
 refine zA 2 [(12, .bool false), (11, .bool false)] [] dnil [] F8 fun _ F10 => ?_
 refine hK9 _ _ (wp_cond_false (F10.get rfl) ?_)
 refine zT fun _ hK11 => ?_
 refine zA 2 [(17, .bool false), (16, .bool false)] [] dnil [] F10 fun _ F12 => ?_
 refine hK11 _ _ (wp_cond_false (F12.get rfl) ?_)
 refine zT fun _ hK13 => ?_
 refine zA 2 [(22, .bool false), (21, .bool false)] [] dnil [] F12 fun _ F14 => ?_
 refine hK13 _ _ (wp_cond_false (F14.get rfl) ?_)
 refine zT fun _ hK15 => ?_
 refine zA 2 [(27, .bool false), (26, .bool false)] [] dnil [] F14 fun _ F16 => ?_
 refine hK15 _ _ (wp_cond_false (F16.get rfl) ?_)
 refine zT fun _ hK17 => ?_
 refine zA 2 [(31, .bool true), (30, .bool true)] [] dnil [] F16 fun _ F18 => ?_
 refine hK17 _ _ (wp_cond_true (F18.get rfl) ?_)
 refine zT fun _ hK19 => ?_
 refine zB 3 [(4, V.v6)] [0] (zj (M2.blk (k := 5) rfl) dnil) [g2] F18 fun _ F20 => ?_
 refine hK19 _ _ (wp_ret ?_)
 try simp only [Exit.then, Exit.inBlock, Exit.jump]
 exact bodyPost_ret (res1 rfl (F20.get rfl)) F20.defers ⟨_, rfl, M2.isb (k := 1) rfl, (fun g hg => .inr (.inr (.inl hg))), M2.below⟩
theorem content_7 (m : MsgN) (V : MsgV) (ho : MsgOk m) (w : World) (hm : MsgIs w m V) :
  Calls Try.prog 76 #[.agg (msgA m V), .int .i64 7] w fun e w' => ∃ v, e = .returned v ∧ IsB w' (zu m 7) v ∧ (∀ g, bfp v g → w.heap.size ≤ g ∨ z6a V g) ∧ Below w.heap.size w w' := by
 refine zg (args := [.agg (msgA m V), .int .i64 7]) 56 Try.func76 rfl rfl rfl ?_
 intro fa F
 have M := Mx.start w
 replace M := M.argB 0 hm.h5 (fun g e => by cases e)
 replace M := M.argB 1 hm.h6 (fun g e => by cases e)
 replace M := M.argB 2 hm.h7 (fun g e => by cases e)
 replace M := M.argB 3 hm.h8 (fun g e => by cases e)
 replace M := M.argB 4 hm.h9 (fun g e => by cases e)
 refine zT fun _ hK1 => ?_
 refine zf (za rfl) rfl F rfl M 5 (t := 29) (c := msgA m V) (by unfold execOp; simp only [(F.get (t := 0) rfl)]; kernel_rfl) ?_
 intro g2 a2 w2 F2 M2
 clear F M
 refine rm rfl F2 fun _ F3 => ?_
 refine hK1 _ _ (zS fun _ hK4 => ?_)
 refine zT fun _ hK5 => ?_
 refine rm rfl F3 fun _ F6 => ?_
 refine hK5 _ _ (wp_block ?_)
 refine zT fun _ hK7 => ?_
 refine zA 2 [(7, .bool false), (6, .bool false)] [] dnil [] F6 fun _ F8 => ?_
 refine hK7 _ _ (wp_cond_false (F8.get rfl) ?_)
 refine zT fun _ hK9 => ?_
 refine zA 2 [(12, .bool false), (11, .bool false)] [] dnil [] F8 fun _ F10 => ?_
 refine hK9 _ _ (wp_cond_false (F10.get rfl) ?_)
 refine zT fun _ hK11 => ?_
 refine zA 2 [(17, .bool false), (16, .bool false)] [] dnil [] F10 fun _ F12 => ?_
 refine hK11 _ _ (wp_cond_false (F12.get rfl) ?_)
 refine zT fun _ hK13 => ?_
 refine zA 2 [(22, .bool false), (21, .bool false)] [] dnil [] F12 fun _ F14 => ?_
 refine hK13 _ _ (wp_cond_false (F14.get rfl) ?_)
 refine zT fun _ hK15 => ?_
 refine zA 2 [(27, .bool false), (26, .bool false)] [] dnil [] F14 fun _ F16 => ?_
 refine hK15 _ _ (wp_cond_false (F16.get rfl) ?_)
 refine zT fun _ hK17 => ?_
 refine zA 2 [(31, .bool false), (30, .bool false)] [] dnil [] F16 fun _ F18 => ?_
 refine hK17 _ _ (wp_cond_false (F18.get rfl) ?_)
 refine zT fun _ hK19 => ?_
 refine zA 2 [(35, .bool true), (34, .bool true)] [] dnil [] F18 fun _ F20 => ?_
 refine hK19 _ _ (wp_cond_true (F20.get rfl) ?_)
 refine zT fun _ hK21 => ?_
 refine zB 3 [(4, V.v7)] [0] (zj (M2.blk (k := 5) rfl) dnil) [g2] F20 fun _ F22 => ?_
 refine hK21 _ _ (wp_ret ?_)
 try simp only [Exit.then, Exit.inBlock, Exit.jump]
 exact bodyPost_ret (res1 rfl (F22.get rfl)) F22.defers ⟨_, rfl, M2.isb (k := 2) rfl, (fun g hg => .inr (.inr (.inr (.inl hg)))), M2.below⟩
theorem content_8 (m : MsgN) (V : MsgV) (ho : MsgOk m) (w : World) (hm : MsgIs w m V) :
  Calls Try.prog 76 #[.agg (msgA m V), .int .i64 8] w fun e w' => ∃ v, e = .returned v ∧ IsB w' (zu m 8) v ∧ (∀ g, bfp v g → w.heap.size ≤ g ∨ z6a V g) ∧ Below w.heap.size w w' := by
 refine zg (args := [.agg (msgA m V), .int .i64 8]) 56 Try.func76 rfl rfl rfl ?_
 intro fa F
 have M := Mx.start w
 replace M := M.argB 0 hm.h5 (fun g e => by cases e)
 replace M := M.argB 1 hm.h6 (fun g e => by cases e)
 replace M := M.argB 2 hm.h7 (fun g e => by cases e)
 replace M := M.argB 3 hm.h8 (fun g e => by cases e)
 replace M := M.argB 4 hm.h9 (fun g e => by cases e)
 refine zT fun _ hK1 => ?_
 refine zf (za rfl) rfl F rfl M 5 (t := 29) (c := msgA m V) (by unfold execOp; simp only [(F.get (t := 0) rfl)]; kernel_rfl) ?_
 intro g2 a2 w2 F2 M2
 clear F M
 refine rm rfl F2 fun _ F3 => ?_
 refine hK1 _ _ (zS fun _ hK4 => ?_)
 refine zT fun _ hK5 => ?_
 refine rm rfl F3 fun _ F6 => ?_
 refine hK5 _ _ (wp_block ?_)
 refine zT fun _ hK7 => ?_
 refine zA 2 [(7, .bool false), (6, .bool false)] [] dnil [] F6 fun _ F8 => ?_
 refine hK7 _ _ (wp_cond_false (F8.get rfl) ?_)
 refine zT fun _ hK9 => ?_
 refine zA 2 [(12, .bool false), (11, .bool false)] [] dnil [] F8 fun _ F10 => ?_
 refine hK9 _ _ (wp_cond_false (F10.get rfl) ?_)
 refine zT fun _ hK11 => ?_
 refine zA 2 [(17, .bool false), (16, .bool false)] [] dnil [] F10 fun _ F12 => ?_
 refine hK11 _ _ (wp_cond_false (F12.get rfl) ?_)
 refine zT fun _ hK13 => ?_
 refine zA 2 [(22, .bool false), (21, .bool false)] [] dnil [] F12 fun _ F14 => ?_
 refine hK13 _ _ (wp_cond_false (F14.get rfl) ?_)
 refine zT fun _ hK15 => ?_
 refine zA 2 [(27, .bool false), (26, .bool false)] [] dnil [] F14 fun _ F16 => ?_
 refine hK15 _ _ (wp_cond_false (F16.get rfl) ?_)
 refine zT fun _ hK17 => ?_
 refine zA 2 [(31, .bool false), (30, .bool false)] [] dnil [] F16 fun _ F18 => ?_
 refine hK17 _ _ (wp_cond_false (F18.get rfl) ?_)
 refine zT fun _ hK19 => ?_
 refine zA 2 [(35, .bool false), (34, .bool false)] [] dnil [] F18 fun _ F20 => ?_
 refine hK19 _ _ (wp_cond_false (F20.get rfl) ?_)
 refine zT fun _ hK21 => ?_
 refine zA 2 [(39, .bool true), (38, .bool true)] [] dnil [] F20 fun _ F22 => ?_
 refine hK21 _ _ (wp_cond_true (F22.get rfl) ?_)
 refine zT fun _ hK23 => ?_
 refine zB 3 [(4, V.v8)] [0] (zj (M2.blk (k := 5) rfl) dnil) [g2] F22 fun _ F24 => ?_
 refine hK23 _ _ (wp_ret ?_)
 try simp only [Exit.then, Exit.inBlock, Exit.jump]
 exact bodyPost_ret (res1 rfl (F24.get rfl)) F24.defers ⟨_, rfl, M2.isb (k := 3) rfl, (fun g hg => .inr (.inr (.inr (.inr (.inl hg))))), M2.below⟩
theorem content_9 (m : MsgN) (V : MsgV) (ho : MsgOk m) (w : World) (hm : MsgIs w m V) :
  Calls Try.prog 76 #[.agg (msgA m V), .int .i64 9] w fun e w' => ∃ v, e = .returned v ∧ IsB w' (zu m 9) v ∧ (∀ g, bfp v g → w.heap.size ≤ g ∨ z6a V g) ∧ Below w.heap.size w w' := by
 refine zg (args := [.agg (msgA m V), .int .i64 9]) 56 Try.func76 rfl rfl rfl ?_
 intro fa F
 have M := Mx.start w
 replace M := M.argB 0 hm.h5 (fun g e => by cases e)
 replace M := M.argB 1 hm.h6 (fun g e => by cases e)
 replace M := M.argB 2 hm.h7 (fun g e => by cases e)
 replace M := M.argB 3 hm.h8 (fun g e => by cases e)
 replace M := M.argB 4 hm.h9 (fun g e => by cases e)
 refine zT fun _ hK1 => ?_
 refine zf (za rfl) rfl F rfl M 5 (t := 29) (c := msgA m V) (by unfold execOp; simp only [(F.get (t := 0) rfl)]; kernel_rfl) ?_
 intro g2 a2 w2 F2 M2
 clear F M
 refine rm rfl F2 fun _ F3 => ?_
 refine hK1 _ _ (zS fun _ hK4 => ?_)
 refine zT fun _ hK5 => ?_
 refine rm rfl F3 fun _ F6 => ?_
 refine hK5 _ _ (wp_block ?_)
 refine zT fun _ hK7 => ?_
 refine zA 2 [(7, .bool false), (6, .bool false)] [] dnil [] F6 fun _ F8 => ?_
 refine hK7 _ _ (wp_cond_false (F8.get rfl) ?_)
 refine zT fun _ hK9 => ?_
 refine zA 2 [(12, .bool false), (11, .bool false)] [] dnil [] F8 fun _ F10 => ?_
 refine hK9 _ _ (wp_cond_false (F10.get rfl) ?_)
 refine zT fun _ hK11 => ?_
 refine zA 2 [(17, .bool false), (16, .bool false)] [] dnil [] F10 fun _ F12 => ?_
 refine hK11 _ _ (wp_cond_false (F12.get rfl) ?_)
 refine zT fun _ hK13 => ?_
 refine zA 2 [(22, .bool false), (21, .bool false)] [] dnil [] F12 fun _ F14 => ?_
 refine hK13 _ _ (wp_cond_false (F14.get rfl) ?_)
 refine zT fun _ hK15 => ?_
 refine zA 2 [(27, .bool false), (26, .bool false)] [] dnil [] F14 fun _ F16 => ?_
 refine hK15 _ _ (wp_cond_false (F16.get rfl) ?_)
 refine zT fun _ hK17 => ?_
 refine zA 2 [(31, .bool false), (30, .bool false)] [] dnil [] F16 fun _ F18 => ?_
 refine hK17 _ _ (wp_cond_false (F18.get rfl) ?_)
 refine zT fun _ hK19 => ?_
 refine zA 2 [(35, .bool false), (34, .bool false)] [] dnil [] F18 fun _ F20 => ?_
 refine hK19 _ _ (wp_cond_false (F20.get rfl) ?_)
 refine zT fun _ hK21 => ?_
 refine zA 2 [(39, .bool false), (38, .bool false)] [] dnil [] F20 fun _ F22 => ?_
 refine hK21 _ _ (wp_cond_false (F22.get rfl) ?_)
 refine zT fun _ hK23 => ?_
 refine zA 2 [(43, .bool true), (42, .bool true)] [] dnil [] F22 fun _ F24 => ?_
 refine hK23 _ _ (wp_cond_true (F24.get rfl) ?_)
 refine zT fun _ hK25 => ?_
 refine zB 3 [(4, V.v9)] [0] (zj (M2.blk (k := 5) rfl) dnil) [g2] F24 fun _ F26 => ?_
 refine hK25 _ _ (wp_ret ?_)
 try simp only [Exit.then, Exit.inBlock, Exit.jump]
 exact bodyPost_ret (res1 rfl (F26.get rfl)) F26.defers ⟨_, rfl, M2.isb (k := 4) rfl, (fun g hg => .inr (.inr (.inr (.inr (.inr hg))))), M2.below⟩
theorem content_10 (m : MsgN) (V : MsgV) (ho : MsgOk m) (w : World) (hm : MsgIs w m V) :
  Calls Try.prog 76 #[.agg (msgA m V), .int .i64 10] w fun e w' => ∃ v, e = .returned v ∧ IsB w' (zu m 10) v ∧ (∀ g, bfp v g → w.heap.size ≤ g ∨ z6a V g) ∧ Below w.heap.size w w' := by
 refine zg (args := [.agg (msgA m V), .int .i64 10]) 56 Try.func76 rfl rfl rfl ?_
 intro fa F
 have M := Mx.start w
 replace M := M.argB 0 hm.h5 (fun g e => by cases e)
 replace M := M.argB 1 hm.h6 (fun g e => by cases e)
 replace M := M.argB 2 hm.h7 (fun g e => by cases e)
 replace M := M.argB 3 hm.h8 (fun g e => by cases e)
 replace M := M.argB 4 hm.h9 (fun g e => by cases e)
 refine zT fun _ hK1 => ?_
 refine zf (za rfl) rfl F rfl M 5 (t := 29) (c := msgA m V) (by unfold execOp; simp only [(F.get (t := 0) rfl)]; kernel_rfl) ?_
 intro g2 a2 w2 F2 M2
 clear F M
 refine rm rfl F2 fun _ F3 => ?_
 refine hK1 _ _ (zS fun _ hK4 => ?_)
 refine zT fun _ hK5 => ?_
 refine rm rfl F3 fun _ F6 => ?_
 refine hK5 _ _ (wp_block ?_)
 refine zT fun _ hK7 => ?_
 refine zA 2 [(7, .bool false), (6, .bool false)] [] dnil [] F6 fun _ F8 => ?_
 refine hK7 _ _ (wp_cond_false (F8.get rfl) ?_)
 refine zT fun _ hK9 => ?_
 refine zA 2 [(12, .bool false), (11, .bool false)] [] dnil [] F8 fun _ F10 => ?_
 refine hK9 _ _ (wp_cond_false (F10.get rfl) ?_)
 refine zT fun _ hK11 => ?_
 refine zA 2 [(17, .bool false), (16, .bool false)] [] dnil [] F10 fun _ F12 => ?_
 refine hK11 _ _ (wp_cond_false (F12.get rfl) ?_)
 refine zT fun _ hK13 => ?_
 refine zA 2 [(22, .bool false), (21, .bool false)] [] dnil [] F12 fun _ F14 => ?_
 refine hK13 _ _ (wp_cond_false (F14.get rfl) ?_)
 refine zT fun _ hK15 => ?_
 refine zA 2 [(27, .bool false), (26, .bool false)] [] dnil [] F14 fun _ F16 => ?_
 refine hK15 _ _ (wp_cond_false (F16.get rfl) ?_)
 refine zT fun _ hK17 => ?_
 refine zA 2 [(31, .bool false), (30, .bool false)] [] dnil [] F16 fun _ F18 => ?_
 refine hK17 _ _ (wp_cond_false (F18.get rfl) ?_)
 refine zT fun _ hK19 => ?_
 refine zA 2 [(35, .bool false), (34, .bool false)] [] dnil [] F18 fun _ F20 => ?_
 refine hK19 _ _ (wp_cond_false (F20.get rfl) ?_)
 refine zT fun _ hK21 => ?_
 refine zA 2 [(39, .bool false), (38, .bool false)] [] dnil [] F20 fun _ F22 => ?_
 refine hK21 _ _ (wp_cond_false (F22.get rfl) ?_)
 refine zT fun _ hK23 => ?_
 refine zA 2 [(43, .bool false), (42, .bool false)] [] dnil [] F22 fun _ F24 => ?_
 refine hK23 _ _ (wp_cond_false (F24.get rfl) ?_)
 refine zT fun _ hK25 => ?_
 refine zA 2 [(47, .bool true), (46, .bool true)] [] dnil [] F24 fun _ F26 => ?_
 refine hK25 _ _ (wp_cond_true (F26.get rfl) ?_)
 refine zT fun _ hK27 => ?_
 refine zB 2 [(4, zN), (49, .int .i64 m.c)] [0] (zj (M2.blk (k := 5) rfl) dnil) [g2] F26 fun _ F28 => ?_
 refine zd (za rfl) rfl F28 rfl rfl (zE Try.func89 rfl) #[.int .i64 m.c] (zp (F28.get rfl)) (eightO_any m.c w2) ?_
 rintro v29 w29 a29 h29 F29
 have M29 := M2.newO h29.2 6 h29.1
 clear M2 h29
 obtain ⟨A29, c29, rfl⟩ := (M29.isO (k := 6) rfl).shape
 refine rm rfl F29 fun _ F30 => ?_
 refine hK27 _ _ (wp_ret ?_)
 try simp only [Exit.then, Exit.inBlock, Exit.jump]
 exact bodyPost_ret (res1 rfl (F30.get rfl)) F30.defers ⟨_, rfl, M29.isO (k := 6) rfl, (fun g hg => .inl (M29.owns (k := 6) rfl g (zva hg))), M29.below⟩
theorem content_11 (m : MsgN) (V : MsgV) (ho : MsgOk m) (w : World) (hm : MsgIs w m V) :
  Calls Try.prog 76 #[.agg (msgA m V), .int .i64 11] w fun e w' => ∃ v, e = .returned v ∧ IsB w' (zu m 11) v ∧ (∀ g, bfp v g → w.heap.size ≤ g ∨ z6a V g) ∧ Below w.heap.size w w' := by
 refine zg (args := [.agg (msgA m V), .int .i64 11]) 56 Try.func76 rfl rfl rfl ?_
 intro fa F
 have M := Mx.start w
 replace M := M.argB 0 hm.h5 (fun g e => by cases e)
 replace M := M.argB 1 hm.h6 (fun g e => by cases e)
 replace M := M.argB 2 hm.h7 (fun g e => by cases e)
 replace M := M.argB 3 hm.h8 (fun g e => by cases e)
 replace M := M.argB 4 hm.h9 (fun g e => by cases e)
 refine zT fun _ hK1 => ?_
 refine zf (za rfl) rfl F rfl M 5 (t := 29) (c := msgA m V) (by unfold execOp; simp only [(F.get (t := 0) rfl)]; kernel_rfl) ?_
 intro g2 a2 w2 F2 M2
 clear F M
 refine rm rfl F2 fun _ F3 => ?_
 refine hK1 _ _ (zS fun _ hK4 => ?_)
 refine zT fun _ hK5 => ?_
 refine rm rfl F3 fun _ F6 => ?_
 refine hK5 _ _ (wp_block ?_)
 refine zT fun _ hK7 => ?_
 refine zA 2 [(7, .bool false), (6, .bool false)] [] dnil [] F6 fun _ F8 => ?_
 refine hK7 _ _ (wp_cond_false (F8.get rfl) ?_)
 refine zT fun _ hK9 => ?_
 refine zA 2 [(12, .bool false), (11, .bool false)] [] dnil [] F8 fun _ F10 => ?_
 refine hK9 _ _ (wp_cond_false (F10.get rfl) ?_)
 refine zT fun _ hK11 => ?_
 refine zA 2 [(17, .bool false), (16, .bool false)] [] dnil [] F10 fun _ F12 => ?_
 refine hK11 _ _ (wp_cond_false (F12.get rfl) ?_)
 refine zT fun _ hK13 => ?_
 refine zA 2 [(22, .bool false), (21, .bool false)] [] dnil [] F12 fun _ F14 => ?_
 refine hK13 _ _ (wp_cond_false (F14.get rfl) ?_)
 refine zT fun _ hK15 => ?_
 refine zA 2 [(27, .bool false), (26, .bool false)] [] dnil [] F14 fun _ F16 => ?_
 refine hK15 _ _ (wp_cond_false (F16.get rfl) ?_)
 refine zT fun _ hK17 => ?_
 refine zA 2 [(31, .bool false), (30, .bool false)] [] dnil [] F16 fun _ F18 => ?_
 refine hK17 _ _ (wp_cond_false (F18.get rfl) ?_)
 refine zT fun _ hK19 => ?_
 refine zA 2 [(35, .bool false), (34, .bool false)] [] dnil [] F18 fun _ F20 => ?_
 refine hK19 _ _ (wp_cond_false (F20.get rfl) ?_)
 refine zT fun _ hK21 => ?_
 refine zA 2 [(39, .bool false), (38, .bool false)] [] dnil [] F20 fun _ F22 => ?_
 refine hK21 _ _ (wp_cond_false (F22.get rfl) ?_)
 refine zT fun _ hK23 => ?_
 refine zA 2 [(43, .bool false), (42, .bool false)] [] dnil [] F22 fun _ F24 => ?_
 refine hK23 _ _ (wp_cond_false (F24.get rfl) ?_)
 refine zT fun _ hK25 => ?_
 refine zA 2 [(47, .bool false), (46, .bool false)] [] dnil [] F24 fun _ F26 => ?_
 refine hK25 _ _ (wp_cond_false (F26.get rfl) ?_)
 refine zT fun _ hK27 => ?_
 refine rn rfl rfl F26 rfl (.bool true) (zq _ _ _ _ rfl (F26.get rfl) rfl Try.underlying3 (zka (by decide))) fun _ F28 => ?_
 refine rm rfl F28 fun _ F29 => ?_
 refine hK27 _ _ (wp_cond_true (F29.get rfl) ?_)
 refine zT fun _ hK30 => ?_
 refine zB 2 [(4, zN), (54, .int .i64 m.e)] [0] (zj (M2.blk (k := 5) rfl) dnil) [g2] F29 fun _ F31 => ?_
 refine zd (za rfl) rfl F31 rfl rfl (zE Try.func87 rfl) #[.int .i64 m.e] (zp (F31.get rfl)) (octet_any m.e w2) ?_
 rintro v32 w32 a32 h32 F32
 have M32 := M2.newO h32.2 6 h32.1
 clear M2 h32
 obtain ⟨A32, c32, rfl⟩ := (M32.isO (k := 6) rfl).shape
 refine rm rfl F32 fun _ F33 => ?_
 refine hK30 _ _ (wp_ret ?_)
 try simp only [Exit.then, Exit.inBlock, Exit.jump]
 exact bodyPost_ret (res1 rfl (F33.get rfl)) F33.defers ⟨_, rfl, M32.isO (k := 6) rfl, (fun g hg => .inl (M32.owns (k := 6) rfl g (zva hg))), M32.below⟩
theorem content_any (m : MsgN) (V : MsgV) (ho : MsgOk m) (n : Nat) (h1 : 1 ≤ n) (h2 : n ≤ 11) (w : World) (hm : MsgIs w m V) :
    Calls Try.prog 76 #[.agg (msgA m V), .int .i64 (n : Int)] w fun e w' => ∃ v, e = .returned v ∧ IsB w' (zu m n) v ∧ (∀ g, bfp v g → w.heap.size ≤ g ∨ z6a V g) ∧ Below w.heap.size w w' := by
  have : n = 1 ∨ n = 2 ∨ n = 3 ∨ n = 4 ∨ n = 5 ∨ n = 6 ∨ n = 7 ∨ n = 8 ∨ n = 9 ∨ n = 10 ∨ n = 11 := by omega
  rcases this with rfl | rfl | rfl | rfl | rfl | rfl | rfl | rfl | rfl | rfl | rfl
  · exact content_1 m V ho w hm
  · exact content_2 m V ho w hm
  · exact content_3 m V ho w hm
  · exact content_4 m V ho w hm
  · exact content_5 m V ho w hm
  · exact content_6 m V ho w hm
  · exact content_7 m V ho w hm
  · exact content_8 m V ho w hm
  · exact content_9 m V ho w hm
  · exact content_10 m V ho w hm
  · exact content_11 m V ho w hm
end Go.Proofs.Ytlbkogdmojlpmaa
namespace Go.Proofs.Ytlbkogdmojlpmaa
open Go.ChangeShapes Go.WideShapes Go.ChangeAt Go.RowKit Go.Shelf
variable {ds : List Deferred}
section
variable {a : Act} {w : World} {o : Oper}
theorem y_ixI (x k : Operand) (ho : o.op = .indexAddr 38 x k) {b q n c i : Nat} {z : Int} (hx : a.eval x = .slice (some ⟨b, q, none⟩) n c) (hk : a.eval k = .int .i64 z) (hz : z = (i : Int)) (hi : i < n) {j : Nat} (hj : q + i = j) : (execOp a.eval o).run Try.prog w = .ok (.value (.pointer (some ⟨b, j, none⟩))) w := by
  subst hz hj
  unfold execOp
  simp only [ho, hx, hk]
  have h0 : ¬ ((i : Int) < 0) := by omega
  have h1 : (i : Int) < (n : Int) := by omega
  simp [go_sem, h0, h1, hi]
end
theorem infoInt : ∃ i, Try.prog.info? 3 = some i ∧ i.zero = some (.int .i64 0) ∧ i.size = 1 := by
  have h0 : (Try.prog.info? 3).isSome = true := by kernel_rfl
  have h1 : (Try.prog.info? 3).map (·.size) = some 1 := by kernel_rfl
  have h2 : (Try.prog.info? 3).bind (·.zero) = some (.int .i64 0) := by kernel_rfl
  cases h : Try.prog.info? 3 with
  | none => rw [h] at h0; cases h0
  | some i =>
    rw [h] at h1 h2
    exact ⟨i, rfl, h2, Option.some.inj h1⟩
theorem zfb {a : Act} {w : World} {o : Oper} {n : Nat} {ps : Array (Nat × Operand)} (ho : o.op = .buildSlice 38 n ps) (vs : Array Value) (hn : vs.size = n) (h0 : 0 < n) (hm : n ≤ 1000)
    (hf : Instr.fill (fun i => some (i * 1, 1)) ((Array.range (n * 1)).map ((Value.int .i64 0).cells[· % (Value.int .i64 0).cells.size]!)) (ps.map fun (i, x) => (i, a.eval x)).toList = some vs) :
    (execOp a.eval o).run Try.prog w = .ok (.value (.slice (some ⟨w.heap.size, 0, none⟩) n n)) (w.alloc (.cells vs 3)) := by
  obtain ⟨i, i1, i2, i3⟩ := infoInt
  unfold execOp
  simp only [ho, Sem.run_bind, run_buildSlice w 38 3 n _ vs i (.int .i64 0) Try.underlying38 i1 i2 (by rw [i3]; omega) (by rw [i3]; omega) (by rw [i3]; exact hf), Result.andThen_ok, Sem.run_pure]
section
variable {P : Program} {ops : Array Oper} {Q : Exit → Act → World → Prop} {a : Act} {w w0 : World} {rest : List Oper} {o : Oper} {n : Nat} {G : Option Nat} {V : List (Nat × Value)} {R : List (Nat × Res)}
theorem zna (hw : Region.wanted o (yielded ops a.tmps) = true) {d : Nat} (hd : o.dst = some d) (F : Fx n a V ds) (hn : Nat.blt d n = true) (M : Mx G w0 w R) (i : Nat) {t : TypeId} {c : Array Value} {k m : Nat} (hr : (execOp a.eval o).run P w = .ok (.value (.slice (some ⟨w.heap.size, 0, none⟩) k m)) (w.alloc (.cells c t)))
    (h : ∀ g a' w', Fx n a' ((d, .slice (some ⟨g, 0, none⟩) k m) :: V) ds → Mx G w0 w' ((i, blkR g t c) :: R) → wpList P ops Q rest a' w') : wpList P ops Q (o :: rest) a w :=
  ze hw hd F hn _ hr fun a' F' => h _ a' _ F' (M.alloc i t c)
end
end Go.Proofs.Ytlbkogdmojlpmaa
namespace Go.Proofs.Ytlbkogdmojlpmaa
open Go.ChangeShapes Go.WideShapes Go.ChangeAt Go.RowKit
def ivN (n : Nat) : Value := .int .i64 (n : Int)
theorem ivN_at {L : List Nat} {j x : Nat} (h : L[j]? = some x) : ((L.map ivN).toArray)[j]? = some (.int .i64 (x : Int)) := by
  simp [h, ivN]
def orF (L : List Nat) : Int := L.foldl (fun s n => bits .or .u64 s (IntKind.u64.wrap (1 * 2 ^ n))) 0
theorem orF_zero (L : List Nat) : orF (L.take 0) = 0 := rfl
theorem orF_all (L : List Nat) : orF (L.take L.length) = orF L := by rw [List.take_length]
theorem orF_succ {L : List Nat} {j x : Nat} (h : L[j]? = some x) : bits .or .u64 (orF (L.take j)) (IntKind.u64.wrap (1 * 2 ^ x)) = orF (L.take (j + 1)) := by
  unfold orF
  rw [List.take_add_one, h]
  simp
theorem y_lenI {a : Act} {w : World} {o : Oper} (x : Operand) (ho : o.op = .call { callee := .builtin .len, args := #[x], argTypes := #[38] }) {A : Option Addr} {n c : Nat} {z : Int} (hx : a.eval x = .slice A n c) (hz : (n : Int) = z) : (execOp a.eval o).run Try.prog w = .ok (.value (.int .i64 z)) w := by
  subst hz
  exact run_ln x _ ho hx Try.underlying38
theorem zbb (g : Nat) (L : List Nat) (hL : ∀ x ∈ L, x < 64) (hm : L.length ≤ 1000) (w : World) (hg : w.heap[g]? = some (.cells (L.map ivN).toArray 3 (0, 0))) :
  Calls Try.prog 49 #[.slice (some ⟨g, 0, none⟩) L.length L.length] w fun e w' => e = .returned (.int .u64 (orF L)) ∧ Below w.heap.size w w' := by
 have h0 := orF_zero L
 have hall := orF_all L
 refine zg (args := [.slice (some ⟨g, 0, none⟩) L.length L.length]) 18 Try.func49 rfl rfl rfl ?_
 intro fa F
 have M := Mx.start w
 replace M := M.argO 0 hg (fun b e => by cases e)
 refine zT fun _ hK1 => ?_
 refine rm rfl F fun _ F2 => ?_
 refine hK1 _ _ (zS fun _ hK3 => ?_)
 refine zR ?_
 refine rm rfl F2 fun _ F4 => ?_
 refine hK3 _ _ (zS fun _ hK5 => ?_)
 refine zT fun _ hK6 => ?_
 refine rm rfl F4 fun _ F7 => ?_
 refine rn rfl rfl F7 rfl (.int .i64 (L.length : Int)) (y_lenI _ rfl (F7.get rfl) rfl) fun _ F8 => ?_
 refine rm rfl F8 fun _ F9 => ?_
 refine hK6 _ _ (wp_block ?_)
 refine zzb (α := Nat) (n := 18) (G := none) (w0 := w) (fun x => [(0, .slice (some ⟨g, 0, none⟩) L.length L.length), (2, .int .u64 0), (6, .slice (some ⟨g, 0, none⟩) L.length L.length), (7, .int .i64 (L.length : Int)), (8, .int .i64 (x : Int)), (3, .int .u64 (orF (L.take x)))]) (fun x => [(0, blkO g 3 ((L.map ivN).toArray))]) (fun k x => k = L.length - x ∧ (x ≤ L.length)) _ 0 ⟨rfl, (Nat.zero_le _)⟩ (F9.sub ⟨rfl, rfl, rfl, rfl, rfl, (by rw [h0]; rfl), trivial⟩) (M.sub ⟨rfl, trivial⟩) ?_
 clear F9 M
 rintro k10 jn a10 w10 K10 ⟨ek10, I10⟩ F10 M10 hK10
 replace F10 : Fx 18 a10 [(0, .slice (some ⟨g, 0, none⟩) L.length L.length), (2, .int .u64 0), (6, .slice (some ⟨g, 0, none⟩) L.length L.length), (7, .int .i64 (L.length : Int)), (8, .int .i64 (jn : Int)), (3, .int .u64 (orF (L.take jn)))] := F10
 replace M10 : Mx _ _ w10 [(0, blkO g 3 ((L.map ivN).toArray))] := M10
 replace I10 : jn ≤ L.length := I10
 replace ek10 : k10 = L.length - jn := ek10
 by_cases hlt : jn < L.length
 rotate_left
 ·obtain rfl : jn = L.length := by omega
  refine zT fun _ hK26 => ?_
  refine rn rfl rfl F10 rfl (.bool false) (zoa _ _ _ _ rfl (F10.get rfl) (F10.get rfl) (decide_eq_false (Int.lt_irrefl _))) fun _ F27 => ?_
  refine hK26 _ _ (zS fun _ hK28 => ?_)
  refine wp_cond_false (F27.get (t := 9) rfl) ?_
  refine wp_exit ?_
  simp only [Exit.then, Exit.inBlock, ↓reduceIte, Nat.reduceEqDiff]
  refine hK5 _ _ (zS fun _ hK29 => ?_)
  refine zR ?_
  refine rm rfl F27 fun _ F30 => ?_
  refine rm rfl F30 fun _ F31 => ?_
  refine hK29 _ _ (wp_ret ?_)
  try simp only [Exit.then, Exit.inBlock, Exit.jump]
  exact bodyPost_ret (res1 rfl (F31.get rfl)) F31.defers ⟨by rw [hall], M10.below⟩
 obtain ⟨x, hx⟩ : ∃ x, L[jn]? = some x := ⟨_, List.getElem?_eq_getElem hlt⟩
 have hx64 : x < 64 := hL x (List.mem_of_getElem? hx)
 have hor := orF_succ hx
 refine zT fun _ hK11 => ?_
 refine rn rfl rfl F10 rfl (.bool true) (zoa _ _ _ _ rfl (F10.get rfl) (F10.get rfl) (decide_eq_true (show (jn : Int) < (L.length : Int) by omega))) fun _ F12 => ?_
 refine hK11 _ _ (zS fun _ hK13 => ?_)
 refine wp_cond_true (F12.get (t := 9) rfl) ?_
 refine wp_skip ?_
 refine hK13 _ _ (zS fun _ hK14 => ?_)
 refine wp_block ?_
 refine zT fun _ hK15 => ?_
 refine rn rfl rfl F12 rfl (.pointer (some ⟨g, jn, none⟩)) (y_ixI _ _ rfl (F12.get rfl) (F12.get rfl) rfl hlt (Nat.zero_add jn)) fun _ F16 => ?_
 refine rn rfl rfl F16 rfl (.int .i64 (x : Int)) (y_ld1 _ _ rfl (F16.get rfl) (M10.roB (k := 0) rfl) (ivN_at hx) Try.underlying3 rfl) fun _ F17 => ?_
 refine rm rfl F17 fun _ F18 => ?_
 refine hK15 _ _ (zR ?_)
 refine rm rfl F18 fun _ F19 => ?_
 refine rm rfl F19 fun _ F20 => ?_
 refine rn rfl rfl F20 rfl (.int .u64 (IntKind.u64.wrap (1 * 2 ^ x))) (y_shlI _ _ _ _ rfl rfl (F20.get rfl) (by show (0 : Int) ≤ (x : Int) ∧ (x : Int) < 64; omega) rfl) fun _ F21 => ?_
 refine rn rfl rfl F21 rfl (.int .u64 (orF (L.take (jn + 1)))) (y_orU _ _ _ _ rfl (F21.get rfl) (F21.get rfl) hor) fun _ F22 => ?_
 refine rm rfl F22 fun _ F23 => ?_
 refine hK14 _ _ (zR ?_)
 refine rn rfl rfl F23 rfl (.int .i64 ((jn + 1 : Nat) : Int)) (zz _ _ _ _ rfl (F23.get rfl) rfl (by omega) (by omega)) fun _ F24 => ?_
 refine rm rfl F24 fun _ F25 => ?_
 subst ek10
 exact hK10 _ (jn + 1) _ _ (by omega) ⟨rfl, (by omega)⟩ (F25.sub ⟨rfl, rfl, rfl, rfl, rfl, rfl, trivial⟩) (M10.sub ⟨rfl, trivial⟩)
theorem fields_nil  (w : World) :
  Calls Try.prog 49 #[zN] w fun e w' => e = .returned (.int .u64 0) ∧ Below w.heap.size w w' := by
 refine zg (args := [zN]) 18 Try.func49 rfl rfl rfl ?_
 intro fa F
 have M := Mx.start w
 refine zT fun _ hK1 => ?_
 refine rm rfl F fun _ F2 => ?_
 refine hK1 _ _ (zS fun _ hK3 => ?_)
 refine zR ?_
 refine rm rfl F2 fun _ F4 => ?_
 refine hK3 _ _ (zS fun _ hK5 => ?_)
 refine zT fun _ hK6 => ?_
 refine rm rfl F4 fun _ F7 => ?_
 refine rn rfl rfl F7 rfl (.int .i64 0) (y_lenI _ rfl (F7.get rfl) rfl) fun _ F8 => ?_
 refine rm rfl F8 fun _ F9 => ?_
 refine hK6 _ _ (wp_block ?_)
 refine zzb (α := Nat) (n := 18) (G := none) (w0 := w) (fun x => [(0, zN), (2, .int .u64 0), (6, zN), (7, .int .i64 0), (8, .int .i64 0), (3, .int .u64 0)]) (fun x => []) (fun k x => k = x ∧ (x = 0)) _ 0 ⟨rfl, rfl⟩ (F9.sub ⟨rfl, rfl, rfl, rfl, rfl, rfl, trivial⟩) (M.sub trivial) ?_
 clear F9 M
 rintro k10 jn a10 w10 K10 ⟨ek10, I10⟩ F10 M10 hK10
 replace F10 : Fx 18 a10 [(0, zN), (2, .int .u64 0), (6, zN), (7, .int .i64 0), (8, .int .i64 0), (3, .int .u64 0)] := F10
 replace M10 : Mx _ _ w10 [] := M10
 replace I10 : jn = 0 := I10
 replace ek10 : k10 = jn := ek10
 refine zT fun _ hK11 => ?_
 refine rn rfl rfl F10 rfl (.bool false) (zoa _ _ _ _ rfl (F10.get rfl) (F10.get rfl) (decide_eq_false (by decide))) fun _ F12 => ?_
 refine hK11 _ _ (zS fun _ hK13 => ?_)
 refine wp_cond_false (F12.get (t := 9) rfl) ?_
 refine wp_exit ?_
 simp only [Exit.then, Exit.inBlock, ↓reduceIte, Nat.reduceEqDiff]
 refine hK5 _ _ (zS fun _ hK14 => ?_)
 refine zR ?_
 refine rm rfl F12 fun _ F15 => ?_
 refine rm rfl F15 fun _ F16 => ?_
 refine hK14 _ _ (wp_ret ?_)
 try simp only [Exit.then, Exit.inBlock, Exit.jump]
 exact bodyPost_ret (res1 rfl (F16.get rfl)) F16.defers ⟨rfl, M10.below⟩
def wantL (k p : Int) : Option (List Nat) := if k = 1 then (if p = 2 then some [1, 2, 3, 4] else some [1, 2, 3]) else if k = 2 then (if p = 2 then some [1, 3, 4, 6] else some [1, 4, 5]) else if k = 3 then some [7] else if k = 4 then some [8, 7] else if k = 5 then some [11] else if k = 6 then some [1, 2, 9] else if k = 7 then some [] else if k = 8 then some [8, 10] else if k = 12 then some [8, 10] else if k = 9 then some [8] else if k = 10 then some [8] else if k = 11 then some [8, 1, 9] else none
def wantV (k p : Int) : Value := match wantL k p with
  | some L => .tuple #[.int .u64 (orF L), .bool true]
  | none => .tuple #[.int .u64 0, .bool false]
theorem wanted_any (k p : Int) (w : World) :
  Calls Try.prog 50 #[.int .i64 k, .int .i64 p] w fun e w' => e = .returned (wantV k p) ∧ Below w.heap.size w w' := by
 unfold wantV
 by_cases n1 : k = 1
 ·subst n1
  by_cases hp : p = 2
  ·subst hp
   refine zg (args := [.int .i64 1, .int .i64 2]) 56 Try.func50 rfl rfl rfl ?_
   intro fa F
   have M := Mx.start w
   refine zT fun _ hK1 => ?_
   refine rm rfl F fun _ F2 => ?_
   refine rm rfl F2 fun _ F3 => ?_
   refine hK1 _ _ (zS fun _ hK4 => ?_)
   refine zT fun _ hK5 => ?_
   refine rm rfl F3 fun _ F6 => ?_
   refine hK5 _ _ (wp_block ?_)
   refine zT fun _ hK7 => ?_
   refine rn rfl rfl F6 rfl (.bool true) (zq _ _ _ _ rfl (F6.get rfl) rfl Try.underlying3 (zka (by decide))) fun _ F8 => ?_
   refine rm rfl F8 fun _ F9 => ?_
   refine hK7 _ _ (wp_cond_true (F9.get rfl) ?_)
   refine zS fun K10 hK10 => zS fun _ hK11 => ?_
   refine zR ?_
   refine zB 2 [(4, .int .u64 0), (5, .bool false), (10, .bool true)] [] dnil [] F9 fun _ F12 => ?_
   refine hK11 _ _ (wp_cond_true (F12.get rfl) ?_)
   refine zT fun _ hK13 => ?_
   refine zna (za rfl) rfl F12 rfl M 0 (t := 3) (c := #[.int .i64 1, .int .i64 2, .int .i64 3, .int .i64 4]) (k := 4) (m := 4) (zfb rfl #[.int .i64 1, .int .i64 2, .int .i64 3, .int .i64 4] rfl (by decide) (by decide) (by simp only [List.map_toArray, List.map_cons, List.map_nil]; kernel_rfl)) ?_
   intro g14 a14 w14 F14 M14
   clear F12 M
   refine zd (za rfl) rfl F14 rfl rfl (zE Try.func49 rfl) #[.slice (some ⟨g14, 0, none⟩) 4 4] (zp (F14.get rfl)) (zh (zbb g14 [1, 2, 3, 4] (by decide) (by decide) w14 (M14.blk (k := 0) rfl))) ?_
   rintro _ w15 a15 ⟨rfl, b15⟩ F15
   have M15 := M14.step b15
   refine rm rfl F15 fun a16 F16 => ?_
   refine rm rfl F16 fun a17 F17 => ?_
   refine hK13 _ _ (wp_ret ?_)
   try simp only [Exit.then, Exit.inBlock, Exit.jump]
   exact bodyPost_ret (res2 rfl (F17.get rfl) (F17.get rfl)) F17.defers ⟨rfl, M15.below⟩
  rw [show wantL 1 p = some [1, 2, 3] by unfold wantL; rw [if_pos rfl, if_neg hp]]
  refine zg (args := [.int .i64 1, .int .i64 p]) 56 Try.func50 rfl rfl rfl ?_
  intro fa F
  have M := Mx.start w
  refine zT fun _ hK1 => ?_
  refine rm rfl F fun _ F2 => ?_
  refine rm rfl F2 fun _ F3 => ?_
  refine hK1 _ _ (zS fun _ hK4 => ?_)
  refine zT fun _ hK5 => ?_
  refine rm rfl F3 fun _ F6 => ?_
  refine hK5 _ _ (wp_block ?_)
  refine zT fun _ hK7 => ?_
  refine rn rfl rfl F6 rfl (.bool true) (zq _ _ _ _ rfl (F6.get rfl) rfl Try.underlying3 (zka (by decide))) fun _ F8 => ?_
  refine rm rfl F8 fun _ F9 => ?_
  refine hK7 _ _ (wp_cond_true (F9.get rfl) ?_)
  refine zS fun K10 hK10 => zS fun _ hK11 => ?_
  refine zR ?_
  refine rm rfl F9 fun _ F12 => ?_
  refine rn rfl rfl F12 rfl (.bool false) (zq _ _ _ _ rfl (F12.get rfl) rfl Try.underlying3 (zr hp)) fun _ F13 => ?_
  refine hK11 _ _ (wp_cond_false (F13.get rfl) ?_)
  refine wp_skip ?_
  refine hK10 _ _ (zS fun _ hK14 => ?_)
  refine zR ?_
  refine zna (za rfl) rfl F13 rfl M 0 (t := 3) (c := #[.int .i64 1, .int .i64 2, .int .i64 3]) (k := 3) (m := 3) (zfb rfl #[.int .i64 1, .int .i64 2, .int .i64 3] rfl (by decide) (by decide) (by simp only [List.map_toArray, List.map_cons, List.map_nil]; kernel_rfl)) ?_
  intro g15 a15 w15 F15 M15
  clear F13 M
  refine zd (za rfl) rfl F15 rfl rfl (zE Try.func49 rfl) #[.slice (some ⟨g15, 0, none⟩) 3 3] (zp (F15.get rfl)) (zh (zbb g15 [1, 2, 3] (by decide) (by decide) w15 (M15.blk (k := 0) rfl))) ?_
  rintro _ w16 a16 ⟨rfl, b16⟩ F16
  have M16 := M15.step b16
  refine rm rfl F16 fun a17 F17 => ?_
  refine rm rfl F17 fun a18 F18 => ?_
  refine hK14 _ _ (wp_ret ?_)
  try simp only [Exit.then, Exit.inBlock, Exit.jump]
  exact bodyPost_ret (res2 rfl (F18.get rfl) (F18.get rfl)) F18.defers ⟨rfl, M16.below⟩
 by_cases n2 : k = 2
 ·subst n2
  by_cases hp : p = 2
  ·subst hp
   refine zg (args := [.int .i64 2, .int .i64 2]) 56 Try.func50 rfl rfl rfl ?_
   intro fa F
   have M := Mx.start w
   refine zT fun _ hK1 => ?_
   refine rm rfl F fun _ F2 => ?_
   refine rm rfl F2 fun _ F3 => ?_
   refine hK1 _ _ (zS fun _ hK4 => ?_)
   refine zT fun _ hK5 => ?_
   refine rm rfl F3 fun _ F6 => ?_
   refine hK5 _ _ (wp_block ?_)
   refine zT fun _ hK7 => ?_
   refine rn rfl rfl F6 rfl (.bool false) (zq _ _ _ _ rfl (F6.get rfl) rfl Try.underlying3 (zr (by decide))) fun _ F8 => ?_
   refine rm rfl F8 fun _ F9 => ?_
   refine hK7 _ _ (wp_cond_false (F9.get rfl) ?_)
   refine zT fun K10 hK10 => ?_
   refine rn rfl rfl F9 rfl (.bool true) (zq _ _ _ _ rfl (F9.get rfl) rfl Try.underlying3 (zka (by decide))) fun _ F11 => ?_
   refine rm rfl F11 fun _ F12 => ?_
   refine hK10 _ _ (wp_cond_true (F12.get rfl) ?_)
   refine zS fun _ hK13 => zS fun _ hK14 => ?_
   refine zR ?_
   refine zB 2 [(4, .int .u64 0), (5, .bool false), (18, .bool true)] [] dnil [] F12 fun a15 F15 => ?_
   refine hK14 _ _ (wp_cond_true (F15.get rfl) ?_)
   refine zT fun _ hK16 => ?_
   refine zna (za rfl) rfl F15 rfl M 0 (t := 3) (c := #[.int .i64 1, .int .i64 3, .int .i64 4, .int .i64 6]) (k := 4) (m := 4) (zfb rfl #[.int .i64 1, .int .i64 3, .int .i64 4, .int .i64 6] rfl (by decide) (by decide) (by simp only [List.map_toArray, List.map_cons, List.map_nil]; kernel_rfl)) ?_
   intro g17 a17 w17 F17 M17
   clear F15 M
   refine zd (za rfl) rfl F17 rfl rfl (zE Try.func49 rfl) #[.slice (some ⟨g17, 0, none⟩) 4 4] (zp (F17.get rfl)) (zh (zbb g17 [1, 3, 4, 6] (by decide) (by decide) w17 (M17.blk (k := 0) rfl))) ?_
   rintro _ w18 a18 ⟨rfl, b18⟩ F18
   have M18 := M17.step b18
   refine rm rfl F18 fun a19 F19 => ?_
   refine rm rfl F19 fun a20 F20 => ?_
   refine hK16 _ _ (wp_ret ?_)
   try simp only [Exit.then, Exit.inBlock, Exit.jump]
   exact bodyPost_ret (res2 rfl (F20.get rfl) (F20.get rfl)) F20.defers ⟨rfl, M18.below⟩
  rw [show wantL 2 p = some [1, 4, 5] by unfold wantL; rw [if_neg (by decide), if_pos rfl, if_neg hp]]
  refine zg (args := [.int .i64 2, .int .i64 p]) 56 Try.func50 rfl rfl rfl ?_
  intro fa F
  have M := Mx.start w
  refine zT fun _ hK1 => ?_
  refine rm rfl F fun _ F2 => ?_
  refine rm rfl F2 fun _ F3 => ?_
  refine hK1 _ _ (zS fun _ hK4 => ?_)
  refine zT fun _ hK5 => ?_
  refine rm rfl F3 fun _ F6 => ?_
  refine hK5 _ _ (wp_block ?_)
  refine zT fun _ hK7 => ?_
  refine rn rfl rfl F6 rfl (.bool false) (zq _ _ _ _ rfl (F6.get rfl) rfl Try.underlying3 (zr (by decide))) fun _ F8 => ?_
  refine rm rfl F8 fun _ F9 => ?_
  refine hK7 _ _ (wp_cond_false (F9.get rfl) ?_)
  refine zT fun K10 hK10 => ?_
  refine rn rfl rfl F9 rfl (.bool true) (zq _ _ _ _ rfl (F9.get rfl) rfl Try.underlying3 (zka (by decide))) fun _ F11 => ?_
  refine rm rfl F11 fun _ F12 => ?_
  refine hK10 _ _ (wp_cond_true (F12.get rfl) ?_)
  refine zS fun _ hK13 => zS fun _ hK14 => ?_
  refine zR ?_
  refine rm rfl F12 fun a15 F15 => ?_
  refine rn rfl rfl F15 rfl (.bool false) (zq _ _ _ _ rfl (F15.get rfl) rfl Try.underlying3 (zr hp)) fun a16 F16 => ?_
  refine hK14 _ _ (wp_cond_false (F16.get rfl) ?_)
  refine wp_skip ?_
  refine hK13 _ _ (zS fun _ hK17 => ?_)
  refine zR ?_
  refine zna (za rfl) rfl F16 rfl M 0 (t := 3) (c := #[.int .i64 1, .int .i64 4, .int .i64 5]) (k := 3) (m := 3) (zfb rfl #[.int .i64 1, .int .i64 4, .int .i64 5] rfl (by decide) (by decide) (by simp only [List.map_toArray, List.map_cons, List.map_nil]; kernel_rfl)) ?_
  intro g18 a18 w18 F18 M18
  clear F16 M
  refine zd (za rfl) rfl F18 rfl rfl (zE Try.func49 rfl) #[.slice (some ⟨g18, 0, none⟩) 3 3] (zp (F18.get rfl)) (zh (zbb g18 [1, 4, 5] (by decide) (by decide) w18 (M18.blk (k := 0) rfl))) ?_
  rintro _ w19 a19 ⟨rfl, b19⟩ F19
  have M19 := M18.step b19
  refine rm rfl F19 fun a20 F20 => ?_
  refine rm rfl F20 fun a21 F21 => ?_
  refine hK17 _ _ (wp_ret ?_)
  try simp only [Exit.then, Exit.inBlock, Exit.jump]
  exact bodyPost_ret (res2 rfl (F21.get rfl) (F21.get rfl)) F21.defers ⟨rfl, M19.below⟩
 by_cases n3 : k = 3
 ·subst n3
  refine zg (args := [.int .i64 3, .int .i64 p]) 56 Try.func50 rfl rfl rfl ?_
  intro fa F
  have M := Mx.start w
  refine zT fun _ hK1 => ?_
  refine rm rfl F fun _ F2 => ?_
  refine rm rfl F2 fun _ F3 => ?_
  refine hK1 _ _ (zS fun _ hK4 => ?_)
  refine zT fun _ hK5 => ?_
  refine rm rfl F3 fun _ F6 => ?_
  refine hK5 _ _ (wp_block ?_)
  refine zT fun _ hK7 => ?_
  refine rn rfl rfl F6 rfl (.bool false) (zq _ _ _ _ rfl (F6.get rfl) rfl Try.underlying3 (zr (by decide))) fun _ F8 => ?_
  refine rm rfl F8 fun _ F9 => ?_
  refine hK7 _ _ (wp_cond_false (F9.get rfl) ?_)
  refine zT fun K10 hK10 => ?_
  refine rn rfl rfl F9 rfl (.bool false) (zq _ _ _ _ rfl (F9.get rfl) rfl Try.underlying3 (zr (by decide))) fun _ F11 => ?_
  refine rm rfl F11 fun _ F12 => ?_
  refine hK10 _ _ (wp_cond_false (F12.get rfl) ?_)
  refine zT fun _ hK13 => ?_
  refine rn rfl rfl F12 rfl (.bool true) (zq _ _ _ _ rfl (F12.get rfl) rfl Try.underlying3 (zka (by decide))) fun a14 F14 => ?_
  refine rm rfl F14 fun a15 F15 => ?_
  refine hK13 _ _ (wp_cond_true (F15.get rfl) ?_)
  refine zT fun _ hK16 => ?_
  refine zna (za rfl) rfl F15 rfl M 0 (t := 3) (c := #[.int .i64 7]) (k := 1) (m := 1) (zfb rfl #[.int .i64 7] rfl (by decide) (by decide) (by simp only [List.map_toArray, List.map_cons, List.map_nil]; kernel_rfl)) ?_
  intro g17 a17 w17 F17 M17
  clear F15 M
  refine zd (za rfl) rfl F17 rfl rfl (zE Try.func49 rfl) #[.slice (some ⟨g17, 0, none⟩) 1 1] (zp (F17.get rfl)) (zh (zbb g17 [7] (by decide) (by decide) w17 (M17.blk (k := 0) rfl))) ?_
  rintro _ w18 a18 ⟨rfl, b18⟩ F18
  have M18 := M17.step b18
  refine rm rfl F18 fun a19 F19 => ?_
  refine rm rfl F19 fun a20 F20 => ?_
  refine hK16 _ _ (wp_ret ?_)
  try simp only [Exit.then, Exit.inBlock, Exit.jump]
  exact bodyPost_ret (res2 rfl (F20.get rfl) (F20.get rfl)) F20.defers ⟨rfl, M18.below⟩
 by_cases n4 : k = 4
 ·subst n4
  refine zg (args := [.int .i64 4, .int .i64 p]) 56 Try.func50 rfl rfl rfl ?_
  intro fa F
  have M := Mx.start w
  refine zT fun _ hK1 => ?_
  refine rm rfl F fun _ F2 => ?_
  refine rm rfl F2 fun _ F3 => ?_
  refine hK1 _ _ (zS fun _ hK4 => ?_)
  refine zT fun _ hK5 => ?_
  refine rm rfl F3 fun _ F6 => ?_
  refine hK5 _ _ (wp_block ?_)
  refine zT fun _ hK7 => ?_
  refine rn rfl rfl F6 rfl (.bool false) (zq _ _ _ _ rfl (F6.get rfl) rfl Try.underlying3 (zr (by decide))) fun _ F8 => ?_
  refine rm rfl F8 fun _ F9 => ?_
  refine hK7 _ _ (wp_cond_false (F9.get rfl) ?_)
  refine zT fun K10 hK10 => ?_
  refine rn rfl rfl F9 rfl (.bool false) (zq _ _ _ _ rfl (F9.get rfl) rfl Try.underlying3 (zr (by decide))) fun _ F11 => ?_
  refine rm rfl F11 fun _ F12 => ?_
  refine hK10 _ _ (wp_cond_false (F12.get rfl) ?_)
  refine zT fun _ hK13 => ?_
  refine rn rfl rfl F12 rfl (.bool false) (zq _ _ _ _ rfl (F12.get rfl) rfl Try.underlying3 (zr (by decide))) fun a14 F14 => ?_
  refine rm rfl F14 fun a15 F15 => ?_
  refine hK13 _ _ (wp_cond_false (F15.get rfl) ?_)
  refine zT fun _ hK16 => ?_
  refine rn rfl rfl F15 rfl (.bool true) (zq _ _ _ _ rfl (F15.get rfl) rfl Try.underlying3 (zka (by decide))) fun a17 F17 => ?_
  refine rm rfl F17 fun a18 F18 => ?_
  refine hK16 _ _ (wp_cond_true (F18.get rfl) ?_)
  refine zT fun _ hK19 => ?_
  refine zna (za rfl) rfl F18 rfl M 0 (t := 3) (c := #[.int .i64 8, .int .i64 7]) (k := 2) (m := 2) (zfb rfl #[.int .i64 8, .int .i64 7] rfl (by decide) (by decide) (by simp only [List.map_toArray, List.map_cons, List.map_nil]; kernel_rfl)) ?_
  intro g20 a20 w20 F20 M20
  clear F18 M
  refine zd (za rfl) rfl F20 rfl rfl (zE Try.func49 rfl) #[.slice (some ⟨g20, 0, none⟩) 2 2] (zp (F20.get rfl)) (zh (zbb g20 [8, 7] (by decide) (by decide) w20 (M20.blk (k := 0) rfl))) ?_
  rintro _ w21 a21 ⟨rfl, b21⟩ F21
  have M21 := M20.step b21
  refine rm rfl F21 fun _ F22 => ?_
  refine rm rfl F22 fun a23 F23 => ?_
  refine hK19 _ _ (wp_ret ?_)
  try simp only [Exit.then, Exit.inBlock, Exit.jump]
  exact bodyPost_ret (res2 rfl (F23.get rfl) (F23.get rfl)) F23.defers ⟨rfl, M21.below⟩
 by_cases n5 : k = 5
 ·subst n5
  refine zg (args := [.int .i64 5, .int .i64 p]) 56 Try.func50 rfl rfl rfl ?_
  intro fa F
  have M := Mx.start w
  refine zT fun _ hK1 => ?_
  refine rm rfl F fun _ F2 => ?_
  refine rm rfl F2 fun _ F3 => ?_
  refine hK1 _ _ (zS fun _ hK4 => ?_)
  refine zT fun _ hK5 => ?_
  refine rm rfl F3 fun _ F6 => ?_
  refine hK5 _ _ (wp_block ?_)
  refine zT fun _ hK7 => ?_
  refine rn rfl rfl F6 rfl (.bool false) (zq _ _ _ _ rfl (F6.get rfl) rfl Try.underlying3 (zr (by decide))) fun _ F8 => ?_
  refine rm rfl F8 fun _ F9 => ?_
  refine hK7 _ _ (wp_cond_false (F9.get rfl) ?_)
  refine zT fun K10 hK10 => ?_
  refine rn rfl rfl F9 rfl (.bool false) (zq _ _ _ _ rfl (F9.get rfl) rfl Try.underlying3 (zr (by decide))) fun _ F11 => ?_
  refine rm rfl F11 fun _ F12 => ?_
  refine hK10 _ _ (wp_cond_false (F12.get rfl) ?_)
  refine zT fun _ hK13 => ?_
  refine rn rfl rfl F12 rfl (.bool false) (zq _ _ _ _ rfl (F12.get rfl) rfl Try.underlying3 (zr (by decide))) fun a14 F14 => ?_
  refine rm rfl F14 fun a15 F15 => ?_
  refine hK13 _ _ (wp_cond_false (F15.get rfl) ?_)
  refine zT fun _ hK16 => ?_
  refine rn rfl rfl F15 rfl (.bool false) (zq _ _ _ _ rfl (F15.get rfl) rfl Try.underlying3 (zr (by decide))) fun a17 F17 => ?_
  refine rm rfl F17 fun a18 F18 => ?_
  refine hK16 _ _ (wp_cond_false (F18.get rfl) ?_)
  refine zT fun _ hK19 => ?_
  refine rn rfl rfl F18 rfl (.bool true) (zq _ _ _ _ rfl (F18.get rfl) rfl Try.underlying3 (zka (by decide))) fun a20 F20 => ?_
  refine rm rfl F20 fun a21 F21 => ?_
  refine hK19 _ _ (wp_cond_true (F21.get rfl) ?_)
  refine zT fun _ hK22 => ?_
  refine zna (za rfl) rfl F21 rfl M 0 (t := 3) (c := #[.int .i64 11]) (k := 1) (m := 1) (zfb rfl #[.int .i64 11] rfl (by decide) (by decide) (by simp only [List.map_toArray, List.map_cons, List.map_nil]; kernel_rfl)) ?_
  intro g23 a23 w23 F23 M23
  clear F21 M
  refine zd (za rfl) rfl F23 rfl rfl (zE Try.func49 rfl) #[.slice (some ⟨g23, 0, none⟩) 1 1] (zp (F23.get rfl)) (zh (zbb g23 [11] (by decide) (by decide) w23 (M23.blk (k := 0) rfl))) ?_
  rintro _ w24 a24 ⟨rfl, b24⟩ F24
  have M24 := M23.step b24
  refine rm rfl F24 fun _ F25 => ?_
  refine rm rfl F25 fun a26 F26 => ?_
  refine hK22 _ _ (wp_ret ?_)
  try simp only [Exit.then, Exit.inBlock, Exit.jump]
  exact bodyPost_ret (res2 rfl (F26.get rfl) (F26.get rfl)) F26.defers ⟨rfl, M24.below⟩
 by_cases n6 : k = 6
 ·subst n6
  refine zg (args := [.int .i64 6, .int .i64 p]) 56 Try.func50 rfl rfl rfl ?_
  intro fa F
  have M := Mx.start w
  refine zT fun _ hK1 => ?_
  refine rm rfl F fun _ F2 => ?_
  refine rm rfl F2 fun _ F3 => ?_
  refine hK1 _ _ (zS fun _ hK4 => ?_)
  refine zT fun _ hK5 => ?_
  refine rm rfl F3 fun _ F6 => ?_
  refine hK5 _ _ (wp_block ?_)
  refine zT fun _ hK7 => ?_
  refine rn rfl rfl F6 rfl (.bool false) (zq _ _ _ _ rfl (F6.get rfl) rfl Try.underlying3 (zr (by decide))) fun _ F8 => ?_
  refine rm rfl F8 fun _ F9 => ?_
  refine hK7 _ _ (wp_cond_false (F9.get rfl) ?_)
  refine zT fun K10 hK10 => ?_
  refine rn rfl rfl F9 rfl (.bool false) (zq _ _ _ _ rfl (F9.get rfl) rfl Try.underlying3 (zr (by decide))) fun _ F11 => ?_
  refine rm rfl F11 fun _ F12 => ?_
  refine hK10 _ _ (wp_cond_false (F12.get rfl) ?_)
  refine zT fun _ hK13 => ?_
  refine rn rfl rfl F12 rfl (.bool false) (zq _ _ _ _ rfl (F12.get rfl) rfl Try.underlying3 (zr (by decide))) fun a14 F14 => ?_
  refine rm rfl F14 fun a15 F15 => ?_
  refine hK13 _ _ (wp_cond_false (F15.get rfl) ?_)
  refine zT fun _ hK16 => ?_
  refine rn rfl rfl F15 rfl (.bool false) (zq _ _ _ _ rfl (F15.get rfl) rfl Try.underlying3 (zr (by decide))) fun a17 F17 => ?_
  refine rm rfl F17 fun a18 F18 => ?_
  refine hK16 _ _ (wp_cond_false (F18.get rfl) ?_)
  refine zT fun _ hK19 => ?_
  refine rn rfl rfl F18 rfl (.bool false) (zq _ _ _ _ rfl (F18.get rfl) rfl Try.underlying3 (zr (by decide))) fun a20 F20 => ?_
  refine rm rfl F20 fun a21 F21 => ?_
  refine hK19 _ _ (wp_cond_false (F21.get rfl) ?_)
  refine zT fun _ hK22 => ?_
  refine rn rfl rfl F21 rfl (.bool true) (zq _ _ _ _ rfl (F21.get rfl) rfl Try.underlying3 (zka (by decide))) fun a23 F23 => ?_
  refine rm rfl F23 fun a24 F24 => ?_
  refine hK22 _ _ (wp_cond_true (F24.get rfl) ?_)
  refine zT fun _ hK25 => ?_
  refine zna (za rfl) rfl F24 rfl M 0 (t := 3) (c := #[.int .i64 1, .int .i64 2, .int .i64 9]) (k := 3) (m := 3) (zfb rfl #[.int .i64 1, .int .i64 2, .int .i64 9] rfl (by decide) (by decide) (by simp only [List.map_toArray, List.map_cons, List.map_nil]; kernel_rfl)) ?_
  intro g26 a26 w26 F26 M26
  clear F24 M
  refine zd (za rfl) rfl F26 rfl rfl (zE Try.func49 rfl) #[.slice (some ⟨g26, 0, none⟩) 3 3] (zp (F26.get rfl)) (zh (zbb g26 [1, 2, 9] (by decide) (by decide) w26 (M26.blk (k := 0) rfl))) ?_
  rintro _ w27 a27 ⟨rfl, b27⟩ F27
  have M27 := M26.step b27
  refine rm rfl F27 fun _ F28 => ?_
  refine rm rfl F28 fun a29 F29 => ?_
  refine hK25 _ _ (wp_ret ?_)
  try simp only [Exit.then, Exit.inBlock, Exit.jump]
  exact bodyPost_ret (res2 rfl (F29.get rfl) (F29.get rfl)) F29.defers ⟨rfl, M27.below⟩
 by_cases n7 : k = 7
 ·subst n7
  refine zg (args := [.int .i64 7, .int .i64 p]) 56 Try.func50 rfl rfl rfl ?_
  intro fa F
  have M := Mx.start w
  refine zT fun _ hK1 => ?_
  refine rm rfl F fun _ F2 => ?_
  refine rm rfl F2 fun _ F3 => ?_
  refine hK1 _ _ (zS fun _ hK4 => ?_)
  refine zT fun _ hK5 => ?_
  refine rm rfl F3 fun _ F6 => ?_
  refine hK5 _ _ (wp_block ?_)
  refine zT fun _ hK7 => ?_
  refine rn rfl rfl F6 rfl (.bool false) (zq _ _ _ _ rfl (F6.get rfl) rfl Try.underlying3 (zr (by decide))) fun _ F8 => ?_
  refine rm rfl F8 fun _ F9 => ?_
  refine hK7 _ _ (wp_cond_false (F9.get rfl) ?_)
  refine zT fun K10 hK10 => ?_
  refine rn rfl rfl F9 rfl (.bool false) (zq _ _ _ _ rfl (F9.get rfl) rfl Try.underlying3 (zr (by decide))) fun _ F11 => ?_
  refine rm rfl F11 fun _ F12 => ?_
  refine hK10 _ _ (wp_cond_false (F12.get rfl) ?_)
  refine zT fun _ hK13 => ?_
  refine rn rfl rfl F12 rfl (.bool false) (zq _ _ _ _ rfl (F12.get rfl) rfl Try.underlying3 (zr (by decide))) fun a14 F14 => ?_
  refine rm rfl F14 fun a15 F15 => ?_
  refine hK13 _ _ (wp_cond_false (F15.get rfl) ?_)
  refine zT fun _ hK16 => ?_
  refine rn rfl rfl F15 rfl (.bool false) (zq _ _ _ _ rfl (F15.get rfl) rfl Try.underlying3 (zr (by decide))) fun a17 F17 => ?_
  refine rm rfl F17 fun a18 F18 => ?_
  refine hK16 _ _ (wp_cond_false (F18.get rfl) ?_)
  refine zT fun _ hK19 => ?_
  refine rn rfl rfl F18 rfl (.bool false) (zq _ _ _ _ rfl (F18.get rfl) rfl Try.underlying3 (zr (by decide))) fun a20 F20 => ?_
  refine rm rfl F20 fun a21 F21 => ?_
  refine hK19 _ _ (wp_cond_false (F21.get rfl) ?_)
  refine zT fun _ hK22 => ?_
  refine rn rfl rfl F21 rfl (.bool false) (zq _ _ _ _ rfl (F21.get rfl) rfl Try.underlying3 (zr (by decide))) fun a23 F23 => ?_
  refine rm rfl F23 fun a24 F24 => ?_
  refine hK22 _ _ (wp_cond_false (F24.get rfl) ?_)
  refine zT fun _ hK25 => ?_
  refine rn rfl rfl F24 rfl (.bool true) (zq _ _ _ _ rfl (F24.get rfl) rfl Try.underlying3 (zka (by decide))) fun a26 F26 => ?_
  refine rm rfl F26 fun a27 F27 => ?_
  refine hK25 _ _ (wp_cond_true (F27.get rfl) ?_)
  refine zT fun _ hK28 => ?_
  refine zd (za rfl) rfl F27 rfl rfl (zE Try.func49 rfl) #[zN] (zp rfl) (zh (fields_nil w)) ?_
  rintro _ w29 a29 ⟨rfl, b29⟩ F29
  have M29 := M.step b29
  refine rm rfl F29 fun _ F30 => ?_
  refine rm rfl F30 fun _ F31 => ?_
  refine hK28 _ _ (wp_ret ?_)
  try simp only [Exit.then, Exit.inBlock, Exit.jump]
  exact bodyPost_ret (res2 rfl (F31.get rfl) (F31.get rfl)) F31.defers ⟨rfl, M29.below⟩
 by_cases n8 : k = 8
 ·subst n8
  refine zg (args := [.int .i64 8, .int .i64 p]) 56 Try.func50 rfl rfl rfl ?_
  intro fa F
  have M := Mx.start w
  refine zT fun _ hK1 => ?_
  refine rm rfl F fun _ F2 => ?_
  refine rm rfl F2 fun _ F3 => ?_
  refine hK1 _ _ (zS fun _ hK4 => ?_)
  refine zT fun _ hK5 => ?_
  refine rm rfl F3 fun _ F6 => ?_
  refine hK5 _ _ (wp_block ?_)
  refine zT fun _ hK7 => ?_
  refine rn rfl rfl F6 rfl (.bool false) (zq _ _ _ _ rfl (F6.get rfl) rfl Try.underlying3 (zr (by decide))) fun _ F8 => ?_
  refine rm rfl F8 fun _ F9 => ?_
  refine hK7 _ _ (wp_cond_false (F9.get rfl) ?_)
  refine zT fun K10 hK10 => ?_
  refine rn rfl rfl F9 rfl (.bool false) (zq _ _ _ _ rfl (F9.get rfl) rfl Try.underlying3 (zr (by decide))) fun _ F11 => ?_
  refine rm rfl F11 fun _ F12 => ?_
  refine hK10 _ _ (wp_cond_false (F12.get rfl) ?_)
  refine zT fun _ hK13 => ?_
  refine rn rfl rfl F12 rfl (.bool false) (zq _ _ _ _ rfl (F12.get rfl) rfl Try.underlying3 (zr (by decide))) fun a14 F14 => ?_
  refine rm rfl F14 fun a15 F15 => ?_
  refine hK13 _ _ (wp_cond_false (F15.get rfl) ?_)
  refine zT fun _ hK16 => ?_
  refine rn rfl rfl F15 rfl (.bool false) (zq _ _ _ _ rfl (F15.get rfl) rfl Try.underlying3 (zr (by decide))) fun a17 F17 => ?_
  refine rm rfl F17 fun a18 F18 => ?_
  refine hK16 _ _ (wp_cond_false (F18.get rfl) ?_)
  refine zT fun _ hK19 => ?_
  refine rn rfl rfl F18 rfl (.bool false) (zq _ _ _ _ rfl (F18.get rfl) rfl Try.underlying3 (zr (by decide))) fun a20 F20 => ?_
  refine rm rfl F20 fun a21 F21 => ?_
  refine hK19 _ _ (wp_cond_false (F21.get rfl) ?_)
  refine zT fun _ hK22 => ?_
  refine rn rfl rfl F21 rfl (.bool false) (zq _ _ _ _ rfl (F21.get rfl) rfl Try.underlying3 (zr (by decide))) fun a23 F23 => ?_
  refine rm rfl F23 fun a24 F24 => ?_
  refine hK22 _ _ (wp_cond_false (F24.get rfl) ?_)
  refine zT fun _ hK25 => ?_
  refine rn rfl rfl F24 rfl (.bool false) (zq _ _ _ _ rfl (F24.get rfl) rfl Try.underlying3 (zr (by decide))) fun a26 F26 => ?_
  refine rm rfl F26 fun a27 F27 => ?_
  refine hK25 _ _ (wp_cond_false (F27.get rfl) ?_)
  refine zS fun _ hK28 => zS fun _ hK29 => ?_
  refine zR ?_
  refine rn rfl rfl F27 rfl (.bool true) (zq _ _ _ _ rfl (F27.get rfl) rfl Try.underlying3 (zka (by decide))) fun _ F30 => ?_
  refine rm rfl F30 fun _ F31 => ?_
  refine hK29 _ _ (wp_cond_true (F31.get rfl) ?_)
  refine wp_skip ?_
  refine hK28 _ _ (wp_cond_true (F31.get rfl) ?_)
  refine zT fun _ hK32 => ?_
  refine zna (za rfl) rfl F31 rfl M 0 (t := 3) (c := #[.int .i64 8, .int .i64 10]) (k := 2) (m := 2) (zfb rfl #[.int .i64 8, .int .i64 10] rfl (by decide) (by decide) (by simp only [List.map_toArray, List.map_cons, List.map_nil]; kernel_rfl)) ?_
  intro g33 a33 w33 F33 M33
  clear F31 M
  refine zd (za rfl) rfl F33 rfl rfl (zE Try.func49 rfl) #[.slice (some ⟨g33, 0, none⟩) 2 2] (zp (F33.get rfl)) (zh (zbb g33 [8, 10] (by decide) (by decide) w33 (M33.blk (k := 0) rfl))) ?_
  rintro _ w34 a34 ⟨rfl, b34⟩ F34
  have M34 := M33.step b34
  refine rm rfl F34 fun a35 F35 => ?_
  refine rm rfl F35 fun a36 F36 => ?_
  refine hK32 _ _ (wp_ret ?_)
  try simp only [Exit.then, Exit.inBlock, Exit.jump]
  exact bodyPost_ret (res2 rfl (F36.get rfl) (F36.get rfl)) F36.defers ⟨rfl, M34.below⟩
 by_cases n12 : k = 12
 ·subst n12
  refine zg (args := [.int .i64 12, .int .i64 p]) 56 Try.func50 rfl rfl rfl ?_
  intro fa F
  have M := Mx.start w
  refine zT fun _ hK1 => ?_
  refine rm rfl F fun _ F2 => ?_
  refine rm rfl F2 fun _ F3 => ?_
  refine hK1 _ _ (zS fun _ hK4 => ?_)
  refine zT fun _ hK5 => ?_
  refine rm rfl F3 fun _ F6 => ?_
  refine hK5 _ _ (wp_block ?_)
  refine zT fun _ hK7 => ?_
  refine rn rfl rfl F6 rfl (.bool false) (zq _ _ _ _ rfl (F6.get rfl) rfl Try.underlying3 (zr (by decide))) fun _ F8 => ?_
  refine rm rfl F8 fun _ F9 => ?_
  refine hK7 _ _ (wp_cond_false (F9.get rfl) ?_)
  refine zT fun K10 hK10 => ?_
  refine rn rfl rfl F9 rfl (.bool false) (zq _ _ _ _ rfl (F9.get rfl) rfl Try.underlying3 (zr (by decide))) fun _ F11 => ?_
  refine rm rfl F11 fun _ F12 => ?_
  refine hK10 _ _ (wp_cond_false (F12.get rfl) ?_)
  refine zT fun _ hK13 => ?_
  refine rn rfl rfl F12 rfl (.bool false) (zq _ _ _ _ rfl (F12.get rfl) rfl Try.underlying3 (zr (by decide))) fun a14 F14 => ?_
  refine rm rfl F14 fun a15 F15 => ?_
  refine hK13 _ _ (wp_cond_false (F15.get rfl) ?_)
  refine zT fun _ hK16 => ?_
  refine rn rfl rfl F15 rfl (.bool false) (zq _ _ _ _ rfl (F15.get rfl) rfl Try.underlying3 (zr (by decide))) fun a17 F17 => ?_
  refine rm rfl F17 fun a18 F18 => ?_
  refine hK16 _ _ (wp_cond_false (F18.get rfl) ?_)
  refine zT fun _ hK19 => ?_
  refine rn rfl rfl F18 rfl (.bool false) (zq _ _ _ _ rfl (F18.get rfl) rfl Try.underlying3 (zr (by decide))) fun a20 F20 => ?_
  refine rm rfl F20 fun a21 F21 => ?_
  refine hK19 _ _ (wp_cond_false (F21.get rfl) ?_)
  refine zT fun _ hK22 => ?_
  refine rn rfl rfl F21 rfl (.bool false) (zq _ _ _ _ rfl (F21.get rfl) rfl Try.underlying3 (zr (by decide))) fun a23 F23 => ?_
  refine rm rfl F23 fun a24 F24 => ?_
  refine hK22 _ _ (wp_cond_false (F24.get rfl) ?_)
  refine zT fun _ hK25 => ?_
  refine rn rfl rfl F24 rfl (.bool false) (zq _ _ _ _ rfl (F24.get rfl) rfl Try.underlying3 (zr (by decide))) fun a26 F26 => ?_
  refine rm rfl F26 fun a27 F27 => ?_
  refine hK25 _ _ (wp_cond_false (F27.get rfl) ?_)
  refine zS fun _ hK28 => zS fun _ hK29 => ?_
  refine zR ?_
  refine rn rfl rfl F27 rfl (.bool false) (zq _ _ _ _ rfl (F27.get rfl) rfl Try.underlying3 (zr (by decide))) fun _ F30 => ?_
  refine rm rfl F30 fun _ F31 => ?_
  refine hK29 _ _ (wp_cond_false (F31.get rfl) ?_)
  refine zR ?_
  refine rn rfl rfl F31 rfl (.bool true) (zq _ _ _ _ rfl (F31.get rfl) rfl Try.underlying3 (zka (by decide))) fun _ F32 => ?_
  refine rm rfl F32 fun a33 F33 => ?_
  refine hK28 _ _ (wp_cond_true (F33.get rfl) ?_)
  refine zT fun _ hK34 => ?_
  refine zna (za rfl) rfl F33 rfl M 0 (t := 3) (c := #[.int .i64 8, .int .i64 10]) (k := 2) (m := 2) (zfb rfl #[.int .i64 8, .int .i64 10] rfl (by decide) (by decide) (by simp only [List.map_toArray, List.map_cons, List.map_nil]; kernel_rfl)) ?_
  intro g35 a35 w35 F35 M35
  clear F33 M
  refine zd (za rfl) rfl F35 rfl rfl (zE Try.func49 rfl) #[.slice (some ⟨g35, 0, none⟩) 2 2] (zp (F35.get rfl)) (zh (zbb g35 [8, 10] (by decide) (by decide) w35 (M35.blk (k := 0) rfl))) ?_
  rintro _ w36 a36 ⟨rfl, b36⟩ F36
  have M36 := M35.step b36
  refine rm rfl F36 fun _ F37 => ?_
  refine rm rfl F37 fun _ F38 => ?_
  refine hK34 _ _ (wp_ret ?_)
  try simp only [Exit.then, Exit.inBlock, Exit.jump]
  exact bodyPost_ret (res2 rfl (F38.get rfl) (F38.get rfl)) F38.defers ⟨rfl, M36.below⟩
 by_cases n9 : k = 9
 ·subst n9
  refine zg (args := [.int .i64 9, .int .i64 p]) 56 Try.func50 rfl rfl rfl ?_
  intro fa F
  have M := Mx.start w
  refine zT fun _ hK1 => ?_
  refine rm rfl F fun _ F2 => ?_
  refine rm rfl F2 fun _ F3 => ?_
  refine hK1 _ _ (zS fun _ hK4 => ?_)
  refine zT fun _ hK5 => ?_
  refine rm rfl F3 fun _ F6 => ?_
  refine hK5 _ _ (wp_block ?_)
  refine zT fun _ hK7 => ?_
  refine rn rfl rfl F6 rfl (.bool false) (zq _ _ _ _ rfl (F6.get rfl) rfl Try.underlying3 (zr (by decide))) fun _ F8 => ?_
  refine rm rfl F8 fun _ F9 => ?_
  refine hK7 _ _ (wp_cond_false (F9.get rfl) ?_)
  refine zT fun K10 hK10 => ?_
  refine rn rfl rfl F9 rfl (.bool false) (zq _ _ _ _ rfl (F9.get rfl) rfl Try.underlying3 (zr (by decide))) fun _ F11 => ?_
  refine rm rfl F11 fun _ F12 => ?_
  refine hK10 _ _ (wp_cond_false (F12.get rfl) ?_)
  refine zT fun _ hK13 => ?_
  refine rn rfl rfl F12 rfl (.bool false) (zq _ _ _ _ rfl (F12.get rfl) rfl Try.underlying3 (zr (by decide))) fun a14 F14 => ?_
  refine rm rfl F14 fun a15 F15 => ?_
  refine hK13 _ _ (wp_cond_false (F15.get rfl) ?_)
  refine zT fun _ hK16 => ?_
  refine rn rfl rfl F15 rfl (.bool false) (zq _ _ _ _ rfl (F15.get rfl) rfl Try.underlying3 (zr (by decide))) fun a17 F17 => ?_
  refine rm rfl F17 fun a18 F18 => ?_
  refine hK16 _ _ (wp_cond_false (F18.get rfl) ?_)
  refine zT fun _ hK19 => ?_
  refine rn rfl rfl F18 rfl (.bool false) (zq _ _ _ _ rfl (F18.get rfl) rfl Try.underlying3 (zr (by decide))) fun a20 F20 => ?_
  refine rm rfl F20 fun a21 F21 => ?_
  refine hK19 _ _ (wp_cond_false (F21.get rfl) ?_)
  refine zT fun _ hK22 => ?_
  refine rn rfl rfl F21 rfl (.bool false) (zq _ _ _ _ rfl (F21.get rfl) rfl Try.underlying3 (zr (by decide))) fun a23 F23 => ?_
  refine rm rfl F23 fun a24 F24 => ?_
  refine hK22 _ _ (wp_cond_false (F24.get rfl) ?_)
  refine zT fun _ hK25 => ?_
  refine rn rfl rfl F24 rfl (.bool false) (zq _ _ _ _ rfl (F24.get rfl) rfl Try.underlying3 (zr (by decide))) fun a26 F26 => ?_
  refine rm rfl F26 fun a27 F27 => ?_
  refine hK25 _ _ (wp_cond_false (F27.get rfl) ?_)
  refine zS fun _ hK28 => zS fun _ hK29 => ?_
  refine zR ?_
  refine rn rfl rfl F27 rfl (.bool false) (zq _ _ _ _ rfl (F27.get rfl) rfl Try.underlying3 (zr (by decide))) fun _ F30 => ?_
  refine rm rfl F30 fun _ F31 => ?_
  refine hK29 _ _ (wp_cond_false (F31.get rfl) ?_)
  refine zR ?_
  refine rn rfl rfl F31 rfl (.bool false) (zq _ _ _ _ rfl (F31.get rfl) rfl Try.underlying3 (zr (by decide))) fun _ F32 => ?_
  refine rm rfl F32 fun a33 F33 => ?_
  refine hK28 _ _ (wp_cond_false (F33.get rfl) ?_)
  refine zS fun _ hK34 => zS fun _ hK35 => ?_
  refine zR ?_
  refine rn rfl rfl F33 rfl (.bool true) (zq _ _ _ _ rfl (F33.get rfl) rfl Try.underlying3 (zka (by decide))) fun a36 F36 => ?_
  refine rm rfl F36 fun _ F37 => ?_
  refine hK35 _ _ (wp_cond_true (F37.get rfl) ?_)
  refine wp_skip ?_
  refine hK34 _ _ (wp_cond_true (F37.get rfl) ?_)
  refine zT fun _ hK38 => ?_
  refine zna (za rfl) rfl F37 rfl M 0 (t := 3) (c := #[.int .i64 8]) (k := 1) (m := 1) (zfb rfl #[.int .i64 8] rfl (by decide) (by decide) (by simp only [List.map_toArray, List.map_cons, List.map_nil]; kernel_rfl)) ?_
  intro g39 a39 w39 F39 M39
  clear F37 M
  refine zd (za rfl) rfl F39 rfl rfl (zE Try.func49 rfl) #[.slice (some ⟨g39, 0, none⟩) 1 1] (zp (F39.get rfl)) (zh (zbb g39 [8] (by decide) (by decide) w39 (M39.blk (k := 0) rfl))) ?_
  rintro _ w40 a40 ⟨rfl, b40⟩ F40
  have M40 := M39.step b40
  refine rm rfl F40 fun a41 F41 => ?_
  refine rm rfl F41 fun a42 F42 => ?_
  refine hK38 _ _ (wp_ret ?_)
  try simp only [Exit.then, Exit.inBlock, Exit.jump]
  exact bodyPost_ret (res2 rfl (F42.get rfl) (F42.get rfl)) F42.defers ⟨rfl, M40.below⟩
 by_cases n10 : k = 10
 ·subst n10
  refine zg (args := [.int .i64 10, .int .i64 p]) 56 Try.func50 rfl rfl rfl ?_
  intro fa F
  have M := Mx.start w
  refine zT fun _ hK1 => ?_
  refine rm rfl F fun _ F2 => ?_
  refine rm rfl F2 fun _ F3 => ?_
  refine hK1 _ _ (zS fun _ hK4 => ?_)
  refine zT fun _ hK5 => ?_
  refine rm rfl F3 fun _ F6 => ?_
  refine hK5 _ _ (wp_block ?_)
  refine zT fun _ hK7 => ?_
  refine rn rfl rfl F6 rfl (.bool false) (zq _ _ _ _ rfl (F6.get rfl) rfl Try.underlying3 (zr (by decide))) fun _ F8 => ?_
  refine rm rfl F8 fun _ F9 => ?_
  refine hK7 _ _ (wp_cond_false (F9.get rfl) ?_)
  refine zT fun K10 hK10 => ?_
  refine rn rfl rfl F9 rfl (.bool false) (zq _ _ _ _ rfl (F9.get rfl) rfl Try.underlying3 (zr (by decide))) fun _ F11 => ?_
  refine rm rfl F11 fun _ F12 => ?_
  refine hK10 _ _ (wp_cond_false (F12.get rfl) ?_)
  refine zT fun _ hK13 => ?_
  refine rn rfl rfl F12 rfl (.bool false) (zq _ _ _ _ rfl (F12.get rfl) rfl Try.underlying3 (zr (by decide))) fun a14 F14 => ?_
  refine rm rfl F14 fun a15 F15 => ?_
  refine hK13 _ _ (wp_cond_false (F15.get rfl) ?_)
  refine zT fun _ hK16 => ?_
  refine rn rfl rfl F15 rfl (.bool false) (zq _ _ _ _ rfl (F15.get rfl) rfl Try.underlying3 (zr (by decide))) fun a17 F17 => ?_
  refine rm rfl F17 fun a18 F18 => ?_
  refine hK16 _ _ (wp_cond_false (F18.get rfl) ?_)
  refine zT fun _ hK19 => ?_
  refine rn rfl rfl F18 rfl (.bool false) (zq _ _ _ _ rfl (F18.get rfl) rfl Try.underlying3 (zr (by decide))) fun a20 F20 => ?_
  refine rm rfl F20 fun a21 F21 => ?_
  refine hK19 _ _ (wp_cond_false (F21.get rfl) ?_)
  refine zT fun _ hK22 => ?_
  refine rn rfl rfl F21 rfl (.bool false) (zq _ _ _ _ rfl (F21.get rfl) rfl Try.underlying3 (zr (by decide))) fun a23 F23 => ?_
  refine rm rfl F23 fun a24 F24 => ?_
  refine hK22 _ _ (wp_cond_false (F24.get rfl) ?_)
  refine zT fun _ hK25 => ?_
  refine rn rfl rfl F24 rfl (.bool false) (zq _ _ _ _ rfl (F24.get rfl) rfl Try.underlying3 (zr (by decide))) fun a26 F26 => ?_
  refine rm rfl F26 fun a27 F27 => ?_
  refine hK25 _ _ (wp_cond_false (F27.get rfl) ?_)
  refine zS fun _ hK28 => zS fun _ hK29 => ?_
  refine zR ?_
  refine rn rfl rfl F27 rfl (.bool false) (zq _ _ _ _ rfl (F27.get rfl) rfl Try.underlying3 (zr (by decide))) fun _ F30 => ?_
  refine rm rfl F30 fun _ F31 => ?_
  refine hK29 _ _ (wp_cond_false (F31.get rfl) ?_)
  refine zR ?_
  refine rn rfl rfl F31 rfl (.bool false) (zq _ _ _ _ rfl (F31.get rfl) rfl Try.underlying3 (zr (by decide))) fun _ F32 => ?_
  refine rm rfl F32 fun a33 F33 => ?_
  refine hK28 _ _ (wp_cond_false (F33.get rfl) ?_)
  refine zS fun _ hK34 => zS fun _ hK35 => ?_
  refine zR ?_
  refine rn rfl rfl F33 rfl (.bool false) (zq _ _ _ _ rfl (F33.get rfl) rfl Try.underlying3 (zr (by decide))) fun a36 F36 => ?_
  refine rm rfl F36 fun _ F37 => ?_
  refine hK35 _ _ (wp_cond_false (F37.get rfl) ?_)
  refine zR ?_
  refine rn rfl rfl F37 rfl (.bool true) (zq _ _ _ _ rfl (F37.get rfl) rfl Try.underlying3 (zka (by decide))) fun _ F38 => ?_
  refine rm rfl F38 fun a39 F39 => ?_
  refine hK34 _ _ (wp_cond_true (F39.get rfl) ?_)
  refine zT fun _ hK40 => ?_
  refine zna (za rfl) rfl F39 rfl M 0 (t := 3) (c := #[.int .i64 8]) (k := 1) (m := 1) (zfb rfl #[.int .i64 8] rfl (by decide) (by decide) (by simp only [List.map_toArray, List.map_cons, List.map_nil]; kernel_rfl)) ?_
  intro g41 a41 w41 F41 M41
  clear F39 M
  refine zd (za rfl) rfl F41 rfl rfl (zE Try.func49 rfl) #[.slice (some ⟨g41, 0, none⟩) 1 1] (zp (F41.get rfl)) (zh (zbb g41 [8] (by decide) (by decide) w41 (M41.blk (k := 0) rfl))) ?_
  rintro _ w42 a42 ⟨rfl, b42⟩ F42
  have M42 := M41.step b42
  refine rm rfl F42 fun a43 F43 => ?_
  refine rm rfl F43 fun a44 F44 => ?_
  refine hK40 _ _ (wp_ret ?_)
  try simp only [Exit.then, Exit.inBlock, Exit.jump]
  exact bodyPost_ret (res2 rfl (F44.get rfl) (F44.get rfl)) F44.defers ⟨rfl, M42.below⟩
 by_cases n11 : k = 11
 rotate_left
 ·rw [show wantL k p = none by unfold wantL; simp only [if_neg n1, if_neg n2, if_neg n3, if_neg n4, if_neg n5, if_neg n6, if_neg n7, if_neg n8, if_neg n12, if_neg n9, if_neg n10, if_neg n11]]
  refine zg (args := [.int .i64 k, .int .i64 p]) 56 Try.func50 rfl rfl rfl ?_
  intro fa F
  have M := Mx.start w
  refine zT fun _ hK1 => ?_
  refine rm rfl F fun _ F2 => ?_
  refine rm rfl F2 fun _ F3 => ?_
  refine hK1 _ _ (zS fun _ hK4 => ?_)
  refine zT fun _ hK5 => ?_
  refine rm rfl F3 fun _ F6 => ?_
  refine hK5 _ _ (wp_block ?_)
  refine zT fun _ hK7 => ?_
  refine rn rfl rfl F6 rfl (.bool false) (zq _ _ _ _ rfl (F6.get rfl) rfl Try.underlying3 (zr n1)) fun _ F8 => ?_
  refine rm rfl F8 fun _ F9 => ?_
  refine hK7 _ _ (wp_cond_false (F9.get rfl) ?_)
  refine zT fun K10 hK10 => ?_
  refine rn rfl rfl F9 rfl (.bool false) (zq _ _ _ _ rfl (F9.get rfl) rfl Try.underlying3 (zr n2)) fun _ F11 => ?_
  refine rm rfl F11 fun _ F12 => ?_
  refine hK10 _ _ (wp_cond_false (F12.get rfl) ?_)
  refine zT fun _ hK13 => ?_
  refine rn rfl rfl F12 rfl (.bool false) (zq _ _ _ _ rfl (F12.get rfl) rfl Try.underlying3 (zr n3)) fun a14 F14 => ?_
  refine rm rfl F14 fun a15 F15 => ?_
  refine hK13 _ _ (wp_cond_false (F15.get rfl) ?_)
  refine zT fun _ hK16 => ?_
  refine rn rfl rfl F15 rfl (.bool false) (zq _ _ _ _ rfl (F15.get rfl) rfl Try.underlying3 (zr n4)) fun a17 F17 => ?_
  refine rm rfl F17 fun a18 F18 => ?_
  refine hK16 _ _ (wp_cond_false (F18.get rfl) ?_)
  refine zT fun _ hK19 => ?_
  refine rn rfl rfl F18 rfl (.bool false) (zq _ _ _ _ rfl (F18.get rfl) rfl Try.underlying3 (zr n5)) fun a20 F20 => ?_
  refine rm rfl F20 fun a21 F21 => ?_
  refine hK19 _ _ (wp_cond_false (F21.get rfl) ?_)
  refine zT fun _ hK22 => ?_
  refine rn rfl rfl F21 rfl (.bool false) (zq _ _ _ _ rfl (F21.get rfl) rfl Try.underlying3 (zr n6)) fun a23 F23 => ?_
  refine rm rfl F23 fun a24 F24 => ?_
  refine hK22 _ _ (wp_cond_false (F24.get rfl) ?_)
  refine zT fun _ hK25 => ?_
  refine rn rfl rfl F24 rfl (.bool false) (zq _ _ _ _ rfl (F24.get rfl) rfl Try.underlying3 (zr n7)) fun a26 F26 => ?_
  refine rm rfl F26 fun a27 F27 => ?_
  refine hK25 _ _ (wp_cond_false (F27.get rfl) ?_)
  refine zS fun _ hK28 => zS fun _ hK29 => ?_
  refine zR ?_
  refine rn rfl rfl F27 rfl (.bool false) (zq _ _ _ _ rfl (F27.get rfl) rfl Try.underlying3 (zr n8)) fun _ F30 => ?_
  refine rm rfl F30 fun _ F31 => ?_
  refine hK29 _ _ (wp_cond_false (F31.get rfl) ?_)
  refine zR ?_
  refine rn rfl rfl F31 rfl (.bool false) (zq _ _ _ _ rfl (F31.get rfl) rfl Try.underlying3 (zr n12)) fun _ F32 => ?_
  refine rm rfl F32 fun a33 F33 => ?_
  refine hK28 _ _ (wp_cond_false (F33.get rfl) ?_)
  refine zS fun _ hK34 => zS fun _ hK35 => ?_
  refine zR ?_
  refine rn rfl rfl F33 rfl (.bool false) (zq _ _ _ _ rfl (F33.get rfl) rfl Try.underlying3 (zr n9)) fun a36 F36 => ?_
  refine rm rfl F36 fun _ F37 => ?_
  refine hK35 _ _ (wp_cond_false (F37.get rfl) ?_)
  refine zR ?_
  refine rn rfl rfl F37 rfl (.bool false) (zq _ _ _ _ rfl (F37.get rfl) rfl Try.underlying3 (zr n10)) fun _ F38 => ?_
  refine rm rfl F38 fun a39 F39 => ?_
  refine hK34 _ _ (wp_cond_false (F39.get rfl) ?_)
  refine zT fun _ hK40 => ?_
  refine rn rfl rfl F39 rfl (.bool false) (zq _ _ _ _ rfl (F39.get rfl) rfl Try.underlying3 (zr n11)) fun a41 F41 => ?_
  refine rm rfl F41 fun a42 F42 => ?_
  refine hK40 _ _ (wp_cond_false (F42.get rfl) ?_)
  refine wp_skip ?_
  refine hK4 _ _ (zS fun _ hK43 => ?_)
  refine zR ?_
  refine rm rfl F42 fun a44 F44 => ?_
  refine rm rfl F44 fun _ F45 => ?_
  refine hK43 _ _ (wp_ret ?_)
  try simp only [Exit.then, Exit.inBlock, Exit.jump]
  exact bodyPost_ret (res2 rfl (F45.get rfl) (F45.get rfl)) F45.defers ⟨rfl, M.below⟩
 subst n11
 refine zg (args := [.int .i64 11, .int .i64 p]) 56 Try.func50 rfl rfl rfl ?_
 intro fa F
 have M := Mx.start w
 refine zT fun _ hK1 => ?_
 refine rm rfl F fun _ F2 => ?_
 refine rm rfl F2 fun _ F3 => ?_
 refine hK1 _ _ (zS fun _ hK4 => ?_)
 refine zT fun _ hK5 => ?_
 refine rm rfl F3 fun _ F6 => ?_
 refine hK5 _ _ (wp_block ?_)
 refine zT fun _ hK7 => ?_
 refine rn rfl rfl F6 rfl (.bool false) (zq _ _ _ _ rfl (F6.get rfl) rfl Try.underlying3 (zr (by decide))) fun _ F8 => ?_
 refine rm rfl F8 fun _ F9 => ?_
 refine hK7 _ _ (wp_cond_false (F9.get rfl) ?_)
 refine zT fun K10 hK10 => ?_
 refine rn rfl rfl F9 rfl (.bool false) (zq _ _ _ _ rfl (F9.get rfl) rfl Try.underlying3 (zr (by decide))) fun _ F11 => ?_
 refine rm rfl F11 fun _ F12 => ?_
 refine hK10 _ _ (wp_cond_false (F12.get rfl) ?_)
 refine zT fun _ hK13 => ?_
 refine rn rfl rfl F12 rfl (.bool false) (zq _ _ _ _ rfl (F12.get rfl) rfl Try.underlying3 (zr (by decide))) fun a14 F14 => ?_
 refine rm rfl F14 fun a15 F15 => ?_
 refine hK13 _ _ (wp_cond_false (F15.get rfl) ?_)
 refine zT fun _ hK16 => ?_
 refine rn rfl rfl F15 rfl (.bool false) (zq _ _ _ _ rfl (F15.get rfl) rfl Try.underlying3 (zr (by decide))) fun a17 F17 => ?_
 refine rm rfl F17 fun a18 F18 => ?_
 refine hK16 _ _ (wp_cond_false (F18.get rfl) ?_)
 refine zT fun _ hK19 => ?_
 refine rn rfl rfl F18 rfl (.bool false) (zq _ _ _ _ rfl (F18.get rfl) rfl Try.underlying3 (zr (by decide))) fun a20 F20 => ?_
 refine rm rfl F20 fun a21 F21 => ?_
 refine hK19 _ _ (wp_cond_false (F21.get rfl) ?_)
 refine zT fun _ hK22 => ?_
 refine rn rfl rfl F21 rfl (.bool false) (zq _ _ _ _ rfl (F21.get rfl) rfl Try.underlying3 (zr (by decide))) fun a23 F23 => ?_
 refine rm rfl F23 fun a24 F24 => ?_
 refine hK22 _ _ (wp_cond_false (F24.get rfl) ?_)
 refine zT fun _ hK25 => ?_
 refine rn rfl rfl F24 rfl (.bool false) (zq _ _ _ _ rfl (F24.get rfl) rfl Try.underlying3 (zr (by decide))) fun a26 F26 => ?_
 refine rm rfl F26 fun a27 F27 => ?_
 refine hK25 _ _ (wp_cond_false (F27.get rfl) ?_)
 refine zS fun _ hK28 => zS fun _ hK29 => ?_
 refine zR ?_
 refine rn rfl rfl F27 rfl (.bool false) (zq _ _ _ _ rfl (F27.get rfl) rfl Try.underlying3 (zr (by decide))) fun _ F30 => ?_
 refine rm rfl F30 fun _ F31 => ?_
 refine hK29 _ _ (wp_cond_false (F31.get rfl) ?_)
 refine zR ?_
 refine rn rfl rfl F31 rfl (.bool false) (zq _ _ _ _ rfl (F31.get rfl) rfl Try.underlying3 (zr (by decide))) fun _ F32 => ?_
 refine rm rfl F32 fun a33 F33 => ?_
 refine hK28 _ _ (wp_cond_false (F33.get rfl) ?_)
 refine zS fun _ hK34 => zS fun _ hK35 => ?_
 refine zR ?_
 refine rn rfl rfl F33 rfl (.bool false) (zq _ _ _ _ rfl (F33.get rfl) rfl Try.underlying3 (zr (by decide))) fun a36 F36 => ?_
 refine rm rfl F36 fun _ F37 => ?_
 refine hK35 _ _ (wp_cond_false (F37.get rfl) ?_)
 refine zR ?_
 refine rn rfl rfl F37 rfl (.bool false) (zq _ _ _ _ rfl (F37.get rfl) rfl Try.underlying3 (zr (by decide))) fun _ F38 => ?_
 refine rm rfl F38 fun a39 F39 => ?_
 refine hK34 _ _ (wp_cond_false (F39.get rfl) ?_)
 refine zT fun _ hK40 => ?_
 refine zB 2 [(4, .int .u64 0), (5, .bool false), (52, .bool true)] [] dnil [] F39 fun a41 F41 => ?_
 refine hK40 _ _ (wp_cond_true (F41.get rfl) ?_)
 refine zT fun _ hK42 => ?_
 refine zna (za rfl) rfl F41 rfl M 0 (t := 3) (c := #[.int .i64 8, .int .i64 1, .int .i64 9]) (k := 3) (m := 3) (zfb rfl #[.int .i64 8, .int .i64 1, .int .i64 9] rfl (by decide) (by decide) (by simp only [List.map_toArray, List.map_cons, List.map_nil]; kernel_rfl)) ?_
 intro g43 a43 w43 F43 M43
 clear F41 M
 refine zd (za rfl) rfl F43 rfl rfl (zE Try.func49 rfl) #[.slice (some ⟨g43, 0, none⟩) 3 3] (zp (F43.get rfl)) (zh (zbb g43 [8, 1, 9] (by decide) (by decide) w43 (M43.blk (k := 0) rfl))) ?_
 rintro _ w44 a44 ⟨rfl, b44⟩ F44
 have M44 := M43.step b44
 refine rm rfl F44 fun _ F45 => ?_
 refine rm rfl F45 fun _ F46 => ?_
 refine hK42 _ _ (wp_ret ?_)
 try simp only [Exit.then, Exit.inBlock, Exit.jump]
 exact bodyPost_ret (res2 rfl (F46.get rfl) (F46.get rfl)) F46.defers ⟨rfl, M44.below⟩
end Go.Proofs.Ytlbkogdmojlpmaa
namespace Go.Proofs.Ytlbkogdmojlpmaa
open Go.ChangeShapes Go.WideShapes Go.ChangeAt Go.RowKit Go.Shelf
def RecAt (l D : Nat) (o1 o2 : Obj) (W : World) : Prop := W.heap[l]? = some o1 ∧ W.heap[D]? = some o2 ∧ o1.isCells = false ∧ o2.isCells = false
theorem RecAt.kept {l D : Nat} {o1 o2 : Obj} {W W' : World} (h : RecAt l D o1 o2 W) (hk : KeepsOthers W W') : RecAt l D o1 o2 W' :=
  ⟨hk.same _ _ h.1 h.2.2.1, hk.same _ _ h.2.1 h.2.2.2, h.2.2⟩
def roundEnd (l : Nat) (W2 : World) (R : World → Prop) : Exit → Act → World → Prop
  | .normal, _, W3 => KeepsOthers W2 W3 ∧ ∀ o, R (W3.putObj l o)
  | _, _, _ => False
def NotCells (w : World) (l : Nat) : Prop := ∀ o', w.heap[l]? = some o' → o'.isCells = false
end Go.Proofs.Ytlbkogdmojlpmaa
namespace Go.Proofs.Ytlbkogdmojlpmaa
open Go.ChangeShapes Go.WideShapes Go.ChangeAt Go.RowKit Go.Shelf
variable {ds : List Deferred}
def noDefer (L : List Oper) : Bool := L.all fun o => match o.op with
  | .defer _ => false
  | _ => true
theorem noDefer_at {L : List Oper} (h : noDefer L = true) : ∀ o ∈ L, ∀ c, o.op ≠ .defer c := fun o ho c e => by
  have := List.all_eq_true.1 h o ho
  simp [e] at this
abbrev wideR (r : Option Nat) : Fence := { Fence.wide with round := r }
section
variable {P : Program} {r : Option Nat} {n : Nat} {ops : Array Oper} {Q : Exit → Act → World → Prop} {a : Act} {w : World} {o : Oper} {K : Act → World → Prop}
theorem rows_wide {row : String} {args : Array Value} {R : Value → World → Prop} (h : Rows P row args w R) : RowsIn (wideR r) n P row args w R :=
  fun c cs _ => let ⟨v, w', q, s⟩ := h c cs; ⟨v, w', q, stepsIn_wide.2 s⟩
theorem upon_in : ∀ x : Result Next, o.upon P a K Q x → o.uponIn (wideR r) n P a K Q x := by
  intro x h
  cases x with
  | ok x w' =>
    cases x with
    | value v => exact h
    | skip => exact h
    | defer d => exact h
    | enter f args => exact ⟨fun e => Bool.noConfusion e, (show CallsIn Fence.wide (n - 1) P _ _ _ _ from callsIn_wide.2 h).mono fun e w2 q => by cases e <;> exact q⟩
    | row row args => exact ⟨fun e => Bool.noConfusion e, rows_wide h⟩
    | _ => exact False.elim h
  | halt x w' =>
    cases x with
    | panic v => exact h
    | _ => exact False.elim h
theorem op_in (hd : ∀ c, o.op ≠ .defer c) (h : o.wp P a w K Q) : o.wpIn (wideR r) n P a w K Q := by
  refine ⟨fun _ _ => trivial, ?_⟩
  rw [Oper.semAt_eq _ _ _ hd]
  exact upon_in _ h
theorem list_in (hQ : ¬ LetsOut Q) : ∀ (l : List Oper), (∀ o ∈ l, ∀ c, o.op ≠ .defer c) → ∀ (a : Act) (w : World), wpList P ops Q l a w → wpListIn (wideR r) n P ops Q l a w
  | [], _, _, _, h => h
  | o :: l, hl, a, w, h => by
    unfold wpList at h
    unfold wpListIn
    by_cases hw : Region.wanted o (yielded ops a.tmps) = true
    · rw [if_pos hw] at h ⊢
      rcases h with h | h
      · exact Oper.wpIn_mono (fun a w h => list_in hQ l (fun o ho => hl o (List.mem_cons_of_mem _ ho)) a w h) (op_in (hl o List.mem_cons_self) h)
      · exact absurd h.2 hQ
    · rw [if_neg hw] at h ⊢
      exact ⟨fun _ _ => trivial, list_in hQ l (fun o ho => hl o (List.mem_cons_of_mem _ ho)) _ w h⟩
theorem opn_in (hQ : ¬ LetsOut Q) (hd : ∀ (i : Nat) (o : Oper), ops[i]? = some o → ∀ c, o.op ≠ .defer c) {i : Nat} {K' : Act → World → Prop} (hK : ∀ a w, K a w → K' a w) (h : wpOp P ops Q i K a w) : wpOpIn (wideR r) n P ops Q i K' a w := by
  unfold wpOp at h
  unfold wpOpIn
  cases ho : ops[i]? with
  | none => rw [ho] at h; exact hK _ _ h
  | some o =>
    rw [ho] at h
    by_cases hw : Region.wanted o (yielded ops a.tmps) = true
    · simp only [hw, if_true] at h ⊢
      rcases h with h | h
      · exact Oper.wpIn_mono hK (op_in (hd i o ho) h)
      · exact absurd h.2 hQ
    · simp only [hw] at h ⊢
      exact ⟨fun _ _ => trivial, hK _ _ h⟩
theorem any_in (hQ : ¬ LetsOut Q) (hd : ∀ (i : Nat) (o : Oper), ops[i]? = some o → ∀ c, o.op ≠ .defer c) {md : Region.Mode} : ∀ (fuel : Nat) (listed : Array Bool) (a : Act) (w : World), wpAny P md ops Q fuel listed a w → wpAnyIn (wideR r) n P md ops Q fuel listed a w
  | 0, _, _, _, h => h
  | fuel + 1, listed, a, w, h => ⟨h.1, fun i hi => opn_in hQ hd (fun a w h => any_in hQ hd fuel _ a w h) (h.2 i hi)⟩
end
section
variable {P : Program} {l n' : Nat} {Q : Exit → Act → World → Prop} {a : Act} {w : World} {L : List Oper} {id : Nat}
theorem wpIn_lit' (hQ : ¬ LetsOut Q) (hnd : noDefer L = true) (h : wpList P L.toArray Q L a w) : (Code.region id L.toArray false).wpIn (Fence.wide.inRound l) n' P Q a w :=
  wpIn_region_lit (list_in (r := some l) hQ L (noDefer_at hnd) a w h)
theorem wpIn_region_inv (hQ : ¬ LetsOut Q) (hnd : noDefer L = true) (hm : P.follows .mixedOrders = true) (Inv : Array Bool → Act → World → Prop)
    (hstart : Inv (Array.replicate L.toArray.size false) a w.drew)
    (hstep : ∀ listed a w i, listed.size = L.toArray.size → Inv listed a w → i ∈ Region.ready .any L.toArray listed → wpOp P L.toArray Q i (fun a' w' => Inv (listed.setIfInBounds i true) a' w') a w)
    (hend : ∀ listed a w, listed.size = L.toArray.size → Inv listed a w → Region.ready .any L.toArray listed = [] → Q .normal a w) : (Code.region id L.toArray true).wpIn (Fence.wide.inRound l) n' P Q a w :=
  wpIn_region_any hm (any_in (r := some l) hQ (fun i o ho => noDefer_at hnd o (by have := List.mem_of_getElem? (l := L) (i := i) (by simpa using ho); exact this)) _ _ _ _ (wpAny_inv Inv hstep hend _ _ _ _ (by simp) (by simp [List.count_replicate]) hstart))
end
/-! What is no cells. -/
def othR (W0 : World) : Res := ⟨false, fun g => ∃ o, W0.heap[g]? = some o ∧ o.isCells = false, fun w => KeepsOthers W0 w⟩
theorem othR_dep {W0 : World} : ∀ u u', Same (othR W0).fp u u' → (othR W0).F u → (othR W0).F u' := fun u u' hs h =>
  ⟨Nat.le_trans h.size hs.size, fun k o hk ho => hs k o ⟨o, hk, ho⟩ (h.same k o hk ho)⟩
def CellsF (w : World) (r : Res) : Prop := ∀ g, r.fp g → ∃ o, w.heap[g]? = some o ∧ o.isCells = true
def CellsA (w : World) : List (Nat × Res) → Prop
  | [] => True
  | p :: L => CellsF w p.2 ∧ CellsA w L
theorem CellsA.at {w : World} : ∀ {R : List (Nat × Res)} {i : Nat} {r : Res}, CellsA w R → look R i = some r → CellsF w r
  | [], _, _, _, h => by cases h
  | p :: L, i, r, h, e => by
    obtain ⟨k, x⟩ := p
    rw [look_cons] at e
    split at e
    · cases e; exact h.1
    · exact h.2.at e
section
variable {G : Option Nat} {w0 w : World} {R : List (Nat × Res)}
theorem Mx.oth (M : Mx G w0 w R) (h : CellsA w R) (i : Nat) : Mx G w0 w ((i, othR w) :: R) :=
  M.cons i _ (KeepsOthers.refl w) othR_dep (fun g ⟨o, hg, _⟩ => (Array.getElem?_eq_some_iff.1 hg).1) (fun e => by cases e) fun k s e _ _ g ⟨o, hg, ho⟩ hs => by
    obtain ⟨o', h1, h2⟩ := h.at e g hs
    rw [hg] at h1; cases h1; rw [ho] at h2; cases h2
theorem Mx.keeps (M : Mx G w0 w R) {i : Nat} {W : World} (h : look R i = some (othR W)) : KeepsOthers W w := M.at_ i _ h
theorem Mx.putObj (M : Mx G w0 w R) (h : CellsA w R) {l : Nat} (hl : w0.heap.size ≤ l) (hnc : NotCells w l) (o : Obj) : Mx G w0 (w.putObj l o) R := by
  have hg := grownBy_putObj' w l o
  have hr : ∀ g, (∃ o', w.heap[g]? = some o' ∧ o'.isCells = true) → g ≠ l := fun g ⟨o', h1, h2⟩ e => by
    subst e
    rw [hnc o' h1] at h2; cases h2
  refine ⟨⟨hg.os.trans M.grown.os, hg.tape.trans M.grown.tape, hg.output.trans M.grown.output, Nat.le_trans M.grown.size hg.size, fun k hk hn => ?_⟩, fun i r e => ?_, M.dep, fun i r e g hgp => Nat.lt_of_lt_of_le (M.lt i r e g hgp) hg.size, M.own, M.dis⟩
  · exact (World.putObj_heap_other (by omega)).trans (M.grown.block k hk hn)
  · exact M.dep i r e w _ (Same.of_grown hg fun g hgp e2 => hr g (h.at e g hgp) (Option.some.inj e2).symm) (M.at_ i r e)
end
theorem cell_cells {w : World} {g k : Nat} {v : Value} (h : w.cell? ⟨g, k, none⟩ = some v) : ∃ o, w.heap[g]? = some o ∧ o.isCells = true := by
  unfold World.cell? at h
  cases ho : w.heap[g]? with
  | none => rw [ho] at h; cases h
  | some o => cases o <;> first | exact ⟨_, rfl, rfl⟩ | (rw [ho] at h; cases h)
theorem zha {w : World} {g : Nat} {t : TypeId} {c : Array Value} (h : w.heap[g]? = some (.cells c t (0, 0))) : CellsF w (blkR g t c) := fun b hb => by cases hb; exact ⟨_, h, rfl⟩
theorem z5 {w : World} {l : List UInt8} {v : Value} (h : IsB w l v) : CellsF w (bytR l v) := fun g hg => by
  obtain ⟨A, c, rfl, h1, h2, h3, h4⟩ := h
  obtain ⟨o, s, n, c', e, hn⟩ := hg
  injection e with e1 e2 e3
  subst e1 e2
  obtain ⟨b, o', e4, hb, hc⟩ := h4.at hn
  injection e4 with e4
  injection e4 with e5 e6 e7
  subst e5
  obtain ⟨x, hx⟩ : ∃ x, l[0]? = some x := ⟨_, List.getElem?_eq_getElem hn⟩
  exact cell_cells (hc 0 x hx)
theorem cells_ownR {w : World} {l : List UInt8} {v : Value} (h : Byt w 0 v l) : CellsF w (ownR l v) := fun g hg => by
  have hg' : v.ownBlock = some g := hg
  rcases h.2 with ⟨e, _⟩ | ⟨b, c, cur, e, _, h1, _⟩
  · rw [e] at hg'; cases hg'
  · rw [e] at hg'; cases hg'; exact ⟨_, h1, rfl⟩
section
variable {P : Program} {ops : Array Oper} {Q : Exit → Act → World → Prop} {a : Act} {w w' : World} {rest : List Oper} {o : Oper} {n m : Nat} {V : List (Nat × Value)} {r : Option Nat}
theorem wi_run (hnd : ∀ c, o.op ≠ .defer c) (hw : Region.wanted o (yielded ops a.tmps) = true) {d : Nat} (hd : o.dst = some d) (F : Fx n a V ds) (hn : Nat.blt d n = true) (v : Value) (hr : (execOp a.eval o).run P w = .ok (.value v) w')
    (h : ∀ a', Fx n a' ((d, v) :: V) ds → wpListIn (wideR r) m P ops Q rest a' w') : wpListIn (wideR r) m P ops Q (o :: rest) a w := by
  unfold wpListIn
  rw [if_pos hw]
  refine op_in hnd ?_
  unfold Oper.wp
  rw [hr]
  have := F.put d v hn
  rw [← hd] at this
  exact h _ this
theorem wi_skip (hw : Region.wanted o (yielded ops a.tmps) = false) {d : Nat} (hd : o.dst = some d) (F : Fx n a V ds) (hn : Nat.blt d n = true)
    (h : ∀ a', Fx n a' ((d, undef) :: V) ds → wpListIn (wideR r) m P ops Q rest a' w) : wpListIn (wideR r) m P ops Q (o :: rest) a w := by
  unfold wpListIn
  rw [if_neg (by rw [hw]; exact Bool.false_ne_true)]
  have := F.put d undef hn
  rw [← hd] at this
  exact ⟨fun _ _ => trivial, h _ this⟩
theorem wi_yield (hw : Region.wanted o (yielded ops a.tmps) = true) {d : Nat} (hd : o.dst = some d) (F : Fx n a V ds) (hn : Nat.blt d n = true) {args : Array Operand} {ts : Array TypeId} {t : Tmp} (ho : o.op = .call { callee := .value (.tmp t), args := args, argTypes := ts }) {l : Nat} (hf : a.eval (.tmp t) = .func (.yield l) #[] #[])
    (vals : Array Value) (hv : args.map a.eval = vals) {v : Value} {Z : World → Prop} (hy : YieldAt Fence.wide (m - 1) P l vals w fun e w' => e = .returned v ∧ Z w')
    (h : ∀ w' a', Z w' → Fx n a' ((d, v) :: V) ds → wpListIn Fence.wide m P ops Q rest a' w') : wpListIn Fence.wide m P ops Q (o :: rest) a w := by
  subst hv
  obtain ⟨fn, tmps, assign, body, h1, h2⟩ := hy
  unfold wpListIn
  rw [if_pos hw]
  refine ⟨fun _ _ => trivial, ?_⟩
  have e : (o.semAt Fence.wide.round a.eval).run P w = .ok (.round l fn tmps assign body) w := by
    show (execOp a.eval o).run P w = _
    unfold execOp
    simp only [ho, resolve, hf]
    simp [invoke, go_sem, h1]
  rw [e]
  refine ⟨fun e => Bool.noConfusion e, RoundIn.mono h2 fun e w' ⟨he, hz⟩ => ?_⟩
  subst he
  have := F.put d v hn
  rw [← hd] at this
  exact h _ _ hz this
theorem calls_fxM {f : FuncId} {fn : Func} {c : Code} {args : List Value} {w : World} {R : Ending → World → Prop} (n : Nat) (hf : P.funcs[f]? = some fn) (hb : fn.body = some c) (hn : fn.ntmps = n) (hl : Nat.ble args.length n = true)
  (h : ∀ a, Fx n a (file 0 args) → c.wp P (bodyPostM Fence.wide 3 P fn R) a w) : Calls P f args.toArray w R := by
 have hl' : args.length ≤ n := Nat.le_of_ble_eq_true hl
 refine (callsIn_wide (n := 3)).1 (callsIn_of_wp_marks hf hb trivial (wpIn_wide.2 (h _ ?_)) rfl)
 refine Fx.zero _ (by simp [hn]; omega) fun t v e => ?_
 have := (look_file args 0 t v e).2
 simpa using this
theorem bodyM_ret0 {fn : Func} {R : Ending → World → Prop} {a : Act} {v : Value} (hr : (results fn a.tmps).run P w = .ok v w) (hd : a.defers = []) (hR : R (.returned v) w) : bodyPostM Fence.wide 3 P fn R .ret a w := by
  show LeavesInM _ _ _ _ _ _ a.defers _ _
  rw [hd]
  exact ⟨v, hr, hR⟩
theorem zfc {fn : Func} {R : Ending → World → Prop} {a : Act} {v : Value} {D : Nat} (hd : a.defers = [{ target := .collected D, args := #[] }]) (hD : w.heap[D]? = some (.deferred (some [])))
    (hr : (results fn a.tmps).run P (w.putObj D (.deferred none)) = .ok v (w.putObj D (.deferred none))) (hR : R (.returned v) (w.putObj D (.deferred none))) : bodyPostM Fence.wide 3 P fn R .ret a w := by
  show LeavesInM _ _ _ _ _ _ a.defers _ _
  rw [hd]
  exact ⟨by simp, .inl ⟨_, _, rfl, run_takeDeferred hD, ⟨v, hr, hR⟩⟩⟩
end
theorem zmb {v : Value} {A : Option Addr} {n c : Nat} (h : v = .slice A n c) : (#[v]).all (·.oneCell') = true := by subst h; simp [Value.oneCell']
theorem one_str (s : ByteArray) : (#[Value.string s]).all (·.oneCell') = true := by simp [Value.oneCell']
theorem zeb (k : IntKind) (z : Int) : (#[Value.int k z]).all (·.oneCell') = true := by simp [Value.oneCell']
def objR (D : Nat) (o : Obj) : Res := ⟨false, fun g => g = D, fun w => w.heap[D]? = some o⟩
theorem Mx.obj {G : Option Nat} {w0 w : World} {R : List (Nat × Res)} (M : Mx G w0 w R) (h : CellsA w R) (i D : Nat) (o : Obj) (hD : w.heap[D]? = some o) (ho : o.isCells = false) : Mx G w0 w ((i, objR D o) :: R) :=
  M.cons i _ hD (fun u u' hs h => hs D o rfl h) (fun g hg => by cases hg; exact (Array.getElem?_eq_some_iff.1 hD).1) (fun e => by cases e) fun k s e _ _ g hg hs => by
    cases hg
    obtain ⟨o', h1, h2⟩ := h.at e D hs
    rw [hD] at h1; cases h1; rw [ho] at h2; cases h2
theorem Mx.anObj {G : Option Nat} {w0 w : World} {R : List (Nat × Res)} (M : Mx G w0 w R) {i D : Nat} {o : Obj} (h : look R i = some (objR D o)) : w.heap[D]? = some o := M.at_ i _ h
theorem RecAt.below {l D : Nat} {o1 o2 : Obj} {W W' : World} (h : RecAt l D o1 o2 W) (hb : Below W.heap.size W W') : RecAt l D o1 o2 W' :=
  ⟨(hb.block l (Array.getElem?_eq_some_iff.1 h.1).1).trans h.1, (hb.block D (Array.getElem?_eq_some_iff.1 h.2.1).1).trans h.2.1, h.2.2⟩
end Go.Proofs.Ytlbkogdmojlpmaa
namespace Go.Proofs.Ytlbkogdmojlpmaa
open Go.ChangeShapes Go.WideShapes Go.ChangeAt Go.RowKit
theorem there_any (m : MsgN) (V : MsgV) (w : World) :
  Calls Try.prog 44 #[.agg (msgA m V)] w fun e w' => ∃ g, e = .returned (.func (.func 75) #[] #[.pointer (some ⟨g, 0, none⟩)]) ∧ w.heap.size ≤ g ∧ w'.heap[g]? = some (.cells (msgA m V) 29 (0, 0)) ∧ Below w.heap.size w w' := by
 refine zg (args := [.agg (msgA m V)]) 4 Try.func44 rfl rfl rfl ?_
 intro fa F
 have M := Mx.start w
 refine zT fun _ hK1 => ?_
 refine zf (za rfl) rfl F rfl M 0 (t := 29) (c := msgA m V) (by unfold execOp; simp only [(F.get (t := 0) rfl)]; kernel_rfl) ?_
 intro g2 a2 w2 F2 M2
 clear F M
 refine rm rfl F2 fun _ F3 => ?_
 refine hK1 _ _ (zS fun _ hK4 => ?_)
 refine zR ?_
 refine rn rfl rfl F3 rfl (.func (.func 75) #[] #[.pointer (some ⟨g2, 0, none⟩)]) (by unfold execOp; simp only [List.map_toArray, List.map_cons, List.map_nil, (F3.get (t := 1) rfl)]; kernel_rfl) fun _ F5 => ?_
 refine rm rfl F5 fun _ F6 => ?_
 refine hK4 _ _ (wp_ret ?_)
 try simp only [Exit.then, Exit.inBlock, Exit.jump]
 exact bodyPost_ret (res1 rfl (F6.get rfl)) F6.defers ⟨g2, rfl, (M2.own 0 _ rfl rfl g2 rfl).resolve_right (fun e => by cases e), M2.blk (k := 0) rfl, M2.below⟩
theorem there1_any (m : MsgN) (V : MsgV) (ho : MsgOk m) (C : Nat → World → Prop) (B l D : Nat) (o1 o2 : Obj)
  (hC : ∀ k W, C k W → MsgIs W m V ∧ W.heap[B]? = some (.cells (msgA m V) 29 (0, 0)))
  (hskip : ∀ k W W', 1 ≤ k → k ≤ 11 → zu m k = [] → C k W → Below W.heap.size W W' → C (k + 1) W')
  (hyield : ∀ (k : Nat) (v : Value) (W W' : World), 1 ≤ k → k ≤ 11 → zu m k ≠ [] → C k W → Below W.heap.size W W' → IsB W' (zu m k) v → (∀ g, bfp v g → W.heap.size ≤ g ∨ z6a V g) → RecAt l D o1 o2 W' →
   YieldAt Fence.wide 1 Try.prog l #[.int .i64 (k : Int), v] W' fun e W2 => e = .returned (.bool true) ∧ RecAt l D o1 o2 W2 ∧ C (k + 1) W2)
  (w : World) (h0 : C 1 w) (hr : RecAt l D o1 o2 w) :
  CallsIn Fence.wide 2 Try.prog 75 #[.func (.yield l) #[] #[], .pointer (some ⟨B, 0, none⟩)] w fun e W' => (∃ v, e = .returned v) ∧ RecAt l D o1 o2 W' ∧ C 12 W' := by
 refine callsIn_wide.2 ?_
 refine zg (args := [.func (.yield l) #[] #[], .pointer (some ⟨B, 0, none⟩)]) 22 Try.func75 rfl rfl rfl ?_
 intro fa F
 refine zT fun _ hK1 => ?_
 refine rm rfl F fun _ F2 => ?_
 refine hK1 _ _ (wp_block ?_)
 refine wp_loop_ghost (fun k a w => ∃ x : Nat, k = 12 - x ∧ (1 ≤ x ∧ x ≤ 12) ∧ Fx 22 a [(0, .func (.yield l) #[] #[]), (1, .pointer (some ⟨B, 0, none⟩)), (3, .int .i64 (x : Int))] ∧ C x w ∧ RecAt l D o1 o2 w) 11 ⟨1, rfl, ⟨by omega, by omega⟩, F2.sub ⟨rfl, rfl, rfl, trivial⟩, h0, hr⟩ ?_
 rintro kk la lw ⟨x, ek, hx, LF, hc, hre⟩
 replace LF : Fx 22 la [(0, .func (.yield l) #[] #[]), (1, .pointer (some ⟨B, 0, none⟩)), (3, .int .i64 (x : Int))] := LF
 have LM := (Mx.start lw).argO 0 (hC x lw hc).2 (fun b e => by cases e)
 by_cases hle : x ≤ 11
 rotate_left
 ·obtain rfl : x = 12 := by omega
  refine zS fun _ hK3 => zS fun _ hK4 => ?_
  refine zR ?_
  refine rm rfl LF fun _ F5 => ?_
  refine rn rfl rfl F5 rfl (.bool false) (z8 _ _ _ _ rfl (F5.get rfl) rfl (decide_eq_false (by decide))) fun _ F6 => ?_
  refine hK4 _ _ (wp_cond_false (F6.get rfl) ?_)
  refine wp_exit ?_
  simp only [Exit.then, Exit.inBlock, ↓reduceIte, Nat.reduceEqDiff]
  try simp only [Exit.then, Exit.inBlock, Exit.jump]
  exact bodyPost_end (res0 rfl) F6.defers ⟨⟨_, rfl⟩, hre, hc⟩
 by_cases hnil : zu m x = []
 ·refine zS fun _ hK3 => ?_
  refine zT fun _ hK4 => ?_
  refine rm rfl LF fun _ F5 => ?_
  refine rn rfl rfl F5 rfl (.bool true) (z8 _ _ _ _ rfl (F5.get rfl) rfl (decide_eq_true (show (x : Int) ≤ 11 by omega))) fun _ F6 => ?_
  refine hK4 _ _ (wp_cond_true (F6.get rfl) ?_)
  refine wp_skip ?_
  refine hK3 _ _ (zS fun _ hK7 => ?_)
  refine wp_block ?_
  refine zT fun _ hK8 => ?_
  refine rn rfl rfl F6 rfl _ (zja _ _ rfl (F6.get rfl) (LM.roB (k := 0) rfl) (msgA m V) (zma rfl) Try.underlying29 rfl (by kernel_rfl)) fun _ F9 => ?_
  refine rm rfl F9 fun _ F10 => ?_
  refine zd (za rfl) rfl F10 rfl rfl (zE Try.func76 rfl) #[.agg (msgA m V), .int .i64 (x : Int)] (zea (F10.get rfl) (F10.get rfl)) (content_any m V ho x hx.1 hle lw (hC x lw hc).1) ?_
  rintro v11 w11 a11 ⟨e11, loc11, b11⟩ F11
  obtain ⟨A11, c11, rfl⟩ := e11.shape
  refine rm rfl F11 fun _ F12 => ?_
  refine hK8 _ _ (zS fun _ hK13 => ?_)
  refine (wpIn_wide (n := 2)).1 (wpIn_region_lit ?_)
  refine wi_run (r := none) (fun c e => by cases e) (w' := w11) (za rfl) rfl F12 rfl (.slice A11 (zu m x).length c11) (zua _ (.inl rfl) (F12.get (t := 4) rfl)) fun _ F14 => ?_
  refine wi_run (r := none) (fun c e => by cases e) (w' := w11) (za rfl) rfl F14 rfl (.int .i64 ((zu m x).length : Int)) (run_ln _ _ rfl (F14.get (t := 12) rfl) Try.underlying22) fun _ F15 => ?_
  refine wi_run (r := none) (fun c e => by cases e) (w' := w11) (za rfl) rfl F15 rfl (.bool false) (zya _ _ _ _ rfl (F15.get (t := 13) rfl) rfl (decide_eq_false (by rw [hnil]; decide))) fun _ F16 => ?_
  refine wi_run (r := none) (fun c e => by cases e) (w' := w11) (za rfl) rfl F16 rfl (.bool false) (zua _ (.inl rfl) (F16.get (t := 14) rfl)) fun _ F17 => ?_
  refine wi_skip (r := none) (wanted_no rfl rfl rfl (F17.get (t := 15) rfl)) rfl F17 rfl fun _ F18 => ?_
  refine wi_skip (r := none) (wanted_no rfl rfl rfl (F18.get (t := 15) rfl)) rfl F18 rfl fun _ F19 => ?_
  refine wi_skip (r := none) (wanted_no rfl rfl rfl (F19.get (t := 15) rfl)) rfl F19 rfl fun _ F20 => ?_
  refine wi_skip (r := none) (wanted_no rfl rfl rfl (F20.get (t := 15) rfl)) rfl F20 rfl fun _ F21 => ?_
  refine wi_skip (r := none) (wanted_no rfl rfl rfl (F21.get (t := 15) rfl)) rfl F21 rfl fun _ F22 => ?_
  refine wi_run (r := none) (fun c e => by cases e) (w' := w11) (za rfl) rfl F22 rfl (.bool false) (zqa rfl (F22.get (t := 15) rfl) rfl) fun _ F23 => ?_
  refine hK13 _ _ (wp_cond_false (F23.get rfl) ?_)
  refine wp_skip ?_
  refine hK7 _ _ (zR ?_)
  refine rm rfl F23 fun _ F24 => ?_
  refine rn rfl rfl F24 rfl (.int .i64 ((x + 1 : Nat) : Int)) (zz _ _ _ _ rfl (F24.get rfl) rfl (by omega) (by omega)) fun _ F25 => ?_
  refine rm rfl F25 fun _ F26 => ?_
  exact ⟨11 - x, by omega, x + 1, by omega, ⟨by omega, by omega⟩, F26.sub ⟨rfl, rfl, rfl, trivial⟩, (hskip x _ _ hx.1 hle hnil hc b11), (hre.below b11)⟩
 refine zS fun _ hK27 => zS fun _ hK28 => ?_
 refine zR ?_
 refine rm rfl LF fun _ F29 => ?_
 refine rn rfl rfl F29 rfl (.bool true) (z8 _ _ _ _ rfl (F29.get rfl) rfl (decide_eq_true (show (x : Int) ≤ 11 by omega))) fun _ F30 => ?_
 refine hK28 _ _ (wp_cond_true (F30.get rfl) ?_)
 refine wp_skip ?_
 refine hK27 _ _ (zS fun _ hK31 => ?_)
 refine wp_block ?_
 refine zT fun _ hK32 => ?_
 refine rn rfl rfl F30 rfl _ (zja _ _ rfl (F30.get rfl) (LM.roB (k := 0) rfl) (msgA m V) (zma rfl) Try.underlying29 rfl (by kernel_rfl)) fun _ F33 => ?_
 refine rm rfl F33 fun _ F34 => ?_
 refine zd (za rfl) rfl F34 rfl rfl (zE Try.func76 rfl) #[.agg (msgA m V), .int .i64 (x : Int)] (zea (F34.get rfl) (F34.get rfl)) (content_any m V ho x hx.1 hle lw (hC x lw hc).1) ?_
 rintro v35 w35 a35 ⟨e35, loc35, b35⟩ F35
 obtain ⟨A35, c35, rfl⟩ := e35.shape
 refine rm rfl F35 fun _ F36 => ?_
 refine hK32 _ _ (zS fun _ hK37 => ?_)
 refine (wpIn_wide (n := 2)).1 (wpIn_region_lit ?_)
 refine wi_run (r := none) (fun c e => by cases e) (w' := w35) (za rfl) rfl F36 rfl (.slice A35 (zu m x).length c35) (zua _ (.inl rfl) (F36.get (t := 4) rfl)) fun _ F38 => ?_
 refine wi_run (r := none) (fun c e => by cases e) (w' := w35) (za rfl) rfl F38 rfl (.int .i64 ((zu m x).length : Int)) (run_ln _ _ rfl (F38.get (t := 12) rfl) Try.underlying22) fun _ F39 => ?_
 refine wi_run (r := none) (fun c e => by cases e) (w' := w35) (za rfl) rfl F39 rfl (.bool true) (zya _ _ _ _ rfl (F39.get (t := 13) rfl) rfl (decide_eq_true (by have := List.length_pos_iff.2 hnil; omega))) fun _ F40 => ?_
 refine wi_run (r := none) (fun c e => by cases e) (w' := w35) (za rfl) rfl F40 rfl (.bool true) (zua _ (.inl rfl) (F40.get (t := 14) rfl)) fun _ F41 => ?_
 refine wi_run (r := none) (fun c e => by cases e) (w' := w35) (zb rfl rfl rfl (F41.get (t := 15) rfl)) rfl F41 rfl (.func (.yield l) #[] #[]) (zua _ (.inl rfl) (F41.get (t := 0) rfl)) fun _ F42 => ?_
 refine wi_run (r := none) (fun c e => by cases e) (w' := w35) (zb rfl rfl rfl (F42.get (t := 15) rfl)) rfl F42 rfl (.int .i64 (x : Int)) (zua _ (.inl rfl) (F42.get (t := 3) rfl)) fun _ F43 => ?_
 refine wi_run (r := none) (fun c e => by cases e) (w' := w35) (zb rfl rfl rfl (F43.get (t := 15) rfl)) rfl F43 rfl (.slice A35 (zu m x).length c35) (zua _ (.inl rfl) (F43.get (t := 4) rfl)) fun _ F44 => ?_
 refine wi_yield (zb rfl rfl rfl (F44.get (t := 15) rfl)) rfl F44 rfl rfl (F44.get (t := 16) rfl) #[.int .i64 (x : Int), .slice A35 (zu m x).length c35] (zea (F44.get (t := 17) rfl) (F44.get (t := 18) rfl)) (hyield x _ _ _ hx.1 hle hnil hc b35 e35 loc35 (hre.below b35)) ?_
 rintro w45 a45 ⟨re45, hc45⟩ F45
 refine wi_run (r := none) (fun c e => by cases e) (w' := w45) (zb rfl rfl rfl (F45.get (t := 15) rfl)) rfl F45 rfl (.bool false) (run_not _ _ rfl (F45.get (t := 19) rfl)) fun _ F46 => ?_
 refine wi_run (r := none) (fun c e => by cases e) (w' := w45) (za rfl) rfl F46 rfl (.bool false) (z7b rfl (F46.get (t := 15) rfl) (F46.get (t := 20) rfl)) fun _ F47 => ?_
 refine hK37 _ _ (wp_cond_false (F47.get rfl) ?_)
 refine wp_skip ?_
 refine hK31 _ _ (zR ?_)
 refine rm rfl F47 fun _ F48 => ?_
 refine rn rfl rfl F48 rfl (.int .i64 ((x + 1 : Nat) : Int)) (zz _ _ _ _ rfl (F48.get rfl) rfl (by omega) (by omega)) fun _ F49 => ?_
 refine rm rfl F49 fun _ F50 => ?_
 exact ⟨11 - x, by omega, x + 1, by omega, ⟨by omega, by omega⟩, F50.sub ⟨rfl, rfl, rfl, trivial⟩, hc45, re45⟩
end Go.Proofs.Ytlbkogdmojlpmaa
namespace Go.Proofs.Ytlbkogdmojlpmaa
open Go.ChangeShapes Go.WideShapes Go.ChangeAt Go.RowKit
def NameOk (s : ByteArray) : Prop := 0 < s.size ∧ s.size ≤ 16 ∧ ∀ i (h : i < s.size), 33 ≤ ((s[i]'h).toNat : Int) ∧ ((s[i]'h).toNat : Int) ≤ 126
theorem isname_ok (s : ByteArray) (hs : NameOk s) (w : World) :
    Calls Try.prog 78 #[.string s] w fun e w' => e = .returned (.bool true) ∧ Below w.heap.size w w' := by
  obtain ⟨h1, h2, h3⟩ := hs
  have H3 := hid h3
  clear h3
  have d1 : ((s.size : Int) == 0) = false := beq_eq_false_iff_ne.2 (by omega)
  have d2 : ¬ (16 : Int) < (s.size : Int) := by omega
  go_enter Try.func78, Try.ntmps78
  go_wp2
  go_loopw [14] (fun i wr => ∃ k : Nat, k ≤ s.size ∧ i = .int .i64 (k : Int) ∧ ∃ d, wr = w.drewN d) (fun i _ => 20 - (intOf i).toNat)
  case atStart => exact ⟨0, by omega, rfl, 0, rfl⟩
  case round =>
    obtain ⟨k, hk, rfl, d, rfl⟩ := hrel
    by_cases hlt : k < s.size
    · obtain ⟨q1, q2⟩ := H3.out k hlt
      have q3 : (s[k]'hlt).toNat < 256 := (s[k]'hlt).toNat_lt
      go_wp2
      go_roundw
      case rel => exact ⟨k + 1, by omega, by go_num, _, rfl⟩
      case measure => simp [intOf]; omega
    · obtain rfl : k = s.size := by omega
      go_wp2
      go_ret
      exact ⟨rfl, below_drewN (Below.refl _ _) _⟩
def NmB (s : ByteArray) (k : Nat) : Prop := ∃ h : k < s.size, 33 ≤ ((s[k]'h).toNat : Int) ∧ ((s[k]'h).toNat : Int) ≤ 126
theorem isname_no (s : ByteArray) (hs : s.size ≤ 1000) (hn : ¬ NameOk s) (w : World) :
    Calls Try.prog 78 #[.string s] w fun e w' => e = .returned (.bool false) ∧ Below w.heap.size w w' := by
  by_cases h0 : s.size = 0
  · have d1 : ((s.size : Int) == 0) = true := beq_iff_eq.2 (by omega)
    have hn := hid hn
    go_enter Try.func78, Try.ntmps78
    go_wp2
    go_ret
    exact ⟨rfl, Below.refl _ _⟩
  have d1 : ((s.size : Int) == 0) = false := beq_eq_false_iff_ne.2 (by omega)
  by_cases h16 : 16 < s.size
  · have d2 : (16 : Int) < (s.size : Int) := by omega
    have hn := hid hn
    have h0 := hid h0
    go_enter Try.func78, Try.ntmps78
    go_wp2
    go_ret
    exact ⟨rfl, Below.refl _ _⟩
  have d2 : ¬ (16 : Int) < (s.size : Int) := by omega
  have H3 : Hid (∃ k, k < s.size ∧ ¬ NmB s k) := hid (by
    refine Classical.byContradiction fun h => hn ⟨by omega, by omega, fun i hi => ?_⟩
    have : NmB s i := Classical.byContradiction fun h2 => h ⟨i, hi, h2⟩
    exact this.2)
  have h0 := hid h0
  clear hn
  go_enter Try.func78, Try.ntmps78
  go_wp2
  go_loopw [14] (fun i wr => ∃ k : Nat, k ≤ s.size ∧ i = .int .i64 (k : Int) ∧ Hid (∀ j, j < k → NmB s j) ∧ ∃ d, wr = w.drewN d) (fun i _ => 20 - (intOf i).toNat)
  case atStart => exact ⟨0, by omega, rfl, hid (fun j hj => by omega), 0, rfl⟩
  case round =>
    obtain ⟨k, hk, rfl, HJ, d, rfl⟩ := hrel
    by_cases hlt : k < s.size
    · have q3 : (s[k]'hlt).toNat < 256 := (s[k]'hlt).toNat_lt
      by_cases hok : NmB s k
      · obtain ⟨_, q1, q2⟩ := id hok
        have HK := hid hok
        clear hok
        go_wp2
        go_roundw
        case rel => exact ⟨k + 1, by omega, by go_num, hid (fun j hj => by rcases Nat.lt_succ_iff_lt_or_eq.1 hj with h | rfl; exact HJ.out j h; exact HK.out), _, rfl⟩
        case measure => simp [intOf]; omega
      · have hc : ((s[k]'hlt).toNat : Int) < 33 ∨ (33 ≤ ((s[k]'hlt).toNat : Int) ∧ 126 < ((s[k]'hlt).toNat : Int)) := by
          have : ¬ (33 ≤ ((s[k]'hlt).toNat : Int) ∧ ((s[k]'hlt).toNat : Int) ≤ 126) := fun h => hok ⟨hlt, h⟩
          omega
        clear hok
        rcases hc with q1 | ⟨q1, q2⟩
        all_goals
          go_wp2
          go_ret
          exact ⟨rfl, below_drewN (Below.refl _ _) _⟩
    · exfalso
      obtain ⟨i, hi, h⟩ := H3.out
      exact h (HJ.out i (by omega))
theorem rname_ok (s : ByteArray) (hs : NameOk s) (w : World) :
    Calls Try.prog 59 #[.string s] w fun e w' => e = .returned (.bool true) ∧ Below w.heap.size w w' := by
  obtain ⟨h1, h2, h3⟩ := hs
  have H3 := hid h3
  clear h3
  go_enter Try.func59, Try.ntmps59
  go_wp2
  go_loopw [3] (fun i wr => ∃ k : Nat, k ≤ s.size ∧ i = .int .i64 (k : Int) ∧ ∃ d, wr = w.drewN d) (fun i _ => 20 - (intOf i).toNat)
  case atStart => exact ⟨0, by omega, rfl, 0, rfl⟩
  case round =>
    obtain ⟨k, hk, rfl, d, rfl⟩ := hrel
    by_cases hlt : k < s.size
    · obtain ⟨q1, q2⟩ := H3.out k hlt
      have q3 : (s[k]'hlt).toNat < 256 := (s[k]'hlt).toNat_lt
      go_wp2
      go_roundw
      case rel => exact ⟨k + 1, by omega, by go_num, _, rfl⟩
      case measure => simp [intOf]; omega
    · obtain rfl : k = s.size := by omega
      have d0 : (0 : Int) < (s.size : Int) := by omega
      have d2 : (s.size : Int) ≤ (16 : Int) := by omega
      go_wp2
      go_ret
      exact ⟨rfl, below_drewN (Below.refl _ _) _⟩
theorem rname_no (s : ByteArray) (hs : s.size ≤ 1000) (hn : ¬ NameOk s) (w : World) :
    Calls Try.prog 59 #[.string s] w fun e w' => e = .returned (.bool false) ∧ Below w.heap.size w w' := by
  have hn := hid hn
  go_enter Try.func59, Try.ntmps59
  go_wp2
  go_loopw [3] (fun i wr => ∃ k : Nat, k ≤ s.size ∧ i = .int .i64 (k : Int) ∧ Hid (∀ j, j < k → NmB s j) ∧ ∃ d, wr = w.drewN d) (fun i _ => 1001 - (intOf i).toNat)
  case atStart => exact ⟨0, by omega, rfl, hid (fun j hj => by omega), 0, rfl⟩
  case round =>
    obtain ⟨k, hk, rfl, HJ, d, rfl⟩ := hrel
    by_cases hlt : k < s.size
    · have q3 : (s[k]'hlt).toNat < 256 := (s[k]'hlt).toNat_lt
      by_cases hok : NmB s k
      · obtain ⟨_, q1, q2⟩ := id hok
        have HK := hid hok
        clear hok
        go_wp2
        go_roundw
        case rel => exact ⟨k + 1, by omega, by go_num, hid (fun j hj => by rcases Nat.lt_succ_iff_lt_or_eq.1 hj with h | rfl; exact HJ.out j h; exact HK.out), _, rfl⟩
        case measure => simp [intOf]; omega
      · have hc : ((s[k]'hlt).toNat : Int) < 33 ∨ (33 ≤ ((s[k]'hlt).toNat : Int) ∧ 126 < ((s[k]'hlt).toNat : Int)) := by
          have : ¬ (33 ≤ ((s[k]'hlt).toNat : Int) ∧ ((s[k]'hlt).toNat : Int) ≤ 126) := fun h => hok ⟨hlt, h⟩
          omega
        clear hok
        rcases hc with q1 | ⟨q1, q2⟩
        all_goals
          go_wp2
          go_ret
          exact ⟨rfl, below_drewN (Below.refl _ _) _⟩
    · obtain rfl : k = s.size := by omega
      have hc : s.size = 0 ∨ (0 < s.size ∧ 16 < s.size) := by
        rcases Nat.eq_zero_or_pos s.size with h | h
        · exact .inl h
        · refine .inr ⟨h, Nat.lt_of_not_le fun h2 => hn.out ⟨h, h2, fun i hi => (HJ.out i hi).2⟩⟩
      rcases hc with h0 | ⟨h0, h1⟩
      · have d0 : ¬ (0 : Int) < (s.size : Int) := by omega
        go_wp2
        go_ret
        exact ⟨rfl, below_drewN (Below.refl _ _) _⟩
      · have d0 : (0 : Int) < (s.size : Int) := by omega
        have d2 : ¬ (s.size : Int) ≤ (16 : Int) := by omega
        go_wp2
        go_ret
        exact ⟨rfl, below_drewN (Below.refl _ _) _⟩
end Go.Proofs.Ytlbkogdmojlpmaa
