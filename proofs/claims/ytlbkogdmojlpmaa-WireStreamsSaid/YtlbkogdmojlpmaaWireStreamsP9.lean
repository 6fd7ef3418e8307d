/- What WireStreams stands on, part 9. -/
import Derived.Test.YtlbkogdmojlpmaaWireStreamsP1
import Derived.Test.YtlbkogdmojlpmaaWireStreamsP2
import Derived.Test.YtlbkogdmojlpmaaWireStreamsP3
import Derived.Test.YtlbkogdmojlpmaaWireStreamsP4
import Derived.Test.YtlbkogdmojlpmaaWireStreamsP5
import Derived.Test.YtlbkogdmojlpmaaWireStreamsP6
import Derived.Test.YtlbkogdmojlpmaaWireStreamsP7
import Derived.Test.YtlbkogdmojlpmaaWireStreamsP8
set_option maxRecDepth 100000
set_option maxHeartbeats 8000000
set_option linter.unusedVariables false
set_option linter.unusedSimpArgs false
namespace Go.Proofs.Ytlbkogdmojlpmaa
open Go.ChangeShapes Go.WideShapes Go.ChangeAt Go.RowKit
theorem rfourN_any (a : Nat) (w : World) :
  Calls Try.prog 65 #[numV a] w fun e w' => ∃ v, e = .returned v ∧ IsB w' (fourL a) v ∧ (∀ g, bfp v g → w.heap.size ≤ g) ∧ Below w.heap.size w w' := by
 refine zg (args := [numV a]) 6 Try.func65 rfl rfl rfl ?_
 intro fa F
 have M := Mx.start w
 refine zT fun _ hK1 => ?_
 refine zf (za rfl) rfl F rfl M 0 (t := 27) (c := numA a) (by unfold execOp; simp only [(F.get (t := 0) rfl)]; kernel_rfl) ?_
 intro g2 a2 w2 F2 M2
 clear F M
 refine rm rfl F2 fun _ F3 => ?_
 refine hK1 _ _ (zS fun _ hK4 => ?_)
 refine zR ?_
 refine rn rfl rfl F3 rfl (numV a) (zja _ _ rfl (F3.get rfl) (M2.blk (k := 0) rfl) (numA a) (zma rfl) Try.underlying27 rfl z7) fun _ F5 => ?_
 refine zd (za rfl) rfl F5 rfl rfl (zE Try.func86 rfl) #[numV a] (zp (F5.get rfl)) (rbytes_own a w2) ?_
 rintro v6 w6 a6 h6 F6
 have M6 := M2.newO h6.2 1 h6.1
 clear M2 h6
 obtain ⟨A6, c6, rfl⟩ := (M6.isO (k := 1) rfl).shape
 refine z9a (za rfl) rfl F6 rfl (y_slFrom _ _ rfl (F6.get rfl) (M6.isO (k := 1) rfl) rfl (i := 28) rfl (by simp [z1a])) ?_
 intro v7 a7 h7 F7
 have og8 := M6.owns (k := 1) rfl
 have M8 := M6.tame (k := 1) rfl
 clear M6
 have M7 := M8.partB 2 (k := 1) rfl h7.1 h7.2
 clear M8
 obtain ⟨A7, c7, rfl⟩ := (M7.isb (k := 2) rfl).shape
 refine rm rfl F7 fun _ F9 => ?_
 refine hK4 _ _ (wp_ret ?_)
 try simp only [Exit.then, Exit.inBlock, Exit.jump]
 exact bodyPost_ret (res1 rfl (F9.get rfl)) F9.defers ⟨_, rfl, M7.isb (k := 2) rfl, (fun g hg => (fun g hg => og8 g (zva hg)) g (h7.2 g hg)), M7.below⟩
theorem zrb (a : Nat) (ha : a < 4294967296 ^ 8) (w : World) :
  Calls Try.prog 60 #[numV a] w fun e w' => e = .returned (.bool (decide (topI a 8 ≤ 32))) ∧ Below w.heap.size w w' := by
 refine zg (args := [numV a]) 6 Try.func60 rfl rfl rfl ?_
 intro fa F
 have M := Mx.start w
 refine zT fun _ hK1 => ?_
 refine zf (za rfl) rfl F rfl M 0 (t := 27) (c := numA a) (by unfold execOp; simp only [(F.get (t := 0) rfl)]; kernel_rfl) ?_
 intro g2 a2 w2 F2 M2
 clear F M
 refine rm rfl F2 fun _ F3 => ?_
 refine hK1 _ _ (zS fun _ hK4 => ?_)
 refine zR ?_
 refine rn rfl rfl F3 rfl (numV a) (zja _ _ rfl (F3.get rfl) (M2.blk (k := 0) rfl) (numA a) (zma rfl) Try.underlying27 rfl z7) fun _ F5 => ?_
 refine zd (za rfl) rfl F5 rfl rfl (zE Try.func41 rfl) #[numV a] (zp (F5.get rfl)) (zh (rbits_any a ha w2)) ?_
 rintro _ w6 a6 ⟨rfl, b6⟩ F6
 have M6 := M2.step b6
 by_cases h7 : (topI a 8) ≤ 32
 ·refine rn rfl rfl F6 rfl (.bool true) (z8 _ _ _ _ rfl (F6.get rfl) rfl (decide_eq_true h7)) fun _ F8 => ?_
  refine rm rfl F8 fun _ F9 => ?_
  refine hK4 _ _ (wp_ret ?_)
  try simp only [Exit.then, Exit.inBlock, Exit.jump]
  exact bodyPost_ret (res1 rfl (F9.get rfl)) F9.defers ⟨by rw [show decide (topI a 8 ≤ 32) = true from decide_eq_true h7], M6.below⟩
 refine rn rfl rfl F6 rfl (.bool false) (z8 _ _ _ _ rfl (F6.get rfl) rfl (decide_eq_false h7)) fun _ F10 => ?_
 refine rm rfl F10 fun _ F11 => ?_
 refine hK4 _ _ (wp_ret ?_)
 try simp only [Exit.then, Exit.inBlock, Exit.jump]
 exact bodyPost_ret (res1 rfl (F11.get rfl)) F11.defers ⟨by rw [show decide (topI a 8 ≤ 32) = false from decide_eq_false h7], M6.below⟩
theorem rnameB_any (s : ByteArray) (hs : s.size ≤ 1000) (w : World) : Calls Try.prog 59 #[.string s] w fun e w' => e = .returned (.bool (nameB s)) ∧ Below w.heap.size w w' := by
  unfold nameB
  by_cases h : NameOk s
  · rw [@decide_eq_true _ (Classical.propDecidable _) h]; exact rname_ok s h w
  · rw [@decide_eq_false _ (Classical.propDecidable _) h]; exact rname_no s hs h w
theorem rright_any (m : MsgN) (V : MsgV) (ho : MsgOk m) (hs : m.s.size ≤ 1000) (w : World) (hm : MsgIs w m V) :
  Calls Try.prog 25 #[.agg (msgA m V)] w fun e w' => e = .returned (.bool (zab m)) ∧ Below w.heap.size w w' := by
 obtain ⟨bN, hN⟩ : ∃ b, nameB m.s = b := ⟨_, rfl⟩
 obtain ⟨bS, hS⟩ : ∃ b, nilB m.s = b := ⟨_, rfl⟩
 obtain ⟨bA, hA⟩ : ∃ b, decide (topI m.a 8 ≤ 32) = b := ⟨_, rfl⟩
 obtain ⟨bB, hB⟩ : ∃ b, decide (topI m.b 8 ≤ 32) = b := ⟨_, rfl⟩
 refine zg (args := [.agg (msgA m V)]) 84 Try.func25 rfl rfl rfl ?_
 intro fa F
 have M := Mx.start w
 replace M := M.argB 0 hm.h5 (fun g e => by cases e)
 replace M := M.argB 1 hm.h6 (fun g e => by cases e)
 replace M := M.argB 2 hm.h7 (fun g e => by cases e)
 replace M := M.argB 3 hm.h8 (fun g e => by cases e)
 replace M := M.argB 4 hm.h9 (fun g e => by cases e)
 refine zT fun _ hK1 => ?_
 refine zf (za rfl) rfl F rfl M 5 (t := 29) (c := msgA m V) (by unfold execOp; simp only [(F.get (t := 0) rfl)]; kernel_rfl) ?_
 intro g2 a2 w2 F2 M2
 clear F M
 refine rm rfl F2 fun _ F3 => ?_
 refine hK1 _ _ (zS fun _ hK4 => ?_)
 refine zS fun _ hK5 => ?_
 by_cases h6 : ((hasR m : Nat) : Int) = (zla m)
 rotate_left
 ·have hD135 := (zj (M2.blk (k := 5) rfl) dnil)
  refine z5a F3 (SK [.inl (.agg (msgA m V)), .inl (.int .i64 ((hasR m : Nat) : Int)), .inl (.agg (msgA m V)), .inl (.int .i64 (zla m)), .inl (.bool true), .inl (.bool true), .inl (undef), .inl (undef), .inl (undef), .inl (.bool true), .inl (.bool true), .inl (undef), .inl (undef), .inl (undef), .inl (.bool true), .inl (.bool true), .inl (undef), .inl (undef), .inl (undef), .inl (undef), .inl (undef), .inl (undef), .inl (undef), .inl (undef), .inl (undef), .inl (.bool true), .inl (.bool true), .inl (undef), .inl (undef), .inl (undef), .inl (undef), .inl (.bool true), .inl (.bool true), .inl (undef), .inl (undef), .inl (undef), .inl (undef), .inl (.bool true)]) 38 rfl (by kernel_rfl) ⟨hopP F3 hD135 0 (some g2) (by kernel_rfl), ?_, hopP F3 hD135 0 (some g2) (by kernel_rfl), ?_, ?_, hop0 F3 (by kernel_rfl), hop0 F3 (by kernel_rfl), hop0 F3 (by kernel_rfl), hop0 F3 (by kernel_rfl), hop0 F3 (by kernel_rfl), hop0 F3 (by kernel_rfl), hop0 F3 (by kernel_rfl), hop0 F3 (by kernel_rfl), hop0 F3 (by kernel_rfl), hop0 F3 (by kernel_rfl), hop0 F3 (by kernel_rfl), hop0 F3 (by kernel_rfl), hop0 F3 (by kernel_rfl), hop0 F3 (by kernel_rfl), hop0 F3 (by kernel_rfl), hop0 F3 (by kernel_rfl), hop0 F3 (by kernel_rfl), hop0 F3 (by kernel_rfl), hop0 F3 (by kernel_rfl), hop0 F3 (by kernel_rfl), hop0 F3 (by kernel_rfl), hop0 F3 (by kernel_rfl), hop0 F3 (by kernel_rfl), hop0 F3 (by kernel_rfl), hop0 F3 (by kernel_rfl), hop0 F3 (by kernel_rfl), hop0 F3 (by kernel_rfl), hop0 F3 (by kernel_rfl), hop0 F3 (by kernel_rfl), hop0 F3 (by kernel_rfl), hop0 F3 (by kernel_rfl), hop0 F3 (by kernel_rfl), hop0 F3 (by kernel_rfl), trivial⟩ ?_
  ·intro ua uw hb hd
   have e3 : ua.eval (.tmp 3) = .agg (msgA m V) := hd 3 (by decide)
   exact zfa (F := (StK.eq (.int .i64 ((hasR m : Nat) : Int))).F) (za rfl) hb.size rfl #[.agg (msgA m V)] (zp e3) (zE Try.func46 rfl) (zia (zqb m V ho uw ⟨(M2.step hb).isb (k := 0) rfl, (M2.step hb).isb (k := 1) rfl, (M2.step hb).isb (k := 2) rfl, (M2.step hb).isb (k := 3) rfl, (M2.step hb).isb (k := 4) rfl⟩))
  ·intro ua uw hb hd
   have e5 : ua.eval (.tmp 5) = .agg (msgA m V) := hd 5 (by decide)
   exact zfa (F := (StK.eq (.int .i64 (zla m))).F) (za rfl) hb.size rfl #[.agg (msgA m V)] (zp e5) (zE Try.func58 rfl) (zia (ztb m V uw ⟨(M2.step hb).isb (k := 0) rfl, (M2.step hb).isb (k := 1) rfl, (M2.step hb).isb (k := 2) rfl, (M2.step hb).isb (k := 3) rfl, (M2.step hb).isb (k := 4) rfl⟩))
  ·intro ua uw hb hd
   have e4 : ua.eval (.tmp 4) = .int .i64 ((hasR m : Nat) : Int) := hd 4 (by decide)
   have e6 : ua.eval (.tmp 6) = .int .i64 (zla m) := hd 6 (by decide)
   exact zk (F := (StK.eq (.bool true)).F) (za rfl) (.bool true) (y_neI _ _ _ _ rfl e4 e6 Try.underlying3 (y_bneT h6)) rfl
  intro p136 a136 w136 b136 G136 y136
  obtain ⟨-, -, -, -, -, -, -, -, -, -, -, -, -, -, -, -, -, -, -, -, -, -, -, -, -, -, -, -, -, -, -, -, -, -, -, -, -, q37, -⟩ := y136
  have r37 : p136 37 = .bool true := q37 (by decide)
  simp only [List.take, layV, Nat.zero_add, Nat.reduceAdd, r37] at G136
  have M136 := M2.kc b136
  clear F3 M2 r37 q37
  refine hK5 _ _ (wp_cond_true (G136.get (t := 40) rfl) ?_)
  refine zT fun _ hK137 => ?_
  refine rm rfl G136 fun _ F138 => ?_
  refine hK137 _ _ (wp_ret ?_)
  try simp only [Exit.then, Exit.inBlock, Exit.jump]
  exact bodyPost_ret (res1 rfl (F138.get rfl)) F138.defers ⟨by rw [← zpa, show zga m = false from by unfold zga; simp [hN, hS, hA, hB, h6]], M136.below⟩
 by_cases h7 : m.p < 0
 ·have hD8 := (zj (M2.blk (k := 5) rfl) dnil)
  refine z5a F3 (SK [.inl (.agg (msgA m V)), .inl (.int .i64 ((hasR m : Nat) : Int)), .inl (.agg (msgA m V)), .inl (.int .i64 (zla m)), .inl (.bool false), .inl (.bool false), .inl (.pointer (some ⟨g2, 1, none⟩)), .inl (.int .i64 m.p), .inl (.bool true), .inl (.bool true), .inl (.bool true), .inl (undef), .inl (undef), .inl (undef), .inl (.bool true), .inl (.bool true), .inl (undef), .inl (undef), .inl (undef), .inl (undef), .inl (undef), .inl (undef), .inl (undef), .inl (undef), .inl (undef), .inl (.bool true), .inl (.bool true), .inl (undef), .inl (undef), .inl (undef), .inl (undef), .inl (.bool true), .inl (.bool true), .inl (undef), .inl (undef), .inl (undef), .inl (undef), .inl (.bool true)]) 38 rfl (by kernel_rfl) ⟨hopP F3 hD8 0 (some g2) (by kernel_rfl), ?_, hopP F3 hD8 0 (some g2) (by kernel_rfl), ?_, ?_, hop0 F3 (by kernel_rfl), hop0 F3 (by kernel_rfl), hopP F3 hD8 0 (some g2) (by kernel_rfl), ?_, hop0 F3 (by kernel_rfl), hop0 F3 (by kernel_rfl), hop0 F3 (by kernel_rfl), hop0 F3 (by kernel_rfl), hop0 F3 (by kernel_rfl), hop0 F3 (by kernel_rfl), hop0 F3 (by kernel_rfl), hop0 F3 (by kernel_rfl), hop0 F3 (by kernel_rfl), hop0 F3 (by kernel_rfl), hop0 F3 (by kernel_rfl), hop0 F3 (by kernel_rfl), hop0 F3 (by kernel_rfl), hop0 F3 (by kernel_rfl), hop0 F3 (by kernel_rfl), hop0 F3 (by kernel_rfl), hop0 F3 (by kernel_rfl), hop0 F3 (by kernel_rfl), hop0 F3 (by kernel_rfl), hop0 F3 (by kernel_rfl), hop0 F3 (by kernel_rfl), hop0 F3 (by kernel_rfl), hop0 F3 (by kernel_rfl), hop0 F3 (by kernel_rfl), hop0 F3 (by kernel_rfl), hop0 F3 (by kernel_rfl), hop0 F3 (by kernel_rfl), hop0 F3 (by kernel_rfl), hop0 F3 (by kernel_rfl), trivial⟩ ?_
  ·intro ua uw hb hd
   have e3 : ua.eval (.tmp 3) = .agg (msgA m V) := hd 3 (by decide)
   exact zfa (F := (StK.eq (.int .i64 ((hasR m : Nat) : Int))).F) (za rfl) hb.size rfl #[.agg (msgA m V)] (zp e3) (zE Try.func46 rfl) (zia (zqb m V ho uw ⟨(M2.step hb).isb (k := 0) rfl, (M2.step hb).isb (k := 1) rfl, (M2.step hb).isb (k := 2) rfl, (M2.step hb).isb (k := 3) rfl, (M2.step hb).isb (k := 4) rfl⟩))
  ·intro ua uw hb hd
   have e5 : ua.eval (.tmp 5) = .agg (msgA m V) := hd 5 (by decide)
   exact zfa (F := (StK.eq (.int .i64 (zla m))).F) (za rfl) hb.size rfl #[.agg (msgA m V)] (zp e5) (zE Try.func58 rfl) (zia (ztb m V uw ⟨(M2.step hb).isb (k := 0) rfl, (M2.step hb).isb (k := 1) rfl, (M2.step hb).isb (k := 2) rfl, (M2.step hb).isb (k := 3) rfl, (M2.step hb).isb (k := 4) rfl⟩))
  ·intro ua uw hb hd
   have e4 : ua.eval (.tmp 4) = .int .i64 ((hasR m : Nat) : Int) := hd 4 (by decide)
   have e6 : ua.eval (.tmp 6) = .int .i64 (zla m) := hd 6 (by decide)
   exact zk (F := (StK.eq (.bool false)).F) (za rfl) (.bool false) (y_neI _ _ _ _ rfl e4 e6 Try.underlying3 (y_bneF h6)) rfl
  ·intro ua uw hb hd
   have eg : ua.eval (.tmp 8) = .bool false := hd 8 (by decide)
   have e10 : ua.eval (.tmp 10) = .int .i64 m.p := hd 10 (by decide)
   exact zk (F := (StK.eq (.bool true)).F) (zb rfl rfl rfl eg) (.bool true) (zoa _ _ _ _ rfl e10 rfl (decide_eq_true h7)) rfl
  intro p9 a9 w9 b9 G9 y9
  obtain ⟨-, -, -, -, -, -, -, -, -, -, -, -, -, -, -, -, -, -, -, -, -, -, -, -, -, -, -, -, -, -, -, -, -, -, -, -, -, q37, -⟩ := y9
  have r37 : p9 37 = .bool true := q37 (by decide)
  simp only [List.take, layV, Nat.zero_add, Nat.reduceAdd, r37] at G9
  have M9 := M2.kc b9
  clear F3 M2 r37 q37
  refine hK5 _ _ (wp_cond_true (G9.get (t := 40) rfl) ?_)
  refine zT fun _ hK10 => ?_
  refine rm rfl G9 fun _ F11 => ?_
  refine hK10 _ _ (wp_ret ?_)
  try simp only [Exit.then, Exit.inBlock, Exit.jump]
  exact bodyPost_ret (res1 rfl (F11.get rfl)) F11.defers ⟨by rw [← zpa, show zga m = false from by unfold zga; simp [hN, hS, hA, hB, h6, h7]], M9.below⟩
 by_cases h12 : 2 < m.p
 ·have hD13 := (zj (M2.blk (k := 5) rfl) dnil)
  refine z5a F3 (SK [.inl (.agg (msgA m V)), .inl (.int .i64 ((hasR m : Nat) : Int)), .inl (.agg (msgA m V)), .inl (.int .i64 (zla m)), .inl (.bool false), .inl (.bool false), .inl (.pointer (some ⟨g2, 1, none⟩)), .inl (.int .i64 m.p), .inl (.bool false), .inl (.bool false), .inl (.bool false), .inl (.pointer (some ⟨g2, 1, none⟩)), .inl (.int .i64 m.p), .inl (.bool true), .inl (.bool true), .inl (.bool true), .inl (undef), .inl (undef), .inl (undef), .inl (undef), .inl (undef), .inl (undef), .inl (undef), .inl (undef), .inl (undef), .inl (.bool true), .inl (.bool true), .inl (undef), .inl (undef), .inl (undef), .inl (undef), .inl (.bool true), .inl (.bool true), .inl (undef), .inl (undef), .inl (undef), .inl (undef), .inl (.bool true)]) 38 rfl (by kernel_rfl) ⟨hopP F3 hD13 0 (some g2) (by kernel_rfl), ?_, hopP F3 hD13 0 (some g2) (by kernel_rfl), ?_, ?_, hop0 F3 (by kernel_rfl), hop0 F3 (by kernel_rfl), hopP F3 hD13 0 (some g2) (by kernel_rfl), ?_, hop0 F3 (by kernel_rfl), hop0 F3 (by kernel_rfl), hop0 F3 (by kernel_rfl), hopP F3 hD13 0 (some g2) (by kernel_rfl), ?_, hop0 F3 (by kernel_rfl), hop0 F3 (by kernel_rfl), hop0 F3 (by kernel_rfl), hop0 F3 (by kernel_rfl), hop0 F3 (by kernel_rfl), hop0 F3 (by kernel_rfl), hop0 F3 (by kernel_rfl), hop0 F3 (by kernel_rfl), hop0 F3 (by kernel_rfl), hop0 F3 (by kernel_rfl), hop0 F3 (by kernel_rfl), hop0 F3 (by kernel_rfl), hop0 F3 (by kernel_rfl), hop0 F3 (by kernel_rfl), hop0 F3 (by kernel_rfl), hop0 F3 (by kernel_rfl), hop0 F3 (by kernel_rfl), hop0 F3 (by kernel_rfl), hop0 F3 (by kernel_rfl), hop0 F3 (by kernel_rfl), hop0 F3 (by kernel_rfl), hop0 F3 (by kernel_rfl), hop0 F3 (by kernel_rfl), hop0 F3 (by kernel_rfl), trivial⟩ ?_
  ·intro ua uw hb hd
   have e3 : ua.eval (.tmp 3) = .agg (msgA m V) := hd 3 (by decide)
   exact zfa (F := (StK.eq (.int .i64 ((hasR m : Nat) : Int))).F) (za rfl) hb.size rfl #[.agg (msgA m V)] (zp e3) (zE Try.func46 rfl) (zia (zqb m V ho uw ⟨(M2.step hb).isb (k := 0) rfl, (M2.step hb).isb (k := 1) rfl, (M2.step hb).isb (k := 2) rfl, (M2.step hb).isb (k := 3) rfl, (M2.step hb).isb (k := 4) rfl⟩))
  ·intro ua uw hb hd
   have e5 : ua.eval (.tmp 5) = .agg (msgA m V) := hd 5 (by decide)
   exact zfa (F := (StK.eq (.int .i64 (zla m))).F) (za rfl) hb.size rfl #[.agg (msgA m V)] (zp e5) (zE Try.func58 rfl) (zia (ztb m V uw ⟨(M2.step hb).isb (k := 0) rfl, (M2.step hb).isb (k := 1) rfl, (M2.step hb).isb (k := 2) rfl, (M2.step hb).isb (k := 3) rfl, (M2.step hb).isb (k := 4) rfl⟩))
  ·intro ua uw hb hd
   have e4 : ua.eval (.tmp 4) = .int .i64 ((hasR m : Nat) : Int) := hd 4 (by decide)
   have e6 : ua.eval (.tmp 6) = .int .i64 (zla m) := hd 6 (by decide)
   exact zk (F := (StK.eq (.bool false)).F) (za rfl) (.bool false) (y_neI _ _ _ _ rfl e4 e6 Try.underlying3 (y_bneF h6)) rfl
  ·intro ua uw hb hd
   have eg : ua.eval (.tmp 8) = .bool false := hd 8 (by decide)
   have e10 : ua.eval (.tmp 10) = .int .i64 m.p := hd 10 (by decide)
   exact zk (F := (StK.eq (.bool false)).F) (zb rfl rfl rfl eg) (.bool false) (zoa _ _ _ _ rfl e10 rfl (decide_eq_false h7)) rfl
  ·intro ua uw hb hd
   have eg : ua.eval (.tmp 13) = .bool false := hd 13 (by decide)
   have e15 : ua.eval (.tmp 15) = .int .i64 m.p := hd 15 (by decide)
   exact zk (F := (StK.eq (.bool true)).F) (zb rfl rfl rfl eg) (.bool true) (zya _ _ _ _ rfl e15 rfl (decide_eq_true h12)) rfl
  intro p14 a14 w14 b14 G14 y14
  obtain ⟨-, -, -, -, -, -, -, -, -, -, -, -, -, -, -, -, -, -, -, -, -, -, -, -, -, -, -, -, -, -, -, -, -, -, -, -, -, q37, -⟩ := y14
  have r37 : p14 37 = .bool true := q37 (by decide)
  simp only [List.take, layV, Nat.zero_add, Nat.reduceAdd, r37] at G14
  have M14 := M2.kc b14
  clear F3 M2 r37 q37
  refine hK5 _ _ (wp_cond_true (G14.get (t := 40) rfl) ?_)
  refine zT fun _ hK15 => ?_
  refine rm rfl G14 fun _ F16 => ?_
  refine hK15 _ _ (wp_ret ?_)
  try simp only [Exit.then, Exit.inBlock, Exit.jump]
  exact bodyPost_ret (res1 rfl (F16.get rfl)) F16.defers ⟨by rw [← zpa, show zga m = false from by unfold zga; simp [hN, hS, hA, hB, h6, h7, h12]], M14.below⟩
 cases bS
 rotate_left
 ·cases bA
  ·have hD78 := (zj (M2.blk (k := 5) rfl) dnil)
   refine z5a F3 (SK [.inl (.agg (msgA m V)), .inl (.int .i64 ((hasR m : Nat) : Int)), .inl (.agg (msgA m V)), .inl (.int .i64 (zla m)), .inl (.bool false), .inl (.bool false), .inl (.pointer (some ⟨g2, 1, none⟩)), .inl (.int .i64 m.p), .inl (.bool false), .inl (.bool false), .inl (.bool false), .inl (.pointer (some ⟨g2, 1, none⟩)), .inl (.int .i64 m.p), .inl (.bool false), .inl (.bool false), .inl (.bool false), .inl (.pointer (some ⟨g2, 4, none⟩)), .inl (.string m.s), .inl (.bool false), .inl (.bool false), .inl (undef), .inl (undef), .inl (undef), .inl (undef), .inl (.bool false), .inl (.bool false), .inl (.bool false), .inl (.pointer (some ⟨g2, 5, none⟩)), .inl (numV m.a), .inl (.bool false), .inl (.bool true), .inl (.bool true), .inl (.bool true), .inl (undef), .inl (undef), .inl (undef), .inl (undef), .inl (.bool true)]) 38 rfl (by kernel_rfl) ⟨hopP F3 hD78 0 (some g2) (by kernel_rfl), ?_, hopP F3 hD78 0 (some g2) (by kernel_rfl), ?_, ?_, hop0 F3 (by kernel_rfl), hop0 F3 (by kernel_rfl), hopP F3 hD78 0 (some g2) (by kernel_rfl), ?_, hop0 F3 (by kernel_rfl), hop0 F3 (by kernel_rfl), hop0 F3 (by kernel_rfl), hopP F3 hD78 0 (some g2) (by kernel_rfl), ?_, hop0 F3 (by kernel_rfl), hop0 F3 (by kernel_rfl), hop0 F3 (by kernel_rfl), hopP F3 hD78 0 (some g2) (by kernel_rfl), ?_, hop0 F3 (by kernel_rfl), hop0 F3 (by kernel_rfl), hop0 F3 (by kernel_rfl), hop0 F3 (by kernel_rfl), hop0 F3 (by kernel_rfl), hop0 F3 (by kernel_rfl), hop0 F3 (by kernel_rfl), hop0 F3 (by kernel_rfl), hop0 F3 (by kernel_rfl), hopP F3 hD78 0 (some g2) (by kernel_rfl), ?_, hop0 F3 (by kernel_rfl), hop0 F3 (by kernel_rfl), hop0 F3 (by kernel_rfl), hop0 F3 (by kernel_rfl), hop0 F3 (by kernel_rfl), hop0 F3 (by kernel_rfl), hop0 F3 (by kernel_rfl), hop0 F3 (by kernel_rfl), trivial⟩ ?_
   ·intro ua uw hb hd
    have e3 : ua.eval (.tmp 3) = .agg (msgA m V) := hd 3 (by decide)
    exact zfa (F := (StK.eq (.int .i64 ((hasR m : Nat) : Int))).F) (za rfl) hb.size rfl #[.agg (msgA m V)] (zp e3) (zE Try.func46 rfl) (zia (zqb m V ho uw ⟨(M2.step hb).isb (k := 0) rfl, (M2.step hb).isb (k := 1) rfl, (M2.step hb).isb (k := 2) rfl, (M2.step hb).isb (k := 3) rfl, (M2.step hb).isb (k := 4) rfl⟩))
   ·intro ua uw hb hd
    have e5 : ua.eval (.tmp 5) = .agg (msgA m V) := hd 5 (by decide)
    exact zfa (F := (StK.eq (.int .i64 (zla m))).F) (za rfl) hb.size rfl #[.agg (msgA m V)] (zp e5) (zE Try.func58 rfl) (zia (ztb m V uw ⟨(M2.step hb).isb (k := 0) rfl, (M2.step hb).isb (k := 1) rfl, (M2.step hb).isb (k := 2) rfl, (M2.step hb).isb (k := 3) rfl, (M2.step hb).isb (k := 4) rfl⟩))
   ·intro ua uw hb hd
    have e4 : ua.eval (.tmp 4) = .int .i64 ((hasR m : Nat) : Int) := hd 4 (by decide)
    have e6 : ua.eval (.tmp 6) = .int .i64 (zla m) := hd 6 (by decide)
    exact zk (F := (StK.eq (.bool false)).F) (za rfl) (.bool false) (y_neI _ _ _ _ rfl e4 e6 Try.underlying3 (y_bneF h6)) rfl
   ·intro ua uw hb hd
    have eg : ua.eval (.tmp 8) = .bool false := hd 8 (by decide)
    have e10 : ua.eval (.tmp 10) = .int .i64 m.p := hd 10 (by decide)
    exact zk (F := (StK.eq (.bool false)).F) (zb rfl rfl rfl eg) (.bool false) (zoa _ _ _ _ rfl e10 rfl (decide_eq_false h7)) rfl
   ·intro ua uw hb hd
    have eg : ua.eval (.tmp 13) = .bool false := hd 13 (by decide)
    have e15 : ua.eval (.tmp 15) = .int .i64 m.p := hd 15 (by decide)
    exact zk (F := (StK.eq (.bool false)).F) (zb rfl rfl rfl eg) (.bool false) (zya _ _ _ _ rfl e15 rfl (decide_eq_false h12)) rfl
   ·intro ua uw hb hd
    have eg : ua.eval (.tmp 18) = .bool false := hd 18 (by decide)
    have e20 : ua.eval (.tmp 20) = .string m.s := hd 20 (by decide)
    exact zk (F := (StK.eq (.bool false)).F) (zb rfl rfl rfl eg) (.bool false) (y_neS _ _ _ rfl e20 rfl (show (!nilB m.s) = _ from by rw [hS]; rfl)) rfl
   ·intro ua uw hb hd
    have eg : ua.eval (.tmp 29) = .bool false := hd 29 (by decide)
    have e31 : ua.eval (.tmp 31) = numV m.a := hd 31 (by decide)
    exact zfa (F := (StK.eq (.bool false)).F) (zb rfl rfl rfl eg) hb.size rfl #[numV m.a] (zp e31) (zE Try.func60 rfl) (zia ((hA ▸ zrb m.a ho.a uw)))
   intro p79 a79 w79 b79 G79 y79
   obtain ⟨-, -, -, -, -, -, -, -, -, -, -, -, -, -, -, -, -, -, -, -, -, -, -, -, -, -, -, -, -, -, -, -, -, -, -, -, -, q37, -⟩ := y79
   have r37 : p79 37 = .bool true := q37 (by decide)
   simp only [List.take, layV, Nat.zero_add, Nat.reduceAdd, r37] at G79
   have M79 := M2.kc b79
   clear F3 M2 r37 q37
   refine hK5 _ _ (wp_cond_true (G79.get (t := 40) rfl) ?_)
   refine zT fun _ hK80 => ?_
   refine rm rfl G79 fun _ F81 => ?_
   refine hK80 _ _ (wp_ret ?_)
   try simp only [Exit.then, Exit.inBlock, Exit.jump]
   exact bodyPost_ret (res1 rfl (F81.get rfl)) F81.defers ⟨by rw [← zpa, show zga m = false from by unfold zga; simp [hN, hS, hA, hB, h6, h7, h12]], M79.below⟩
  cases bB
  ·have hD82 := (zj (M2.blk (k := 5) rfl) dnil)
   refine z5a F3 (SK [.inl (.agg (msgA m V)), .inl (.int .i64 ((hasR m : Nat) : Int)), .inl (.agg (msgA m V)), .inl (.int .i64 (zla m)), .inl (.bool false), .inl (.bool false), .inl (.pointer (some ⟨g2, 1, none⟩)), .inl (.int .i64 m.p), .inl (.bool false), .inl (.bool false), .inl (.bool false), .inl (.pointer (some ⟨g2, 1, none⟩)), .inl (.int .i64 m.p), .inl (.bool false), .inl (.bool false), .inl (.bool false), .inl (.pointer (some ⟨g2, 4, none⟩)), .inl (.string m.s), .inl (.bool false), .inl (.bool false), .inl (undef), .inl (undef), .inl (undef), .inl (undef), .inl (.bool false), .inl (.bool false), .inl (.bool false), .inl (.pointer (some ⟨g2, 5, none⟩)), .inl (numV m.a), .inl (.bool true), .inl (.bool false), .inl (.bool false), .inl (.bool false), .inl (.pointer (some ⟨g2, 13, none⟩)), .inl (numV m.b), .inl (.bool false), .inl (.bool true), .inl (.bool true)]) 38 rfl (by kernel_rfl) ⟨hopP F3 hD82 0 (some g2) (by kernel_rfl), ?_, hopP F3 hD82 0 (some g2) (by kernel_rfl), ?_, ?_, hop0 F3 (by kernel_rfl), hop0 F3 (by kernel_rfl), hopP F3 hD82 0 (some g2) (by kernel_rfl), ?_, hop0 F3 (by kernel_rfl), hop0 F3 (by kernel_rfl), hop0 F3 (by kernel_rfl), hopP F3 hD82 0 (some g2) (by kernel_rfl), ?_, hop0 F3 (by kernel_rfl), hop0 F3 (by kernel_rfl), hop0 F3 (by kernel_rfl), hopP F3 hD82 0 (some g2) (by kernel_rfl), ?_, hop0 F3 (by kernel_rfl), hop0 F3 (by kernel_rfl), hop0 F3 (by kernel_rfl), hop0 F3 (by kernel_rfl), hop0 F3 (by kernel_rfl), hop0 F3 (by kernel_rfl), hop0 F3 (by kernel_rfl), hop0 F3 (by kernel_rfl), hop0 F3 (by kernel_rfl), hopP F3 hD82 0 (some g2) (by kernel_rfl), ?_, hop0 F3 (by kernel_rfl), hop0 F3 (by kernel_rfl), hop0 F3 (by kernel_rfl), hop0 F3 (by kernel_rfl), hopP F3 hD82 0 (some g2) (by kernel_rfl), ?_, hop0 F3 (by kernel_rfl), hop0 F3 (by kernel_rfl), trivial⟩ ?_
   ·intro ua uw hb hd
    have e3 : ua.eval (.tmp 3) = .agg (msgA m V) := hd 3 (by decide)
    exact zfa (F := (StK.eq (.int .i64 ((hasR m : Nat) : Int))).F) (za rfl) hb.size rfl #[.agg (msgA m V)] (zp e3) (zE Try.func46 rfl) (zia (zqb m V ho uw ⟨(M2.step hb).isb (k := 0) rfl, (M2.step hb).isb (k := 1) rfl, (M2.step hb).isb (k := 2) rfl, (M2.step hb).isb (k := 3) rfl, (M2.step hb).isb (k := 4) rfl⟩))
   ·intro ua uw hb hd
    have e5 : ua.eval (.tmp 5) = .agg (msgA m V) := hd 5 (by decide)
    exact zfa (F := (StK.eq (.int .i64 (zla m))).F) (za rfl) hb.size rfl #[.agg (msgA m V)] (zp e5) (zE Try.func58 rfl) (zia (ztb m V uw ⟨(M2.step hb).isb (k := 0) rfl, (M2.step hb).isb (k := 1) rfl, (M2.step hb).isb (k := 2) rfl, (M2.step hb).isb (k := 3) rfl, (M2.step hb).isb (k := 4) rfl⟩))
   ·intro ua uw hb hd
    have e4 : ua.eval (.tmp 4) = .int .i64 ((hasR m : Nat) : Int) := hd 4 (by decide)
    have e6 : ua.eval (.tmp 6) = .int .i64 (zla m) := hd 6 (by decide)
    exact zk (F := (StK.eq (.bool false)).F) (za rfl) (.bool false) (y_neI _ _ _ _ rfl e4 e6 Try.underlying3 (y_bneF h6)) rfl
   ·intro ua uw hb hd
    have eg : ua.eval (.tmp 8) = .bool false := hd 8 (by decide)
    have e10 : ua.eval (.tmp 10) = .int .i64 m.p := hd 10 (by decide)
    exact zk (F := (StK.eq (.bool false)).F) (zb rfl rfl rfl eg) (.bool false) (zoa _ _ _ _ rfl e10 rfl (decide_eq_false h7)) rfl
   ·intro ua uw hb hd
    have eg : ua.eval (.tmp 13) = .bool false := hd 13 (by decide)
    have e15 : ua.eval (.tmp 15) = .int .i64 m.p := hd 15 (by decide)
    exact zk (F := (StK.eq (.bool false)).F) (zb rfl rfl rfl eg) (.bool false) (zya _ _ _ _ rfl e15 rfl (decide_eq_false h12)) rfl
   ·intro ua uw hb hd
    have eg : ua.eval (.tmp 18) = .bool false := hd 18 (by decide)
    have e20 : ua.eval (.tmp 20) = .string m.s := hd 20 (by decide)
    exact zk (F := (StK.eq (.bool false)).F) (zb rfl rfl rfl eg) (.bool false) (y_neS _ _ _ rfl e20 rfl (show (!nilB m.s) = _ from by rw [hS]; rfl)) rfl
   ·intro ua uw hb hd
    have eg : ua.eval (.tmp 29) = .bool false := hd 29 (by decide)
    have e31 : ua.eval (.tmp 31) = numV m.a := hd 31 (by decide)
    exact zfa (F := (StK.eq (.bool true)).F) (zb rfl rfl rfl eg) hb.size rfl #[numV m.a] (zp e31) (zE Try.func60 rfl) (zia ((hA ▸ zrb m.a ho.a uw)))
   ·intro ua uw hb hd
    have eg : ua.eval (.tmp 35) = .bool false := hd 35 (by decide)
    have e37 : ua.eval (.tmp 37) = numV m.b := hd 37 (by decide)
    exact zfa (F := (StK.eq (.bool false)).F) (zb rfl rfl rfl eg) hb.size rfl #[numV m.b] (zp e37) (zE Try.func60 rfl) (zia ((hB ▸ zrb m.b ho.b uw)))
   intro p83 a83 w83 b83 G83 y83
   obtain ⟨-, -, -, -, -, -, -, -, -, -, -, -, -, -, -, -, -, -, -, -, -, -, -, -, -, -, -, -, -, -, -, -, -, -, -, -, -, q37, -⟩ := y83
   have r37 : p83 37 = .bool true := q37 (by decide)
   simp only [List.take, layV, Nat.zero_add, Nat.reduceAdd, r37] at G83
   have M83 := M2.kc b83
   clear F3 M2 r37 q37
   refine hK5 _ _ (wp_cond_true (G83.get (t := 40) rfl) ?_)
   refine zT fun _ hK84 => ?_
   refine rm rfl G83 fun _ F85 => ?_
   refine hK84 _ _ (wp_ret ?_)
   try simp only [Exit.then, Exit.inBlock, Exit.jump]
   exact bodyPost_ret (res1 rfl (F85.get rfl)) F85.defers ⟨by rw [← zpa, show zga m = false from by unfold zga; simp [hN, hS, hA, hB, h6, h7, h12]], M83.below⟩
  have hD86 := (zj (M2.blk (k := 5) rfl) dnil)
  refine z5a F3 (SK [.inl (.agg (msgA m V)), .inl (.int .i64 ((hasR m : Nat) : Int)), .inl (.agg (msgA m V)), .inl (.int .i64 (zla m)), .inl (.bool false), .inl (.bool false), .inl (.pointer (some ⟨g2, 1, none⟩)), .inl (.int .i64 m.p), .inl (.bool false), .inl (.bool false), .inl (.bool false), .inl (.pointer (some ⟨g2, 1, none⟩)), .inl (.int .i64 m.p), .inl (.bool false), .inl (.bool false), .inl (.bool false), .inl (.pointer (some ⟨g2, 4, none⟩)), .inl (.string m.s), .inl (.bool false), .inl (.bool false), .inl (undef), .inl (undef), .inl (undef), .inl (undef), .inl (.bool false), .inl (.bool false), .inl (.bool false), .inl (.pointer (some ⟨g2, 5, none⟩)), .inl (numV m.a), .inl (.bool true), .inl (.bool false), .inl (.bool false), .inl (.bool false), .inl (.pointer (some ⟨g2, 13, none⟩)), .inl (numV m.b), .inl (.bool true), .inl (.bool false), .inl (.bool false)]) 38 rfl (by kernel_rfl) ⟨hopP F3 hD86 0 (some g2) (by kernel_rfl), ?_, hopP F3 hD86 0 (some g2) (by kernel_rfl), ?_, ?_, hop0 F3 (by kernel_rfl), hop0 F3 (by kernel_rfl), hopP F3 hD86 0 (some g2) (by kernel_rfl), ?_, hop0 F3 (by kernel_rfl), hop0 F3 (by kernel_rfl), hop0 F3 (by kernel_rfl), hopP F3 hD86 0 (some g2) (by kernel_rfl), ?_, hop0 F3 (by kernel_rfl), hop0 F3 (by kernel_rfl), hop0 F3 (by kernel_rfl), hopP F3 hD86 0 (some g2) (by kernel_rfl), ?_, hop0 F3 (by kernel_rfl), hop0 F3 (by kernel_rfl), hop0 F3 (by kernel_rfl), hop0 F3 (by kernel_rfl), hop0 F3 (by kernel_rfl), hop0 F3 (by kernel_rfl), hop0 F3 (by kernel_rfl), hop0 F3 (by kernel_rfl), hop0 F3 (by kernel_rfl), hopP F3 hD86 0 (some g2) (by kernel_rfl), ?_, hop0 F3 (by kernel_rfl), hop0 F3 (by kernel_rfl), hop0 F3 (by kernel_rfl), hop0 F3 (by kernel_rfl), hopP F3 hD86 0 (some g2) (by kernel_rfl), ?_, hop0 F3 (by kernel_rfl), hop0 F3 (by kernel_rfl), trivial⟩ ?_
  ·intro ua uw hb hd
   have e3 : ua.eval (.tmp 3) = .agg (msgA m V) := hd 3 (by decide)
   exact zfa (F := (StK.eq (.int .i64 ((hasR m : Nat) : Int))).F) (za rfl) hb.size rfl #[.agg (msgA m V)] (zp e3) (zE Try.func46 rfl) (zia (zqb m V ho uw ⟨(M2.step hb).isb (k := 0) rfl, (M2.step hb).isb (k := 1) rfl, (M2.step hb).isb (k := 2) rfl, (M2.step hb).isb (k := 3) rfl, (M2.step hb).isb (k := 4) rfl⟩))
  ·intro ua uw hb hd
   have e5 : ua.eval (.tmp 5) = .agg (msgA m V) := hd 5 (by decide)
   exact zfa (F := (StK.eq (.int .i64 (zla m))).F) (za rfl) hb.size rfl #[.agg (msgA m V)] (zp e5) (zE Try.func58 rfl) (zia (ztb m V uw ⟨(M2.step hb).isb (k := 0) rfl, (M2.step hb).isb (k := 1) rfl, (M2.step hb).isb (k := 2) rfl, (M2.step hb).isb (k := 3) rfl, (M2.step hb).isb (k := 4) rfl⟩))
  ·intro ua uw hb hd
   have e4 : ua.eval (.tmp 4) = .int .i64 ((hasR m : Nat) : Int) := hd 4 (by decide)
   have e6 : ua.eval (.tmp 6) = .int .i64 (zla m) := hd 6 (by decide)
   exact zk (F := (StK.eq (.bool false)).F) (za rfl) (.bool false) (y_neI _ _ _ _ rfl e4 e6 Try.underlying3 (y_bneF h6)) rfl
  ·intro ua uw hb hd
   have eg : ua.eval (.tmp 8) = .bool false := hd 8 (by decide)
   have e10 : ua.eval (.tmp 10) = .int .i64 m.p := hd 10 (by decide)
   exact zk (F := (StK.eq (.bool false)).F) (zb rfl rfl rfl eg) (.bool false) (zoa _ _ _ _ rfl e10 rfl (decide_eq_false h7)) rfl
  ·intro ua uw hb hd
   have eg : ua.eval (.tmp 13) = .bool false := hd 13 (by decide)
   have e15 : ua.eval (.tmp 15) = .int .i64 m.p := hd 15 (by decide)
   exact zk (F := (StK.eq (.bool false)).F) (zb rfl rfl rfl eg) (.bool false) (zya _ _ _ _ rfl e15 rfl (decide_eq_false h12)) rfl
  ·intro ua uw hb hd
   have eg : ua.eval (.tmp 18) = .bool false := hd 18 (by decide)
   have e20 : ua.eval (.tmp 20) = .string m.s := hd 20 (by decide)
   exact zk (F := (StK.eq (.bool false)).F) (zb rfl rfl rfl eg) (.bool false) (y_neS _ _ _ rfl e20 rfl (show (!nilB m.s) = _ from by rw [hS]; rfl)) rfl
  ·intro ua uw hb hd
   have eg : ua.eval (.tmp 29) = .bool false := hd 29 (by decide)
   have e31 : ua.eval (.tmp 31) = numV m.a := hd 31 (by decide)
   exact zfa (F := (StK.eq (.bool true)).F) (zb rfl rfl rfl eg) hb.size rfl #[numV m.a] (zp e31) (zE Try.func60 rfl) (zia ((hA ▸ zrb m.a ho.a uw)))
  ·intro ua uw hb hd
   have eg : ua.eval (.tmp 35) = .bool false := hd 35 (by decide)
   have e37 : ua.eval (.tmp 37) = numV m.b := hd 37 (by decide)
   exact zfa (F := (StK.eq (.bool true)).F) (zb rfl rfl rfl eg) hb.size rfl #[numV m.b] (zp e37) (zE Try.func60 rfl) (zia ((hB ▸ zrb m.b ho.b uw)))
  intro p87 a87 w87 b87 G87 y87
  obtain ⟨-, -, -, -, -, -, -, -, -, -, -, -, -, -, -, -, -, -, -, -, -, -, -, -, -, -, -, -, -, -, -, -, -, -, -, -, -, q37, -⟩ := y87
  have r37 : p87 37 = .bool false := q37 (by decide)
  simp only [List.take, layV, Nat.zero_add, Nat.reduceAdd, r37] at G87
  have M87 := M2.kc b87
  clear F3 M2 r37 q37
  refine hK5 _ _ (wp_cond_false (G87.get (t := 40) rfl) ?_)
  refine wp_skip ?_
  refine hK4 _ _ (zS fun _ hK88 => ?_)
  refine zR ?_
  refine zB 2 [(1, .pointer (some ⟨g2, 0, none⟩)), (2, .bool false), (42, V.v5)] [0] (zj (M87.blk (k := 5) rfl) dnil) [g2] G87 fun _ F89 => ?_
  refine rn rfl rfl F89 rfl (.int .i64 (m.l5.length : Int)) (z9 _ rfl (F89.get rfl) (M87.isb (k := 0) rfl) rfl) fun _ F90 => ?_
  by_cases h91 : (m.l5.length : Int) ≤ 16
  rotate_left
  ·refine rn rfl rfl F90 rfl (.bool false) (z8 _ _ _ _ rfl (F90.get rfl) rfl (decide_eq_false h91)) fun _ F133 => ?_
   refine zB 40 [(2, .bool false)] [] dnil [] F133 fun _ F134 => ?_
   refine hK88 _ _ (wp_ret ?_)
   try simp only [Exit.then, Exit.inBlock, Exit.jump]
   exact bodyPost_ret (res1 rfl (F134.get rfl)) F134.defers ⟨by rw [← zpa, show zga m = false from by unfold zga; simp [hN, hS, hA, hB, h6, h7, h12, h91]], M87.below⟩
  refine rn rfl rfl F90 rfl (.bool true) (z8 _ _ _ _ rfl (F90.get rfl) rfl (decide_eq_true h91)) fun _ F92 => ?_
  refine zB 3 [(1, .pointer (some ⟨g2, 0, none⟩)), (2, .bool false), (45, .bool true), (47, V.v6)] [0] (zj (M87.blk (k := 5) rfl) dnil) [g2] F92 fun _ F93 => ?_
  refine ze (w' := w87) (zb rfl rfl rfl (F93.get rfl)) rfl F93 rfl (.int .i64 (m.l6.length : Int)) (z9 _ rfl (F93.get rfl) (M87.isb (k := 1) rfl) rfl) fun _ F94 => ?_
  by_cases h95 : (m.l6.length : Int) ≤ 48
  rotate_left
  ·refine ze (w' := w87) (zb rfl rfl rfl (F94.get rfl)) rfl F94 rfl (.bool false) (z8 _ _ _ _ rfl (F94.get rfl) rfl (decide_eq_false h95)) fun _ F131 => ?_
   refine zB 35 [(2, .bool false)] [] dnil [] F131 fun _ F132 => ?_
   refine hK88 _ _ (wp_ret ?_)
   try simp only [Exit.then, Exit.inBlock, Exit.jump]
   exact bodyPost_ret (res1 rfl (F132.get rfl)) F132.defers ⟨by rw [← zpa, show zga m = false from by unfold zga; simp [hN, hS, hA, hB, h6, h7, h12, h91, h95]], M87.below⟩
  refine ze (w' := w87) (zb rfl rfl rfl (F94.get rfl)) rfl F94 rfl (.bool true) (z8 _ _ _ _ rfl (F94.get rfl) rfl (decide_eq_true h95)) fun _ F96 => ?_
  refine zB 4 [(1, .pointer (some ⟨g2, 0, none⟩)), (2, .bool false), (51, .bool true), (53, V.v7)] [0] (zj (M87.blk (k := 5) rfl) dnil) [g2] F96 fun _ F97 => ?_
  refine ze (w' := w87) (zb rfl rfl rfl (F97.get rfl)) rfl F97 rfl (.int .i64 (m.l7.length : Int)) (z9 _ rfl (F97.get rfl) (M87.isb (k := 2) rfl) rfl) fun _ F98 => ?_
  by_cases h99 : (m.l7.length : Int) ≤ 16
  rotate_left
  ·refine ze (w' := w87) (zb rfl rfl rfl (F98.get rfl)) rfl F98 rfl (.bool false) (z8 _ _ _ _ rfl (F98.get rfl) rfl (decide_eq_false h99)) fun _ F129 => ?_
   refine zB 29 [(2, .bool false)] [] dnil [] F129 fun _ F130 => ?_
   refine hK88 _ _ (wp_ret ?_)
   try simp only [Exit.then, Exit.inBlock, Exit.jump]
   exact bodyPost_ret (res1 rfl (F130.get rfl)) F130.defers ⟨by rw [← zpa, show zga m = false from by unfold zga; simp [hN, hS, hA, hB, h6, h7, h12, h91, h95, h99]], M87.below⟩
  refine ze (w' := w87) (zb rfl rfl rfl (F98.get rfl)) rfl F98 rfl (.bool true) (z8 _ _ _ _ rfl (F98.get rfl) rfl (decide_eq_true h99)) fun _ F100 => ?_
  refine zB 4 [(1, .pointer (some ⟨g2, 0, none⟩)), (2, .bool false), (57, .bool true), (59, V.v8)] [0] (zj (M87.blk (k := 5) rfl) dnil) [g2] F100 fun _ F101 => ?_
  refine ze (w' := w87) (zb rfl rfl rfl (F101.get rfl)) rfl F101 rfl (.int .i64 (m.l8.length : Int)) (z9 _ rfl (F101.get rfl) (M87.isb (k := 3) rfl) rfl) fun _ F102 => ?_
  by_cases h103 : (m.l8.length : Int) ≤ 80
  rotate_left
  ·refine ze (w' := w87) (zb rfl rfl rfl (F102.get rfl)) rfl F102 rfl (.bool false) (z8 _ _ _ _ rfl (F102.get rfl) rfl (decide_eq_false h103)) fun _ F127 => ?_
   refine zB 23 [(2, .bool false)] [] dnil [] F127 fun _ F128 => ?_
   refine hK88 _ _ (wp_ret ?_)
   try simp only [Exit.then, Exit.inBlock, Exit.jump]
   exact bodyPost_ret (res1 rfl (F128.get rfl)) F128.defers ⟨by rw [← zpa, show zga m = false from by unfold zga; simp [hN, hS, hA, hB, h6, h7, h12, h91, h95, h99, h103]], M87.below⟩
  refine ze (w' := w87) (zb rfl rfl rfl (F102.get rfl)) rfl F102 rfl (.bool true) (z8 _ _ _ _ rfl (F102.get rfl) rfl (decide_eq_true h103)) fun _ F104 => ?_
  refine zB 4 [(1, .pointer (some ⟨g2, 0, none⟩)), (2, .bool false), (63, .bool true), (65, V.v9)] [0] (zj (M87.blk (k := 5) rfl) dnil) [g2] F104 fun _ F105 => ?_
  refine ze (w' := w87) (zb rfl rfl rfl (F105.get rfl)) rfl F105 rfl (.int .i64 (m.l9.length : Int)) (z9 _ rfl (F105.get rfl) (M87.isb (k := 4) rfl) rfl) fun _ F106 => ?_
  by_cases h107 : (m.l9.length : Int) ≤ 120
  rotate_left
  ·refine ze (w' := w87) (zb rfl rfl rfl (F106.get rfl)) rfl F106 rfl (.bool false) (z8 _ _ _ _ rfl (F106.get rfl) rfl (decide_eq_false h107)) fun _ F125 => ?_
   refine zB 17 [(2, .bool false)] [] dnil [] F125 fun _ F126 => ?_
   refine hK88 _ _ (wp_ret ?_)
   try simp only [Exit.then, Exit.inBlock, Exit.jump]
   exact bodyPost_ret (res1 rfl (F126.get rfl)) F126.defers ⟨by rw [← zpa, show zga m = false from by unfold zga; simp [hN, hS, hA, hB, h6, h7, h12, h91, h95, h99, h103, h107]], M87.below⟩
  refine ze (w' := w87) (zb rfl rfl rfl (F106.get rfl)) rfl F106 rfl (.bool true) (z8 _ _ _ _ rfl (F106.get rfl) rfl (decide_eq_true h107)) fun _ F108 => ?_
  refine zB 4 [(1, .pointer (some ⟨g2, 0, none⟩)), (2, .bool false), (69, .bool true), (71, .int .i64 m.c)] [0] (zj (M87.blk (k := 5) rfl) dnil) [g2] F108 fun _ F109 => ?_
  by_cases h110 : 0 ≤ m.c
  rotate_left
  ·refine ze (w' := w87) (zb rfl rfl rfl (F109.get rfl)) rfl F109 rfl (.bool false) (zob _ _ _ _ rfl (F109.get rfl) rfl (decide_eq_false h110)) fun _ F123 => ?_
   refine zB 12 [(2, .bool false)] [] dnil [] F123 fun _ F124 => ?_
   refine hK88 _ _ (wp_ret ?_)
   try simp only [Exit.then, Exit.inBlock, Exit.jump]
   exact bodyPost_ret (res1 rfl (F124.get rfl)) F124.defers ⟨by rw [← zpa, show zga m = false from by unfold zga; simp [hN, hS, hA, hB, h6, h7, h12, h91, h95, h99, h103, h107, h110]], M87.below⟩
  refine ze (w' := w87) (zb rfl rfl rfl (F109.get rfl)) rfl F109 rfl (.bool true) (zob _ _ _ _ rfl (F109.get rfl) rfl (decide_eq_true h110)) fun _ F111 => ?_
  refine zB 4 [(1, .pointer (some ⟨g2, 0, none⟩)), (2, .bool false), (74, .bool true), (76, .int .i64 m.e)] [0] (zj (M87.blk (k := 5) rfl) dnil) [g2] F111 fun _ F112 => ?_
  by_cases h113 : 0 ≤ m.e
  rotate_left
  ·refine ze (w' := w87) (zb rfl rfl rfl (F112.get rfl)) rfl F112 rfl (.bool false) (zob _ _ _ _ rfl (F112.get rfl) rfl (decide_eq_false h113)) fun _ F121 => ?_
   refine zB 7 [(2, .bool false)] [] dnil [] F121 fun _ F122 => ?_
   refine hK88 _ _ (wp_ret ?_)
   try simp only [Exit.then, Exit.inBlock, Exit.jump]
   exact bodyPost_ret (res1 rfl (F122.get rfl)) F122.defers ⟨by rw [← zpa, show zga m = false from by unfold zga; simp [hN, hS, hA, hB, h6, h7, h12, h91, h95, h99, h103, h107, h110, h113]], M87.below⟩
  refine ze (w' := w87) (zb rfl rfl rfl (F112.get rfl)) rfl F112 rfl (.bool true) (zob _ _ _ _ rfl (F112.get rfl) rfl (decide_eq_true h113)) fun _ F114 => ?_
  refine zB 4 [(2, .bool false), (79, .bool true), (81, .int .i64 m.e)] [0] (zj (M87.blk (k := 5) rfl) dnil) [g2] F114 fun _ F115 => ?_
  by_cases h116 : m.e ≤ 11
  ·refine ze (w' := w87) (zb rfl rfl rfl (F115.get rfl)) rfl F115 rfl (.bool true) (z8 _ _ _ _ rfl (F115.get rfl) rfl (decide_eq_true h116)) fun _ F117 => ?_
   refine zB 2 [(2, .bool true)] [] dnil [] F117 fun _ F118 => ?_
   refine hK88 _ _ (wp_ret ?_)
   try simp only [Exit.then, Exit.inBlock, Exit.jump]
   exact bodyPost_ret (res1 rfl (F118.get rfl)) F118.defers ⟨by rw [← zpa, show zga m = true from by unfold zga; simp [hN, hS, hA, hB, h6, h7, h12, h91, h95, h99, h103, h107, h110, h113, h116]], M87.below⟩
  refine ze (w' := w87) (zb rfl rfl rfl (F115.get rfl)) rfl F115 rfl (.bool false) (z8 _ _ _ _ rfl (F115.get rfl) rfl (decide_eq_false h116)) fun _ F119 => ?_
  refine zB 2 [(2, .bool false)] [] dnil [] F119 fun _ F120 => ?_
  refine hK88 _ _ (wp_ret ?_)
  try simp only [Exit.then, Exit.inBlock, Exit.jump]
  exact bodyPost_ret (res1 rfl (F120.get rfl)) F120.defers ⟨by rw [← zpa, show zga m = false from by unfold zga; simp [hN, hS, hA, hB, h6, h7, h12, h91, h95, h99, h103, h107, h110, h113, h116]], M87.below⟩
 cases bN
 ·have hD17 := (zj (M2.blk (k := 5) rfl) dnil)
  refine z5a F3 (SK [.inl (.agg (msgA m V)), .inl (.int .i64 ((hasR m : Nat) : Int)), .inl (.agg (msgA m V)), .inl (.int .i64 (zla m)), .inl (.bool false), .inl (.bool false), .inl (.pointer (some ⟨g2, 1, none⟩)), .inl (.int .i64 m.p), .inl (.bool false), .inl (.bool false), .inl (.bool false), .inl (.pointer (some ⟨g2, 1, none⟩)), .inl (.int .i64 m.p), .inl (.bool false), .inl (.bool false), .inl (.bool false), .inl (.pointer (some ⟨g2, 4, none⟩)), .inl (.string m.s), .inl (.bool true), .inl (.bool true), .inl (.pointer (some ⟨g2, 4, none⟩)), .inl (.string m.s), .inl (.bool false), .inl (.bool true), .inl (.bool true), .inl (.bool true), .inl (.bool true), .inl (undef), .inl (undef), .inl (undef), .inl (undef), .inl (.bool true), .inl (.bool true), .inl (undef), .inl (undef), .inl (undef), .inl (undef), .inl (.bool true)]) 38 rfl (by kernel_rfl) ⟨hopP F3 hD17 0 (some g2) (by kernel_rfl), ?_, hopP F3 hD17 0 (some g2) (by kernel_rfl), ?_, ?_, hop0 F3 (by kernel_rfl), hop0 F3 (by kernel_rfl), hopP F3 hD17 0 (some g2) (by kernel_rfl), ?_, hop0 F3 (by kernel_rfl), hop0 F3 (by kernel_rfl), hop0 F3 (by kernel_rfl), hopP F3 hD17 0 (some g2) (by kernel_rfl), ?_, hop0 F3 (by kernel_rfl), hop0 F3 (by kernel_rfl), hop0 F3 (by kernel_rfl), hopP F3 hD17 0 (some g2) (by kernel_rfl), ?_, hop0 F3 (by kernel_rfl), hop0 F3 (by kernel_rfl), hopP F3 hD17 0 (some g2) (by kernel_rfl), ?_, hop0 F3 (by kernel_rfl), hop0 F3 (by kernel_rfl), hop0 F3 (by kernel_rfl), hop0 F3 (by kernel_rfl), hop0 F3 (by kernel_rfl), hop0 F3 (by kernel_rfl), hop0 F3 (by kernel_rfl), hop0 F3 (by kernel_rfl), hop0 F3 (by kernel_rfl), hop0 F3 (by kernel_rfl), hop0 F3 (by kernel_rfl), hop0 F3 (by kernel_rfl), hop0 F3 (by kernel_rfl), hop0 F3 (by kernel_rfl), hop0 F3 (by kernel_rfl), trivial⟩ ?_
  ·intro ua uw hb hd
   have e3 : ua.eval (.tmp 3) = .agg (msgA m V) := hd 3 (by decide)
   exact zfa (F := (StK.eq (.int .i64 ((hasR m : Nat) : Int))).F) (za rfl) hb.size rfl #[.agg (msgA m V)] (zp e3) (zE Try.func46 rfl) (zia (zqb m V ho uw ⟨(M2.step hb).isb (k := 0) rfl, (M2.step hb).isb (k := 1) rfl, (M2.step hb).isb (k := 2) rfl, (M2.step hb).isb (k := 3) rfl, (M2.step hb).isb (k := 4) rfl⟩))
  ·intro ua uw hb hd
   have e5 : ua.eval (.tmp 5) = .agg (msgA m V) := hd 5 (by decide)
   exact zfa (F := (StK.eq (.int .i64 (zla m))).F) (za rfl) hb.size rfl #[.agg (msgA m V)] (zp e5) (zE Try.func58 rfl) (zia (ztb m V uw ⟨(M2.step hb).isb (k := 0) rfl, (M2.step hb).isb (k := 1) rfl, (M2.step hb).isb (k := 2) rfl, (M2.step hb).isb (k := 3) rfl, (M2.step hb).isb (k := 4) rfl⟩))
  ·intro ua uw hb hd
   have e4 : ua.eval (.tmp 4) = .int .i64 ((hasR m : Nat) : Int) := hd 4 (by decide)
   have e6 : ua.eval (.tmp 6) = .int .i64 (zla m) := hd 6 (by decide)
   exact zk (F := (StK.eq (.bool false)).F) (za rfl) (.bool false) (y_neI _ _ _ _ rfl e4 e6 Try.underlying3 (y_bneF h6)) rfl
  ·intro ua uw hb hd
   have eg : ua.eval (.tmp 8) = .bool false := hd 8 (by decide)
   have e10 : ua.eval (.tmp 10) = .int .i64 m.p := hd 10 (by decide)
   exact zk (F := (StK.eq (.bool false)).F) (zb rfl rfl rfl eg) (.bool false) (zoa _ _ _ _ rfl e10 rfl (decide_eq_false h7)) rfl
  ·intro ua uw hb hd
   have eg : ua.eval (.tmp 13) = .bool false := hd 13 (by decide)
   have e15 : ua.eval (.tmp 15) = .int .i64 m.p := hd 15 (by decide)
   exact zk (F := (StK.eq (.bool false)).F) (zb rfl rfl rfl eg) (.bool false) (zya _ _ _ _ rfl e15 rfl (decide_eq_false h12)) rfl
  ·intro ua uw hb hd
   have eg : ua.eval (.tmp 18) = .bool false := hd 18 (by decide)
   have e20 : ua.eval (.tmp 20) = .string m.s := hd 20 (by decide)
   exact zk (F := (StK.eq (.bool true)).F) (zb rfl rfl rfl eg) (.bool true) (y_neS _ _ _ rfl e20 rfl (show (!nilB m.s) = _ from by rw [hS]; rfl)) rfl
  ·intro ua uw hb hd
   have eg : ua.eval (.tmp 22) = .bool true := hd 22 (by decide)
   have e24 : ua.eval (.tmp 24) = .string m.s := hd 24 (by decide)
   exact zfa (F := (StK.eq (.bool false)).F) (zb rfl rfl rfl eg) hb.size rfl #[.string m.s] (zp e24) (zE Try.func59 rfl) (zia ((hN ▸ rnameB_any m.s hs uw)))
  intro p18 a18 w18 b18 G18 y18
  obtain ⟨-, -, -, -, -, -, -, -, -, -, -, -, -, -, -, -, -, -, -, -, -, -, -, -, -, -, -, -, -, -, -, -, -, -, -, -, -, q37, -⟩ := y18
  have r37 : p18 37 = .bool true := q37 (by decide)
  simp only [List.take, layV, Nat.zero_add, Nat.reduceAdd, r37] at G18
  have M18 := M2.kc b18
  clear F3 M2 r37 q37
  refine hK5 _ _ (wp_cond_true (G18.get (t := 40) rfl) ?_)
  refine zT fun _ hK19 => ?_
  refine rm rfl G18 fun _ F20 => ?_
  refine hK19 _ _ (wp_ret ?_)
  try simp only [Exit.then, Exit.inBlock, Exit.jump]
  exact bodyPost_ret (res1 rfl (F20.get rfl)) F20.defers ⟨by rw [← zpa, show zga m = false from by unfold zga; simp [hN, hS, hA, hB, h6, h7, h12]], M18.below⟩
 cases bA
 ·have hD21 := (zj (M2.blk (k := 5) rfl) dnil)
  refine z5a F3 (SK [.inl (.agg (msgA m V)), .inl (.int .i64 ((hasR m : Nat) : Int)), .inl (.agg (msgA m V)), .inl (.int .i64 (zla m)), .inl (.bool false), .inl (.bool false), .inl (.pointer (some ⟨g2, 1, none⟩)), .inl (.int .i64 m.p), .inl (.bool false), .inl (.bool false), .inl (.bool false), .inl (.pointer (some ⟨g2, 1, none⟩)), .inl (.int .i64 m.p), .inl (.bool false), .inl (.bool false), .inl (.bool false), .inl (.pointer (some ⟨g2, 4, none⟩)), .inl (.string m.s), .inl (.bool true), .inl (.bool true), .inl (.pointer (some ⟨g2, 4, none⟩)), .inl (.string m.s), .inl (.bool true), .inl (.bool false), .inl (.bool false), .inl (.bool false), .inl (.bool false), .inl (.pointer (some ⟨g2, 5, none⟩)), .inl (numV m.a), .inl (.bool false), .inl (.bool true), .inl (.bool true), .inl (.bool true), .inl (undef), .inl (undef), .inl (undef), .inl (undef), .inl (.bool true)]) 38 rfl (by kernel_rfl) ⟨hopP F3 hD21 0 (some g2) (by kernel_rfl), ?_, hopP F3 hD21 0 (some g2) (by kernel_rfl), ?_, ?_, hop0 F3 (by kernel_rfl), hop0 F3 (by kernel_rfl), hopP F3 hD21 0 (some g2) (by kernel_rfl), ?_, hop0 F3 (by kernel_rfl), hop0 F3 (by kernel_rfl), hop0 F3 (by kernel_rfl), hopP F3 hD21 0 (some g2) (by kernel_rfl), ?_, hop0 F3 (by kernel_rfl), hop0 F3 (by kernel_rfl), hop0 F3 (by kernel_rfl), hopP F3 hD21 0 (some g2) (by kernel_rfl), ?_, hop0 F3 (by kernel_rfl), hop0 F3 (by kernel_rfl), hopP F3 hD21 0 (some g2) (by kernel_rfl), ?_, hop0 F3 (by kernel_rfl), hop0 F3 (by kernel_rfl), hop0 F3 (by kernel_rfl), hop0 F3 (by kernel_rfl), hop0 F3 (by kernel_rfl), hopP F3 hD21 0 (some g2) (by kernel_rfl), ?_, hop0 F3 (by kernel_rfl), hop0 F3 (by kernel_rfl), hop0 F3 (by kernel_rfl), hop0 F3 (by kernel_rfl), hop0 F3 (by kernel_rfl), hop0 F3 (by kernel_rfl), hop0 F3 (by kernel_rfl), hop0 F3 (by kernel_rfl), trivial⟩ ?_
  ·intro ua uw hb hd
   have e3 : ua.eval (.tmp 3) = .agg (msgA m V) := hd 3 (by decide)
   exact zfa (F := (StK.eq (.int .i64 ((hasR m : Nat) : Int))).F) (za rfl) hb.size rfl #[.agg (msgA m V)] (zp e3) (zE Try.func46 rfl) (zia (zqb m V ho uw ⟨(M2.step hb).isb (k := 0) rfl, (M2.step hb).isb (k := 1) rfl, (M2.step hb).isb (k := 2) rfl, (M2.step hb).isb (k := 3) rfl, (M2.step hb).isb (k := 4) rfl⟩))
  ·intro ua uw hb hd
   have e5 : ua.eval (.tmp 5) = .agg (msgA m V) := hd 5 (by decide)
   exact zfa (F := (StK.eq (.int .i64 (zla m))).F) (za rfl) hb.size rfl #[.agg (msgA m V)] (zp e5) (zE Try.func58 rfl) (zia (ztb m V uw ⟨(M2.step hb).isb (k := 0) rfl, (M2.step hb).isb (k := 1) rfl, (M2.step hb).isb (k := 2) rfl, (M2.step hb).isb (k := 3) rfl, (M2.step hb).isb (k := 4) rfl⟩))
  ·intro ua uw hb hd
   have e4 : ua.eval (.tmp 4) = .int .i64 ((hasR m : Nat) : Int) := hd 4 (by decide)
   have e6 : ua.eval (.tmp 6) = .int .i64 (zla m) := hd 6 (by decide)
   exact zk (F := (StK.eq (.bool false)).F) (za rfl) (.bool false) (y_neI _ _ _ _ rfl e4 e6 Try.underlying3 (y_bneF h6)) rfl
  ·intro ua uw hb hd
   have eg : ua.eval (.tmp 8) = .bool false := hd 8 (by decide)
   have e10 : ua.eval (.tmp 10) = .int .i64 m.p := hd 10 (by decide)
   exact zk (F := (StK.eq (.bool false)).F) (zb rfl rfl rfl eg) (.bool false) (zoa _ _ _ _ rfl e10 rfl (decide_eq_false h7)) rfl
  ·intro ua uw hb hd
   have eg : ua.eval (.tmp 13) = .bool false := hd 13 (by decide)
   have e15 : ua.eval (.tmp 15) = .int .i64 m.p := hd 15 (by decide)
   exact zk (F := (StK.eq (.bool false)).F) (zb rfl rfl rfl eg) (.bool false) (zya _ _ _ _ rfl e15 rfl (decide_eq_false h12)) rfl
  ·intro ua uw hb hd
   have eg : ua.eval (.tmp 18) = .bool false := hd 18 (by decide)
   have e20 : ua.eval (.tmp 20) = .string m.s := hd 20 (by decide)
   exact zk (F := (StK.eq (.bool true)).F) (zb rfl rfl rfl eg) (.bool true) (y_neS _ _ _ rfl e20 rfl (show (!nilB m.s) = _ from by rw [hS]; rfl)) rfl
  ·intro ua uw hb hd
   have eg : ua.eval (.tmp 22) = .bool true := hd 22 (by decide)
   have e24 : ua.eval (.tmp 24) = .string m.s := hd 24 (by decide)
   exact zfa (F := (StK.eq (.bool true)).F) (zb rfl rfl rfl eg) hb.size rfl #[.string m.s] (zp e24) (zE Try.func59 rfl) (zia ((hN ▸ rnameB_any m.s hs uw)))
  ·intro ua uw hb hd
   have eg : ua.eval (.tmp 29) = .bool false := hd 29 (by decide)
   have e31 : ua.eval (.tmp 31) = numV m.a := hd 31 (by decide)
   exact zfa (F := (StK.eq (.bool false)).F) (zb rfl rfl rfl eg) hb.size rfl #[numV m.a] (zp e31) (zE Try.func60 rfl) (zia ((hA ▸ zrb m.a ho.a uw)))
  intro p22 a22 w22 b22 G22 y22
  obtain ⟨-, -, -, -, -, -, -, -, -, -, -, -, -, -, -, -, -, -, -, -, -, -, -, -, -, -, -, -, -, -, -, -, -, -, -, -, -, q37, -⟩ := y22
  have r37 : p22 37 = .bool true := q37 (by decide)
  simp only [List.take, layV, Nat.zero_add, Nat.reduceAdd, r37] at G22
  have M22 := M2.kc b22
  clear F3 M2 r37 q37
  refine hK5 _ _ (wp_cond_true (G22.get (t := 40) rfl) ?_)
  refine zT fun _ hK23 => ?_
  refine rm rfl G22 fun _ F24 => ?_
  refine hK23 _ _ (wp_ret ?_)
  try simp only [Exit.then, Exit.inBlock, Exit.jump]
  exact bodyPost_ret (res1 rfl (F24.get rfl)) F24.defers ⟨by rw [← zpa, show zga m = false from by unfold zga; simp [hN, hS, hA, hB, h6, h7, h12]], M22.below⟩
 cases bB
 ·have hD25 := (zj (M2.blk (k := 5) rfl) dnil)
  refine z5a F3 (SK [.inl (.agg (msgA m V)), .inl (.int .i64 ((hasR m : Nat) : Int)), .inl (.agg (msgA m V)), .inl (.int .i64 (zla m)), .inl (.bool false), .inl (.bool false), .inl (.pointer (some ⟨g2, 1, none⟩)), .inl (.int .i64 m.p), .inl (.bool false), .inl (.bool false), .inl (.bool false), .inl (.pointer (some ⟨g2, 1, none⟩)), .inl (.int .i64 m.p), .inl (.bool false), .inl (.bool false), .inl (.bool false), .inl (.pointer (some ⟨g2, 4, none⟩)), .inl (.string m.s), .inl (.bool true), .inl (.bool true), .inl (.pointer (some ⟨g2, 4, none⟩)), .inl (.string m.s), .inl (.bool true), .inl (.bool false), .inl (.bool false), .inl (.bool false), .inl (.bool false), .inl (.pointer (some ⟨g2, 5, none⟩)), .inl (numV m.a), .inl (.bool true), .inl (.bool false), .inl (.bool false), .inl (.bool false), .inl (.pointer (some ⟨g2, 13, none⟩)), .inl (numV m.b), .inl (.bool false), .inl (.bool true), .inl (.bool true)]) 38 rfl (by kernel_rfl) ⟨hopP F3 hD25 0 (some g2) (by kernel_rfl), ?_, hopP F3 hD25 0 (some g2) (by kernel_rfl), ?_, ?_, hop0 F3 (by kernel_rfl), hop0 F3 (by kernel_rfl), hopP F3 hD25 0 (some g2) (by kernel_rfl), ?_, hop0 F3 (by kernel_rfl), hop0 F3 (by kernel_rfl), hop0 F3 (by kernel_rfl), hopP F3 hD25 0 (some g2) (by kernel_rfl), ?_, hop0 F3 (by kernel_rfl), hop0 F3 (by kernel_rfl), hop0 F3 (by kernel_rfl), hopP F3 hD25 0 (some g2) (by kernel_rfl), ?_, hop0 F3 (by kernel_rfl), hop0 F3 (by kernel_rfl), hopP F3 hD25 0 (some g2) (by kernel_rfl), ?_, hop0 F3 (by kernel_rfl), hop0 F3 (by kernel_rfl), hop0 F3 (by kernel_rfl), hop0 F3 (by kernel_rfl), hop0 F3 (by kernel_rfl), hopP F3 hD25 0 (some g2) (by kernel_rfl), ?_, hop0 F3 (by kernel_rfl), hop0 F3 (by kernel_rfl), hop0 F3 (by kernel_rfl), hop0 F3 (by kernel_rfl), hopP F3 hD25 0 (some g2) (by kernel_rfl), ?_, hop0 F3 (by kernel_rfl), hop0 F3 (by kernel_rfl), trivial⟩ ?_
  ·intro ua uw hb hd
   have e3 : ua.eval (.tmp 3) = .agg (msgA m V) := hd 3 (by decide)
   exact zfa (F := (StK.eq (.int .i64 ((hasR m : Nat) : Int))).F) (za rfl) hb.size rfl #[.agg (msgA m V)] (zp e3) (zE Try.func46 rfl) (zia (zqb m V ho uw ⟨(M2.step hb).isb (k := 0) rfl, (M2.step hb).isb (k := 1) rfl, (M2.step hb).isb (k := 2) rfl, (M2.step hb).isb (k := 3) rfl, (M2.step hb).isb (k := 4) rfl⟩))
  ·intro ua uw hb hd
   have e5 : ua.eval (.tmp 5) = .agg (msgA m V) := hd 5 (by decide)
   exact zfa (F := (StK.eq (.int .i64 (zla m))).F) (za rfl) hb.size rfl #[.agg (msgA m V)] (zp e5) (zE Try.func58 rfl) (zia (ztb m V uw ⟨(M2.step hb).isb (k := 0) rfl, (M2.step hb).isb (k := 1) rfl, (M2.step hb).isb (k := 2) rfl, (M2.step hb).isb (k := 3) rfl, (M2.step hb).isb (k := 4) rfl⟩))
  ·intro ua uw hb hd
   have e4 : ua.eval (.tmp 4) = .int .i64 ((hasR m : Nat) : Int) := hd 4 (by decide)
   have e6 : ua.eval (.tmp 6) = .int .i64 (zla m) := hd 6 (by decide)
   exact zk (F := (StK.eq (.bool false)).F) (za rfl) (.bool false) (y_neI _ _ _ _ rfl e4 e6 Try.underlying3 (y_bneF h6)) rfl
  ·intro ua uw hb hd
   have eg : ua.eval (.tmp 8) = .bool false := hd 8 (by decide)
   have e10 : ua.eval (.tmp 10) = .int .i64 m.p := hd 10 (by decide)
   exact zk (F := (StK.eq (.bool false)).F) (zb rfl rfl rfl eg) (.bool false) (zoa _ _ _ _ rfl e10 rfl (decide_eq_false h7)) rfl
  ·intro ua uw hb hd
   have eg : ua.eval (.tmp 13) = .bool false := hd 13 (by decide)
   have e15 : ua.eval (.tmp 15) = .int .i64 m.p := hd 15 (by decide)
   exact zk (F := (StK.eq (.bool false)).F) (zb rfl rfl rfl eg) (.bool false) (zya _ _ _ _ rfl e15 rfl (decide_eq_false h12)) rfl
  ·intro ua uw hb hd
   have eg : ua.eval (.tmp 18) = .bool false := hd 18 (by decide)
   have e20 : ua.eval (.tmp 20) = .string m.s := hd 20 (by decide)
   exact zk (F := (StK.eq (.bool true)).F) (zb rfl rfl rfl eg) (.bool true) (y_neS _ _ _ rfl e20 rfl (show (!nilB m.s) = _ from by rw [hS]; rfl)) rfl
  ·intro ua uw hb hd
   have eg : ua.eval (.tmp 22) = .bool true := hd 22 (by decide)
   have e24 : ua.eval (.tmp 24) = .string m.s := hd 24 (by decide)
   exact zfa (F := (StK.eq (.bool true)).F) (zb rfl rfl rfl eg) hb.size rfl #[.string m.s] (zp e24) (zE Try.func59 rfl) (zia ((hN ▸ rnameB_any m.s hs uw)))
  ·intro ua uw hb hd
   have eg : ua.eval (.tmp 29) = .bool false := hd 29 (by decide)
   have e31 : ua.eval (.tmp 31) = numV m.a := hd 31 (by decide)
   exact zfa (F := (StK.eq (.bool true)).F) (zb rfl rfl rfl eg) hb.size rfl #[numV m.a] (zp e31) (zE Try.func60 rfl) (zia ((hA ▸ zrb m.a ho.a uw)))
  ·intro ua uw hb hd
   have eg : ua.eval (.tmp 35) = .bool false := hd 35 (by decide)
   have e37 : ua.eval (.tmp 37) = numV m.b := hd 37 (by decide)
   exact zfa (F := (StK.eq (.bool false)).F) (zb rfl rfl rfl eg) hb.size rfl #[numV m.b] (zp e37) (zE Try.func60 rfl) (zia ((hB ▸ zrb m.b ho.b uw)))
  intro p26 a26 w26 b26 G26 y26
  obtain ⟨-, -, -, -, -, -, -, -, -, -, -, -, -, -, -, -, -, -, -, -, -, -, -, -, -, -, -, -, -, -, -, -, -, -, -, -, -, q37, -⟩ := y26
  have r37 : p26 37 = .bool true := q37 (by decide)
  simp only [List.take, layV, Nat.zero_add, Nat.reduceAdd, r37] at G26
  have M26 := M2.kc b26
  clear F3 M2 r37 q37
  refine hK5 _ _ (wp_cond_true (G26.get (t := 40) rfl) ?_)
  refine zT fun _ hK27 => ?_
  refine rm rfl G26 fun _ F28 => ?_
  refine hK27 _ _ (wp_ret ?_)
  try simp only [Exit.then, Exit.inBlock, Exit.jump]
  exact bodyPost_ret (res1 rfl (F28.get rfl)) F28.defers ⟨by rw [← zpa, show zga m = false from by unfold zga; simp [hN, hS, hA, hB, h6, h7, h12]], M26.below⟩
 have hD29 := (zj (M2.blk (k := 5) rfl) dnil)
 refine z5a F3 (SK [.inl (.agg (msgA m V)), .inl (.int .i64 ((hasR m : Nat) : Int)), .inl (.agg (msgA m V)), .inl (.int .i64 (zla m)), .inl (.bool false), .inl (.bool false), .inl (.pointer (some ⟨g2, 1, none⟩)), .inl (.int .i64 m.p), .inl (.bool false), .inl (.bool false), .inl (.bool false), .inl (.pointer (some ⟨g2, 1, none⟩)), .inl (.int .i64 m.p), .inl (.bool false), .inl (.bool false), .inl (.bool false), .inl (.pointer (some ⟨g2, 4, none⟩)), .inl (.string m.s), .inl (.bool true), .inl (.bool true), .inl (.pointer (some ⟨g2, 4, none⟩)), .inl (.string m.s), .inl (.bool true), .inl (.bool false), .inl (.bool false), .inl (.bool false), .inl (.bool false), .inl (.pointer (some ⟨g2, 5, none⟩)), .inl (numV m.a), .inl (.bool true), .inl (.bool false), .inl (.bool false), .inl (.bool false), .inl (.pointer (some ⟨g2, 13, none⟩)), .inl (numV m.b), .inl (.bool true), .inl (.bool false), .inl (.bool false)]) 38 rfl (by kernel_rfl) ⟨hopP F3 hD29 0 (some g2) (by kernel_rfl), ?_, hopP F3 hD29 0 (some g2) (by kernel_rfl), ?_, ?_, hop0 F3 (by kernel_rfl), hop0 F3 (by kernel_rfl), hopP F3 hD29 0 (some g2) (by kernel_rfl), ?_, hop0 F3 (by kernel_rfl), hop0 F3 (by kernel_rfl), hop0 F3 (by kernel_rfl), hopP F3 hD29 0 (some g2) (by kernel_rfl), ?_, hop0 F3 (by kernel_rfl), hop0 F3 (by kernel_rfl), hop0 F3 (by kernel_rfl), hopP F3 hD29 0 (some g2) (by kernel_rfl), ?_, hop0 F3 (by kernel_rfl), hop0 F3 (by kernel_rfl), hopP F3 hD29 0 (some g2) (by kernel_rfl), ?_, hop0 F3 (by kernel_rfl), hop0 F3 (by kernel_rfl), hop0 F3 (by kernel_rfl), hop0 F3 (by kernel_rfl), hop0 F3 (by kernel_rfl), hopP F3 hD29 0 (some g2) (by kernel_rfl), ?_, hop0 F3 (by kernel_rfl), hop0 F3 (by kernel_rfl), hop0 F3 (by kernel_rfl), hop0 F3 (by kernel_rfl), hopP F3 hD29 0 (some g2) (by kernel_rfl), ?_, hop0 F3 (by kernel_rfl), hop0 F3 (by kernel_rfl), trivial⟩ ?_
 ·intro ua uw hb hd
  have e3 : ua.eval (.tmp 3) = .agg (msgA m V) := hd 3 (by decide)
  exact zfa (F := (StK.eq (.int .i64 ((hasR m : Nat) : Int))).F) (za rfl) hb.size rfl #[.agg (msgA m V)] (zp e3) (zE Try.func46 rfl) (zia (zqb m V ho uw ⟨(M2.step hb).isb (k := 0) rfl, (M2.step hb).isb (k := 1) rfl, (M2.step hb).isb (k := 2) rfl, (M2.step hb).isb (k := 3) rfl, (M2.step hb).isb (k := 4) rfl⟩))
 ·intro ua uw hb hd
  have e5 : ua.eval (.tmp 5) = .agg (msgA m V) := hd 5 (by decide)
  exact zfa (F := (StK.eq (.int .i64 (zla m))).F) (za rfl) hb.size rfl #[.agg (msgA m V)] (zp e5) (zE Try.func58 rfl) (zia (ztb m V uw ⟨(M2.step hb).isb (k := 0) rfl, (M2.step hb).isb (k := 1) rfl, (M2.step hb).isb (k := 2) rfl, (M2.step hb).isb (k := 3) rfl, (M2.step hb).isb (k := 4) rfl⟩))
 ·intro ua uw hb hd
  have e4 : ua.eval (.tmp 4) = .int .i64 ((hasR m : Nat) : Int) := hd 4 (by decide)
  have e6 : ua.eval (.tmp 6) = .int .i64 (zla m) := hd 6 (by decide)
  exact zk (F := (StK.eq (.bool false)).F) (za rfl) (.bool false) (y_neI _ _ _ _ rfl e4 e6 Try.underlying3 (y_bneF h6)) rfl
 ·intro ua uw hb hd
  have eg : ua.eval (.tmp 8) = .bool false := hd 8 (by decide)
  have e10 : ua.eval (.tmp 10) = .int .i64 m.p := hd 10 (by decide)
  exact zk (F := (StK.eq (.bool false)).F) (zb rfl rfl rfl eg) (.bool false) (zoa _ _ _ _ rfl e10 rfl (decide_eq_false h7)) rfl
 ·intro ua uw hb hd
  have eg : ua.eval (.tmp 13) = .bool false := hd 13 (by decide)
  have e15 : ua.eval (.tmp 15) = .int .i64 m.p := hd 15 (by decide)
  exact zk (F := (StK.eq (.bool false)).F) (zb rfl rfl rfl eg) (.bool false) (zya _ _ _ _ rfl e15 rfl (decide_eq_false h12)) rfl
 ·intro ua uw hb hd
  have eg : ua.eval (.tmp 18) = .bool false := hd 18 (by decide)
  have e20 : ua.eval (.tmp 20) = .string m.s := hd 20 (by decide)
  exact zk (F := (StK.eq (.bool true)).F) (zb rfl rfl rfl eg) (.bool true) (y_neS _ _ _ rfl e20 rfl (show (!nilB m.s) = _ from by rw [hS]; rfl)) rfl
 ·intro ua uw hb hd
  have eg : ua.eval (.tmp 22) = .bool true := hd 22 (by decide)
  have e24 : ua.eval (.tmp 24) = .string m.s := hd 24 (by decide)
  exact zfa (F := (StK.eq (.bool true)).F) (zb rfl rfl rfl eg) hb.size rfl #[.string m.s] (zp e24) (zE Try.func59 rfl) (zia ((hN ▸ rnameB_any m.s hs uw)))
 ·intro ua uw hb hd
  have eg : ua.eval (.tmp 29) = .bool false := hd 29 (by decide)
  have e31 : ua.eval (.tmp 31) = numV m.a := hd 31 (by decide)
  exact zfa (F := (StK.eq (.bool true)).F) (zb rfl rfl rfl eg) hb.size rfl #[numV m.a] (zp e31) (zE Try.func60 rfl) (zia ((hA ▸ zrb m.a ho.a uw)))
 ·intro ua uw hb hd
  have eg : ua.eval (.tmp 35) = .bool false := hd 35 (by decide)
  have e37 : ua.eval (.tmp 37) = numV m.b := hd 37 (by decide)
  exact zfa (F := (StK.eq (.bool true)).F) (zb rfl rfl rfl eg) hb.size rfl #[numV m.b] (zp e37) (zE Try.func60 rfl) (zia ((hB ▸ zrb m.b ho.b uw)))
 intro p30 a30 w30 b30 G30 y30
 obtain ⟨-, -, -, -, -, -, -, -, -, -, -, -, -, -, -, -, -, -, -, -, -, -, -, -, -, -, -, -, -, -, -, -, -, -, -, -, -, q37, -⟩ := y30
 have r37 : p30 37 = .bool false := q37 (by decide)
 simp only [List.take, layV, Nat.zero_add, Nat.reduceAdd, r37] at G30
 have M30 := M2.kc b30
 clear F3 M2 r37 q37
 refine hK5 _ _ (wp_cond_false (G30.get (t := 40) rfl) ?_)
 refine wp_skip ?_
 refine hK4 _ _ (zS fun _ hK31 => ?_)
 refine zR ?_
 refine zB 2 [(1, .pointer (some ⟨g2, 0, none⟩)), (2, .bool false), (42, V.v5)] [0] (zj (M30.blk (k := 5) rfl) dnil) [g2] G30 fun _ F32 => ?_
 refine rn rfl rfl F32 rfl (.int .i64 (m.l5.length : Int)) (z9 _ rfl (F32.get rfl) (M30.isb (k := 0) rfl) rfl) fun _ F33 => ?_
 by_cases h34 : (m.l5.length : Int) ≤ 16
 rotate_left
 ·refine rn rfl rfl F33 rfl (.bool false) (z8 _ _ _ _ rfl (F33.get rfl) rfl (decide_eq_false h34)) fun _ F76 => ?_
  refine zB 40 [(2, .bool false)] [] dnil [] F76 fun _ F77 => ?_
  refine hK31 _ _ (wp_ret ?_)
  try simp only [Exit.then, Exit.inBlock, Exit.jump]
  exact bodyPost_ret (res1 rfl (F77.get rfl)) F77.defers ⟨by rw [← zpa, show zga m = false from by unfold zga; simp [hN, hS, hA, hB, h6, h7, h12, h34]], M30.below⟩
 refine rn rfl rfl F33 rfl (.bool true) (z8 _ _ _ _ rfl (F33.get rfl) rfl (decide_eq_true h34)) fun _ F35 => ?_
 refine zB 3 [(1, .pointer (some ⟨g2, 0, none⟩)), (2, .bool false), (45, .bool true), (47, V.v6)] [0] (zj (M30.blk (k := 5) rfl) dnil) [g2] F35 fun _ F36 => ?_
 refine ze (w' := w30) (zb rfl rfl rfl (F36.get rfl)) rfl F36 rfl (.int .i64 (m.l6.length : Int)) (z9 _ rfl (F36.get rfl) (M30.isb (k := 1) rfl) rfl) fun _ F37 => ?_
 by_cases h38 : (m.l6.length : Int) ≤ 48
 rotate_left
 ·refine ze (w' := w30) (zb rfl rfl rfl (F37.get rfl)) rfl F37 rfl (.bool false) (z8 _ _ _ _ rfl (F37.get rfl) rfl (decide_eq_false h38)) fun _ F74 => ?_
  refine zB 35 [(2, .bool false)] [] dnil [] F74 fun _ F75 => ?_
  refine hK31 _ _ (wp_ret ?_)
  try simp only [Exit.then, Exit.inBlock, Exit.jump]
  exact bodyPost_ret (res1 rfl (F75.get rfl)) F75.defers ⟨by rw [← zpa, show zga m = false from by unfold zga; simp [hN, hS, hA, hB, h6, h7, h12, h34, h38]], M30.below⟩
 refine ze (w' := w30) (zb rfl rfl rfl (F37.get rfl)) rfl F37 rfl (.bool true) (z8 _ _ _ _ rfl (F37.get rfl) rfl (decide_eq_true h38)) fun _ F39 => ?_
 refine zB 4 [(1, .pointer (some ⟨g2, 0, none⟩)), (2, .bool false), (51, .bool true), (53, V.v7)] [0] (zj (M30.blk (k := 5) rfl) dnil) [g2] F39 fun _ F40 => ?_
 refine ze (w' := w30) (zb rfl rfl rfl (F40.get rfl)) rfl F40 rfl (.int .i64 (m.l7.length : Int)) (z9 _ rfl (F40.get rfl) (M30.isb (k := 2) rfl) rfl) fun _ F41 => ?_
 by_cases h42 : (m.l7.length : Int) ≤ 16
 rotate_left
 ·refine ze (w' := w30) (zb rfl rfl rfl (F41.get rfl)) rfl F41 rfl (.bool false) (z8 _ _ _ _ rfl (F41.get rfl) rfl (decide_eq_false h42)) fun _ F72 => ?_
  refine zB 29 [(2, .bool false)] [] dnil [] F72 fun _ F73 => ?_
  refine hK31 _ _ (wp_ret ?_)
  try simp only [Exit.then, Exit.inBlock, Exit.jump]
  exact bodyPost_ret (res1 rfl (F73.get rfl)) F73.defers ⟨by rw [← zpa, show zga m = false from by unfold zga; simp [hN, hS, hA, hB, h6, h7, h12, h34, h38, h42]], M30.below⟩
 refine ze (w' := w30) (zb rfl rfl rfl (F41.get rfl)) rfl F41 rfl (.bool true) (z8 _ _ _ _ rfl (F41.get rfl) rfl (decide_eq_true h42)) fun _ F43 => ?_
 refine zB 4 [(1, .pointer (some ⟨g2, 0, none⟩)), (2, .bool false), (57, .bool true), (59, V.v8)] [0] (zj (M30.blk (k := 5) rfl) dnil) [g2] F43 fun _ F44 => ?_
 refine ze (w' := w30) (zb rfl rfl rfl (F44.get rfl)) rfl F44 rfl (.int .i64 (m.l8.length : Int)) (z9 _ rfl (F44.get rfl) (M30.isb (k := 3) rfl) rfl) fun _ F45 => ?_
 by_cases h46 : (m.l8.length : Int) ≤ 80
 rotate_left
 ·refine ze (w' := w30) (zb rfl rfl rfl (F45.get rfl)) rfl F45 rfl (.bool false) (z8 _ _ _ _ rfl (F45.get rfl) rfl (decide_eq_false h46)) fun _ F70 => ?_
  refine zB 23 [(2, .bool false)] [] dnil [] F70 fun _ F71 => ?_
  refine hK31 _ _ (wp_ret ?_)
  try simp only [Exit.then, Exit.inBlock, Exit.jump]
  exact bodyPost_ret (res1 rfl (F71.get rfl)) F71.defers ⟨by rw [← zpa, show zga m = false from by unfold zga; simp [hN, hS, hA, hB, h6, h7, h12, h34, h38, h42, h46]], M30.below⟩
 refine ze (w' := w30) (zb rfl rfl rfl (F45.get rfl)) rfl F45 rfl (.bool true) (z8 _ _ _ _ rfl (F45.get rfl) rfl (decide_eq_true h46)) fun _ F47 => ?_
 refine zB 4 [(1, .pointer (some ⟨g2, 0, none⟩)), (2, .bool false), (63, .bool true), (65, V.v9)] [0] (zj (M30.blk (k := 5) rfl) dnil) [g2] F47 fun _ F48 => ?_
 refine ze (w' := w30) (zb rfl rfl rfl (F48.get rfl)) rfl F48 rfl (.int .i64 (m.l9.length : Int)) (z9 _ rfl (F48.get rfl) (M30.isb (k := 4) rfl) rfl) fun _ F49 => ?_
 by_cases h50 : (m.l9.length : Int) ≤ 120
 rotate_left
 ·refine ze (w' := w30) (zb rfl rfl rfl (F49.get rfl)) rfl F49 rfl (.bool false) (z8 _ _ _ _ rfl (F49.get rfl) rfl (decide_eq_false h50)) fun _ F68 => ?_
  refine zB 17 [(2, .bool false)] [] dnil [] F68 fun _ F69 => ?_
  refine hK31 _ _ (wp_ret ?_)
  try simp only [Exit.then, Exit.inBlock, Exit.jump]
  exact bodyPost_ret (res1 rfl (F69.get rfl)) F69.defers ⟨by rw [← zpa, show zga m = false from by unfold zga; simp [hN, hS, hA, hB, h6, h7, h12, h34, h38, h42, h46, h50]], M30.below⟩
 refine ze (w' := w30) (zb rfl rfl rfl (F49.get rfl)) rfl F49 rfl (.bool true) (z8 _ _ _ _ rfl (F49.get rfl) rfl (decide_eq_true h50)) fun _ F51 => ?_
 refine zB 4 [(1, .pointer (some ⟨g2, 0, none⟩)), (2, .bool false), (69, .bool true), (71, .int .i64 m.c)] [0] (zj (M30.blk (k := 5) rfl) dnil) [g2] F51 fun _ F52 => ?_
 by_cases h53 : 0 ≤ m.c
 rotate_left
 ·refine ze (w' := w30) (zb rfl rfl rfl (F52.get rfl)) rfl F52 rfl (.bool false) (zob _ _ _ _ rfl (F52.get rfl) rfl (decide_eq_false h53)) fun _ F66 => ?_
  refine zB 12 [(2, .bool false)] [] dnil [] F66 fun _ F67 => ?_
  refine hK31 _ _ (wp_ret ?_)
  try simp only [Exit.then, Exit.inBlock, Exit.jump]
  exact bodyPost_ret (res1 rfl (F67.get rfl)) F67.defers ⟨by rw [← zpa, show zga m = false from by unfold zga; simp [hN, hS, hA, hB, h6, h7, h12, h34, h38, h42, h46, h50, h53]], M30.below⟩
 refine ze (w' := w30) (zb rfl rfl rfl (F52.get rfl)) rfl F52 rfl (.bool true) (zob _ _ _ _ rfl (F52.get rfl) rfl (decide_eq_true h53)) fun _ F54 => ?_
 refine zB 4 [(1, .pointer (some ⟨g2, 0, none⟩)), (2, .bool false), (74, .bool true), (76, .int .i64 m.e)] [0] (zj (M30.blk (k := 5) rfl) dnil) [g2] F54 fun _ F55 => ?_
 by_cases h56 : 0 ≤ m.e
 rotate_left
 ·refine ze (w' := w30) (zb rfl rfl rfl (F55.get rfl)) rfl F55 rfl (.bool false) (zob _ _ _ _ rfl (F55.get rfl) rfl (decide_eq_false h56)) fun _ F64 => ?_
  refine zB 7 [(2, .bool false)] [] dnil [] F64 fun _ F65 => ?_
  refine hK31 _ _ (wp_ret ?_)
  try simp only [Exit.then, Exit.inBlock, Exit.jump]
  exact bodyPost_ret (res1 rfl (F65.get rfl)) F65.defers ⟨by rw [← zpa, show zga m = false from by unfold zga; simp [hN, hS, hA, hB, h6, h7, h12, h34, h38, h42, h46, h50, h53, h56]], M30.below⟩
 refine ze (w' := w30) (zb rfl rfl rfl (F55.get rfl)) rfl F55 rfl (.bool true) (zob _ _ _ _ rfl (F55.get rfl) rfl (decide_eq_true h56)) fun _ F57 => ?_
 refine zB 4 [(2, .bool false), (79, .bool true), (81, .int .i64 m.e)] [0] (zj (M30.blk (k := 5) rfl) dnil) [g2] F57 fun _ F58 => ?_
 by_cases h59 : m.e ≤ 11
 ·refine ze (w' := w30) (zb rfl rfl rfl (F58.get rfl)) rfl F58 rfl (.bool true) (z8 _ _ _ _ rfl (F58.get rfl) rfl (decide_eq_true h59)) fun _ F60 => ?_
  refine zB 2 [(2, .bool true)] [] dnil [] F60 fun _ F61 => ?_
  refine hK31 _ _ (wp_ret ?_)
  try simp only [Exit.then, Exit.inBlock, Exit.jump]
  exact bodyPost_ret (res1 rfl (F61.get rfl)) F61.defers ⟨by rw [← zpa, show zga m = true from by unfold zga; simp [hN, hS, hA, hB, h6, h7, h12, h34, h38, h42, h46, h50, h53, h56, h59]], M30.below⟩
 refine ze (w' := w30) (zb rfl rfl rfl (F58.get rfl)) rfl F58 rfl (.bool false) (z8 _ _ _ _ rfl (F58.get rfl) rfl (decide_eq_false h59)) fun _ F62 => ?_
 refine zB 2 [(2, .bool false)] [] dnil [] F62 fun _ F63 => ?_
 refine hK31 _ _ (wp_ret ?_)
 try simp only [Exit.then, Exit.inBlock, Exit.jump]
 exact bodyPost_ret (res1 rfl (F63.get rfl)) F63.defers ⟨by rw [← zpa, show zga m = false from by unfold zga; simp [hN, hS, hA, hB, h6, h7, h12, h34, h38, h42, h46, h50, h53, h56, h59]], M30.below⟩
end Go.Proofs.Ytlbkogdmojlpmaa
namespace Go.Proofs.Ytlbkogdmojlpmaa
open Go.ChangeShapes Go.WideShapes Go.ChangeAt Go.RowKit
theorem cont_1 {m : MsgN} (h : zu m 1 ≠ []) : zu m 1 = [zx m.p] := by
  change octL m.p ≠ [] at h
  change octL m.p = _
  unfold octL at h ⊢
  by_cases e : m.p = 0
  · rw [if_pos e] at h; exact absurd rfl h
  · rw [if_neg e]
theorem cont_11 {m : MsgN} (h : zu m 11 ≠ []) : zu m 11 = [zx m.e] := by
  change octL m.e ≠ [] at h
  change octL m.e = _
  unfold octL at h ⊢
  by_cases e : m.e = 0
  · rw [if_pos e] at h; exact absurd rfl h
  · rw [if_neg e]
theorem cont_10 {m : MsgN} (h : zu m 10 ≠ []) : zu m 10 = zlb m.c := by
  change eightO m.c ≠ [] at h
  change eightO m.c = _
  unfold eightO at h ⊢
  by_cases e : m.c = 0
  · rw [if_pos e] at h; exact absurd rfl h
  · rw [if_neg e]
theorem cont_3 {m : MsgN} (h : zu m 3 ≠ []) : zu m 3 = fourL m.a := by
  change fourO m.a ≠ [] at h
  change fourO m.a = _
  unfold fourO at h ⊢
  by_cases e : m.a = 0
  · rw [if_pos e] at h; exact absurd rfl h
  · rw [if_neg e]
theorem cont_4 {m : MsgN} (h : zu m 4 ≠ []) : zu m 4 = fourL m.b := by
  change fourO m.b ≠ [] at h
  change fourO m.b = _
  unfold fourO at h ⊢
  by_cases e : m.b = 0
  · rw [if_pos e] at h; exact absurd rfl h
  · rw [if_neg e]
theorem rfield_any (l c : List UInt8) (v u : Value) (n : Nat) (hl : l.length + c.length ≤ 100000) (w : World) (hb : Byt w 0 v l) (hu : IsB w c u) (hd : ∀ g, v.ownBlock = some g → ¬ bfp u g) :
  Calls Try.prog 47 #[v, .int .i64 (n : Int), u] w fun e w' => ∃ v', e = .returned v' ∧ Byt w' 0 v' ((l ++ [zx (n : Int), zx (c.length : Int)]) ++ c) ∧ (∀ g, v'.ownBlock = some g → w.heap.size ≤ g ∨ v.ownBlock = some g) ∧ w.grownBy w' v.ownBlock := by
 refine zg (args := [v, .int .i64 (n : Int), u]) 17 Try.func47 rfl rfl rfl ?_
 intro fa F
 have M := Mx.theO hb
 replace M := M.argB 1 hu hd
 refine zT fun _ hK1 => ?_
 refine rm rfl F fun _ F2 => ?_
 refine hK1 _ _ (zS fun _ hK3 => ?_)
 refine zR ?_
 refine rm rfl F2 fun _ F4 => ?_
 refine rm rfl F4 fun _ F5 => ?_
 refine rn rfl rfl F5 rfl (.int .u8 (((zx (n : Int)).toNat : Nat) : Int)) (zxa _ _ _ rfl (F5.get rfl) Try.underlying3 Try.underlying5 (z3a _)) fun _ F6 => ?_
 refine rm rfl F6 fun _ F7 => ?_
 refine rn rfl rfl F7 rfl (.int .i64 (c.length : Int)) (z9 _ rfl (F7.get rfl) (M.isb (k := 1) rfl) rfl) fun _ F8 => ?_
 refine rn rfl rfl F8 rfl (.int .u8 (((zx (c.length : Int)).toNat : Nat) : Int)) (zxa _ _ _ rfl (F8.get rfl) Try.underlying3 Try.underlying5 (z3a _)) fun _ F9 => ?_
 refine zba (za rfl) rfl F9 rfl (zbc M 2 [(zx (n : Int)), (zx (c.length : Int))] 2 rfl (by decide) (by decide) rfl (by simp only [List.map_toArray, List.map_cons, List.map_nil, (F9.get (t := 9) rfl), (F9.get (t := 12) rfl)]; kernel_rfl)) ?_
 intro v10 a10 w10 F10 M10
 clear F9 M
 obtain ⟨A10, c10, rfl⟩ := (M10.isO (k := 2) rfl).shape
 refine zba (za rfl) rfl F10 rfl (z2a M10 (k := 0) rfl _ _ rfl (F10.get rfl) (F10.get rfl) (M10.isO (k := 2) rfl) (by simp only [List.length_append, List.length_cons, List.length_nil]; omega)) ?_
 intro v11 a11 w11 F11 M11
 clear F10 M10
 obtain ⟨A11, c11, rfl⟩ := (M11.isO (k := 0) rfl).shape
 refine rm rfl F11 fun _ F12 => ?_
 refine zba (za rfl) rfl F12 rfl (z2a M11 (k := 0) rfl _ _ rfl (F12.get rfl) (F12.get rfl) (M11.isb (k := 1) rfl) (by simp only [List.length_append, List.length_cons, List.length_nil]; omega)) ?_
 intro v13 a13 w13 F13 M13
 clear F12 M11
 obtain ⟨A13, c13, rfl⟩ := (M13.isO (k := 0) rfl).shape
 refine rm rfl F13 fun _ F14 => ?_
 refine hK3 _ _ (wp_ret ?_)
 try simp only [Exit.then, Exit.inBlock, Exit.jump]
 exact bodyPost_ret (res1 rfl (F14.get rfl)) F14.defers ⟨_, rfl, M13.at_ 0 _ rfl, M13.own 0 _ rfl rfl, M13.grown⟩
theorem rbyt_1 (m : MsgN) (V : MsgV) (ho : MsgOk m) (hne : zu m 1 ≠ []) (w : World) (hm : MsgIs w m V) :
  Calls Try.prog 48 #[.agg (msgA m V), .int .i64 1] w fun e w' => ∃ v, e = .returned v ∧ IsB w' (zu m 1) v ∧ (∀ g, bfp v g → w.heap.size ≤ g ∨ z6a V g) ∧ Below w.heap.size w w' := by
 refine zg (args := [.agg (msgA m V), .int .i64 1]) 56 Try.func48 rfl rfl rfl ?_
 intro fa F
 have M := Mx.start w
 replace M := M.argB 0 hm.h5 (fun g e => by cases e)
 replace M := M.argB 1 hm.h6 (fun g e => by cases e)
 replace M := M.argB 2 hm.h7 (fun g e => by cases e)
 replace M := M.argB 3 hm.h8 (fun g e => by cases e)
 replace M := M.argB 4 hm.h9 (fun g e => by cases e)
 refine zT fun _ hK1 => ?_
 refine zf (za rfl) rfl F rfl M 5 (t := 29) (c := msgA m V) (by unfold execOp; simp only [(F.get (t := 0) rfl)]; kernel_rfl) ?_
 intro g2 a2 w2 F2 M2
 clear F M
 refine rm rfl F2 fun _ F3 => ?_
 refine hK1 _ _ (zS fun _ hK4 => ?_)
 refine zT fun _ hK5 => ?_
 refine rm rfl F3 fun _ F6 => ?_
 refine hK5 _ _ (wp_block ?_)
 refine zT fun _ hK7 => ?_
 refine zA 2 [(7, .bool true), (6, .bool true)] [] dnil [] F6 fun _ F8 => ?_
 refine hK7 _ _ (wp_cond_true (F8.get rfl) ?_)
 refine zT fun _ hK9 => ?_
 refine zB 2 [(2, .pointer (some ⟨g2, 0, none⟩)), (4, zN), (9, .int .i64 m.p)] [0] (zj (M2.blk (k := 5) rfl) dnil) [g2] F8 fun _ F10 => ?_
 refine rn rfl rfl F10 rfl (.int .u8 (((zx m.p).toNat : Nat) : Int)) (zxa _ _ _ rfl (F10.get rfl) Try.underlying3 Try.underlying5 (z3a _)) fun _ F11 => ?_
 refine zba (za rfl) rfl F11 rfl (zbc M2 6 [(zx m.p)] 1 rfl (by decide) (by decide) rfl (by simp only [List.map_toArray, List.map_cons, List.map_nil, (F11.get (t := 10) rfl)]; kernel_rfl)) ?_
 intro v12 a12 w12 F12 M12
 clear F11 M2
 obtain ⟨A12, c12, rfl⟩ := (M12.isO (k := 6) rfl).shape
 refine rm rfl F12 fun _ F13 => ?_
 refine hK9 _ _ (wp_ret ?_)
 try simp only [Exit.then, Exit.inBlock, Exit.jump]
 exact bodyPost_ret (res1 rfl (F13.get rfl)) F13.defers ⟨_, rfl, (by rw [cont_1 hne]; exact M12.isO (k := 6) rfl), (fun g hg => .inl (M12.owns (k := 6) rfl g (zva hg))), M12.below⟩
theorem rbyt_2 (m : MsgN) (V : MsgV) (ho : MsgOk m) (hne : zu m 2 ≠ []) (w : World) (hm : MsgIs w m V) :
  Calls Try.prog 48 #[.agg (msgA m V), .int .i64 2] w fun e w' => ∃ v, e = .returned v ∧ IsB w' (zu m 2) v ∧ (∀ g, bfp v g → w.heap.size ≤ g ∨ z6a V g) ∧ Below w.heap.size w w' := by
 refine zg (args := [.agg (msgA m V), .int .i64 2]) 56 Try.func48 rfl rfl rfl ?_
 intro fa F
 have M := Mx.start w
 replace M := M.argB 0 hm.h5 (fun g e => by cases e)
 replace M := M.argB 1 hm.h6 (fun g e => by cases e)
 replace M := M.argB 2 hm.h7 (fun g e => by cases e)
 replace M := M.argB 3 hm.h8 (fun g e => by cases e)
 replace M := M.argB 4 hm.h9 (fun g e => by cases e)
 refine zT fun _ hK1 => ?_
 refine zf (za rfl) rfl F rfl M 5 (t := 29) (c := msgA m V) (by unfold execOp; simp only [(F.get (t := 0) rfl)]; kernel_rfl) ?_
 intro g2 a2 w2 F2 M2
 clear F M
 refine rm rfl F2 fun _ F3 => ?_
 refine hK1 _ _ (zS fun _ hK4 => ?_)
 refine zT fun _ hK5 => ?_
 refine rm rfl F3 fun _ F6 => ?_
 refine hK5 _ _ (wp_block ?_)
 refine zT fun _ hK7 => ?_
 refine zA 2 [(7, .bool false), (6, .bool false)] [] dnil [] F6 fun _ F8 => ?_
 refine hK7 _ _ (wp_cond_false (F8.get rfl) ?_)
 refine zT fun _ hK9 => ?_
 refine zA 2 [(13, .bool true), (12, .bool true)] [] dnil [] F8 fun _ F10 => ?_
 refine hK9 _ _ (wp_cond_true (F10.get rfl) ?_)
 refine zT fun _ hK11 => ?_
 refine zB 2 [(2, .pointer (some ⟨g2, 0, none⟩)), (4, zN), (15, .string m.s)] [0] (zj (M2.blk (k := 5) rfl) dnil) [g2] F10 fun _ F12 => ?_
 refine zba (za rfl) rfl F12 rfl (run_cvS M2 6 _ rfl (F12.get rfl) ho.s) ?_
 intro v13 a13 w13 F13 M13
 clear F12 M2
 have fr13 := M13.frN (k := 6) rfl
 replace M13 := M13.unN (k := 6) rfl
 obtain ⟨A13, c13, rfl⟩ := (M13.isb (k := 6) rfl).shape
 refine rm rfl F13 fun _ F14 => ?_
 refine hK11 _ _ (wp_ret ?_)
 try simp only [Exit.then, Exit.inBlock, Exit.jump]
 exact bodyPost_ret (res1 rfl (F14.get rfl)) F14.defers ⟨_, rfl, M13.isb (k := 6) rfl, (fun g hg => .inl (fr13 g hg)), M13.below⟩
theorem rbyt_3 (m : MsgN) (V : MsgV) (ho : MsgOk m) (hne : zu m 3 ≠ []) (w : World) (hm : MsgIs w m V) :
  Calls Try.prog 48 #[.agg (msgA m V), .int .i64 3] w fun e w' => ∃ v, e = .returned v ∧ IsB w' (zu m 3) v ∧ (∀ g, bfp v g → w.heap.size ≤ g ∨ z6a V g) ∧ Below w.heap.size w w' := by
 refine zg (args := [.agg (msgA m V), .int .i64 3]) 56 Try.func48 rfl rfl rfl ?_
 intro fa F
 have M := Mx.start w
 replace M := M.argB 0 hm.h5 (fun g e => by cases e)
 replace M := M.argB 1 hm.h6 (fun g e => by cases e)
 replace M := M.argB 2 hm.h7 (fun g e => by cases e)
 replace M := M.argB 3 hm.h8 (fun g e => by cases e)
 replace M := M.argB 4 hm.h9 (fun g e => by cases e)
 refine zT fun _ hK1 => ?_
 refine zf (za rfl) rfl F rfl M 5 (t := 29) (c := msgA m V) (by unfold execOp; simp only [(F.get (t := 0) rfl)]; kernel_rfl) ?_
 intro g2 a2 w2 F2 M2
 clear F M
 refine rm rfl F2 fun _ F3 => ?_
 refine hK1 _ _ (zS fun _ hK4 => ?_)
 refine zT fun _ hK5 => ?_
 refine rm rfl F3 fun _ F6 => ?_
 refine hK5 _ _ (wp_block ?_)
 refine zT fun _ hK7 => ?_
 refine zA 2 [(7, .bool false), (6, .bool false)] [] dnil [] F6 fun _ F8 => ?_
 refine hK7 _ _ (wp_cond_false (F8.get rfl) ?_)
 refine zT fun _ hK9 => ?_
 refine zA 2 [(13, .bool false), (12, .bool false)] [] dnil [] F8 fun _ F10 => ?_
 refine hK9 _ _ (wp_cond_false (F10.get rfl) ?_)
 refine zT fun _ hK11 => ?_
 refine zA 2 [(18, .bool true), (17, .bool true)] [] dnil [] F10 fun _ F12 => ?_
 refine hK11 _ _ (wp_cond_true (F12.get rfl) ?_)
 refine zT fun _ hK13 => ?_
 refine zB 2 [(2, .pointer (some ⟨g2, 0, none⟩)), (4, zN), (20, numV m.a)] [0] (zj (M2.blk (k := 5) rfl) dnil) [g2] F12 fun _ F14 => ?_
 refine zd (za rfl) rfl F14 rfl rfl (zE Try.func65 rfl) #[numV m.a] (zp (F14.get rfl)) (rfourN_any m.a w2) ?_
 rintro v15 w15 a15 h15 F15
 have M15 := M2.newB h15.2.2 6 h15.1 h15.2.1
 have fr15 := fun g hg => Nat.le_trans M2.le (h15.2.1 g hg)
 clear M2 h15
 obtain ⟨A15, c15, rfl⟩ := (M15.isb (k := 6) rfl).shape
 refine rm rfl F15 fun _ F16 => ?_
 refine hK13 _ _ (wp_ret ?_)
 try simp only [Exit.then, Exit.inBlock, Exit.jump]
 exact bodyPost_ret (res1 rfl (F16.get rfl)) F16.defers ⟨_, rfl, (by rw [cont_3 hne]; exact M15.isb (k := 6) rfl), (fun g hg => .inl (fr15 g hg)), M15.below⟩
theorem rbyt_4 (m : MsgN) (V : MsgV) (ho : MsgOk m) (hne : zu m 4 ≠ []) (w : World) (hm : MsgIs w m V) :
  Calls Try.prog 48 #[.agg (msgA m V), .int .i64 4] w fun e w' => ∃ v, e = .returned v ∧ IsB w' (zu m 4) v ∧ (∀ g, bfp v g → w.heap.size ≤ g ∨ z6a V g) ∧ Below w.heap.size w w' := by
 refine zg (args := [.agg (msgA m V), .int .i64 4]) 56 Try.func48 rfl rfl rfl ?_
 intro fa F
 have M := Mx.start w
 replace M := M.argB 0 hm.h5 (fun g e => by cases e)
 replace M := M.argB 1 hm.h6 (fun g e => by cases e)
 replace M := M.argB 2 hm.h7 (fun g e => by cases e)
 replace M := M.argB 3 hm.h8 (fun g e => by cases e)
 replace M := M.argB 4 hm.h9 (fun g e => by cases e)
 refine zT fun _ hK1 => ?_
 refine zf (za rfl) rfl F rfl M 5 (t := 29) (c := msgA m V) (by unfold execOp; simp only [(F.get (t := 0) rfl)]; kernel_rfl) ?_
 intro g2 a2 w2 F2 M2
 clear F M
 refine rm rfl F2 fun _ F3 => ?_
 refine hK1 _ _ (zS fun _ hK4 => ?_)
 refine zT fun _ hK5 => ?_
 refine rm rfl F3 fun _ F6 => ?_
 refine hK5 _ _ (wp_block ?_)
 refine zT fun _ hK7 => ?_
 refine zA 2 [(7, .bool false), (6, .bool false)] [] dnil [] F6 fun _ F8 => ?_
 refine hK7 _ _ (wp_cond_false (F8.get rfl) ?_)
 refine zT fun _ hK9 => ?_
 refine zA 2 [(13, .bool false), (12, .bool false)] [] dnil [] F8 fun _ F10 => ?_
 refine hK9 _ _ (wp_cond_false (F10.get rfl) ?_)
 refine zT fun _ hK11 => ?_
 refine zA 2 [(18, .bool false), (17, .bool false)] [] dnil [] F10 fun _ F12 => ?_
 refine hK11 _ _ (wp_cond_false (F12.get rfl) ?_)
 refine zT fun _ hK13 => ?_
 refine zA 2 [(23, .bool true), (22, .bool true)] [] dnil [] F12 fun _ F14 => ?_
 refine hK13 _ _ (wp_cond_true (F14.get rfl) ?_)
 refine zT fun _ hK15 => ?_
 refine zB 2 [(2, .pointer (some ⟨g2, 0, none⟩)), (4, zN), (25, numV m.b)] [0] (zj (M2.blk (k := 5) rfl) dnil) [g2] F14 fun _ F16 => ?_
 refine zd (za rfl) rfl F16 rfl rfl (zE Try.func65 rfl) #[numV m.b] (zp (F16.get rfl)) (rfourN_any m.b w2) ?_
 rintro v17 w17 a17 h17 F17
 have M17 := M2.newB h17.2.2 6 h17.1 h17.2.1
 have fr17 := fun g hg => Nat.le_trans M2.le (h17.2.1 g hg)
 clear M2 h17
 obtain ⟨A17, c17, rfl⟩ := (M17.isb (k := 6) rfl).shape
 refine rm rfl F17 fun _ F18 => ?_
 refine hK15 _ _ (wp_ret ?_)
 try simp only [Exit.then, Exit.inBlock, Exit.jump]
 exact bodyPost_ret (res1 rfl (F18.get rfl)) F18.defers ⟨_, rfl, (by rw [cont_4 hne]; exact M17.isb (k := 6) rfl), (fun g hg => .inl (fr17 g hg)), M17.below⟩
theorem rbyt_5 (m : MsgN) (V : MsgV) (ho : MsgOk m) (hne : zu m 5 ≠ []) (w : World) (hm : MsgIs w m V) :
  Calls Try.prog 48 #[.agg (msgA m V), .int .i64 5] w fun e w' => ∃ v, e = .returned v ∧ IsB w' (zu m 5) v ∧ (∀ g, bfp v g → w.heap.size ≤ g ∨ z6a V g) ∧ Below w.heap.size w w' := by
 refine zg (args := [.agg (msgA m V), .int .i64 5]) 56 Try.func48 rfl rfl rfl ?_
 intro fa F
 have M := Mx.start w
 replace M := M.argB 0 hm.h5 (fun g e => by cases e)
 replace M := M.argB 1 hm.h6 (fun g e => by cases e)
 replace M := M.argB 2 hm.h7 (fun g e => by cases e)
 replace M := M.argB 3 hm.h8 (fun g e => by cases e)
 replace M := M.argB 4 hm.h9 (fun g e => by cases e)
 refine zT fun _ hK1 => ?_
 refine zf (za rfl) rfl F rfl M 5 (t := 29) (c := msgA m V) (by unfold execOp; simp only [(F.get (t := 0) rfl)]; kernel_rfl) ?_
 intro g2 a2 w2 F2 M2
 clear F M
 refine rm rfl F2 fun _ F3 => ?_
 refine hK1 _ _ (zS fun _ hK4 => ?_)
 refine zT fun _ hK5 => ?_
 refine rm rfl F3 fun _ F6 => ?_
 refine hK5 _ _ (wp_block ?_)
 refine zT fun _ hK7 => ?_
 refine zA 2 [(7, .bool false), (6, .bool false)] [] dnil [] F6 fun _ F8 => ?_
 refine hK7 _ _ (wp_cond_false (F8.get rfl) ?_)
 refine zT fun _ hK9 => ?_
 refine zA 2 [(13, .bool false), (12, .bool false)] [] dnil [] F8 fun _ F10 => ?_
 refine hK9 _ _ (wp_cond_false (F10.get rfl) ?_)
 refine zT fun _ hK11 => ?_
 refine zA 2 [(18, .bool false), (17, .bool false)] [] dnil [] F10 fun _ F12 => ?_
 refine hK11 _ _ (wp_cond_false (F12.get rfl) ?_)
 refine zT fun _ hK13 => ?_
 refine zA 2 [(23, .bool false), (22, .bool false)] [] dnil [] F12 fun _ F14 => ?_
 refine hK13 _ _ (wp_cond_false (F14.get rfl) ?_)
 refine zT fun _ hK15 => ?_
 refine zA 2 [(28, .bool true), (27, .bool true)] [] dnil [] F14 fun _ F16 => ?_
 refine hK15 _ _ (wp_cond_true (F16.get rfl) ?_)
 refine zT fun _ hK17 => ?_
 refine zB 3 [(2, .pointer (some ⟨g2, 0, none⟩)), (4, V.v5)] [0] (zj (M2.blk (k := 5) rfl) dnil) [g2] F16 fun _ F18 => ?_
 refine hK17 _ _ (wp_ret ?_)
 try simp only [Exit.then, Exit.inBlock, Exit.jump]
 exact bodyPost_ret (res1 rfl (F18.get rfl)) F18.defers ⟨_, rfl, M2.isb (k := 0) rfl, (fun g hg => .inr (.inl hg)), M2.below⟩
theorem rbyt_6 (m : MsgN) (V : MsgV) (ho : MsgOk m) (hne : zu m 6 ≠ []) (w : World) (hm : MsgIs w m V) :
  Calls Try.prog 48 #[.agg (msgA m V), .int .i64 6] w fun e w' => ∃ v, e = .returned v ∧ IsB w' (zu m 6) v ∧ (∀ g, bfp v g → w.heap.size ≤ g ∨ z6a V g) ∧ Below w.heap.size w w' := by
 refine zg (args := [.agg (msgA m V), .int .i64 6]) 56 Try.func48 rfl rfl rfl ?_
 intro fa F
 have M := Mx.start w
 replace M := M.argB 0 hm.h5 (fun g e => by cases e)
 replace M := M.argB 1 hm.h6 (fun g e => by cases e)
 replace M := M.argB 2 hm.h7 (fun g e => by cases e)
 replace M := M.argB 3 hm.h8 (fun g e => by cases e)
 replace M := M.argB 4 hm.h9 (fun g e => by cases e)
 refine zT fun _ hK1 => ?_
 refine zf (za rfl) rfl F rfl M 5 (t := 29) (c := msgA m V) (by unfold execOp; simp only [(F.get (t := 0) rfl)]; kernel_rfl) ?_
 intro g2 a2 w2 F2 M2
 clear F M
 refine rm rfl F2 fun _ F3 => ?_
 refine hK1 _ _ (zS fun _ hK4 => ?_)
 refine zT fun _ hK5 => ?_
 refine rm rfl F3 fun _ F6 => ?_
 refine hK5 _ _ (wp_block ?_)
 refine zT fun _ hK7 => ?_
 refine zA 2 [(7, .bool false), (6, .bool false)] [] dnil [] F6 fun _ F8 => ?_
 refine hK7 _ _ (wp_cond_false (F8.get rfl) ?_)
 refine zT fun _ hK9 => ?_
 refine zA 2 [(13, .bool false), (12, .bool false)] [] dnil [] F8 fun _ F10 => ?_
 refine hK9 _ _ (wp_cond_false (F10.get rfl) ?_)
 refine zT fun _ hK11 => ?_
 refine zA 2 [(18, .bool false), (17, .bool false)] [] dnil [] F10 fun _ F12 => ?_
 refine hK11 _ _ (wp_cond_false (F12.get rfl) ?_)
 refine zT fun _ hK13 => ?_
 refine zA 2 [(23, .bool false), (22, .bool false)] [] dnil [] F12 fun _ F14 => ?_
 refine hK13 _ _ (wp_cond_false (F14.get rfl) ?_)
 refine zT fun _ hK15 => ?_
 refine zA 2 [(28, .bool false), (27, .bool false)] [] dnil [] F14 fun _ F16 => ?_
 refine hK15 _ _ (wp_cond_false (F16.get rfl) ?_)
 refine zT fun _ hK17 => ?_
 refine zA 2 [(32, .bool true), (31, .bool true)] [] dnil [] F16 fun _ F18 => ?_
 refine hK17 _ _ (wp_cond_true (F18.get rfl) ?_)
 refine zT fun _ hK19 => ?_
 refine zB 3 [(2, .pointer (some ⟨g2, 0, none⟩)), (4, V.v6)] [0] (zj (M2.blk (k := 5) rfl) dnil) [g2] F18 fun _ F20 => ?_
 refine hK19 _ _ (wp_ret ?_)
 try simp only [Exit.then, Exit.inBlock, Exit.jump]
 exact bodyPost_ret (res1 rfl (F20.get rfl)) F20.defers ⟨_, rfl, M2.isb (k := 1) rfl, (fun g hg => .inr (.inr (.inl hg))), M2.below⟩
theorem rbyt_7 (m : MsgN) (V : MsgV) (ho : MsgOk m) (hne : zu m 7 ≠ []) (w : World) (hm : MsgIs w m V) :
  Calls Try.prog 48 #[.agg (msgA m V), .int .i64 7] w fun e w' => ∃ v, e = .returned v ∧ IsB w' (zu m 7) v ∧ (∀ g, bfp v g → w.heap.size ≤ g ∨ z6a V g) ∧ Below w.heap.size w w' := by
 refine zg (args := [.agg (msgA m V), .int .i64 7]) 56 Try.func48 rfl rfl rfl ?_
 intro fa F
 have M := Mx.start w
 replace M := M.argB 0 hm.h5 (fun g e => by cases e)
 replace M := M.argB 1 hm.h6 (fun g e => by cases e)
 replace M := M.argB 2 hm.h7 (fun g e => by cases e)
 replace M := M.argB 3 hm.h8 (fun g e => by cases e)
 replace M := M.argB 4 hm.h9 (fun g e => by cases e)
 refine zT fun _ hK1 => ?_
 refine zf (za rfl) rfl F rfl M 5 (t := 29) (c := msgA m V) (by unfold execOp; simp only [(F.get (t := 0) rfl)]; kernel_rfl) ?_
 intro g2 a2 w2 F2 M2
 clear F M
 refine rm rfl F2 fun _ F3 => ?_
 refine hK1 _ _ (zS fun _ hK4 => ?_)
 refine zT fun _ hK5 => ?_
 refine rm rfl F3 fun _ F6 => ?_
 refine hK5 _ _ (wp_block ?_)
 refine zT fun _ hK7 => ?_
 refine zA 2 [(7, .bool false), (6, .bool false)] [] dnil [] F6 fun _ F8 => ?_
 refine hK7 _ _ (wp_cond_false (F8.get rfl) ?_)
 refine zT fun _ hK9 => ?_
 refine zA 2 [(13, .bool false), (12, .bool false)] [] dnil [] F8 fun _ F10 => ?_
 refine hK9 _ _ (wp_cond_false (F10.get rfl) ?_)
 refine zT fun _ hK11 => ?_
 refine zA 2 [(18, .bool false), (17, .bool false)] [] dnil [] F10 fun _ F12 => ?_
 refine hK11 _ _ (wp_cond_false (F12.get rfl) ?_)
 refine zT fun _ hK13 => ?_
 refine zA 2 [(23, .bool false), (22, .bool false)] [] dnil [] F12 fun _ F14 => ?_
 refine hK13 _ _ (wp_cond_false (F14.get rfl) ?_)
 refine zT fun _ hK15 => ?_
 refine zA 2 [(28, .bool false), (27, .bool false)] [] dnil [] F14 fun _ F16 => ?_
 refine hK15 _ _ (wp_cond_false (F16.get rfl) ?_)
 refine zT fun _ hK17 => ?_
 refine zA 2 [(32, .bool false), (31, .bool false)] [] dnil [] F16 fun _ F18 => ?_
 refine hK17 _ _ (wp_cond_false (F18.get rfl) ?_)
 refine zT fun _ hK19 => ?_
 refine zA 2 [(36, .bool true), (35, .bool true)] [] dnil [] F18 fun _ F20 => ?_
 refine hK19 _ _ (wp_cond_true (F20.get rfl) ?_)
 refine zT fun _ hK21 => ?_
 refine zB 3 [(2, .pointer (some ⟨g2, 0, none⟩)), (4, V.v7)] [0] (zj (M2.blk (k := 5) rfl) dnil) [g2] F20 fun _ F22 => ?_
 refine hK21 _ _ (wp_ret ?_)
 try simp only [Exit.then, Exit.inBlock, Exit.jump]
 exact bodyPost_ret (res1 rfl (F22.get rfl)) F22.defers ⟨_, rfl, M2.isb (k := 2) rfl, (fun g hg => .inr (.inr (.inr (.inl hg)))), M2.below⟩
theorem rbyt_8 (m : MsgN) (V : MsgV) (ho : MsgOk m) (hne : zu m 8 ≠ []) (w : World) (hm : MsgIs w m V) :
  Calls Try.prog 48 #[.agg (msgA m V), .int .i64 8] w fun e w' => ∃ v, e = .returned v ∧ IsB w' (zu m 8) v ∧ (∀ g, bfp v g → w.heap.size ≤ g ∨ z6a V g) ∧ Below w.heap.size w w' := by
 refine zg (args := [.agg (msgA m V), .int .i64 8]) 56 Try.func48 rfl rfl rfl ?_
 intro fa F
 have M := Mx.start w
 replace M := M.argB 0 hm.h5 (fun g e => by cases e)
 replace M := M.argB 1 hm.h6 (fun g e => by cases e)
 replace M := M.argB 2 hm.h7 (fun g e => by cases e)
 replace M := M.argB 3 hm.h8 (fun g e => by cases e)
 replace M := M.argB 4 hm.h9 (fun g e => by cases e)
 refine zT fun _ hK1 => ?_
 refine zf (za rfl) rfl F rfl M 5 (t := 29) (c := msgA m V) (by unfold execOp; simp only [(F.get (t := 0) rfl)]; kernel_rfl) ?_
 intro g2 a2 w2 F2 M2
 clear F M
 refine rm rfl F2 fun _ F3 => ?_
 refine hK1 _ _ (zS fun _ hK4 => ?_)
 refine zT fun _ hK5 => ?_
 refine rm rfl F3 fun _ F6 => ?_
 refine hK5 _ _ (wp_block ?_)
 refine zT fun _ hK7 => ?_
 refine zA 2 [(7, .bool false), (6, .bool false)] [] dnil [] F6 fun _ F8 => ?_
 refine hK7 _ _ (wp_cond_false (F8.get rfl) ?_)
 refine zT fun _ hK9 => ?_
 refine zA 2 [(13, .bool false), (12, .bool false)] [] dnil [] F8 fun _ F10 => ?_
 refine hK9 _ _ (wp_cond_false (F10.get rfl) ?_)
 refine zT fun _ hK11 => ?_
 refine zA 2 [(18, .bool false), (17, .bool false)] [] dnil [] F10 fun _ F12 => ?_
 refine hK11 _ _ (wp_cond_false (F12.get rfl) ?_)
 refine zT fun _ hK13 => ?_
 refine zA 2 [(23, .bool false), (22, .bool false)] [] dnil [] F12 fun _ F14 => ?_
 refine hK13 _ _ (wp_cond_false (F14.get rfl) ?_)
 refine zT fun _ hK15 => ?_
 refine zA 2 [(28, .bool false), (27, .bool false)] [] dnil [] F14 fun _ F16 => ?_
 refine hK15 _ _ (wp_cond_false (F16.get rfl) ?_)
 refine zT fun _ hK17 => ?_
 refine zA 2 [(32, .bool false), (31, .bool false)] [] dnil [] F16 fun _ F18 => ?_
 refine hK17 _ _ (wp_cond_false (F18.get rfl) ?_)
 refine zT fun _ hK19 => ?_
 refine zA 2 [(36, .bool false), (35, .bool false)] [] dnil [] F18 fun _ F20 => ?_
 refine hK19 _ _ (wp_cond_false (F20.get rfl) ?_)
 refine zT fun _ hK21 => ?_
 refine zA 2 [(40, .bool true), (39, .bool true)] [] dnil [] F20 fun _ F22 => ?_
 refine hK21 _ _ (wp_cond_true (F22.get rfl) ?_)
 refine zT fun _ hK23 => ?_
 refine zB 3 [(2, .pointer (some ⟨g2, 0, none⟩)), (4, V.v8)] [0] (zj (M2.blk (k := 5) rfl) dnil) [g2] F22 fun _ F24 => ?_
 refine hK23 _ _ (wp_ret ?_)
 try simp only [Exit.then, Exit.inBlock, Exit.jump]
 exact bodyPost_ret (res1 rfl (F24.get rfl)) F24.defers ⟨_, rfl, M2.isb (k := 3) rfl, (fun g hg => .inr (.inr (.inr (.inr (.inl hg))))), M2.below⟩
theorem rbyt_9 (m : MsgN) (V : MsgV) (ho : MsgOk m) (hne : zu m 9 ≠ []) (w : World) (hm : MsgIs w m V) :
  Calls Try.prog 48 #[.agg (msgA m V), .int .i64 9] w fun e w' => ∃ v, e = .returned v ∧ IsB w' (zu m 9) v ∧ (∀ g, bfp v g → w.heap.size ≤ g ∨ z6a V g) ∧ Below w.heap.size w w' := by
 refine zg (args := [.agg (msgA m V), .int .i64 9]) 56 Try.func48 rfl rfl rfl ?_
 intro fa F
 have M := Mx.start w
 replace M := M.argB 0 hm.h5 (fun g e => by cases e)
 replace M := M.argB 1 hm.h6 (fun g e => by cases e)
 replace M := M.argB 2 hm.h7 (fun g e => by cases e)
 replace M := M.argB 3 hm.h8 (fun g e => by cases e)
 replace M := M.argB 4 hm.h9 (fun g e => by cases e)
 refine zT fun _ hK1 => ?_
 refine zf (za rfl) rfl F rfl M 5 (t := 29) (c := msgA m V) (by unfold execOp; simp only [(F.get (t := 0) rfl)]; kernel_rfl) ?_
 intro g2 a2 w2 F2 M2
 clear F M
 refine rm rfl F2 fun _ F3 => ?_
 refine hK1 _ _ (zS fun _ hK4 => ?_)
 refine zT fun _ hK5 => ?_
 refine rm rfl F3 fun _ F6 => ?_
 refine hK5 _ _ (wp_block ?_)
 refine zT fun _ hK7 => ?_
 refine zA 2 [(7, .bool false), (6, .bool false)] [] dnil [] F6 fun _ F8 => ?_
 refine hK7 _ _ (wp_cond_false (F8.get rfl) ?_)
 refine zT fun _ hK9 => ?_
 refine zA 2 [(13, .bool false), (12, .bool false)] [] dnil [] F8 fun _ F10 => ?_
 refine hK9 _ _ (wp_cond_false (F10.get rfl) ?_)
 refine zT fun _ hK11 => ?_
 refine zA 2 [(18, .bool false), (17, .bool false)] [] dnil [] F10 fun _ F12 => ?_
 refine hK11 _ _ (wp_cond_false (F12.get rfl) ?_)
 refine zT fun _ hK13 => ?_
 refine zA 2 [(23, .bool false), (22, .bool false)] [] dnil [] F12 fun _ F14 => ?_
 refine hK13 _ _ (wp_cond_false (F14.get rfl) ?_)
 refine zT fun _ hK15 => ?_
 refine zA 2 [(28, .bool false), (27, .bool false)] [] dnil [] F14 fun _ F16 => ?_
 refine hK15 _ _ (wp_cond_false (F16.get rfl) ?_)
 refine zT fun _ hK17 => ?_
 refine zA 2 [(32, .bool false), (31, .bool false)] [] dnil [] F16 fun _ F18 => ?_
 refine hK17 _ _ (wp_cond_false (F18.get rfl) ?_)
 refine zT fun _ hK19 => ?_
 refine zA 2 [(36, .bool false), (35, .bool false)] [] dnil [] F18 fun _ F20 => ?_
 refine hK19 _ _ (wp_cond_false (F20.get rfl) ?_)
 refine zT fun _ hK21 => ?_
 refine zA 2 [(40, .bool false), (39, .bool false)] [] dnil [] F20 fun _ F22 => ?_
 refine hK21 _ _ (wp_cond_false (F22.get rfl) ?_)
 refine zT fun _ hK23 => ?_
 refine zA 2 [(44, .bool true), (43, .bool true)] [] dnil [] F22 fun _ F24 => ?_
 refine hK23 _ _ (wp_cond_true (F24.get rfl) ?_)
 refine zT fun _ hK25 => ?_
 refine zB 3 [(2, .pointer (some ⟨g2, 0, none⟩)), (4, V.v9)] [0] (zj (M2.blk (k := 5) rfl) dnil) [g2] F24 fun _ F26 => ?_
 refine hK25 _ _ (wp_ret ?_)
 try simp only [Exit.then, Exit.inBlock, Exit.jump]
 exact bodyPost_ret (res1 rfl (F26.get rfl)) F26.defers ⟨_, rfl, M2.isb (k := 4) rfl, (fun g hg => .inr (.inr (.inr (.inr (.inr hg))))), M2.below⟩
theorem rbyt_10 (m : MsgN) (V : MsgV) (ho : MsgOk m) (hne : zu m 10 ≠ []) (w : World) (hm : MsgIs w m V) :
  Calls Try.prog 48 #[.agg (msgA m V), .int .i64 10] w fun e w' => ∃ v, e = .returned v ∧ IsB w' (zu m 10) v ∧ (∀ g, bfp v g → w.heap.size ≤ g ∨ z6a V g) ∧ Below w.heap.size w w' := by
 refine zg (args := [.agg (msgA m V), .int .i64 10]) 56 Try.func48 rfl rfl rfl ?_
 intro fa F
 have M := Mx.start w
 replace M := M.argB 0 hm.h5 (fun g e => by cases e)
 replace M := M.argB 1 hm.h6 (fun g e => by cases e)
 replace M := M.argB 2 hm.h7 (fun g e => by cases e)
 replace M := M.argB 3 hm.h8 (fun g e => by cases e)
 replace M := M.argB 4 hm.h9 (fun g e => by cases e)
 refine zT fun _ hK1 => ?_
 refine zf (za rfl) rfl F rfl M 5 (t := 29) (c := msgA m V) (by unfold execOp; simp only [(F.get (t := 0) rfl)]; kernel_rfl) ?_
 intro g2 a2 w2 F2 M2
 clear F M
 refine rm rfl F2 fun _ F3 => ?_
 refine hK1 _ _ (zS fun _ hK4 => ?_)
 refine zT fun _ hK5 => ?_
 refine rm rfl F3 fun _ F6 => ?_
 refine hK5 _ _ (wp_block ?_)
 refine zT fun _ hK7 => ?_
 refine zA 2 [(7, .bool false), (6, .bool false)] [] dnil [] F6 fun _ F8 => ?_
 refine hK7 _ _ (wp_cond_false (F8.get rfl) ?_)
 refine zT fun _ hK9 => ?_
 refine zA 2 [(13, .bool false), (12, .bool false)] [] dnil [] F8 fun _ F10 => ?_
 refine hK9 _ _ (wp_cond_false (F10.get rfl) ?_)
 refine zT fun _ hK11 => ?_
 refine zA 2 [(18, .bool false), (17, .bool false)] [] dnil [] F10 fun _ F12 => ?_
 refine hK11 _ _ (wp_cond_false (F12.get rfl) ?_)
 refine zT fun _ hK13 => ?_
 refine zA 2 [(23, .bool false), (22, .bool false)] [] dnil [] F12 fun _ F14 => ?_
 refine hK13 _ _ (wp_cond_false (F14.get rfl) ?_)
 refine zT fun _ hK15 => ?_
 refine zA 2 [(28, .bool false), (27, .bool false)] [] dnil [] F14 fun _ F16 => ?_
 refine hK15 _ _ (wp_cond_false (F16.get rfl) ?_)
 refine zT fun _ hK17 => ?_
 refine zA 2 [(32, .bool false), (31, .bool false)] [] dnil [] F16 fun _ F18 => ?_
 refine hK17 _ _ (wp_cond_false (F18.get rfl) ?_)
 refine zT fun _ hK19 => ?_
 refine zA 2 [(36, .bool false), (35, .bool false)] [] dnil [] F18 fun _ F20 => ?_
 refine hK19 _ _ (wp_cond_false (F20.get rfl) ?_)
 refine zT fun _ hK21 => ?_
 refine zA 2 [(40, .bool false), (39, .bool false)] [] dnil [] F20 fun _ F22 => ?_
 refine hK21 _ _ (wp_cond_false (F22.get rfl) ?_)
 refine zT fun _ hK23 => ?_
 refine zA 2 [(44, .bool false), (43, .bool false)] [] dnil [] F22 fun _ F24 => ?_
 refine hK23 _ _ (wp_cond_false (F24.get rfl) ?_)
 refine zT fun _ hK25 => ?_
 refine rn rfl rfl F24 rfl (.bool true) (zq _ _ _ _ rfl (F24.get rfl) rfl Try.underlying3 (zka (by decide))) fun _ F26 => ?_
 refine rm rfl F26 fun _ F27 => ?_
 refine hK25 _ _ (wp_cond_true (F27.get rfl) ?_)
 refine zT fun _ hK28 => ?_
 refine zB 2 [(2, .pointer (some ⟨g2, 0, none⟩)), (4, zN), (50, .int .i64 m.c)] [0] (zj (M2.blk (k := 5) rfl) dnil) [g2] F27 fun _ F29 => ?_
 refine zd (za rfl) rfl F29 rfl rfl (zE Try.func66 rfl) #[.int .i64 m.c] (zp (F29.get rfl)) (reight_any m.c w2) ?_
 rintro v30 w30 a30 h30 F30
 have M30 := M2.newO h30.2 6 h30.1
 clear M2 h30
 obtain ⟨A30, c30, rfl⟩ := (M30.isO (k := 6) rfl).shape
 refine rm rfl F30 fun _ F31 => ?_
 refine hK28 _ _ (wp_ret ?_)
 try simp only [Exit.then, Exit.inBlock, Exit.jump]
 exact bodyPost_ret (res1 rfl (F31.get rfl)) F31.defers ⟨_, rfl, (by rw [cont_10 hne]; exact M30.isO (k := 6) rfl), (fun g hg => .inl (M30.owns (k := 6) rfl g (zva hg))), M30.below⟩
theorem rbyt_11 (m : MsgN) (V : MsgV) (ho : MsgOk m) (hne : zu m 11 ≠ []) (w : World) (hm : MsgIs w m V) :
  Calls Try.prog 48 #[.agg (msgA m V), .int .i64 11] w fun e w' => ∃ v, e = .returned v ∧ IsB w' (zu m 11) v ∧ (∀ g, bfp v g → w.heap.size ≤ g ∨ z6a V g) ∧ Below w.heap.size w w' := by
 refine zg (args := [.agg (msgA m V), .int .i64 11]) 56 Try.func48 rfl rfl rfl ?_
 intro fa F
 have M := Mx.start w
 replace M := M.argB 0 hm.h5 (fun g e => by cases e)
 replace M := M.argB 1 hm.h6 (fun g e => by cases e)
 replace M := M.argB 2 hm.h7 (fun g e => by cases e)
 replace M := M.argB 3 hm.h8 (fun g e => by cases e)
 replace M := M.argB 4 hm.h9 (fun g e => by cases e)
 refine zT fun _ hK1 => ?_
 refine zf (za rfl) rfl F rfl M 5 (t := 29) (c := msgA m V) (by unfold execOp; simp only [(F.get (t := 0) rfl)]; kernel_rfl) ?_
 intro g2 a2 w2 F2 M2
 clear F M
 refine rm rfl F2 fun _ F3 => ?_
 refine hK1 _ _ (zS fun _ hK4 => ?_)
 refine zT fun _ hK5 => ?_
 refine rm rfl F3 fun _ F6 => ?_
 refine hK5 _ _ (wp_block ?_)
 refine zT fun _ hK7 => ?_
 refine zA 2 [(7, .bool false), (6, .bool false)] [] dnil [] F6 fun _ F8 => ?_
 refine hK7 _ _ (wp_cond_false (F8.get rfl) ?_)
 refine zT fun _ hK9 => ?_
 refine zA 2 [(13, .bool false), (12, .bool false)] [] dnil [] F8 fun _ F10 => ?_
 refine hK9 _ _ (wp_cond_false (F10.get rfl) ?_)
 refine zT fun _ hK11 => ?_
 refine zA 2 [(18, .bool false), (17, .bool false)] [] dnil [] F10 fun _ F12 => ?_
 refine hK11 _ _ (wp_cond_false (F12.get rfl) ?_)
 refine zT fun _ hK13 => ?_
 refine zA 2 [(23, .bool false), (22, .bool false)] [] dnil [] F12 fun _ F14 => ?_
 refine hK13 _ _ (wp_cond_false (F14.get rfl) ?_)
 refine zT fun _ hK15 => ?_
 refine zA 2 [(28, .bool false), (27, .bool false)] [] dnil [] F14 fun _ F16 => ?_
 refine hK15 _ _ (wp_cond_false (F16.get rfl) ?_)
 refine zT fun _ hK17 => ?_
 refine zA 2 [(32, .bool false), (31, .bool false)] [] dnil [] F16 fun _ F18 => ?_
 refine hK17 _ _ (wp_cond_false (F18.get rfl) ?_)
 refine zT fun _ hK19 => ?_
 refine zA 2 [(36, .bool false), (35, .bool false)] [] dnil [] F18 fun _ F20 => ?_
 refine hK19 _ _ (wp_cond_false (F20.get rfl) ?_)
 refine zT fun _ hK21 => ?_
 refine zA 2 [(40, .bool false), (39, .bool false)] [] dnil [] F20 fun _ F22 => ?_
 refine hK21 _ _ (wp_cond_false (F22.get rfl) ?_)
 refine zT fun _ hK23 => ?_
 refine zA 2 [(44, .bool false), (43, .bool false)] [] dnil [] F22 fun _ F24 => ?_
 refine hK23 _ _ (wp_cond_false (F24.get rfl) ?_)
 refine zT fun _ hK25 => ?_
 refine rn rfl rfl F24 rfl (.bool false) (zq _ _ _ _ rfl (F24.get rfl) rfl Try.underlying3 (zr (by decide))) fun _ F26 => ?_
 refine rm rfl F26 fun _ F27 => ?_
 refine hK25 _ _ (wp_cond_false (F27.get rfl) ?_)
 refine wp_skip ?_
 refine hK4 _ _ (zS fun _ hK28 => ?_)
 refine zR ?_
 refine zB 2 [(4, zN), (53, .int .i64 m.e)] [0] (zj (M2.blk (k := 5) rfl) dnil) [g2] F27 fun _ F29 => ?_
 refine rn rfl rfl F29 rfl (.int .u8 (((zx m.e).toNat : Nat) : Int)) (zxa _ _ _ rfl (F29.get rfl) Try.underlying24 Try.underlying5 (z3a _)) fun _ F30 => ?_
 refine zba (za rfl) rfl F30 rfl (zbc M2 6 [(zx m.e)] 1 rfl (by decide) (by decide) rfl (by simp only [List.map_toArray, List.map_cons, List.map_nil, (F30.get (t := 54) rfl)]; kernel_rfl)) ?_
 intro v31 a31 w31 F31 M31
 clear F30 M2
 obtain ⟨A31, c31, rfl⟩ := (M31.isO (k := 6) rfl).shape
 refine rm rfl F31 fun _ F32 => ?_
 refine hK28 _ _ (wp_ret ?_)
 try simp only [Exit.then, Exit.inBlock, Exit.jump]
 exact bodyPost_ret (res1 rfl (F32.get rfl)) F32.defers ⟨_, rfl, (by rw [cont_11 hne]; exact M31.isO (k := 6) rfl), (fun g hg => .inl (M31.owns (k := 6) rfl g (zva hg))), M31.below⟩
theorem rbyt_any (m : MsgN) (V : MsgV) (ho : MsgOk m) (n : Nat) (h1 : 1 ≤ n) (h2 : n ≤ 11) (hne : zu m n ≠ []) (w : World) (hm : MsgIs w m V) :
    Calls Try.prog 48 #[.agg (msgA m V), .int .i64 (n : Int)] w fun e w' => ∃ v, e = .returned v ∧ IsB w' (zu m n) v ∧ (∀ g, bfp v g → w.heap.size ≤ g ∨ z6a V g) ∧ Below w.heap.size w w' := by
  have : n = 1 ∨ n = 2 ∨ n = 3 ∨ n = 4 ∨ n = 5 ∨ n = 6 ∨ n = 7 ∨ n = 8 ∨ n = 9 ∨ n = 10 ∨ n = 11 := by omega
  rcases this with rfl | rfl | rfl | rfl | rfl | rfl | rfl | rfl | rfl | rfl | rfl
  · exact rbyt_1 m V ho hne w hm
  · exact rbyt_2 m V ho hne w hm
  · exact rbyt_3 m V ho hne w hm
  · exact rbyt_4 m V ho hne w hm
  · exact rbyt_5 m V ho hne w hm
  · exact rbyt_6 m V ho hne w hm
  · exact rbyt_7 m V ho hne w hm
  · exact rbyt_8 m V ho hne w hm
  · exact rbyt_9 m V ho hne w hm
  · exact rbyt_10 m V ho hne w hm
  · exact rbyt_11 m V ho hne w hm
end Go.Proofs.Ytlbkogdmojlpmaa
namespace Go.Proofs.Ytlbkogdmojlpmaa
open Go.ChangeShapes Go.WideShapes Go.ChangeAt Go.RowKit
theorem shr_nat (n x : Nat) : ((n : Nat) : Int) / 2 ^ ((x : Nat) : Int).toNat = ((n / 2 ^ x : Nat) : Int) := by
  rw [Int.toNat_natCast]
  norm_cast
theorem and_one {n q : Nat} (hn : n < 2 ^ 62) (h : n % 2 = q) : bits .and .i64 ((n : Nat) : Int) 1 = (q : Int) := by
  have := andI n 1 hn (by decide)
  rw [Nat.and_one_is_mod, h] at this
  exact this
theorem hasR_lt (m : MsgN) : hasR m < 4096 := thN_lt _ 12
theorem bit_is {m : MsgN} {x q : Nat} (h : hasR m / 2 ^ x % 2 = q) (hx : x < 12) : (q = 1) = (zza m x = true) := by
  have := thN_bit (zza m) x 12
  rw [decide_eq_true hx, Bool.true_and, Nat.testBit_eq_decide_div_mod_eq] at this
  have h2 : hasR m / 2 ^ x % 2 = q := h
  unfold hasR at h2
  rw [h2] at this
  rw [← this]; simp
theorem bit_no {m : MsgN} {x q : Nat} (hn : zu m x = []) (h : hasR m / 2 ^ x % 2 = q) (hx : x < 12) : ¬ (0 : Int) < (q : Int) := by
  have h1 := bit_is h hx
  have h2 : ¬ q = 1 := by rw [h1, flagB_t]; exact fun e => e hn
  have : q < 2 := by rw [← h]; exact Nat.mod_lt _ (by omega)
  omega
theorem bit_yes {m : MsgN} {x q : Nat} (hn : ¬ zu m x = []) (h : hasR m / 2 ^ x % 2 = q) (hx : x < 12) : (0 : Int) < (q : Int) := by
  have h1 := bit_is h hx
  have h2 : q = 1 := by rw [h1, flagB_t]; exact hn
  omega
theorem encRk_put3 {m : MsgN} {k : Nat} (h : ¬ zu m k = []) : encRk m (k + 1) = (encRk m k ++ [zx (k : Int), zx ((zu m k).length : Int)]) ++ zu m k := by
  rw [encRk_put h]; simp
theorem rencode_any (m : MsgN) (V : MsgV) (ho : MsgOk m) (hs : m.s.size ≤ 1000) (w : World) (hm : MsgIs w m V) :
  Calls Try.prog 18 #[.agg (msgA m V)] w fun e w' => ∃ v, e = .returned (.tuple #[v, .bool (z4a m)]) ∧ Byt w' w.heap.size v (encL m) ∧ Below w.heap.size w w' := by
 obtain ⟨bR, hR⟩ : ∃ b, zab m = b := ⟨_, rfl⟩
 obtain ⟨N, hN⟩ : ∃ N, (encRk m 12).length = N := ⟨_, rfl⟩
 have hcl : bR = true → ∀ k, (zu m k).length ≤ 120 := fun h => cont_len (by rw [h] at hR; unfold zab at hR; simp only [Bool.and_eq_true] at hR; exact hR.2)
 have hEL : ∀ k, (encN m k).length = (encRk m k).length + 2 := fun k => by rw [encN_rk]; rfl
 refine zg (args := [.agg (msgA m V)]) 43 Try.func18 rfl rfl rfl ?_
 intro fa F
 have M := Mx.start w
 replace M := M.argB 0 hm.h5 (fun g e => by cases e)
 replace M := M.argB 1 hm.h6 (fun g e => by cases e)
 replace M := M.argB 2 hm.h7 (fun g e => by cases e)
 replace M := M.argB 3 hm.h8 (fun g e => by cases e)
 replace M := M.argB 4 hm.h9 (fun g e => by cases e)
 refine zT fun _ hK1 => ?_
 refine zf (za rfl) rfl F rfl M 5 (t := 29) (c := msgA m V) (by unfold execOp; simp only [(F.get (t := 0) rfl)]; kernel_rfl) ?_
 intro g2 a2 w2 F2 M2
 clear F M
 refine rm rfl F2 fun _ F3 => ?_
 refine rm rfl F3 fun _ F4 => ?_
 refine hK1 _ _ (zS fun _ hK5 => ?_)
 refine zT fun _ hK6 => ?_
 refine rn rfl rfl F4 rfl _ (zja _ _ rfl (F4.get rfl) (M2.blk (k := 5) rfl) (msgA m V) (zma rfl) Try.underlying29 rfl (by kernel_rfl)) fun _ F7 => ?_
 refine zd (za rfl) rfl F7 rfl rfl (zE Try.func25 rfl) #[.agg (msgA m V)] (zp (F7.get rfl)) (zh ((hR ▸ rright_any m V ho hs w2 ⟨M2.isb (k := 0) rfl, M2.isb (k := 1) rfl, M2.isb (k := 2) rfl, M2.isb (k := 3) rfl, M2.isb (k := 4) rfl⟩))) ?_
 rintro _ w8 a8 ⟨rfl, b8⟩ F8
 have M8 := M2.step b8
 cases bR
 ·refine rn rfl rfl F8 rfl (.bool true) (run_not _ _ rfl (F8.get (t := 7) rfl)) fun _ F9 => ?_
  refine hK6 _ _ (wp_cond_true (F9.get rfl) ?_)
  refine zT fun _ hK10 => ?_
  refine rm rfl F9 fun _ F11 => ?_
  refine rm rfl F11 fun _ F12 => ?_
  refine hK10 _ _ (wp_ret ?_)
  try simp only [Exit.then, Exit.inBlock, Exit.jump]
  exact bodyPost_ret (res2 rfl (F12.get rfl) (F12.get rfl)) F12.defers ⟨zN, (by rw [show z4a m = false from by rw [z4a, hR]; simp]), (by rw [show encL m = _ from if_neg (by rw [z4a, hR]; simp)]; exact Byt.nil _ _), M8.below⟩
 refine rn rfl rfl F8 rfl (.bool false) (run_not _ _ rfl (F8.get (t := 7) rfl)) fun _ F13 => ?_
 refine hK6 _ _ (wp_cond_false (F13.get rfl) ?_)
 refine wp_skip ?_
 refine hK5 _ _ (zS fun _ hK14 => ?_)
 refine zR ?_
 refine zB 2 [(1, .pointer (some ⟨g2, 0, none⟩)), (2, zN), (3, .bool false), (10, .int .i64 m.k)] [0] (zj (M8.blk (k := 5) rfl) dnil) [g2] F13 fun _ F15 => ?_
 refine rn rfl rfl F15 rfl (.int .u8 (((zx m.k).toNat : Nat) : Int)) (zxa _ _ _ rfl (F15.get rfl) Try.underlying3 Try.underlying5 (z3a _)) fun _ F16 => ?_
 refine zba (za rfl) rfl F16 rfl (zbc M8 6 [(zx m.k)] 1 rfl (by decide) (by decide) rfl (by simp only [List.map_toArray, List.map_cons, List.map_nil, (F16.get (t := 11) rfl)]; kernel_rfl)) ?_
 intro v17 a17 w17 F17 M17
 clear F16 M8
 obtain ⟨A17, c17, rfl⟩ := (M17.isO (k := 6) rfl).shape
 refine rm rfl F17 fun _ F18 => ?_
 refine hK14 _ _ (zS fun _ hK19 => ?_)
 refine zT fun _ hK20 => ?_
 refine rm rfl F18 fun _ F21 => ?_
 refine hK20 _ _ (wp_block ?_)
 refine zzb (α := Nat × Value) (n := 43) (G := none) (w0 := w) (fun x => [(1, .pointer (some ⟨g2, 0, none⟩)), (2, zN), (3, .bool false), (10, .int .i64 m.k), (11, .int .u8 (((zx m.k).toNat : Nat) : Int)), (12, .slice A17 ([(zx m.k)]).length c17), (5, .int .i64 (x.1 : Int)), (4, x.2)]) (fun x => [(0, bytR m.l5 V.v5), (1, bytR m.l6 V.v6), (2, bytR m.l7 V.v7), (3, bytR m.l8 V.v8), (4, bytR m.l9 V.v9), (5, blkR g2 29 (msgA m V)), (6, ownR (encRk m x.1) x.2)]) (fun k x => k = (12 - x.1) ∧ (1 ≤ x.1 ∧ x.1 ≤ 12)) _ ⟨1, (.slice A17 ([(zx m.k)]).length c17)⟩ ⟨rfl, ⟨by omega, by omega⟩⟩ (F21.sub ⟨rfl, rfl, rfl, rfl, rfl, rfl, rfl, rfl, trivial⟩) (M17.sub ⟨rfl, rfl, rfl, rfl, rfl, rfl, (by rw [encRk_one]; rfl), trivial⟩) ?_
 clear F21 M17
 rintro k22 ⟨x, ev⟩ a22 w22 K22 ⟨ek22, I22⟩ F22 M22 hK22
 replace F22 : Fx 43 a22 [(1, .pointer (some ⟨g2, 0, none⟩)), (2, zN), (3, .bool false), (10, .int .i64 m.k), (11, .int .u8 (((zx m.k).toNat : Nat) : Int)), (12, .slice A17 ([(zx m.k)]).length c17), (5, .int .i64 (x : Int)), (4, ev)] := F22
 replace M22 : Mx _ _ w22 [(0, bytR m.l5 V.v5), (1, bytR m.l6 V.v6), (2, bytR m.l7 V.v7), (3, bytR m.l8 V.v8), (4, bytR m.l9 V.v9), (5, blkR g2 29 (msgA m V)), (6, ownR (encRk m x) ev)] := M22
 replace I22 : 1 ≤ x ∧ x ≤ 12 := I22
 replace ek22 : k22 = (12 - x) := ek22
 obtain ⟨hx1, hx12⟩ := I22
 by_cases hlt : x ≤ 11
 rotate_left
 ·obtain rfl : x = 12 := by omega
  have hN2 : N ≤ 1467 := by have := encN_len (hcl rfl) 12; have := hEL 12; omega
  refine zS fun _ hK59 => zS fun _ hK60 => ?_
  refine zR ?_
  refine rm rfl F22 fun _ F61 => ?_
  refine rn rfl rfl F61 rfl (.bool false) (z8 _ _ _ _ rfl (F61.get rfl) rfl (decide_eq_false (by decide))) fun _ F62 => ?_
  refine hK60 _ _ (wp_cond_false (F62.get rfl) ?_)
  refine wp_exit ?_
  simp only [Exit.then, Exit.inBlock, ↓reduceIte, Nat.reduceEqDiff]
  refine hK19 _ _ (zS fun _ hK63 => ?_)
  refine zT fun _ hK64 => ?_
  refine rm rfl F62 fun _ F65 => ?_
  refine rn rfl rfl F65 rfl (.int .i64 (N : Int)) (z9 _ rfl (F65.get rfl) (M22.isO (k := 6) rfl) (by rw [hN])) fun _ F66 => ?_
  by_cases h67 : 200 < (N : Int)
  ·refine rn rfl rfl F66 rfl (.bool true) (zya _ _ _ _ rfl (F66.get rfl) rfl (decide_eq_true h67)) fun _ F68 => ?_
   refine hK64 _ _ (wp_cond_true (F68.get rfl) ?_)
   refine zT fun _ hK69 => ?_
   refine rm rfl F68 fun _ F70 => ?_
   refine rm rfl F70 fun _ F71 => ?_
   refine hK69 _ _ (wp_ret ?_)
   try simp only [Exit.then, Exit.inBlock, Exit.jump]
   exact bodyPost_ret (res2 rfl (F71.get rfl) (F71.get rfl)) F71.defers ⟨zN, (by rw [show z4a m = false from by rw [z4a, hR]; simp; have := hEL 12; omega]), (by rw [show encL m = _ from if_neg (by rw [z4a, hR]; simp; have := hEL 12; omega)]; exact Byt.nil _ _), M22.below⟩
  refine rn rfl rfl F66 rfl (.bool false) (zya _ _ _ _ rfl (F66.get rfl) rfl (decide_eq_false h67)) fun _ F72 => ?_
  refine hK64 _ _ (wp_cond_false (F72.get rfl) ?_)
  refine wp_skip ?_
  refine hK63 _ _ (zS fun _ hK73 => ?_)
  refine zR ?_
  refine rm rfl F72 fun _ F74 => ?_
  refine rn rfl rfl F74 rfl (.int .i64 (N : Int)) (z9 _ rfl (F74.get rfl) (M22.isO (k := 6) rfl) (by rw [hN])) fun _ F75 => ?_
  refine rn rfl rfl F75 rfl (.int .i64 0) (y_shrI _ _ _ _ rfl (F75.get rfl) rfl (by decide) (by show (N : Int) / 2 ^ 8 = 0; omega)) fun _ F76 => ?_
  refine rn rfl rfl F76 rfl (.int .u8 0) (zxa _ _ _ rfl (F76.get rfl) Try.underlying3 Try.underlying5 rfl) fun _ F77 => ?_
  refine rm rfl F77 fun _ F78 => ?_
  refine rn rfl rfl F78 rfl (.int .i64 (N : Int)) (z9 _ rfl (F78.get rfl) (M22.isO (k := 6) rfl) (by rw [hN])) fun _ F79 => ?_
  refine rn rfl rfl F79 rfl (.int .u8 (((zx (N : Int)).toNat : Nat) : Int)) (zxa _ _ _ rfl (F79.get rfl) Try.underlying3 Try.underlying5 (z3a _)) fun _ F80 => ?_
  refine zba (za rfl) rfl F80 rfl (zbc M22 7 [0, (zx (N : Int))] 2 rfl (by decide) (by decide) rfl (by simp only [List.map_toArray, List.map_cons, List.map_nil, (F80.get (t := 36) rfl), (F80.get (t := 39) rfl)]; kernel_rfl)) ?_
  intro v81 a81 w81 F81 M81
  clear F80 M22
  obtain ⟨A81, c81, rfl⟩ := (M81.isO (k := 7) rfl).shape
  refine rm rfl F81 fun _ F82 => ?_
  refine zba (za rfl) rfl F82 rfl (z2a M81 (k := 7) rfl _ _ rfl (F82.get rfl) (F82.get rfl) (M81.isO (k := 6) rfl) (by simp only [List.length_cons, List.length_nil]; omega)) ?_
  intro v83 a83 w83 F83 M83
  clear F82 M81
  obtain ⟨A83, c83, rfl⟩ := (M83.isO (k := 7) rfl).shape
  refine rm rfl F83 fun _ F84 => ?_
  refine rm rfl F84 fun _ F85 => ?_
  refine hK73 _ _ (wp_ret ?_)
  try simp only [Exit.then, Exit.inBlock, Exit.jump]
  exact bodyPost_ret (res2 rfl (F85.get rfl) (F85.get rfl)) F85.defers ⟨.slice A83 (([0, (zx (N : Int))] ++ (encRk m 12))).length c83, (by rw [show z4a m = true from by rw [z4a, hR]; simp; have := hEL 12; omega]), (by rw [show encL m = _ from if_pos (by rw [z4a, hR]; simp; have := hEL 12; omega), encF_is, hN]; exact M83.byt (k := 7) rfl), M83.below⟩
 have hx2 : x ≤ 11 := hlt
 have hel := encN_len (hcl rfl) x
 rw [hEL] at hel
 obtain ⟨bt, hbt⟩ : ∃ q, hasR m / 2 ^ x % 2 = q := ⟨_, rfl⟩
 by_cases hne : zu m x = []
 ·refine zS fun _ hK23 => ?_
  refine zT fun _ hK24 => ?_
  refine rm rfl F22 fun _ F25 => ?_
  refine rn rfl rfl F25 rfl (.bool true) (z8 _ _ _ _ rfl (F25.get rfl) rfl (decide_eq_true (show (x : Int) ≤ 11 by omega))) fun _ F26 => ?_
  refine hK24 _ _ (wp_cond_true (F26.get rfl) ?_)
  refine wp_skip ?_
  refine hK23 _ _ (zS fun _ hK27 => ?_)
  refine wp_block ?_
  refine zT fun _ hK28 => ?_
  refine rn rfl rfl F26 rfl _ (zja _ _ rfl (F26.get rfl) (M22.blk (k := 5) rfl) (msgA m V) (zma rfl) Try.underlying29 rfl (by kernel_rfl)) fun _ F29 => ?_
  refine zd (za rfl) rfl F29 rfl rfl (zE Try.func46 rfl) #[.agg (msgA m V)] (zp (F29.get rfl)) (zh (zqb m V ho w22 ⟨M22.isb (k := 0) rfl, M22.isb (k := 1) rfl, M22.isb (k := 2) rfl, M22.isb (k := 3) rfl, M22.isb (k := 4) rfl⟩)) ?_
  rintro _ w30 a30 ⟨rfl, b30⟩ F30
  have M30 := M22.step b30
  refine rm rfl F30 fun _ F31 => ?_
  refine rn rfl rfl F31 rfl (.int .u64 (x : Int)) (zxa _ _ _ rfl (F31.get rfl) Try.underlying3 Try.underlying40 (by rw [IntKind.wrap_u64]; omega)) fun _ F32 => ?_
  refine rn rfl rfl F32 rfl (.int .i64 ((hasR m / 2 ^ x : Nat) : Int)) (y_shrI _ _ _ _ rfl (F32.get rfl) (F32.get rfl) (by show (0 : Int) ≤ (x : Int) ∧ (x : Int) ≤ 64; omega) (shr_nat _ x)) fun _ F33 => ?_
  refine rn rfl rfl F33 rfl (.int .i64 (bt : Int)) (y_andU _ _ _ _ rfl (F33.get rfl) rfl (and_one (Nat.lt_of_le_of_lt (Nat.div_le_self _ _) (Nat.lt_trans (hasR_lt m) (by decide))) hbt)) fun _ F34 => ?_
  refine rn rfl rfl F34 rfl (.bool false) (zya _ _ _ _ rfl (F34.get rfl) rfl (decide_eq_false (bit_no hne hbt (by omega)))) fun _ F35 => ?_
  refine hK28 _ _ (wp_cond_false (F35.get rfl) ?_)
  refine wp_skip ?_
  refine hK27 _ _ (zR ?_)
  refine rm rfl F35 fun _ F36 => ?_
  refine rn rfl rfl F36 rfl (.int .i64 ((x + 1 : Nat) : Int)) (zz _ _ _ _ rfl (F36.get rfl) rfl (by omega) (by omega)) fun _ F37 => ?_
  refine rm rfl F37 fun _ F38 => ?_
  subst ek22
  exact hK22 _ ⟨(x + 1), (ev)⟩ _ _ (by omega) ⟨rfl, ⟨by omega, by omega⟩⟩ (F38.sub ⟨rfl, rfl, rfl, rfl, rfl, rfl, rfl, rfl, trivial⟩) (M30.sub ⟨rfl, rfl, rfl, rfl, rfl, rfl, (by rw [encRk_skip hne]; rfl), trivial⟩)
 refine zS fun _ hK39 => zS fun _ hK40 => ?_
 refine zR ?_
 refine rm rfl F22 fun _ F41 => ?_
 refine rn rfl rfl F41 rfl (.bool true) (z8 _ _ _ _ rfl (F41.get rfl) rfl (decide_eq_true (show (x : Int) ≤ 11 by omega))) fun _ F42 => ?_
 refine hK40 _ _ (wp_cond_true (F42.get rfl) ?_)
 refine wp_skip ?_
 refine hK39 _ _ (zS fun _ hK43 => ?_)
 refine wp_block ?_
 refine zT fun _ hK44 => ?_
 refine rn rfl rfl F42 rfl _ (zja _ _ rfl (F42.get rfl) (M22.blk (k := 5) rfl) (msgA m V) (zma rfl) Try.underlying29 rfl (by kernel_rfl)) fun _ F45 => ?_
 refine zd (za rfl) rfl F45 rfl rfl (zE Try.func46 rfl) #[.agg (msgA m V)] (zp (F45.get rfl)) (zh (zqb m V ho w22 ⟨M22.isb (k := 0) rfl, M22.isb (k := 1) rfl, M22.isb (k := 2) rfl, M22.isb (k := 3) rfl, M22.isb (k := 4) rfl⟩)) ?_
 rintro _ w46 a46 ⟨rfl, b46⟩ F46
 have M46 := M22.step b46
 refine rm rfl F46 fun _ F47 => ?_
 refine rn rfl rfl F47 rfl (.int .u64 (x : Int)) (zxa _ _ _ rfl (F47.get rfl) Try.underlying3 Try.underlying40 (by rw [IntKind.wrap_u64]; omega)) fun _ F48 => ?_
 refine rn rfl rfl F48 rfl (.int .i64 ((hasR m / 2 ^ x : Nat) : Int)) (y_shrI _ _ _ _ rfl (F48.get rfl) (F48.get rfl) (by show (0 : Int) ≤ (x : Int) ∧ (x : Int) ≤ 64; omega) (shr_nat _ x)) fun _ F49 => ?_
 refine rn rfl rfl F49 rfl (.int .i64 (bt : Int)) (y_andU _ _ _ _ rfl (F49.get rfl) rfl (and_one (Nat.lt_of_le_of_lt (Nat.div_le_self _ _) (Nat.lt_trans (hasR_lt m) (by decide))) hbt)) fun _ F50 => ?_
 refine rn rfl rfl F50 rfl (.bool true) (zya _ _ _ _ rfl (F50.get rfl) rfl (decide_eq_true (bit_yes hne hbt (by omega)))) fun _ F51 => ?_
 refine hK44 _ _ (wp_cond_true (F51.get rfl) ?_)
 refine zR ?_
 refine zA 4 [(24, ev), (25, .int .i64 (x : Int)), (26, .agg (msgA m V)), (27, .int .i64 (x : Int))] [0] (zj (M46.blk (k := 5) rfl) dnil) [g2] F51 fun _ F52 => ?_
 refine zd (za rfl) rfl F52 rfl rfl (zE Try.func48 rfl) #[.agg (msgA m V), .int .i64 (x : Int)] (zea (F52.get rfl) (F52.get rfl)) (rbyt_any m V ho x hx1 hx2 hne w46 ⟨M46.isb (k := 0) rfl, M46.isb (k := 1) rfl, M46.isb (k := 2) rfl, M46.isb (k := 3) rfl, M46.isb (k := 4) rfl⟩) ?_
 rintro v53 w53 a53 ⟨e53, loc53, b53⟩ F53
 have M53 := M46.content b53 7 e53 loc53 (k5 := 0) (k6 := 1) (k7 := 2) (k8 := 3) (k9 := 4) rfl rfl rfl rfl rfl
 clear M46 loc53 b53
 obtain ⟨A53, c53, rfl⟩ := e53.shape
 refine zd (za rfl) rfl F53 rfl rfl (zE Try.func47 rfl) #[ev, .int .i64 (x : Int), .slice A53 (zu m x).length c53] (args3 (F53.get rfl) (F53.get rfl) (F53.get rfl)) (rfield_any (encRk m x) (zu m x) (ev) (.slice A53 (zu m x).length c53) x (by have := hcl rfl x; omega) w53 (M53.at_ 6 _ rfl) (M53.isb (k := 7) rfl) (fun g e hg => M53.dis 6 7 _ _ rfl rfl (by decide) rfl g e hg)) ?_
 rintro v54 w54 a54 ⟨hv54, hlo54, gb54⟩ F54
 have M54 := M53.growO (k := 6) rfl gb54 hv54 hlo54
 clear M53 gb54 hv54 hlo54
 obtain ⟨A54, c54, rfl⟩ := (M54.isO (k := 6) rfl).shape
 refine rm rfl F54 fun _ F55 => ?_
 refine hK43 _ _ (zR ?_)
 refine rm rfl F55 fun _ F56 => ?_
 refine rn rfl rfl F56 rfl (.int .i64 ((x + 1 : Nat) : Int)) (zz _ _ _ _ rfl (F56.get rfl) rfl (by omega) (by omega)) fun _ F57 => ?_
 refine rm rfl F57 fun _ F58 => ?_
 subst ek22
 exact hK22 _ ⟨(x + 1), (.slice A54 ((((encRk m x) ++ [zx (x : Int), zx ((zu m x).length : Int)]) ++ (zu m x))).length c54)⟩ _ _ (by omega) ⟨rfl, ⟨by omega, by omega⟩⟩ (F58.sub ⟨rfl, rfl, rfl, rfl, rfl, rfl, rfl, rfl, trivial⟩) (M54.sub ⟨rfl, rfl, rfl, rfl, rfl, rfl, (by rw [encRk_put3 hne]; rfl), trivial⟩)
end Go.Proofs.Ytlbkogdmojlpmaa
