/- What VaultFull stands on, part 11. -/
import Derived.Deep.CutRange
import Derived.Test.YtmjbnmbobocpdaaGreatVaultFullP1
import Derived.Test.YtmjbnmbobocpdaaGreatVaultFullP2
import Derived.Test.YtmjbnmbobocpdaaGreatVaultFullP3
import Derived.Test.YtmjbnmbobocpdaaGreatVaultFullP4
import Derived.Test.YtmjbnmbobocpdaaGreatVaultFullP5
import Derived.Test.YtmjbnmbobocpdaaGreatVaultFullP6
import Derived.Test.YtmjbnmbobocpdaaGreatVaultFullP7
import Derived.Test.YtmjbnmbobocpdaaGreatVaultFullP8
import Derived.Test.YtmjbnmbobocpdaaGreatVaultFullP9
import Derived.Test.YtmjbnmbobocpdaaGreatVaultFullP10
set_option maxRecDepth 100000
set_option maxHeartbeats 8000000
set_option linter.unusedVariables false
set_option linter.unusedSimpArgs false
namespace Go.Proofs.YtmjbnmbobocpdaaGreat
open Go.ChangeShapes Go.WideShapes Go.ChangeAt Go.RowKit
theorem put_dead (g : Nat) (V : VltN) (s n : Nat → Value) (hv : zea V) (r : RecN) (Vr : RecV) (hd : V.dd = true) (w : World) (hR : RecIs w r Vr) (hRg : ¬ bfp Vr.v2 g ∧ ¬ bfp Vr.v5 g) (hr : RowsV w g V.c s n) (hg : w.heap[g]? = some (.cells (vltA V s n) 80 (0, 0))) :
  Calls Tryz.prog 22 #[.pointer (some ⟨g, 0, none⟩), .agg (recA r Vr)] w fun e w' => ∃ t, e = .returned t ∧ t = .int .i64 10 ∧ ∃ s' n', RowsV w' g (V).c s' n' ∧ (∀ b, zr 18 s' n' b → zr 18 s n b ∨ w.heap.size ≤ b) ∧ w'.heap[g]? = some (.cells (vltA (V) s' n') 80 (0, 0)) ∧ w.grownBy w' (some g) := by
 skip
 refine zj (args := [.pointer (some ⟨g, 0, none⟩), .agg (recA r Vr)]) 40 Tryz.func22 rfl rfl rfl ?_
 intro fa F
 have M := Mx.theG hg 0
 refine zS fun _ hK1 => ?_
 refine zR ?_
 refine zi (zc rfl) rfl F rfl M 1 (t := 37) (c := recA r Vr) (by unfold execOp; simp only [(F.get (t := 1) rfl)]; kernel_rfl) ?_
 intro g2 a2 w2 F2 M2
 clear F M
 refine rm rfl F2 fun _ F3 => ?_
 refine hK1 _ _ ?_
 refine zS fun _ hK4 => ?_
 refine zS fun _ hK5 => ?_
 refine zR ?_
 refine zB 4 [(0, .pointer (some ⟨g, 0, none⟩)), (3, .pointer (some ⟨g2, 0, none⟩)), (4, .int .i64 0), (11, .pointer (some ⟨g, 56, none⟩))] [] dnil [] F3 fun _ F6 => ?_
 clear F3
 refine zd (w' := w2) (zc rfl) rfl F6 rfl (.bool true) (zia _ _ rfl (F6.get (t := 11) rfl) (M2.blk (k := 0) rfl) (show _ = some (Value.bool _) from by rw [← hd]; rfl) Tryz.underlying4 rfl) fun _ F7 => ?_
 clear F6
 refine hK5 _ _ ?_
 refine wp_cond_true (F7.get (t := 12) rfl) ?_
 refine zS fun _ hK8 => ?_
 refine zR ?_
 refine rm rfl F7 fun _ F9 => ?_
 refine hK8 _ _ ?_
 refine wp_ret ?_
 try simp only [Exit.then, Exit.inBlock, Exit.jump]
 exact bodyPost_ret (res1 rfl (F9.get rfl)) F9.defers ⟨_, rfl, rfl, s, n, hr.grow M2.grown, fun b h => .inl h, M2.blk (k := 0) rfl, M2.grown⟩
theorem put_range (g : Nat) (V : VltN) (s n : Nat → Value) (hv : zea V) (r : RecN) (Vr : RecV) (ho : RecOk r) (hd : V.dd = false) (l : List UInt8) (hrl : recE r = l) (hkeep : zaa r = false) (w : World) (hR : RecIs w r Vr) (hRg : ¬ bfp Vr.v2 g ∧ ¬ bfp Vr.v5 g) (hr : RowsV w g V.c s n) (hg : w.heap[g]? = some (.cells (vltA V s n) 80 (0, 0))) :
  Calls Tryz.prog 22 #[.pointer (some ⟨g, 0, none⟩), .agg (recA r Vr)] w fun e w' => ∃ t, e = .returned t ∧ t = .int .i64 11 ∧ ∃ s' n', RowsV w' g (V).c s' n' ∧ (∀ b, zr 18 s' n' b → zr 18 s n b ∨ w.heap.size ≤ b) ∧ w'.heap[g]? = some (.cells (vltA (V) s' n') 80 (0, 0)) ∧ w.grownBy w' (some g) := by
 skip
 refine zj (args := [.pointer (some ⟨g, 0, none⟩), .agg (recA r Vr)]) 40 Tryz.func22 rfl rfl rfl ?_
 intro fa F
 have M := Mx.theG hg 0
 have hkp : zaa r = false := hkeep
 refine zS fun _ hK1 => ?_
 refine zR ?_
 refine zi (zc rfl) rfl F rfl M 1 (t := 37) (c := recA r Vr) (by unfold execOp; simp only [(F.get (t := 1) rfl)]; kernel_rfl) ?_
 intro g2 a2 w2 F2 M2
 clear F M
 refine rm rfl F2 fun _ F3 => ?_
 refine hK1 _ _ ?_
 refine zS fun _ hK4 => ?_
 refine zS fun _ hK5 => ?_
 refine zR ?_
 refine zB 4 [(0, .pointer (some ⟨g, 0, none⟩)), (3, .pointer (some ⟨g2, 0, none⟩)), (4, .int .i64 0), (11, .pointer (some ⟨g, 56, none⟩))] [] dnil [] F3 fun _ F6 => ?_
 clear F3
 refine zd (w' := w2) (zc rfl) rfl F6 rfl (.bool false) (zia _ _ rfl (F6.get (t := 11) rfl) (M2.blk (k := 0) rfl) (show _ = some (Value.bool _) from by rw [← hd]; rfl) Tryz.underlying4 rfl) fun _ F7 => ?_
 clear F6
 refine hK5 _ _ ?_
 refine wp_cond_false (F7.get (t := 12) rfl) ?_
 refine wp_skip ?_
 refine hK4 _ _ ?_
 refine zS fun _ hK8 => ?_
 refine zR ?_
 refine zd (w' := w2) (zc rfl) rfl F7 rfl _ (zoa _ _ rfl (F7.get (t := 3) rfl) (M2.blk (k := 1) rfl) (recA r Vr) (zqa rfl) Tryz.underlying37 rfl (by kernel_rfl)) fun _ F9 => ?_
 clear F7
 refine zh (zc rfl) rfl F9 rfl rfl (zE Tryz.func48 rfl) #[.agg (recA r Vr)] (zw (F9.get (t := 14) rfl)) (rec_is r Vr ho false l hkp hrl w2 ⟨hR.h2.grow M2.grown hRg.1, hR.h5.grow M2.grown hRg.2⟩) ?_
 rintro _ w10 a10 ⟨v10, rfl, hv10, b10⟩ F10
 have M10 := M2.newO b10 2 hv10
 clear M2 b10 hv10
 obtain ⟨A10, c10, rfl⟩ := (M10.isO (k := 2) rfl).shape
 refine zB 5 [(0, .pointer (some ⟨g, 0, none⟩)), (3, .pointer (some ⟨g2, 0, none⟩)), (4, .int .i64 0), (5, .slice A10 (l).length c10), (6, .bool false)] [] dnil [] F10 fun _ F11 => ?_
 clear F10
 refine hK8 _ _ ?_
 refine zS fun _ hK12 => ?_
 refine zS fun _ hK13 => ?_
 refine zR ?_
 refine zA 2 [(18, .bool false), (19, .bool true)] [] dnil [] F11 fun _ F14 => ?_
 clear F11
 refine hK13 _ _ ?_
 refine wp_cond_true (F14.get (t := 19) rfl) ?_
 refine zS fun _ hK15 => ?_
 refine zR ?_
 refine rm rfl F14 fun _ F16 => ?_
 refine hK15 _ _ ?_
 refine wp_ret ?_
 try simp only [Exit.then, Exit.inBlock, Exit.jump]
 exact bodyPost_ret (res1 rfl (F16.get rfl)) F16.defers ⟨_, rfl, rfl, s, n, hr.grow M10.grown, fun b h => .inl h, M10.blk (k := 0) rfl, M10.grown⟩
theorem put_found (g : Nat) (V : VltN) (s n : Nat → Value) (hv : zea V) (r : RecN) (Vr : RecV) (ho : RecOk r) (hd : V.dd = false) (l : List UInt8) (hrl : recE r = l) (hkeep : zaa r = true) (hll : l.length ≤ 1000) (k : Nat) (hk : fst8 (zz V r.s) = k) (h8 : k < 8) (ht : anyB zk V (2 * k) = true → -9223372036854775808 ≤ cntT V (2 * k) ∧ cntT V (2 * k) < 9223372036854775807) (w : World) (hR : RecIs w r Vr) (hRg : ¬ bfp Vr.v2 g ∧ ¬ bfp Vr.v5 g) (hr : RowsV w g V.c s n) (hg : w.heap[g]? = some (.cells (vltA V s n) 80 (0, 0))) :
  Calls Tryz.prog 22 #[.pointer (some ⟨g, 0, none⟩), .agg (recA r Vr)] w fun e w' => ∃ t, e = .returned t ∧ t = .int .i64 (if (sayW V (2 * k) l).2 = true then 0 else 10) ∧ ∃ s' n', RowsV w' g ((sayW V (2 * k) l).1).c s' n' ∧ (∀ b, zr 18 s' n' b → zr 18 s n b ∨ w.heap.size ≤ b) ∧ w'.heap[g]? = some (.cells (vltA ((sayW V (2 * k) l).1) s' n') 80 (0, 0)) ∧ w.grownBy w' (some g) := by
 skip
 refine zj (args := [.pointer (some ⟨g, 0, none⟩), .agg (recA r Vr)]) 40 Tryz.func22 rfl rfl rfl ?_
 intro fa F
 have M := Mx.theG hg 0
 have hkp : zaa r = true := hkeep
 refine zS fun _ hK1 => ?_
 refine zR ?_
 refine zi (zc rfl) rfl F rfl M 1 (t := 37) (c := recA r Vr) (by unfold execOp; simp only [(F.get (t := 1) rfl)]; kernel_rfl) ?_
 intro g2 a2 w2 F2 M2
 clear F M
 refine rm rfl F2 fun _ F3 => ?_
 refine hK1 _ _ ?_
 refine zS fun _ hK4 => ?_
 refine zS fun _ hK5 => ?_
 refine zR ?_
 refine zB 4 [(0, .pointer (some ⟨g, 0, none⟩)), (3, .pointer (some ⟨g2, 0, none⟩)), (4, .int .i64 0), (11, .pointer (some ⟨g, 56, none⟩))] [] dnil [] F3 fun _ F6 => ?_
 clear F3
 refine zd (w' := w2) (zc rfl) rfl F6 rfl (.bool false) (zia _ _ rfl (F6.get (t := 11) rfl) (M2.blk (k := 0) rfl) (show _ = some (Value.bool _) from by rw [← hd]; rfl) Tryz.underlying4 rfl) fun _ F7 => ?_
 clear F6
 refine hK5 _ _ ?_
 refine wp_cond_false (F7.get (t := 12) rfl) ?_
 refine wp_skip ?_
 refine hK4 _ _ ?_
 refine zS fun _ hK8 => ?_
 refine zR ?_
 refine zd (w' := w2) (zc rfl) rfl F7 rfl _ (zoa _ _ rfl (F7.get (t := 3) rfl) (M2.blk (k := 1) rfl) (recA r Vr) (zqa rfl) Tryz.underlying37 rfl (by kernel_rfl)) fun _ F9 => ?_
 clear F7
 refine zh (zc rfl) rfl F9 rfl rfl (zE Tryz.func48 rfl) #[.agg (recA r Vr)] (zw (F9.get (t := 14) rfl)) (rec_is r Vr ho true l hkp hrl w2 ⟨hR.h2.grow M2.grown hRg.1, hR.h5.grow M2.grown hRg.2⟩) ?_
 rintro _ w10 a10 ⟨v10, rfl, hv10, b10⟩ F10
 have M10 := M2.newO b10 2 hv10
 clear M2 b10 hv10
 obtain ⟨A10, c10, rfl⟩ := (M10.isO (k := 2) rfl).shape
 refine zB 5 [(0, .pointer (some ⟨g, 0, none⟩)), (3, .pointer (some ⟨g2, 0, none⟩)), (4, .int .i64 0), (5, .slice A10 (l).length c10), (6, .bool true)] [] dnil [] F10 fun _ F11 => ?_
 clear F10
 refine hK8 _ _ ?_
 refine zS fun _ hK12 => ?_
 refine zS fun _ hK13 => ?_
 refine zR ?_
 refine zA 2 [(18, .bool true), (19, .bool false)] [] dnil [] F11 fun _ F14 => ?_
 clear F11
 refine hK13 _ _ ?_
 refine wp_cond_false (F14.get (t := 19) rfl) ?_
 refine wp_skip ?_
 refine hK12 _ _ ?_
 refine zS fun _ hK15 => ?_
 refine zR ?_
 refine zA 3 [(21, .pointer (some ⟨g, 0, none⟩)), (22, .pointer (some ⟨g2, 1, none⟩)), (23, .string r.s)] [0] (zca (M10.blk (k := 1) rfl) dnil) [g2] F14 fun _ F16 => ?_
 clear F14
 refine zh (zc rfl) rfl F16 rfl rfl (zE Tryz.func49 rfl) #[.pointer (some ⟨g, 0, none⟩), .string r.s] (zja (F16.get (t := 21) rfl) (F16.get (t := 23) rfl)) (zda ((find_yes g V s n hv r.s k hk h8 w10 (HasV.of (M10.blk (k := 0) rfl) (hr.grow M10.grown))))) ?_
 rintro _ w17 a17 ⟨rfl, b17⟩ F17
 have M17 := M10.step b17
 refine rm rfl F17 fun _ F18 => ?_
 refine zA 2 [(25, .agg (#[.int .i64 ((2 * k : Nat) : Int), .func (.func 105) #[] #[]])), (26, .bool true)] [] dnil [] F18 fun _ F19 => ?_
 clear F18
 refine zi (zc rfl) rfl F19 rfl M17 3 (t := 87) (c := #[.int .i64 0, .nilFunc]) (by unfold execOp; kernel_rfl) ?_
 intro g20 a20 w20 F20 M20
 clear F19 M17
 refine zn (zc rfl) rfl F20 M20 (k := 3) rfl _ _ _ rfl (F20.get (t := 7) rfl) (F20.get (t := 25) rfl) (#[.int .i64 ((2 * k : Nat) : Int), .func (.func 105) #[] #[]]) _ rfl (zL rfl) (by first | rfl | simp [Value.oneCell']) (zo rfl) (by kernel_rfl) ?_
 intro w21 M21
 clear M20
 refine rm rfl F20 fun _ F22 => ?_
 refine hK15 _ _ ?_
 refine zS fun _ hK23 => ?_
 refine zS fun _ hK24 => ?_
 refine zR ?_
 refine zA 2 [(27, .bool true), (28, .bool false)] [] dnil [] F22 fun _ F25 => ?_
 clear F22
 refine hK24 _ _ ?_
 refine wp_cond_false (F25.get (t := 28) rfl) ?_
 refine wp_skip ?_
 refine hK23 _ _ ?_
 refine zS fun _ hK26 => ?_
 refine zS fun _ hK27 => ?_
 refine zR ?_
 refine zA 2 [(34, .bool true), (35, .bool false)] [] dnil [] F25 fun _ F28 => ?_
 clear F25
 refine hK27 _ _ ?_
 refine wp_cond_false (F28.get (t := 35) rfl) ?_
 refine wp_skip ?_
 refine hK26 _ _ ?_
 refine zS fun _ hK29 => ?_
 refine zR ?_
 refine rm rfl F28 fun _ F30 => ?_
 refine zd (w' := w21) (zc rfl) rfl F30 rfl _ (zoa _ _ rfl (F30.get (t := 7) rfl) (M21.blk (k := 3) rfl) (#[.int .i64 ((2 * k : Nat) : Int), .func (.func 105) #[] #[]]) (zqa rfl) Tryz.underlying87 rfl (by kernel_rfl)) fun _ F31 => ?_
 clear F30
 refine rm rfl F31 fun _ F32 => ?_
 refine zh (zc rfl) rfl F32 rfl rfl (zE Tryz.func51 rfl) #[.pointer (some ⟨g, 0, none⟩), .agg (#[.int .i64 ((2 * k : Nat) : Int), .func (.func 105) #[] #[]]), .slice A10 (l).length c10] (args3 (F32.get (t := 36) rfl) (F32.get (t := 37) rfl) (F32.get (t := 38) rfl)) (vwrite_any g V s n hv k h8 l (.slice A10 (l).length c10) hll ht w21 (M21.isO (k := 2) rfl) (fun h => M21.dis 0 2 _ _ rfl rfl (by decide) rfl g rfl (zka h)) (hr.grow M21.grown) (M21.blk (k := 0) rfl)) ?_
 rintro _ w33 a33 ⟨rfl, s33, n33, hr33, ht33, hc33, hg33⟩ F33
 have M33 := M21.put (k := 0) rfl hg33 hc33
 refine rm rfl F33 fun _ F34 => ?_
 refine hK29 _ _ ?_
 refine wp_ret ?_
 try simp only [Exit.then, Exit.inBlock, Exit.jump]
 exact bodyPost_ret (res1 rfl (F34.get rfl)) F34.defers ⟨_, rfl, rfl, s33, n33, hr33, (fun b hb => (ht33 b hb).imp id (fun hb => Nat.le_trans M21.le hb)), hc33, M21.grown.trans hg33⟩
theorem put_none (g : Nat) (V : VltN) (s n : Nat → Value) (hv : zea V) (r : RecN) (Vr : RecV) (ho : RecOk r) (hd : V.dd = false) (l : List UInt8) (hrl : recE r = l) (hkeep : zaa r = true) (hk : fst8 (zz V r.s) = 8) (hf : fst8 (fun i => zra V (2 * i)) = 8) (w : World) (hR : RecIs w r Vr) (hRg : ¬ bfp Vr.v2 g ∧ ¬ bfp Vr.v5 g) (hr : RowsV w g V.c s n) (hg : w.heap[g]? = some (.cells (vltA V s n) 80 (0, 0))) :
  Calls Tryz.prog 22 #[.pointer (some ⟨g, 0, none⟩), .agg (recA r Vr)] w fun e w' => ∃ t, e = .returned t ∧ t = .int .i64 7 ∧ ∃ s' n', RowsV w' g (V).c s' n' ∧ (∀ b, zr 18 s' n' b → zr 18 s n b ∨ w.heap.size ≤ b) ∧ w'.heap[g]? = some (.cells (vltA (V) s' n') 80 (0, 0)) ∧ w.grownBy w' (some g) := by
 skip
 refine zj (args := [.pointer (some ⟨g, 0, none⟩), .agg (recA r Vr)]) 40 Tryz.func22 rfl rfl rfl ?_
 intro fa F
 have M := Mx.theG hg 0
 have hkp : zaa r = true := hkeep
 refine zS fun _ hK1 => ?_
 refine zR ?_
 refine zi (zc rfl) rfl F rfl M 1 (t := 37) (c := recA r Vr) (by unfold execOp; simp only [(F.get (t := 1) rfl)]; kernel_rfl) ?_
 intro g2 a2 w2 F2 M2
 clear F M
 refine rm rfl F2 fun _ F3 => ?_
 refine hK1 _ _ ?_
 refine zS fun _ hK4 => ?_
 refine zS fun _ hK5 => ?_
 refine zR ?_
 refine zB 4 [(0, .pointer (some ⟨g, 0, none⟩)), (3, .pointer (some ⟨g2, 0, none⟩)), (4, .int .i64 0), (11, .pointer (some ⟨g, 56, none⟩))] [] dnil [] F3 fun _ F6 => ?_
 clear F3
 refine zd (w' := w2) (zc rfl) rfl F6 rfl (.bool false) (zia _ _ rfl (F6.get (t := 11) rfl) (M2.blk (k := 0) rfl) (show _ = some (Value.bool _) from by rw [← hd]; rfl) Tryz.underlying4 rfl) fun _ F7 => ?_
 clear F6
 refine hK5 _ _ ?_
 refine wp_cond_false (F7.get (t := 12) rfl) ?_
 refine wp_skip ?_
 refine hK4 _ _ ?_
 refine zS fun _ hK8 => ?_
 refine zR ?_
 refine zd (w' := w2) (zc rfl) rfl F7 rfl _ (zoa _ _ rfl (F7.get (t := 3) rfl) (M2.blk (k := 1) rfl) (recA r Vr) (zqa rfl) Tryz.underlying37 rfl (by kernel_rfl)) fun _ F9 => ?_
 clear F7
 refine zh (zc rfl) rfl F9 rfl rfl (zE Tryz.func48 rfl) #[.agg (recA r Vr)] (zw (F9.get (t := 14) rfl)) (rec_is r Vr ho true l hkp hrl w2 ⟨hR.h2.grow M2.grown hRg.1, hR.h5.grow M2.grown hRg.2⟩) ?_
 rintro _ w10 a10 ⟨v10, rfl, hv10, b10⟩ F10
 have M10 := M2.newO b10 2 hv10
 clear M2 b10 hv10
 obtain ⟨A10, c10, rfl⟩ := (M10.isO (k := 2) rfl).shape
 refine zB 5 [(0, .pointer (some ⟨g, 0, none⟩)), (3, .pointer (some ⟨g2, 0, none⟩)), (4, .int .i64 0), (5, .slice A10 (l).length c10), (6, .bool true)] [] dnil [] F10 fun _ F11 => ?_
 clear F10
 refine hK8 _ _ ?_
 refine zS fun _ hK12 => ?_
 refine zS fun _ hK13 => ?_
 refine zR ?_
 refine zA 2 [(18, .bool true), (19, .bool false)] [] dnil [] F11 fun _ F14 => ?_
 clear F11
 refine hK13 _ _ ?_
 refine wp_cond_false (F14.get (t := 19) rfl) ?_
 refine wp_skip ?_
 refine hK12 _ _ ?_
 refine zS fun _ hK15 => ?_
 refine zR ?_
 refine zA 3 [(21, .pointer (some ⟨g, 0, none⟩)), (22, .pointer (some ⟨g2, 1, none⟩)), (23, .string r.s)] [0] (zca (M10.blk (k := 1) rfl) dnil) [g2] F14 fun _ F16 => ?_
 clear F14
 refine zh (zc rfl) rfl F16 rfl rfl (zE Tryz.func49 rfl) #[.pointer (some ⟨g, 0, none⟩), .string r.s] (zja (F16.get (t := 21) rfl) (F16.get (t := 23) rfl)) (zda ((find_not g V s n hv r.s hk w10 (HasV.of (M10.blk (k := 0) rfl) (hr.grow M10.grown))))) ?_
 rintro _ w17 a17 ⟨rfl, b17⟩ F17
 have M17 := M10.step b17
 refine zB 3 [(0, .pointer (some ⟨g, 0, none⟩)), (4, .int .i64 0), (5, .slice A10 (l).length c10), (6, .bool true), (25, .agg (#[.int .i64 0, .nilFunc])), (26, .bool false)] [] dnil [] F17 fun _ F18 => ?_
 clear F17
 refine zi (zc rfl) rfl F18 rfl M17 3 (t := 87) (c := #[.int .i64 0, .nilFunc]) (by unfold execOp; kernel_rfl) ?_
 intro g19 a19 w19 F19 M19
 clear F18 M17
 refine zn (zc rfl) rfl F19 M19 (k := 3) rfl _ _ _ rfl (F19.get (t := 7) rfl) (F19.get (t := 25) rfl) (#[.int .i64 0, .nilFunc]) _ rfl (zL rfl) (by first | rfl | simp [Value.oneCell']) (zo rfl) (by kernel_rfl) ?_
 intro w20 M20
 clear M19
 refine rm rfl F19 fun _ F21 => ?_
 refine hK15 _ _ ?_
 refine zS fun _ hK22 => ?_
 refine zS fun _ hK23 => ?_
 refine zR ?_
 refine zA 2 [(27, .bool false), (28, .bool true)] [] dnil [] F21 fun _ F24 => ?_
 clear F21
 refine hK23 _ _ ?_
 refine wp_cond_true (F24.get (t := 28) rfl) ?_
 refine zR ?_
 refine rm rfl F24 fun _ F25 => ?_
 refine zh (zc rfl) rfl F25 rfl rfl (zE Tryz.func50 rfl) #[.pointer (some ⟨g, 0, none⟩)] (zw (F25.get (t := 30) rfl)) (zda ((free_not g V s n hv hf w20 (HasV.of (M20.blk (k := 0) rfl) (hr.grow M20.grown))))) ?_
 rintro _ w26 a26 ⟨rfl, b26⟩ F26
 have M26 := M20.step b26
 refine zA 3 [(29, .tuple #[.agg (#[.int .i64 0, .nilFunc]), .bool false]), (32, .agg (#[.int .i64 0, .nilFunc])), (33, .bool false)] [] dnil [] F26 fun _ F27 => ?_
 clear F26
 refine zn (zc rfl) rfl F27 M26 (k := 3) rfl _ _ _ rfl (F27.get (t := 7) rfl) (F27.get (t := 32) rfl) (#[.int .i64 0, .nilFunc]) _ rfl (zL rfl) (by first | rfl | simp [Value.oneCell']) (zo rfl) (by kernel_rfl) ?_
 intro w28 M28
 clear M26
 refine rm rfl F27 fun _ F29 => ?_
 refine hK22 _ _ ?_
 refine zS fun _ hK30 => ?_
 refine zS fun _ hK31 => ?_
 refine zR ?_
 refine zA 2 [(34, .bool false), (35, .bool true)] [] dnil [] F29 fun _ F32 => ?_
 clear F29
 refine hK31 _ _ ?_
 refine wp_cond_true (F32.get (t := 35) rfl) ?_
 refine zS fun _ hK33 => ?_
 refine zR ?_
 refine rm rfl F32 fun _ F34 => ?_
 refine hK33 _ _ ?_
 refine wp_ret ?_
 try simp only [Exit.then, Exit.inBlock, Exit.jump]
 exact bodyPost_ret (res1 rfl (F34.get rfl)) F34.defers ⟨_, rfl, rfl, s, n, hr.grow M28.grown, fun b h => .inl h, M28.blk (k := 0) rfl, M28.grown⟩
theorem put_free (g : Nat) (V : VltN) (s n : Nat → Value) (hv : zea V) (r : RecN) (Vr : RecV) (ho : RecOk r) (hd : V.dd = false) (l : List UInt8) (hrl : recE r = l) (hkeep : zaa r = true) (hll : l.length ≤ 1000) (hk : fst8 (zz V r.s) = 8) (k : Nat) (hf : fst8 (fun i => zra V (2 * i)) = k) (h8 : k < 8) (ht : anyB zk V (2 * k) = true → -9223372036854775808 ≤ cntT V (2 * k) ∧ cntT V (2 * k) < 9223372036854775807) (w : World) (hR : RecIs w r Vr) (hRg : ¬ bfp Vr.v2 g ∧ ¬ bfp Vr.v5 g) (hr : RowsV w g V.c s n) (hg : w.heap[g]? = some (.cells (vltA V s n) 80 (0, 0))) :
  Calls Tryz.prog 22 #[.pointer (some ⟨g, 0, none⟩), .agg (recA r Vr)] w fun e w' => ∃ t, e = .returned t ∧ t = .int .i64 (if (sayW V (2 * k) l).2 = true then 0 else 10) ∧ ∃ s' n', RowsV w' g ((sayW V (2 * k) l).1).c s' n' ∧ (∀ b, zr 18 s' n' b → zr 18 s n b ∨ w.heap.size ≤ b) ∧ w'.heap[g]? = some (.cells (vltA ((sayW V (2 * k) l).1) s' n') 80 (0, 0)) ∧ w.grownBy w' (some g) := by
 skip
 refine zj (args := [.pointer (some ⟨g, 0, none⟩), .agg (recA r Vr)]) 40 Tryz.func22 rfl rfl rfl ?_
 intro fa F
 have M := Mx.theG hg 0
 have hkp : zaa r = true := hkeep
 refine zS fun _ hK1 => ?_
 refine zR ?_
 refine zi (zc rfl) rfl F rfl M 1 (t := 37) (c := recA r Vr) (by unfold execOp; simp only [(F.get (t := 1) rfl)]; kernel_rfl) ?_
 intro g2 a2 w2 F2 M2
 clear F M
 refine rm rfl F2 fun _ F3 => ?_
 refine hK1 _ _ ?_
 refine zS fun _ hK4 => ?_
 refine zS fun _ hK5 => ?_
 refine zR ?_
 refine zB 4 [(0, .pointer (some ⟨g, 0, none⟩)), (3, .pointer (some ⟨g2, 0, none⟩)), (4, .int .i64 0), (11, .pointer (some ⟨g, 56, none⟩))] [] dnil [] F3 fun _ F6 => ?_
 clear F3
 refine zd (w' := w2) (zc rfl) rfl F6 rfl (.bool false) (zia _ _ rfl (F6.get (t := 11) rfl) (M2.blk (k := 0) rfl) (show _ = some (Value.bool _) from by rw [← hd]; rfl) Tryz.underlying4 rfl) fun _ F7 => ?_
 clear F6
 refine hK5 _ _ ?_
 refine wp_cond_false (F7.get (t := 12) rfl) ?_
 refine wp_skip ?_
 refine hK4 _ _ ?_
 refine zS fun _ hK8 => ?_
 refine zR ?_
 refine zd (w' := w2) (zc rfl) rfl F7 rfl _ (zoa _ _ rfl (F7.get (t := 3) rfl) (M2.blk (k := 1) rfl) (recA r Vr) (zqa rfl) Tryz.underlying37 rfl (by kernel_rfl)) fun _ F9 => ?_
 clear F7
 refine zh (zc rfl) rfl F9 rfl rfl (zE Tryz.func48 rfl) #[.agg (recA r Vr)] (zw (F9.get (t := 14) rfl)) (rec_is r Vr ho true l hkp hrl w2 ⟨hR.h2.grow M2.grown hRg.1, hR.h5.grow M2.grown hRg.2⟩) ?_
 rintro _ w10 a10 ⟨v10, rfl, hv10, b10⟩ F10
 have M10 := M2.newO b10 2 hv10
 clear M2 b10 hv10
 obtain ⟨A10, c10, rfl⟩ := (M10.isO (k := 2) rfl).shape
 refine zB 5 [(0, .pointer (some ⟨g, 0, none⟩)), (3, .pointer (some ⟨g2, 0, none⟩)), (4, .int .i64 0), (5, .slice A10 (l).length c10), (6, .bool true)] [] dnil [] F10 fun _ F11 => ?_
 clear F10
 refine hK8 _ _ ?_
 refine zS fun _ hK12 => ?_
 refine zS fun _ hK13 => ?_
 refine zR ?_
 refine zA 2 [(18, .bool true), (19, .bool false)] [] dnil [] F11 fun _ F14 => ?_
 clear F11
 refine hK13 _ _ ?_
 refine wp_cond_false (F14.get (t := 19) rfl) ?_
 refine wp_skip ?_
 refine hK12 _ _ ?_
 refine zS fun _ hK15 => ?_
 refine zR ?_
 refine zA 3 [(21, .pointer (some ⟨g, 0, none⟩)), (22, .pointer (some ⟨g2, 1, none⟩)), (23, .string r.s)] [0] (zca (M10.blk (k := 1) rfl) dnil) [g2] F14 fun _ F16 => ?_
 clear F14
 refine zh (zc rfl) rfl F16 rfl rfl (zE Tryz.func49 rfl) #[.pointer (some ⟨g, 0, none⟩), .string r.s] (zja (F16.get (t := 21) rfl) (F16.get (t := 23) rfl)) (zda ((find_not g V s n hv r.s hk w10 (HasV.of (M10.blk (k := 0) rfl) (hr.grow M10.grown))))) ?_
 rintro _ w17 a17 ⟨rfl, b17⟩ F17
 have M17 := M10.step b17
 refine zB 3 [(0, .pointer (some ⟨g, 0, none⟩)), (4, .int .i64 0), (5, .slice A10 (l).length c10), (6, .bool true), (25, .agg (#[.int .i64 0, .nilFunc])), (26, .bool false)] [] dnil [] F17 fun _ F18 => ?_
 clear F17
 refine zi (zc rfl) rfl F18 rfl M17 3 (t := 87) (c := #[.int .i64 0, .nilFunc]) (by unfold execOp; kernel_rfl) ?_
 intro g19 a19 w19 F19 M19
 clear F18 M17
 refine zn (zc rfl) rfl F19 M19 (k := 3) rfl _ _ _ rfl (F19.get (t := 7) rfl) (F19.get (t := 25) rfl) (#[.int .i64 0, .nilFunc]) _ rfl (zL rfl) (by first | rfl | simp [Value.oneCell']) (zo rfl) (by kernel_rfl) ?_
 intro w20 M20
 clear M19
 refine rm rfl F19 fun _ F21 => ?_
 refine hK15 _ _ ?_
 refine zS fun _ hK22 => ?_
 refine zS fun _ hK23 => ?_
 refine zR ?_
 refine zA 2 [(27, .bool false), (28, .bool true)] [] dnil [] F21 fun _ F24 => ?_
 clear F21
 refine hK23 _ _ ?_
 refine wp_cond_true (F24.get (t := 28) rfl) ?_
 refine zR ?_
 refine rm rfl F24 fun _ F25 => ?_
 refine zh (zc rfl) rfl F25 rfl rfl (zE Tryz.func50 rfl) #[.pointer (some ⟨g, 0, none⟩)] (zw (F25.get (t := 30) rfl)) (zda ((free_yes g V s n hv k hf h8 w20 (HasV.of (M20.blk (k := 0) rfl) (hr.grow M20.grown))))) ?_
 rintro _ w26 a26 ⟨rfl, b26⟩ F26
 have M26 := M20.step b26
 refine rm rfl F26 fun _ F27 => ?_
 refine zA 2 [(32, .agg (#[.int .i64 ((2 * k : Nat) : Int), .func (.func 105) #[] #[]])), (33, .bool true)] [] dnil [] F27 fun _ F28 => ?_
 clear F27
 refine zn (zc rfl) rfl F28 M26 (k := 3) rfl _ _ _ rfl (F28.get (t := 7) rfl) (F28.get (t := 32) rfl) (#[.int .i64 ((2 * k : Nat) : Int), .func (.func 105) #[] #[]]) _ rfl (zL rfl) (by first | rfl | simp [Value.oneCell']) (zo rfl) (by kernel_rfl) ?_
 intro w29 M29
 clear M26
 refine rm rfl F28 fun _ F30 => ?_
 refine hK22 _ _ ?_
 refine zS fun _ hK31 => ?_
 refine zS fun _ hK32 => ?_
 refine zR ?_
 refine zA 2 [(34, .bool true), (35, .bool false)] [] dnil [] F30 fun _ F33 => ?_
 clear F30
 refine hK32 _ _ ?_
 refine wp_cond_false (F33.get (t := 35) rfl) ?_
 refine wp_skip ?_
 refine hK31 _ _ ?_
 refine zS fun _ hK34 => ?_
 refine zR ?_
 refine rm rfl F33 fun _ F35 => ?_
 refine zd (w' := w29) (zc rfl) rfl F35 rfl _ (zoa _ _ rfl (F35.get (t := 7) rfl) (M29.blk (k := 3) rfl) (#[.int .i64 ((2 * k : Nat) : Int), .func (.func 105) #[] #[]]) (zqa rfl) Tryz.underlying87 rfl (by kernel_rfl)) fun _ F36 => ?_
 clear F35
 refine rm rfl F36 fun _ F37 => ?_
 refine zh (zc rfl) rfl F37 rfl rfl (zE Tryz.func51 rfl) #[.pointer (some ⟨g, 0, none⟩), .agg (#[.int .i64 ((2 * k : Nat) : Int), .func (.func 105) #[] #[]]), .slice A10 (l).length c10] (args3 (F37.get (t := 36) rfl) (F37.get (t := 37) rfl) (F37.get (t := 38) rfl)) (vwrite_any g V s n hv k h8 l (.slice A10 (l).length c10) hll ht w29 (M29.isO (k := 2) rfl) (fun h => M29.dis 0 2 _ _ rfl rfl (by decide) rfl g rfl (zka h)) (hr.grow M29.grown) (M29.blk (k := 0) rfl)) ?_
 rintro _ w38 a38 ⟨rfl, s38, n38, hr38, ht38, hc38, hg38⟩ F38
 have M38 := M29.put (k := 0) rfl hg38 hc38
 refine rm rfl F38 fun _ F39 => ?_
 refine hK34 _ _ ?_
 refine wp_ret ?_
 try simp only [Exit.then, Exit.inBlock, Exit.jump]
 exact bodyPost_ret (res1 rfl (F39.get rfl)) F39.defers ⟨_, rfl, rfl, s38, n38, hr38, (fun b hb => (ht38 b hb).imp id (fun hb => Nat.le_trans M29.le hb)), hc38, M29.grown.trans hg38⟩
end Go.Proofs.YtmjbnmbobocpdaaGreat
namespace Go.Proofs.YtmjbnmbobocpdaaGreat
open Go.ChangeShapes Go.WideShapes Go.ChangeAt Go.RowKit
theorem vdead_any (g : Nat) (V : VltN) (s n : Nat → Value) (w : World) (h : HasV w g V s n) :
  Calls Tryz.prog 32 #[.pointer (some ⟨g, 0, none⟩)] w fun e w' => e = .returned (.bool V.dd) ∧ Below w.heap.size w w' := by
 obtain ⟨dd, hd⟩ : ∃ x, V.dd = x := ⟨_, rfl⟩
 rw [hd]
 refine zj (args := [.pointer (some ⟨g, 0, none⟩)]) 8 Tryz.func32 rfl rfl rfl ?_
 intro fa F
 have M := Mx.start w
 replace M := M.argO 0 h.blk (fun b e => by cases e)
 refine zS fun _ hK1 => ?_
 refine zR ?_
 refine rm rfl F fun _ F2 => ?_
 refine hK1 _ _ ?_
 refine zS fun _ hK3 => ?_
 refine zR ?_
 refine zB 4 [(2, .bool false), (6, .pointer (some ⟨g, 56, none⟩))] [] dnil [] F2 fun _ F4 => ?_
 clear F2
 refine zd (w' := w) (zc rfl) rfl F4 rfl (.bool dd) (zia _ _ rfl (F4.get (t := 6) rfl) (M.roB (k := 0) rfl) (show _ = some (Value.bool _) from by rw [← hd]; rfl) Tryz.underlying4 rfl) fun _ F5 => ?_
 clear F4
 refine rm rfl F5 fun _ F6 => ?_
 refine hK3 _ _ ?_
 refine wp_ret ?_
 try simp only [Exit.then, Exit.inBlock, Exit.jump]
 exact bodyPost_ret (res1 rfl (F6.get rfl)) F6.defers ⟨rfl, M.below⟩
end Go.Proofs.YtmjbnmbobocpdaaGreat
namespace Go.Proofs.YtmjbnmbobocpdaaGreat
open Go.ChangeShapes Go.WideShapes Go.ChangeAt Go.RowKit Go.Shelf
theorem eightI_low {n : Nat} (h : n < 256) : zu (n : Int) = [0, 0, 0, 0, 0, 0, 0, zx (n : Int)] := by
  have e : ∀ j : Nat, j < 7 → zx ((n : Int) / 2 ^ (8 * (7 - j))) = 0 := fun j hj => by
    have h1 : ((n : Int) / 2 ^ (8 * (7 - j))) = 0 := by
      apply Int.ediv_eq_zero_of_lt (by omega)
      have h2 : 2 ^ 8 ≤ 2 ^ (8 * (7 - j)) := Nat.pow_le_pow_right (by omega) (by omega)
      have h3 : ((2 ^ (8 * (7 - j)) : Nat) : Int) = (2 : Int) ^ (8 * (7 - j)) := by simp
      omega
    rw [h1]; rfl
  have e7 : zx ((n : Int) / 2 ^ (8 * (7 - 7))) = zx (n : Int) := by simp
  unfold zu
  have hr : List.range 8 = [0, 1, 2, 3, 4, 5, 6, 7] := rfl
  rw [hr]
  simp only [List.map_cons, List.map_nil]
  rw [e 0 (by omega), e 1 (by omega), e 2 (by omega), e 3 (by omega), e 4 (by omega), e 5 (by omega), e 6 (by omega), e7]
def CellOk (K : Nat) (b : List UInt8) : Prop := b.length ≤ 280 ∧ (∀ j, j < 7 → b.getD j 0 = 0) ∧ (b.getD 7 0).toNat ≤ K
def CelOk (K : Nat) (c : CelN) : Prop := CellOk K c.s ∧ CellOk K c.n
def InvV (K : Nat) (V : VltN) : Prop := ∀ i, CelOk K (V.c i)
theorem CellOk.nil (K : Nat) : CellOk K [] := ⟨Nat.zero_le _, fun _ _ => rfl, Nat.zero_le _⟩
theorem CellOk.mono {K K' : Nat} (h : K ≤ K') {b : List UInt8} (hb : CellOk K b) : CellOk K' b := ⟨hb.1, hb.2.1, Nat.le_trans hb.2.2 h⟩
theorem CelOk.mono {K K' : Nat} (h : K ≤ K') {c : CelN} (hb : CelOk K c) : CelOk K' c := ⟨hb.1.mono h, hb.2.mono h⟩
theorem InvV.mono {K K' : Nat} (h : K ≤ K') {V : VltN} (hb : InvV K V) : InvV K' V := fun i => (hb i).mono h
theorem getD_torn {x y : List UInt8} {k : Nat} (hk : k ≤ x.length) (j : Nat) : (x.take k ++ y.drop k).getD j 0 = if j < k then x.getD j 0 else y.getD j 0 := by
  have hl : (x.take k).length = k := by rw [List.length_take]; omega
  simp only [List.getD_eq_getElem?_getD]
  by_cases h : j < k
  · rw [if_pos h, List.getElem?_append_left (by omega), List.getElem?_take, if_pos h]
  · rw [if_neg h, List.getElem?_append_right (by omega), hl, List.getElem?_drop, show k + (j - k) = j by omega]
theorem CellOk.torn {K : Nat} {x y : List UInt8} {k : Nat} (hk : k ≤ x.length) (hx : CellOk K x) (hy : CellOk K y) : CellOk K (x.take k ++ y.drop k) := by
  refine ⟨?_, fun j hj => ?_, ?_⟩
  · have h1 := hx.1
    have h2 := hy.1
    rw [List.length_append, List.length_take, List.length_drop]
    omega
  · rw [getD_torn hk]
    split
    · exact hx.2.1 j hj
    · exact hy.2.1 j hj
  · rw [getD_torn hk]
    split
    · exact hx.2.2
    · exact hy.2.2
theorem take8_of {K : Nat} {b : List UInt8} (h : CellOk K b) (h8 : 8 ≤ b.length) : b.take 8 = zu (((b.getD 7 0).toNat : Nat) : Int) := by
  rw [eightI_low (UInt8.toNat_lt _)]
  have hb : zx (((b.getD 7 0).toNat : Nat) : Int) = b.getD 7 0 := byteI_id _
  rw [hb]
  apply List.ext_getElem?
  intro j
  rw [List.getElem?_take]
  have hget : ∀ i, i < 8 → b[i]? = some (b.getD i 0) := fun i hi => by rw [List.getD_eq_getElem?_getD, List.getElem?_eq_getElem (by omega)]; rfl
  by_cases hj : j < 8
  · rw [if_pos hj, hget j hj]
    match j, hj with
    | 0, _ => rw [h.2.1 0 (by omega)]; rfl
    | 1, _ => rw [h.2.1 1 (by omega)]; rfl
    | 2, _ => rw [h.2.1 2 (by omega)]; rfl
    | 3, _ => rw [h.2.1 3 (by omega)]; rfl
    | 4, _ => rw [h.2.1 4 (by omega)]; rfl
    | 5, _ => rw [h.2.1 5 (by omega)]; rfl
    | 6, _ => rw [h.2.1 6 (by omega)]; rfl
    | 7, _ => rfl
    | k + 8, hk => exact absurd hk (by omega)
  · rw [if_neg hj, List.getElem?_eq_none (by simp; omega)]
theorem turn_of {K : Nat} {b : List UInt8} (h : CellOk K b) (h8 : 8 ≤ b.length) : turnL b = (((b.getD 7 0).toNat : Nat) : Int) := by
  have := UInt8.toNat_lt (b.getD 7 0)
  unfold turnL
  rw [take8_of h h8, numI_eight (by omega) (by omega)]
theorem entT_bd {K : Nat} {b : List UInt8} (h : CellOk K b) : 0 ≤ entT b ∧ entT b ≤ (K : Int) := by
  unfold entT
  split
  · rw [turn_of h (by omega)]
    have := h.2.2
    omega
  · omega
theorem cnt_bd {K : Nat} {V : VltN} (h : InvV K V) (q : Nat) : 0 ≤ cntT V q ∧ cntT V q ≤ (K : Int) := by
  unfold cntT
  split
  · exact entT_bd (h (q + 1)).1
  · exact entT_bd (h q).1
theorem nxtT_bd {K : Nat} {V : VltN} (h : InvV K V) (q : Nat) : 1 ≤ nxtT V q ∧ nxtT V q ≤ (K : Int) + 1 := by
  have := cnt_bd h q
  unfold nxtT
  split <;> omega
theorem said_ok {K p : Nat} {t : Int} {s : List UInt8} (h0 : 0 ≤ t) (hK : t ≤ (K : Int)) (hk : K < 256) (hs : s.length ≤ 255) : CellOk K (zma zk p t s) := by
  obtain ⟨m, rfl⟩ : ∃ m : Nat, t = (m : Int) := ⟨t.toNat, by omega⟩
  have h8 := saidL_take8 zk p (m : Int) s
  rw [eightI_low (by omega)] at h8
  have hg : ∀ j, j < 8 → (zma zk p (m : Int) s).getD j 0 = ([0, 0, 0, 0, 0, 0, 0, zx (m : Int)] : List UInt8).getD j 0 := fun j hj => by
    rw [← h8]
    simp only [List.getD_eq_getElem?_getD, List.getElem?_take, if_pos hj]
  refine ⟨by rw [saidL_len zk sealH_len]; omega, fun j hj => ?_, ?_⟩
  · rw [hg j (by omega)]
    match j, hj with
    | 0, _ => rfl
    | 1, _ => rfl
    | 2, _ => rfl
    | 3, _ => rfl
    | 4, _ => rfl
    | 5, _ => rfl
    | 6, _ => rfl
    | k + 7, hk => exact absurd hk (by omega)
  · rw [hg 7 (by omega)]
    show (zx (m : Int)).toNat ≤ K
    rw [byteI_nat (by omega)]; omega
theorem nxtP_in (V : VltN) (q : Nat) : nxtP V q = q ∨ nxtP V q = q + 1 := by
  unfold nxtP
  split
  · rename_i h
    rcases cntP_in h with h | h <;> rw [h] <;> omega
  · exact .inl rfl
theorem sayW_c (V : VltN) (q : Nat) (l : List UInt8) : (∀ i, i ≠ nxtP V q → (sayW V q l).1.c i = V.c i) ∧
    ((sayW V q l).1.c (nxtP V q) = V.c (nxtP V q) ∨ (sayW V q l).1.c (nxtP V q) = ⟨(V.c (nxtP V q)).s, zma zk (nxtP V q) (nxtT V q) l, true⟩ ∨ (sayW V q l).1.c (nxtP V q) = ⟨zma zk (nxtP V q) (nxtT V q) l, [], false⟩) := by
  unfold sayW wrtV
  split
  · exact ⟨fun _ _ => rfl, .inl rfl⟩
  · split
    · refine ⟨fun i hi => putC_ne _ _ hi, .inr (.inl (z3b _ _ _))⟩
    · refine ⟨fun i hi => ?_, .inr (.inr ?_)⟩
      · show putC (putC V.c _ _) _ _ i = V.c i
        rw [putC_ne _ _ hi, putC_ne _ _ hi]
      · show putC (putC V.c _ _) _ ⟨(putC V.c _ _ _).n, [], false⟩ _ = _
        rw [z3b, z3b]
theorem sayW_inv {K : Nat} {V : VltN} (h : InvV K V) (hK : K < 255) (q : Nat) {l : List UInt8} (hl : l.length ≤ 255) : InvV (K + 1) (sayW V q l).1 := fun i => by
  obtain ⟨h1, h2⟩ := sayW_c V q l
  by_cases hi : i = nxtP V q
  · subst hi
    have hb := nxtT_bd h q
    have hs : CellOk (K + 1) (zma zk (nxtP V q) (nxtT V q) l) := said_ok (by omega) (by omega) (by omega) hl
    rcases h2 with h2 | h2 | h2 <;> rw [h2]
    · exact (h _).mono (by omega)
    · exact ⟨(h _).1.mono (by omega), hs⟩
    · exact ⟨hs, CellOk.nil _⟩
  · rw [h1 i hi]
    exact (h i).mono (by omega)
theorem setl_inv {K : Nat} {V : VltN} (h : InvV K V) (x : Nat → Int) (m : Nat) : InvV K (setlV V x m) := fun i =>
  setC_all (p := fun _ c => CelOk K c) h (fun i k _ hk => ⟨CellOk.torn hk (h i).2 (h i).1, CellOk.nil _⟩) 18 i
theorem age_inv {K : Nat} {V : VltN} (h : InvV K V) (hK : K < 255) : InvV (K + 1) (ageW V) := sayW_inv h hK 16 (by rw [z2a]; omega)
theorem zero_inv (K : Nat) : InvV K zeroV := fun i => ⟨CellOk.nil K, CellOk.nil K⟩
theorem inv_short {K : Nat} {V : VltN} (h : InvV K V) : zea V := fun i hi => ⟨by have := (h i).1.1; omega, by have := (h i).2.1; omega⟩
theorem inv_turn {K : Nat} {V : VltN} (h : InvV K V) (hK : K < 256) (q : Nat) : anyB zk V q = true → -9223372036854775808 ≤ cntT V q ∧ cntT V q < 9223372036854775807 := fun _ => by
  have := cnt_bd h q; omega
theorem pair_eq {V V' : VltN} {q : Nat} (h1 : (V'.c q).s = (V.c q).s) (h2 : (V'.c (q + 1)).s = (V.c (q + 1)).s) : anyB zk V' q = anyB zk V q ∧ cntS V' q = cntS V q ∧ cntT V' q = cntT V q ∧ cntP V' q = cntP V q := by
  have hs : secB zk V' q = secB zk V q := by unfold secB; rw [h1, h2]
  refine ⟨by unfold anyB; rw [hs, h1], by unfold cntS; rw [hs, h1, h2], by unfold cntT; rw [hs, h1, h2], by unfold cntP; rw [hs, h1, h2]⟩
theorem said_eq {V V' : VltN} {q : Nat} (h : anyB zk V' q = anyB zk V q ∧ cntS V' q = cntS V q ∧ cntT V' q = cntT V q ∧ cntP V' q = cntP V q) : saidB V' q = saidB V q ∧ zla V' q = zla V q ∧ zra V' q = zra V q ∧ numB V' q = numB V q ∧ zrb V' q = zrb V q := by
  obtain ⟨h1, h2, -, -⟩ := h
  refine ⟨by unfold saidB; rw [h1, h2], by unfold zla; rw [h1, h2], by unfold zra; rw [h1, h2], by unfold numB; rw [h1, h2], by unfold zrb; rw [h1, h2]⟩
theorem sayW_other (V : VltN) {q q' : Nat} (l : List UInt8) (h : q' + 1 < q ∨ q + 1 < q') : (sayW V q l).1.c q' = V.c q' ∧ (sayW V q l).1.c (q' + 1) = V.c (q' + 1) := by
  have h1 := (sayW_c V q l).1
  have hp := nxtP_in V q
  exact ⟨h1 _ (by omega), h1 _ (by omega)⟩
theorem sayW_pair (V : VltN) {q q' : Nat} (l : List UInt8) (h : q' + 1 < q ∨ q + 1 < q') : anyB zk (sayW V q l).1 q' = anyB zk V q' ∧ cntS (sayW V q l).1 q' = cntS V q' ∧ cntT (sayW V q l).1 q' = cntT V q' ∧ cntP (sayW V q l).1 q' = cntP V q' := by
  obtain ⟨h1, h2⟩ := sayW_other V l h
  exact pair_eq (by rw [h1]) (by rw [h2])
theorem sayW_live {V : VltN} (q : Nat) (l : List UInt8) (hf : V.fl = false) : (sayW V q l).2 = true ∧ (sayW V q l).1.fl = false ∧ (sayW V q l).1.dd = V.dd ∧ (sayW V q l).1.c (nxtP V q) = ⟨zma zk (nxtP V q) (nxtT V q) l, [], false⟩ := by
  unfold sayW wrtV
  rw [if_neg (by unfold fallB; rw [hf]; simp), if_neg (by unfold fallB layV6; rw [hf]; simp)]
  refine ⟨rfl, hf, rfl, ?_⟩
  show putC (putC V.c _ _) _ ⟨(putC V.c _ _ _).n, [], false⟩ _ = _
  rw [z3b, z3b]
theorem sayW_fl (V : VltN) (q : Nat) (l : List UInt8) : (sayW V q l).1.fl = V.fl := by
  unfold sayW wrtV
  split
  · rfl
  · split <;> rfl
theorem wrote {K : Nat} {V V' : VltN} {q : Nat} {l : List UInt8} (h : InvV K V) (hK : K < 255) (hp : (V'.c (nxtP V q)).s = zma zk (nxtP V q) (nxtT V q) l) (ho : ∀ i, i ≠ nxtP V q → (V'.c i).s = (V.c i).s) : anyB zk V' q = true ∧ cntS V' q = l := by
  have hb := nxtT_bd h q
  have hcb := cnt_bd h q
  have hgood : znb zk (nxtP V q) (zma zk (nxtP V q) (nxtT V q) l) = true := good_said zk sealH_len _ (by omega) (by omega) _
  have hturn : turnL (zma zk (nxtP V q) (nxtT V q) l) = nxtT V q := saidL_turn zk _ (by omega) (by omega) _
  have hlen : 25 ≤ (zma zk (nxtP V q) (nxtT V q) l).length := by rw [saidL_len zk sealH_len]; omega
  have hents : entS (zma zk (nxtP V q) (nxtT V q) l) = l := by unfold entS; rw [if_pos hlen, saidL_says zk sealH_len]
  by_cases hA : anyB zk V q = true
  · by_cases hs : secB zk V q = true
    · -- the second counts: the first is written
      have hP : nxtP V q = q := by
        have : cntP V q = q + 1 := by
          unfold cntP
          rw [if_pos hs]
          have : znb zk (q + 1) (V.c (q + 1)).s = true := by unfold secB at hs; simp only [Bool.and_eq_true] at hs; exact hs.1
          exact if_pos (good_ge this)
        unfold nxtP
        rw [if_pos hA, this]; omega
      have hT : nxtT V q = turnL (V.c (q + 1)).s + 1 := by
        have hg : znb zk (q + 1) (V.c (q + 1)).s = true := by unfold secB at hs; simp only [Bool.and_eq_true] at hs; exact hs.1
        unfold nxtT cntT
        rw [if_pos hA, if_pos hs, show entT (V.c (q + 1)).s = turnL (V.c (q + 1)).s from if_pos (good_ge hg)]
      rw [hP] at hp hgood hturn hents ho
      have h2 : (V'.c (q + 1)).s = (V.c (q + 1)).s := ho _ (by omega)
      have hs2 : secB zk V' q = false := by
        unfold secB
        rw [h2, hp, hgood, hturn, hT]
        simp
        intro _
        omega
      refine ⟨by unfold anyB; rw [hs2, hp, hgood]; rfl, by unfold cntS; rw [hs2, hp]; exact hents⟩
    · have hs : secB zk V q = false := by simpa using hs
      have hg : znb zk q (V.c q).s = true := by unfold anyB at hA; rw [hs] at hA; simpa using hA
      have hP : nxtP V q = q + 1 := by
        have : cntP V q = q := by
          unfold cntP
          rw [if_neg (by rw [hs]; exact Bool.false_ne_true)]
          exact if_pos (good_ge hg)
        unfold nxtP
        rw [if_pos hA, this]; omega
      have hT : nxtT V q = turnL (V.c q).s + 1 := by
        unfold nxtT cntT
        rw [if_pos hA, if_neg (by rw [hs]; exact Bool.false_ne_true), show entT (V.c q).s = turnL (V.c q).s from if_pos (good_ge hg)]
      rw [hP] at hp hgood hturn hents ho
      have h2 : (V'.c q).s = (V.c q).s := ho _ (by omega)
      have hs2 : secB zk V' q = true := by
        unfold secB
        rw [h2, hp, hgood, hturn, hT, hg]
        simp
        omega
      refine ⟨by unfold anyB; rw [hs2]; rfl, by unfold cntS; rw [hs2, hp]; exact hents⟩
  · have hA : anyB zk V q = false := by simpa using hA
    have hs : secB zk V q = false := by unfold anyB at hA; simp only [Bool.or_eq_false_iff] at hA; exact hA.1
    have hg : znb zk q (V.c q).s = false := by unfold anyB at hA; simp only [Bool.or_eq_false_iff] at hA; exact hA.2
    have hg2 : znb zk (q + 1) (V.c (q + 1)).s = false := by
      unfold secB at hs
      rw [hg] at hs
      simpa using hs
    have hP : nxtP V q = q := by unfold nxtP; rw [if_neg (by rw [hA]; exact Bool.false_ne_true)]
    rw [hP] at hp hgood hturn hents ho
    have h2 : (V'.c (q + 1)).s = (V.c (q + 1)).s := ho _ (by omega)
    have hs2 : secB zk V' q = false := by unfold secB; rw [h2, hg2]; rfl
    refine ⟨by unfold anyB; rw [hs2, hp, hgood]; rfl, by unfold cntS; rw [hs2, hp]; exact hents⟩
theorem say_says {K : Nat} {V : VltN} (h : InvV K V) (hK : K < 255) (q : Nat) (l : List UInt8) (hf : V.fl = false) : anyB zk (sayW V q l).1 q = true ∧ cntS (sayW V q l).1 q = l :=
  wrote h hK (by rw [(sayW_live q l hf).2.2.2]) (fun i hi => by rw [(sayW_c V q l).1 i hi])
/-! The era. -/
def EraV (V : VltN) (e : Int) : Prop := (V.c 16).f = false ∧ (V.c 17).f = false ∧ anyB zk V 16 = true ∧ zrb V 16 = e
theorem era_num {K : Nat} {V : VltN} (h : InvV K V) (hK : K < 255) {e : Int} (he : zrb V 16 = e) (h0 : 0 ≤ e) (h1 : e < 1000) (hf : V.fl = false) (h16 : (V.c 16).f = false) (h17 : (V.c 17).f = false) : EraV (ageW V) (e + 1) := by
  obtain ⟨ha, hc⟩ := say_says h hK 16 (zu (zrb V 16 + 1)) hf
  obtain ⟨h1', h2', h3', h4'⟩ := sayW_live 16 (zu (zrb V 16 + 1)) hf
  have hfr : ∀ i, (V.c i).f = false → ((ageW V).c i).f = false := fun i hi => by
    by_cases e : i = nxtP V 16
    · subst e; unfold ageW; rw [h4']
    · unfold ageW; rw [(sayW_c V 16 _).1 i e]; exact hi
  refine ⟨hfr 16 h16, hfr 17 h17, ha, ?_⟩
  unfold zrb
  rw [if_pos (show anyB zk (ageW V) 16 = true from ha), show cntS (ageW V) 16 = zu (zrb V 16 + 1) from hc, he]
  exact numI_eight (by omega) (by omega)
theorem era_say {V : VltN} {e : Int} (h : EraV V e) {q : Nat} (hq : q + 1 < 16) (l : List UInt8) : EraV (sayW V q l).1 e := by
  obtain ⟨h1, h2⟩ := sayW_other V (q' := 16) l (.inr hq)
  have hp := sayW_pair V (q' := 16) l (.inr hq)
  refine ⟨by rw [h1]; exact h.1, by rw [h2]; exact h.2.1, by rw [hp.1]; exact h.2.2.1, by rw [(said_eq hp).2.2.2.2]; exact h.2.2.2⟩
theorem setC_unf {c : Nat → CelN} {x : Nat → Int} {m : Nat} {i : Nat} (hi : (c i).f = false) : ∀ j, setC c x m j i = c i
  | 0 => rfl
  | j + 1 => by
    unfold setC
    split
    · rename_i hf
      rw [putC_ne _ _ (fun e => by subst e; rw [hi] at hf; cases hf)]
      exact setC_unf hi j
    · exact setC_unf hi j
theorem era_setl {V : VltN} {e : Int} (h : EraV V e) (x : Nat → Int) (m : Nat) : EraV (setlV V x m) e := by
  have h1 : (setlV V x m).c 16 = V.c 16 := setC_unf h.1 18
  have h2 : (setlV V x m).c 17 = V.c 17 := setC_unf h.2.1 18
  have hp := pair_eq (V := V) (V' := setlV V x m) (q := 16) (by rw [h1]) (by rw [h2])
  refine ⟨by rw [h1]; exact h.1, by rw [h2]; exact h.2.1, by rw [hp.1]; exact h.2.2.1, by rw [(said_eq hp).2.2.2.2]; exact h.2.2.2⟩
theorem age_fl (V : VltN) : (ageW V).fl = V.fl := sayW_fl V 16 _
theorem age_dd {V : VltN} (hf : V.fl = false) : (ageW V).dd = V.dd := (sayW_live 16 _ hf).2.2.1
theorem again_is {K : Nat} {V : VltN} (h : InvV K V) (hK : K < 255) {e : Int} (he : EraV V e) (h0 : 0 ≤ e) (h1 : e < 1000) (x : Nat → Int) (m : Nat) : EraV (ageW (setlV V x m)) (e + 1) ∧ InvV (K + 1) (ageW (setlV V x m)) ∧ (ageW (setlV V x m)).fl = false ∧ (ageW (setlV V x m)).dd = false := by
  have hs := era_setl he x m
  exact ⟨era_num (setl_inv h x m) hK hs.2.2.2 h0 h1 rfl hs.1 hs.2.1, age_inv (setl_inv h x m) hK, age_fl _, age_dd rfl⟩
theorem new_is : EraV (ageW zeroV) 1 ∧ InvV 1 (ageW zeroV) ∧ (ageW zeroV).fl = false ∧ (ageW zeroV).dd = false :=
  ⟨era_num (zero_inv 0) (by omega) num0 (by omega) (by omega) rfl rfl rfl, age_inv (zero_inv 0) (by omega), age_fl _, age_dd rfl⟩
theorem era_bd {V : VltN} {e : Int} (h : EraV V e) (h0 : 0 ≤ e) (h1 : e < 1000) : -9223372036854775808 ≤ zrb V 16 ∧ zrb V 16 < 9223372036854775807 := by rw [h.2.2.2]; omega
noncomputable def putV (V : VltN) (r : RecN) : VltN × Int :=
  if V.dd = true then (V, 10) else if zaa r = false then (V, 11) else
  if fst8 (zz V r.s) < 8 then ((sayW V (2 * fst8 (zz V r.s)) (recE r)).1, if (sayW V (2 * fst8 (zz V r.s)) (recE r)).2 = true then 0 else 10) else
  if fst8 (fun i => zra V (2 * i)) < 8 then ((sayW V (2 * fst8 (fun i => zra V (2 * i))) (recE r)).1, if (sayW V (2 * fst8 (fun i => zra V (2 * i))) (recE r)).2 = true then 0 else 10) else (V, 7)
noncomputable def goneV (V : VltN) (nm : ByteArray) : VltN × Int :=
  if V.dd = true then (V, 10) else
  if fst8 (zz V nm) < 8 then ((sayW V (2 * fst8 (zz V nm)) []).1, if (sayW V (2 * fst8 (zz V nm)) []).2 = true then 0 else 10) else (V, 3)
theorem fst8_le (p : Nat → Bool) : fst8 p ≤ 8 := by rcases fst8_spec p with ⟨h, _⟩ | ⟨h, _⟩ <;> omega
theorem recE_bd (r : RecN) : (recE r).length ≤ 200 := by
  unfold recE
  split
  · rename_i h
    obtain ⟨h1, h2, h3⟩ := keep_len h
    rw [recL_is]
    have ha : (fourL r.a).length = 4 := fourL_len _
    have hb : (fourL r.b).length = 4 := fourL_len _
    have hc : (zu r.c).length = 8 := z2a _
    have hd : (zu r.z).length = 8 := z2a _
    simp only [List.length_cons, List.length_append]
    omega
  · simp
theorem put_any {K : Nat} (g : Nat) (V : VltN) (s n : Nat → Value) (r : RecN) (Vr : RecV) (ho : RecOk r) (hi : InvV K V) (hK : K < 256) (w : World) (hR : RecIs w r Vr) (hRg : ¬ bfp Vr.v2 g ∧ ¬ bfp Vr.v5 g) (hr : RowsV w g V.c s n) (hg : w.heap[g]? = some (.cells (vltA V s n) 80 (0, 0))) :
    Calls Tryz.prog 22 #[.pointer (some ⟨g, 0, none⟩), .agg (recA r Vr)] w fun e w' => ∃ t, e = .returned t ∧ t = .int .i64 (putV V r).2 ∧ ∃ s' n', RowsV w' g (putV V r).1.c s' n' ∧ (∀ b, zr 18 s' n' b → zr 18 s n b ∨ w.heap.size ≤ b) ∧ w'.heap[g]? = some (.cells (vltA (putV V r).1 s' n') 80 (0, 0)) ∧ w.grownBy w' (some g) := by
  have hv := inv_short hi
  unfold putV
  cases hd : V.dd with
  | true => exact put_dead g V s n hv r Vr hd w hR hRg hr hg
  | false =>
    rw [if_neg Bool.false_ne_true]
    cases hk : zaa r with
    | false => exact put_range g V s n hv r Vr ho hd (recE r) rfl hk w hR hRg hr hg
    | true =>
      rw [if_neg (fun h => Bool.noConfusion h)]
      by_cases h1 : fst8 (zz V r.s) < 8
      · rw [if_pos h1]
        exact put_found g V s n hv r Vr ho hd (recE r) rfl hk (by have := recE_bd r; omega) _ rfl h1 (inv_turn hi hK _) w hR hRg hr hg
      · have h8 : fst8 (zz V r.s) = 8 := by have := fst8_le (zz V r.s); omega
        rw [if_neg h1]
        by_cases h2 : fst8 (fun i => zra V (2 * i)) < 8
        · rw [if_pos h2]
          exact put_free g V s n hv r Vr ho hd (recE r) rfl hk (by have := recE_bd r; omega) h8 _ rfl h2 (inv_turn hi hK _) w hR hRg hr hg
        · rw [if_neg h2]
          exact put_none g V s n hv r Vr ho hd (recE r) rfl hk h8 (by have := fst8_le (fun i => zra V (2 * i)); omega) w hR hRg hr hg
theorem gone_any {K : Nat} (g : Nat) (V : VltN) (s n : Nat → Value) (nm : ByteArray) (hi : InvV K V) (hK : K < 256) (w : World) (hr : RowsV w g V.c s n) (hg : w.heap[g]? = some (.cells (vltA V s n) 80 (0, 0))) :
    Calls Tryz.prog 27 #[.pointer (some ⟨g, 0, none⟩), .string nm] w fun e w' => ∃ t, e = .returned t ∧ t = .int .i64 (goneV V nm).2 ∧ ∃ s' n', RowsV w' g (goneV V nm).1.c s' n' ∧ (∀ b, zr 18 s' n' b → zr 18 s n b ∨ w.heap.size ≤ b) ∧ w'.heap[g]? = some (.cells (vltA (goneV V nm).1 s' n') 80 (0, 0)) ∧ w.grownBy w' (some g) := by
  have hv := inv_short hi
  unfold goneV
  cases hd : V.dd with
  | true => exact gone_dead g V s n hv nm hd w hr hg
  | false =>
    rw [if_neg Bool.false_ne_true]
    by_cases h1 : fst8 (zz V nm) < 8
    · rw [if_pos h1]
      exact gone_yes g V s n hv nm hd _ rfl h1 (inv_turn hi hK _) w hr hg
    · rw [if_neg h1]
      exact gone_not g V s n hv nm hd (by have := fst8_le (zz V nm); omega) w hr hg
theorem say_keep {K : Nat} {V : VltN} {e : Int} (hi : InvV K V) (hK : K < 255) (he : EraV V e) {k : Nat} (hk : k < 8) {l : List UInt8} (hl : l.length ≤ 255) : InvV (K + 1) (sayW V (2 * k) l).1 ∧ EraV (sayW V (2 * k) l).1 e :=
  ⟨sayW_inv hi hK _ hl, era_say he (by omega) l⟩
theorem put_keep {K : Nat} {V : VltN} {e : Int} (hi : InvV K V) (hK : K < 255) (he : EraV V e) (r : RecN) : InvV (K + 1) (putV V r).1 ∧ EraV (putV V r).1 e := by
  have hl := recE_bd r
  unfold putV
  split
  · exact ⟨hi.mono (by omega), he⟩
  · split
    · exact ⟨hi.mono (by omega), he⟩
    · split
      · rename_i h; exact say_keep hi hK he h (by omega)
      · split
        · rename_i h; exact say_keep hi hK he h (by omega)
        · exact ⟨hi.mono (by omega), he⟩
theorem gone_keep {K : Nat} {V : VltN} {e : Int} (hi : InvV K V) (hK : K < 255) (he : EraV V e) (nm : ByteArray) : InvV (K + 1) (goneV V nm).1 ∧ EraV (goneV V nm).1 e := by
  unfold goneV
  split
  · exact ⟨hi.mono (by omega), he⟩
  · split
    · rename_i h; exact say_keep hi hK he h (by simp)
    · exact ⟨hi.mono (by omega), he⟩
end Go.Proofs.YtmjbnmbobocpdaaGreat
namespace Go.Proofs.YtmjbnmbobocpdaaGreat
open Go.ChangeShapes Go.WideShapes Go.ChangeAt Go.RowKit
theorem within6_any (a n : Int) (hn : 0 < n) (hn' : n < 9223372036854775808) (ha : -9223372036854775808 ≤ a) (ha' : a < 9223372036854775808) (w : World) :
    Calls Tryz.prog 17 #[.int .i64 a, .int .i64 n] w fun e w' => e = .returned (.int .i64 (a % n)) ∧ w = w' := by
  obtain ⟨h1, h2, h3, h4⟩ := tmod_case a n hn
  have hz : (n == 0) = false := by simp; omega
  by_cases h : a.tmod n < 0
  · have H := hid (h2 h)
    clear h1 h2
    go_enter Tryz.func17, Tryz.ntmps17
    go_wp2
    go_ret
    exact ⟨congrArg (fun x => Ending.returned (.int .i64 x)) H.out, rfl⟩
  · have H := hid (h1 (by omega))
    clear h1 h2
    go_enter Tryz.func17, Tryz.ntmps17
    go_wp2
    go_ret
    exact ⟨congrArg (fun x => Ending.returned (.int .i64 x)) H.out, rfl⟩
end Go.Proofs.YtmjbnmbobocpdaaGreat
namespace Go.Proofs.YtmjbnmbobocpdaaGreat
open Go.ChangeShapes Go.WideShapes Go.ChangeAt Go.RowKit
theorem top_small {a : Nat} (h : a < 4294967296) : topI a 8 ≤ 32 := by
  by_cases h0 : a = 0
  · subst h0; rw [topI_none]; decide
  · have ha : a < 4294967296 ^ 8 := Nat.lt_trans h (by decide)
    have h1 := Nat.log2_self_le h0
    have h2 : a < 2 ^ (Nat.log2 a + 1) := Nat.lt_log2_self
    have h3 : a / 2 ^ (Nat.log2 a) = 1 := by
      apply Nat.div_eq_of_lt_le
      · omega
      · rw [Nat.pow_succ] at h2; omega
    rw [top_one ha h3]
    have h4 : Nat.log2 a < 32 := by
      refine Classical.byContradiction fun hn => ?_
      have : 2 ^ 32 ≤ 2 ^ Nat.log2 a := Nat.pow_le_pow_right (by omega) (by omega)
      omega
    omega
theorem nmB_ne (s : ByteArray) : sBy (nmB s) ≠ [] := by
  by_cases h : (sBy s).length = 0
  · rw [nmB_nil h]; simp [sBy]
  · rw [nmB_some h]
    simp only [sBy, List.toList_toArray]
    intro e
    have := congrArg List.length e
    rw [List.length_take] at this
    have h2 := nmL_len (sBy s)
    unfold sBy at h h2
    simp only [List.length_nil] at this
    omega
theorem nmB_size (s : ByteArray) : 0 < (nmB s).size ∧ (nmB s).size ≤ 16 := by
  have h := nmB_ne s
  have e : (sBy (nmB s)).length = (nmB s).size := sBy_len _
  refine ⟨by have := List.length_pos_iff.2 h; omega, ?_⟩
  by_cases h0 : (sBy s).length = 0
  · rw [nmB_nil h0]; decide
  · rw [← e, nmB_some h0]
    simp only [sBy, List.toList_toArray, List.length_take]
    omega
theorem name_of {B : ByteArray} (h1 : 0 < B.size) (h2 : B.size ≤ 16) (h : ∀ x ∈ sBy B, 33 ≤ x.toNat ∧ x.toNat ≤ 126) : nameB B = true := by
  refine @decide_eq_true _ (Classical.propDecidable _) ⟨h1, h2, fun i hi => ?_⟩
  have hg : (sBy B)[i]? = some (B[i]'hi) := by
    unfold sBy
    rw [Array.getElem?_toList]
    exact Array.getElem?_eq_getElem hi
  have := h _ (List.mem_of_getElem? hg)
  omega
theorem nmB_ok (s : ByteArray) : nameB (nmB s) = true := by
  refine name_of (nmB_size s).1 (nmB_size s).2 fun x hx => ?_
  by_cases h0 : (sBy s).length = 0
  · rw [nmB_nil h0] at hx
    have : x = 117 := by simpa [sBy] using hx
    subst this; decide
  · rw [nmB_some h0] at hx
    simp only [sBy, List.toList_toArray] at hx
    obtain ⟨y, -, hy⟩ := List.mem_map.1 (List.mem_of_mem_take hx)
    rw [← hy]
    exact nmC_in y
theorem mkR_ok (n : Int) (s : ByteArray) (b : List UInt8) : RecOk (mkR n s b) := by
  have h2 := Int.emod_two_eq n
  have hs := nmB_size s
  have h6 := Int.emod_nonneg (n.tdiv 11) (show (6 : Int) ≠ 0 by decide)
  have h6' := Int.emod_lt_of_pos (n.tdiv 11) (show (0 : Int) < 6 by decide)
  have h7 := Int.emod_nonneg (n.tdiv 13) (show (1000 : Int) ≠ 0 by decide)
  have h7' := Int.emod_lt_of_pos (n.tdiv 13) (show (0 : Int) < 1000 by decide)
  have h8 := Int.emod_nonneg (n.tdiv 17) (show (1099511627776 : Int) ≠ 0 by decide)
  have h8' := Int.emod_lt_of_pos (n.tdiv 17) (show (0 : Int) < 1099511627776 by decide)
  have h9 := Int.emod_nonneg (n.tdiv 2) (show (4294967296 : Int) ≠ 0 by decide)
  have h9' := Int.emod_lt_of_pos (n.tdiv 2) (show (0 : Int) < 4294967296 by decide)
  have hA := Int.emod_nonneg (n.tdiv 7) (show (4294967296 : Int) ≠ 0 by decide)
  have hA' := Int.emod_lt_of_pos (n.tdiv 7) (show (0 : Int) < 4294967296 by decide)
  unfold mkR
  exact ⟨(by dsimp only; omega), (by dsimp only; omega), (by dsimp only; omega), (by dsimp only; omega), (by dsimp only; omega), Nat.lt_trans (m := 4294967296) (by dsimp only; omega) (by decide), Nat.lt_trans (m := 4294967296) (by dsimp only; omega) (by decide)⟩
theorem mkR_keep (n : Int) (s : ByteArray) (b : List UInt8) : zaa (mkR n s b) = true := by
  have h2 := Int.emod_two_eq n
  have h6 := Int.emod_nonneg (n.tdiv 11) (show (6 : Int) ≠ 0 by decide)
  have h6' := Int.emod_lt_of_pos (n.tdiv 11) (show (0 : Int) < 6 by decide)
  have h7 := Int.emod_nonneg (n.tdiv 13) (show (1000 : Int) ≠ 0 by decide)
  have h8 := Int.emod_nonneg (n.tdiv 17) (show (1099511627776 : Int) ≠ 0 by decide)
  have h9 := Int.emod_nonneg (n.tdiv 2) (show (4294967296 : Int) ≠ 0 by decide)
  have h9' := Int.emod_lt_of_pos (n.tdiv 2) (show (0 : Int) < 4294967296 by decide)
  have hA := Int.emod_nonneg (n.tdiv 7) (show (4294967296 : Int) ≠ 0 by decide)
  have hA' := Int.emod_lt_of_pos (n.tdiv 7) (show (0 : Int) < 4294967296 by decide)
  have t1 := top_small (a := ((n.tdiv 2) % 4294967296).toNat) (by omega)
  have t2 := top_small (a := ((n.tdiv 7) % 4294967296).toNat) (by omega)
  have q2 := Int.emod_nonneg n (show ((min b.length 16 + 1 : Nat) : Int) ≠ 0 by omega)
  have q2' := Int.emod_lt_of_pos n (show (0 : Int) < ((min b.length 16 + 1 : Nat) : Int) by omega)
  have q5 := Int.emod_nonneg (n.tdiv 3) (show ((min b.length 48 + 1 : Nat) : Int) ≠ 0 by omega)
  have q5' := Int.emod_lt_of_pos (n.tdiv 3) (show (0 : Int) < ((min b.length 48 + 1 : Nat) : Int) by omega)
  unfold zaa mkR
  simp only [Bool.and_eq_true, decide_eq_true_eq]
  refine ⟨⟨⟨⟨⟨⟨⟨⟨⟨?_, nmB_ok s⟩, ?_⟩, ?_⟩, t1⟩, t2⟩, by omega⟩, by omega⟩, by omega⟩, by omega⟩
  · exact decide_eq_true (by omega)
  · rw [List.length_take]; omega
  · rw [List.length_take]; omega
end Go.Proofs.YtmjbnmbobocpdaaGreat
namespace Go.Proofs.YtmjbnmbobocpdaaGreat
open Go.ChangeShapes Go.WideShapes Go.ChangeAt Go.RowKit
def nmK (k : Nat) : ByteArray := ([({ data := #[97] } : ByteArray), ({ data := #[98] } : ByteArray), ({ data := #[99, 99] } : ByteArray), ({ data := #[100, 33] } : ByteArray), ({ data := #[101] } : ByteArray), ({ data := #[102] } : ByteArray), ({ data := #[103] } : ByteArray), ({ data := #[104] } : ByteArray), ({ data := #[105] } : ByteArray), ({ data := #[106, 106] } : ByteArray)] : List ByteArray).getD k { data := #[] }
def nmA : Array Value := #[.string ({ data := #[97] } : ByteArray), .string ({ data := #[98] } : ByteArray), .string ({ data := #[99, 99] } : ByteArray), .string ({ data := #[100, 33] } : ByteArray), .string ({ data := #[101] } : ByteArray), .string ({ data := #[102] } : ByteArray), .string ({ data := #[103] } : ByteArray), .string ({ data := #[104] } : ByteArray), .string ({ data := #[105] } : ByteArray), .string ({ data := #[106, 106] } : ByteArray)]
theorem nmA_at : ∀ {k : Nat}, k < 10 → nmA[k]? = some (.string (nmK k))
  | k, h => by
    match k, h with
    | 0, _ => rfl
    | 1, _ => rfl
    | 2, _ => rfl
    | 3, _ => rfl
    | 4, _ => rfl
    | 5, _ => rfl
    | 6, _ => rfl
    | 7, _ => rfl
    | 8, _ => rfl
    | 9, _ => rfl
    | n + 10, h => exact absurd h (by omega)
theorem nmK_ok : ∀ {k : Nat}, k < 10 → NameOk (nmK k)
  | k, h => by
    have one : ∀ (l : List UInt8), 0 < l.length → l.length ≤ 16 → (∀ b, b ∈ l → 33 ≤ ((b.toNat : Nat) : Int) ∧ ((b.toNat : Nat) : Int) ≤ 126) → NameOk ⟨l.toArray⟩ := fun l h1 h2 h3 => ⟨h1, h2, fun i hi => h3 _ (by
      show l.toArray[i] ∈ l
      simp)⟩
    match k, h with
    | 0, _ => exact one [97] (by decide) (by decide) (by decide)
    | 1, _ => exact one [98] (by decide) (by decide) (by decide)
    | 2, _ => exact one [99, 99] (by decide) (by decide) (by decide)
    | 3, _ => exact one [100, 33] (by decide) (by decide) (by decide)
    | 4, _ => exact one [101] (by decide) (by decide) (by decide)
    | 5, _ => exact one [102] (by decide) (by decide) (by decide)
    | 6, _ => exact one [103] (by decide) (by decide) (by decide)
    | 7, _ => exact one [104] (by decide) (by decide) (by decide)
    | 8, _ => exact one [105] (by decide) (by decide) (by decide)
    | 9, _ => exact one [106, 106] (by decide) (by decide) (by decide)
    | n + 10, h => exact absurd h (by omega)
def recK (n : Int) (b : List UInt8) (k : Nat) : RecN := { mkR n { data := #[] } b with s := nmK k }
theorem recK_ok (n : Int) (b : List UInt8) {k : Nat} (hk : k < 10) : RecOk (recK n b k) := by
  have h := mkR_ok n { data := #[] } b
  exact ⟨h.p, h.t, h.c, h.z, by have := (nmK_ok hk).2.1; show (nmK k).size ≤ 1000; omega, h.a, h.b⟩
theorem recK_keep (n : Int) (b : List UInt8) {k : Nat} (hk : k < 10) : zaa (recK n b k) = true := by
  have h := mkR_keep n { data := #[] } b
  unfold zaa at h ⊢
  simp only [Bool.and_eq_true, decide_eq_true_eq] at h ⊢
  obtain ⟨⟨⟨⟨⟨⟨⟨⟨⟨h1, h2⟩, h3⟩, h4⟩, h5⟩, h6⟩, h7⟩, h8⟩, h9⟩, h10⟩ := h
  exact ⟨⟨⟨⟨⟨⟨⟨⟨⟨h1, @decide_eq_true _ (Classical.propDecidable _) (nmK_ok hk)⟩, h3⟩, h4⟩, h5⟩, h6⟩, h7⟩, h8⟩, h9⟩, h10⟩
theorem names6_any  (w : World) :
  Calls Tryz.prog 34 #[] w fun e w' => ∃ gq, e = .returned (.slice (some ⟨gq, 0, none⟩) 10 10) ∧ w.heap.size ≤ gq ∧ w'.heap[gq]? = some (.cells nmA 9 (0, 0)) ∧ Below w.heap.size w w' := by
 refine zj (args := []) 2 Tryz.func34 rfl rfl rfl ?_
 intro fa F
 have M := Mx.start w
 refine zS fun _ hK1 => ?_
 refine zR ?_
 refine rm rfl F fun _ F2 => ?_
 refine hK1 _ _ ?_
 refine zS fun _ hK3 => ?_
 refine zR ?_
 refine wl_allocS (zc rfl) rfl F2 rfl M 0 (t := 9) (c := #[.string ({ data := #[97] }), .string ({ data := #[98] }), .string ({ data := #[99, 99] }), .string ({ data := #[100, 33] }), .string ({ data := #[101] }), .string ({ data := #[102] }), .string ({ data := #[103] }), .string ({ data := #[104] }), .string ({ data := #[105] }), .string ({ data := #[106, 106] })]) (k := 10) (m := 10) (y_litG 45 9 (s := 1) (zv := .string "".toUTF8) Tryz.underlying45 (by kernel_rfl) (by kernel_rfl) rfl (#[.string ({ data := #[97] }), .string ({ data := #[98] }), .string ({ data := #[99, 99] }), .string ({ data := #[100, 33] }), .string ({ data := #[101] }), .string ({ data := #[102] }), .string ({ data := #[103] }), .string ({ data := #[104] }), .string ({ data := #[105] }), .string ({ data := #[106, 106] })]) (by decide) (by decide) (by simp only [List.map_toArray, List.map_cons, List.map_nil]; kernel_rfl)) ?_
 intro g4 a4 w4 F4 M4
 clear F2 M
 refine rm rfl F4 fun _ F5 => ?_
 refine hK3 _ _ ?_
 refine wp_ret ?_
 try simp only [Exit.then, Exit.inBlock, Exit.jump]
 exact bodyPost_ret (res1 rfl (F5.get rfl)) F5.defers ⟨g4, rfl, (M4.own 0 _ rfl rfl _ rfl).resolve_right (fun e => by cases e), M4.blk (k := 0) rfl, M4.below⟩
theorem names6_ex (w : World) : Calls Tryz.prog 34 #[] w fun e w' => ∃ t, e = .returned t ∧ ∃ gq, t = .slice (some ⟨gq, 0, none⟩) 10 10 ∧ w.heap.size ≤ gq ∧ w'.heap[gq]? = some (.cells nmA 9 (0, 0)) ∧ Below w.heap.size w w' :=
  (names6_any w).mono fun e w' ⟨gq, h1, h2, h3, h4⟩ => ⟨_, h1, gq, rfl, h2, h3, h4⟩
theorem rec6_any (n : Int) (b : List UInt8) (bv : Value) (hn : -9223372036854775808 ≤ n ∧ n < 9223372036854775808) (hb : b.length ≤ 1000) (w : World) (hB : IsB w b bv) :
  Calls Tryz.prog 21 #[.int .i64 n, bv] w fun e w' => ∃ t, e = .returned t ∧ ∃ V, t = .agg (recA (recK n b ((n.tdiv 23) % 10).toNat) V) ∧ RecIs w' (recK n b ((n.tdiv 23) % 10).toNat) V ∧ (∀ q, bfp V.v2 q ∨ bfp V.v5 q → w.heap.size ≤ q) ∧ Below w.heap.size w w' := by
 obtain ⟨k, hk, hk10⟩ : ∃ k : Nat, (n.tdiv 23) % 10 = (k : Int) ∧ k < 10 := ⟨((n.tdiv 23) % 10).toNat, by omega, by omega⟩
 rw [show ((n.tdiv 23) % 10).toNat = k by omega]
 have hq0 := tdiv_in hn (show (0 : Int) < 23 by decide)
 have hq : -9223372036854775808 ≤ n.tdiv 23 ∧ n.tdiv 23 < 9223372036854775808 := by omega
 obtain ⟨r, er⟩ : ∃ x, mkR n { data := #[] } b = x := ⟨_, rfl⟩
 rw [show recK n b k = { r with s := nmK k } by rw [recK, er]]
 obtain ⟨Ab, cb, rfl⟩ := hB.shape
 refine zj (args := [.int .i64 n, .slice Ab b.length cb]) 17 Tryz.func21 rfl rfl rfl ?_
 intro fa F
 have M := Mx.start w
 replace M := M.argB 0 hB (fun g e => by cases e)
 refine zS fun _ hK1 => ?_
 refine zR ?_
 refine zi (zc rfl) rfl F rfl M 1 (t := 37) (c := recA ⟨0, "".toUTF8, [], 0, 0, [], 0, 0, 0⟩ ⟨zN, zN⟩) (by unfold execOp; kernel_rfl) ?_
 intro g2 a2 w2 F2 M2
 clear F M
 refine hK1 _ _ ?_
 refine zS fun _ hK3 => ?_
 refine zR ?_
 refine rm rfl F2 fun _ F4 => ?_
 refine rm rfl F4 fun _ F5 => ?_
 refine zh (zc rfl) rfl F5 rfl rfl (zE Tryz.func47 rfl) #[.int .i64 n, .string ({ data := #[] }), .slice Ab b.length cb] (args3 (F5.get (t := 6) rfl) rfl (F5.get (t := 7) rfl)) (maker_is n ({ data := #[] }) b (.slice Ab b.length cb) hn (by decide) hb r er w2 (M2.isb (k := 0) rfl)) ?_
 rintro _ w6 a6 ⟨V6, rfl, is6, lo6, b6⟩ F6
 have lo0 := fun q h => Nat.le_trans M2.le (lo6 q h)
 have M6 := M2.newRec b6 is6 lo6 2 3
 clear M2 b6 lo6
 refine zi (zc rfl) rfl F6 rfl M6 4 (t := 37) (c := recA ⟨0, "".toUTF8, [], 0, 0, [], 0, 0, 0⟩ ⟨zN, zN⟩) (by unfold execOp; kernel_rfl) ?_
 intro g7 a7 w7 F7 M7
 clear F6 M6
 refine zn (zc rfl) rfl F7 M7 (k := 4) rfl _ _ _ rfl (F7.get (t := 5) rfl) (F7.get (t := 8) rfl) (recA r V6) _ rfl (zL rfl) (z4a (w := w7) ⟨(M7.isb (k := 2) rfl), (M7.isb (k := 3) rfl)⟩) (zo rfl) (by kernel_rfl) ?_
 intro w8 M8
 clear M7
 refine hK3 _ _ ?_
 refine zS fun _ hK9 => ?_
 refine zR ?_
 refine zh (zc rfl) rfl F7 rfl rfl (zE Tryz.func34 rfl) #[] (args0) (names6_ex w8) ?_
 rintro _ w10 a10 ⟨gq10, rfl, hg10, hc10, b10⟩ F10
 have M10 := M8.newb b10 5 hg10 hc10
 clear M8 b10 hg10 hc10
 refine rm rfl F10 fun _ F11 => ?_
 refine zd (w' := w10) (zc rfl) rfl F11 rfl (.int .i64 (n.tdiv 23)) (y_quoT _ _ _ _ rfl (F11.get (t := 10) rfl) rfl hn (by decide) rfl) fun _ F12 => ?_
 clear F11
 refine zh (zc rfl) rfl F12 rfl rfl (zE Tryz.func17 rfl) #[.int .i64 (n.tdiv 23), .int .i64 10] (zja (F12.get (t := 11) rfl) rfl) (zda ((hk ▸ within6_any (n.tdiv 23) 10 (by omega) (by omega) hq.1 hq.2 w10))) ?_
 rintro _ w13 a13 ⟨rfl, rfl⟩ F13
 refine zd (w' := w10) (zc rfl) rfl F13 rfl (.pointer (some ⟨gq10, k, none⟩)) (y_ixG 45 (s := 1) Tryz.underlying45 (by kernel_rfl) _ _ rfl (F13.get (t := 9) rfl) (F13.get (t := 12) rfl) rfl hk10 (by omega)) fun _ F14 => ?_
 clear F13
 refine zd (w' := w10) (zc rfl) rfl F14 rfl (.string (nmK k)) (zia _ _ rfl (F14.get (t := 13) rfl) (M10.blk (k := 5) rfl) (nmA_at hk10) Tryz.underlying9 rfl) fun _ F15 => ?_
 clear F14
 refine zd (w' := w10) (zc rfl) rfl F15 rfl (.pointer (some ⟨g7, 1, none⟩)) (y_fa (off := 1) rfl (F15.get (t := 5) rfl) (by kernel_rfl) rfl) fun _ F16 => ?_
 clear F15
 refine zn (zc rfl) rfl F16 M10 (k := 4) rfl _ _ _ rfl (F16.get (t := 15) rfl) (F16.get (t := 14) rfl) (#[.string (nmK k)]) (recA ⟨r.p, (nmK k), r.l2, r.a, r.b, r.l5, r.t, r.c, r.z⟩ ⟨V6.v2, V6.v5⟩) rfl (zL rfl) (one_str _) (by kernel_rfl) (by kernel_rfl) ?_
 intro w17 M17
 clear M10
 refine hK9 _ _ ?_
 refine zS fun _ hK18 => ?_
 refine zR ?_
 refine zd (w' := w17) (zc rfl) rfl F16 rfl _ (zoa _ _ rfl (F16.get (t := 5) rfl) (M17.blk (k := 4) rfl) (recA ⟨r.p, (nmK k), r.l2, r.a, r.b, r.l5, r.t, r.c, r.z⟩ ⟨V6.v2, V6.v5⟩) (zqa rfl) Tryz.underlying37 rfl (by kernel_rfl)) fun _ F19 => ?_
 clear F16
 refine zn (zc rfl) rfl F19 M17 (k := 1) rfl _ _ _ rfl (F19.get (t := 4) rfl) (F19.get (t := 16) rfl) (recA ⟨r.p, (nmK k), r.l2, r.a, r.b, r.l5, r.t, r.c, r.z⟩ ⟨V6.v2, V6.v5⟩) _ rfl (zL rfl) (z4a (w := w17) (r := ⟨r.p, nmK k, r.l2, r.a, r.b, r.l5, r.t, r.c, r.z⟩) ⟨(M17.isb (k := 2) rfl), (M17.isb (k := 3) rfl)⟩) (zo rfl) (by kernel_rfl) ?_
 intro w20 M20
 clear M17
 refine hK18 _ _ ?_
 refine wp_ret ?_
 try simp only [Exit.then, Exit.inBlock, Exit.jump]
 exact bodyPost_ret (results_cell_row rfl _ _ _ _ _ (0, 0) _ (F19.get rfl) (M20.blk (k := 1) rfl) Tryz.underlying37 rfl (by kernel_rfl)) F19.defers ⟨_, rfl, ⟨V6.v2, V6.v5⟩, rfl, ⟨(M20.isb (k := 2) rfl), (M20.isb (k := 3) rfl)⟩, (fun q h => h.elim (fun h => lo0 q (.inl h)) (fun h => lo0 q (.inr h))), M20.below⟩
end Go.Proofs.YtmjbnmbobocpdaaGreat
namespace Go.Proofs.YtmjbnmbobocpdaaGreat
open Go.ChangeShapes Go.WideShapes Go.ChangeAt Go.RowKit Go.Shelf
section
def celA (c : Nat → CelN) (s n : Nat → Value) : Array Value := #[s 0, n 0, .bool (c 0).f, s 1, n 1, .bool (c 1).f, s 2, n 2, .bool (c 2).f, s 3, n 3, .bool (c 3).f, s 4, n 4, .bool (c 4).f, s 5, n 5, .bool (c 5).f, s 6, n 6, .bool (c 6).f, s 7, n 7, .bool (c 7).f, s 8, n 8, .bool (c 8).f, s 9, n 9, .bool (c 9).f, s 10, n 10, .bool (c 10).f, s 11, n 11, .bool (c 11).f, s 12, n 12, .bool (c 12).f, s 13, n 13, .bool (c 13).f, s 14, n 14, .bool (c 14).f, s 15, n 15, .bool (c 15).f, s 16, n 16, .bool (c 16).f, s 17, n 17, .bool (c 17).f]
theorem cel_in (V : VltN) (s n : Nat → Value) : ∀ (j : Nat) (v : Value), (celA V.c s n)[j]? = some v → (vltA V s n)[0 + j]? = some v := fun j v h => by
  have e : vltA V s n = celA V.c s n ++ #[.bool V.fl, .int .i64 V.lf, .bool V.dd] := by kernel_rfl
  rw [e, Nat.zero_add, Array.getElem?_append_left (Array.getElem?_eq_some_iff.1 h).1]
  exact h
theorem cel_put (c : Nat → CelN) (s n : Nat → Value) (u v : Value) (x y : List UInt8) (b : Bool) : ∀ {p : Nat}, p < 18 → ((celA c s n).toList.take (3 * p) ++ (#[u, v, .bool b] : Array Value).toList ++ (celA c s n).toList.drop (3 * p + (#[u, v, .bool b] : Array Value).size)).toArray = celA (putC c p ⟨x, y, b⟩) (putN s p u) (putN n p v)
  | p, h => by
    match p, h with
    | 0, _ => show _ = _; kernel_rfl
    | 1, _ => show _ = _; kernel_rfl
    | 2, _ => show _ = _; kernel_rfl
    | 3, _ => show _ = _; kernel_rfl
    | 4, _ => show _ = _; kernel_rfl
    | 5, _ => show _ = _; kernel_rfl
    | 6, _ => show _ = _; kernel_rfl
    | 7, _ => show _ = _; kernel_rfl
    | 8, _ => show _ = _; kernel_rfl
    | 9, _ => show _ = _; kernel_rfl
    | 10, _ => show _ = _; kernel_rfl
    | 11, _ => show _ = _; kernel_rfl
    | 12, _ => show _ = _; kernel_rfl
    | 13, _ => show _ = _; kernel_rfl
    | 14, _ => show _ = _; kernel_rfl
    | 15, _ => show _ = _; kernel_rfl
    | 16, _ => show _ = _; kernel_rfl
    | 17, _ => show _ = _; kernel_rfl
    | k + 18, h => exact absurd h (by omega)
theorem y_ixCel {a : Act} {w : World} {o : Oper} (x k : Operand) (T : TypeId) (hT : T = 76) (ho : o.op = .index T x k) {c : Nat → CelN} {s n : Nat → Value} (hx : a.eval x = .agg (celA c s n)) {z : Int} (hk : a.eval k = .int .i64 z) : ∀ {j : Nat}, j < 18 → z = (j : Int) → (execOp a.eval o).run Tryz.prog w = .ok (.value (.agg #[s j, n j, .bool (c j).f])) w
  | j, h, hz => by
    subst hT hz
    unfold execOp
    simp only [ho, hx, hk]
    match j, h with
    | 0, _ => show _ = _; kernel_rfl
    | 1, _ => show _ = _; kernel_rfl
    | 2, _ => show _ = _; kernel_rfl
    | 3, _ => show _ = _; kernel_rfl
    | 4, _ => show _ = _; kernel_rfl
    | 5, _ => show _ = _; kernel_rfl
    | 6, _ => show _ = _; kernel_rfl
    | 7, _ => show _ = _; kernel_rfl
    | 8, _ => show _ = _; kernel_rfl
    | 9, _ => show _ = _; kernel_rfl
    | 10, _ => show _ = _; kernel_rfl
    | 11, _ => show _ = _; kernel_rfl
    | 12, _ => show _ = _; kernel_rfl
    | 13, _ => show _ = _; kernel_rfl
    | 14, _ => show _ = _; kernel_rfl
    | 15, _ => show _ = _; kernel_rfl
    | 16, _ => show _ = _; kernel_rfl
    | 17, _ => show _ = _; kernel_rfl
    | k + 18, h => exact absurd h (by omega)
theorem y_mkCel {a : Act} {w : World} {o : Oper} (x y : Operand) (T : TypeId) (hT : Tryz.prog.underlying T = some (.slice 63)) (ho : o.op = .makeSlice T x y) (hx : a.eval x = .int .i64 18) (hy : a.eval y = .int .i64 18) : (execOp a.eval o).run Tryz.prog w = .ok (.value (.slice (some ⟨w.heap.size, 0, none⟩) 18 18)) (w.alloc (.cells (celA (fun _ => nilC) nilS nilS) 63)) := by
  have hinf : (Tryz.prog.info? 63).map (fun i => (i.zero, i.size, i.bytes)) = some (some (.agg #[zN, zN, .bool false]), 3, 56) := by kernel_rfl
  obtain ⟨i, hi, hz⟩ := Option.map_eq_some_iff.1 hinf
  simp only [Prod.mk.injEq] at hz
  obtain ⟨h1, h2, h3⟩ := hz
  have h := run_makeSlice (P := Tryz.prog) (w := w) T _ i _ hT hi h1 .i64 .i64 18 18 (by omega) (Int.le_refl _) (by rw [h2]; decide) (by rw [h3]; decide) (by decide)
  unfold execOp
  simp only [ho, hx, hy, Sem.run_bind, h, Result.andThen_ok, Sem.run_pure]
  rw [h2]
  have e : madeCells (Value.agg #[zN, zN, .bool false]).cells (Int.toNat 18 * 3) = celA (fun _ => nilC) nilS nilS := by kernel_rfl
  rw [e]
  rfl
def pureR (p : Prop) : Res := ⟨false, fun _ => False, fun _ => p⟩
theorem Mx.pure_ {G : Option Nat} {w0 w : World} {R : List (Nat × Res)} (M : Mx G w0 w R) (i : Nat) {p : Prop} (h : p) : Mx G w0 w ((i, pureR p) :: R) := M.cons i _ h (fun _ _ _ h => h) (fun _ h => h.elim) (fun e => by cases e) fun _ _ _ _ _ _ h => h.elim
def cutC (c : Nat → CelN) (j : Nat) : Nat → CelN := fun i => if i < j then c i else nilC
theorem cutC_0 (c : Nat → CelN) : cutC c 0 = fun _ => nilC := funext fun i => if_neg (Nat.not_lt_zero i)
theorem cutC_next (c : Nat → CelN) (j : Nat) : putC (cutC c j) j ⟨(c j).s, (c j).n, (c j).f⟩ = cutC c (j + 1) := funext fun i => by
  unfold putC cutC
  by_cases h : i = j
  · subst h; rw [if_pos rfl, if_pos (by omega)]
  · rw [if_neg h]
    by_cases h2 : i < j
    · rw [if_pos h2, if_pos (by omega)]
    · rw [if_neg h2, if_neg (by omega)]
end
end Go.Proofs.YtmjbnmbobocpdaaGreat
namespace Go.Proofs.YtmjbnmbobocpdaaGreat
open Go.ChangeShapes Go.WideShapes Go.ChangeAt Go.RowKit
theorem cel_one {w : World} {l r : List UInt8} {u v : Value} {b : Bool} (h : IsB w l u) (h2 : IsB w r v) : (#[u, v, .bool b] : Array Value).all (·.oneCell') = true := by
  obtain ⟨A, c, rfl⟩ := h.shape
  obtain ⟨A', c', rfl⟩ := h2.shape
  simp [Value.oneCell']
def CelsAt (w : World) (B gq : Nat) (c : Nat → CelN) (s n : Nat → Value) : Prop := w.heap[gq]? = some (.cells (celA c s n) 63 (0, 0)) ∧ B ≤ gq ∧ (∀ i, i < 18 → IsB w (c i).s (s i) ∧ IsB w (c i).n (n i) ∧ ∀ b, bfp (s i) b ∨ bfp (n i) b → B ≤ b) ∧ ∀ i, i < 18 → ¬ bfp (s i) gq ∧ ¬ bfp (n i) gq
theorem copies_any (g : Nat) (V : VltN) (s n : Nat → Value) (hv : zea V) (w : World) (h : HasV w g V s n) :
  Calls Tryz.prog 60 #[.pointer (some ⟨g, 0, none⟩)] w fun e w' => ∃ gq s' n', e = .returned (.slice (some ⟨gq, 0, none⟩) 18 18) ∧ CelsAt w' w.heap.size gq V.c s' n' ∧ Below w.heap.size w w' := by
 refine zj (args := [.pointer (some ⟨g, 0, none⟩)]) 29 Tryz.func60 rfl rfl rfl ?_
 intro fa F
 have M := Mx.start w
 replace M := M.argO 0 h.blk (fun b e => by cases e)
 refine zS fun _ hK1 => ?_
 refine zR ?_
 refine rm rfl F fun _ F2 => ?_
 refine hK1 _ _ ?_
 refine zS fun _ hK3 => ?_
 refine zR ?_
 refine wl_allocS (zc rfl) rfl F2 rfl M 1 (t := 63) (c := celA (fun _ => nilC) nilS nilS) (k := 18) (m := 18) (y_mkCel _ _ _ Tryz.underlying49 rfl rfl rfl) ?_
 intro g4 a4 w4 F4 M4
 clear F2 M
 have N4 := M4.rowsNil 2 w.heap.size 18
 clear M4
 rw [← cutC_0 V.c] at N4
 refine rm rfl F4 fun _ F5 => ?_
 refine hK3 _ _ ?_
 refine zS fun _ hK6 => ?_
 refine zS fun _ hK7 => ?_
 refine zR ?_
 refine zB 3 [(2, zN), (3, .slice (some ⟨g4, 0, none⟩) 18 18), (9, .pointer (some ⟨g, 0, none⟩))] [] dnil [] F5 fun _ F8 => ?_
 clear F5
 refine zd (w' := w4) (zc rfl) rfl F8 rfl _ (zoa _ _ rfl (F8.get (t := 9) rfl) (N4.roB (k := 0) rfl) (celA V.c s n) (cel_in V s n) Tryz.underlying76 rfl (by kernel_rfl)) fun _ F9 => ?_
 clear F8
 refine rm rfl F9 fun _ F10 => ?_
 refine hK7 _ _ ?_
 refine wp_block ?_
 refine z4b (α := Nat × (Nat → Value) × (Nat → Value)) (n := 29) (G := none) (w0 := w) (fun x => [(3, .slice (some ⟨g4, 0, none⟩) 18 18), (10, .agg (celA V.c s n)), (11, .int .i64 (x.1 : Int))]) (fun x => [(2, ztb w.heap.size 18 (cutC V.c x.1) x.2.1 x.2.2), (1, blkR g4 63 (celA (cutC V.c x.1) x.2.1 x.2.2)), (0, blkO g 80 (vltA V s n))]) (fun k x => k = (18 - x.1) ∧ (x.1 ≤ 18)) _ ⟨0, nilS, nilS⟩ ⟨rfl, (Nat.zero_le _)⟩ (F10.sub ⟨rfl, rfl, rfl, trivial⟩) (N4.sub ⟨rfl, rfl, rfl, trivial⟩) ?_
 clear F10 N4
 rintro k11 ⟨jn, so, no⟩ a11 w11 K11 ⟨ek11, I11⟩ F11 M11 hK11
 replace F11 : Fx 29 a11 [(3, .slice (some ⟨g4, 0, none⟩) 18 18), (10, .agg (celA V.c s n)), (11, .int .i64 (jn : Int))] := F11
 replace M11 : Mx _ _ w11 [(2, ztb w.heap.size 18 (cutC V.c jn) so no), (1, blkR g4 63 (celA (cutC V.c jn) so no)), (0, blkO g 80 (vltA V s n))] := M11
 replace I11 : jn ≤ 18 := I11
 replace ek11 : k11 = (18 - jn) := ek11
 have hj := I11
 by_cases hlt : jn < 18
 ·refine zS fun _ hK12 => ?_
  refine zR ?_
  refine zd (w' := w11) (zc rfl) rfl F11 rfl (.bool true) (zpb _ _ _ _ rfl (F11.get (t := 11) rfl) rfl (decide_eq_true (show (jn : Int) < 18 by omega))) fun _ F13 => ?_
  clear F11
  refine hK12 _ _ ?_
  refine zS fun _ hK14 => ?_
  refine wp_cond_true (F13.get (t := 12) rfl) ?_
  refine wp_skip ?_
  refine hK14 _ _ ?_
  refine zS fun _ hK15 => ?_
  refine wp_block ?_
  refine zS fun _ hK16 => ?_
  refine zR ?_
  refine rm rfl F13 fun _ F17 => ?_
  refine zd (w' := w11) (zc rfl) rfl F17 rfl (.agg (#[(s jn), (n jn), .bool ((V.c jn).f)])) (y_ixCel _ _ _ rfl rfl (F17.get (t := 10) rfl) (F17.get (t := 11) rfl) hlt rfl) fun _ F18 => ?_
  clear F17
  refine zi (zc rfl) rfl F18 rfl M11 3 (t := 63) (c := #[zN, zN, .bool false]) (by unfold execOp; kernel_rfl) ?_
  intro g19 a19 w19 F19 M19
  clear F18 M11
  refine rm rfl F19 fun _ F20 => ?_
  refine zn (zc rfl) rfl F20 M19 (k := 3) rfl _ _ _ rfl (F20.get (t := 5) rfl) (F20.get (t := 14) rfl) (#[(s jn), (n jn), .bool ((V.c jn).f)]) _ rfl (zL rfl) (cel_one ((h.hs jn hlt).step M19.below) ((h.hn jn hlt).step M19.below)) (zo rfl) (by kernel_rfl) ?_
  intro w21 M21
  clear M19
  refine hK16 _ _ ?_
  refine zpa F20 [fun vE => vE = .slice (some ⟨g4, 0, none⟩) 18 18, fun vE => vE = .int .i64 (jn : Int), fun vE => vE = .pointer (some ⟨g19, 0, none⟩), fun vE => vE = (s jn), fun _ => True, fun vE => vE = .pointer (some ⟨g19, 1, none⟩), fun vE => vE = (n jn), fun _ => True, fun vE => vE = .pointer (some ⟨g19, 2, none⟩), fun vE => vE = .bool ((V.c jn).f), fun _ => True] (JM none w fun SV pV => [(2, ztb w.heap.size 18 (cutC V.c jn) so no), (1, blkR g4 63 (celA (cutC V.c jn) so no)), (0, blkO g 80 (vltA V s n)), (3, blkR g19 63 (#[(s jn), (n jn), .bool ((V.c jn).f)])), (4, zva (SV 4) (ownR ((V.c jn).s) (pV 4))), (5, zva (SV 7) (ownR ((V.c jn).n) (pV 7))), (6, zva (SV 10) (pureR (pV 10 = .agg #[(pV 4), (pV 7), .bool (V.c jn).f])))]) 11 rfl (by kernel_rfl) rfl ⟨trivial, trivial, trivial, trivial, trivial, trivial, trivial, trivial, trivial, trivial, trivial, trivial⟩ (fun p => ((((M21.step (zfa _)).triv 4).triv 5).triv 6).sub ⟨rfl, rfl, rfl, rfl, rfl, rfl, rfl, trivial⟩) ⟨?_, ?_, ?_, ?_, ?_, ?_, ?_, ?_, ?_, ?_, ?_, trivial⟩ ?_
  ·intro ua uw SV pV M0 hk hn hd
   have M : Mx none w uw _ := M0
   clear M0
   have e3 : ua.eval (.tmp 3) = .slice (some ⟨g4, 0, none⟩) 18 18 := (show ua.eval (.tmp 3) = _ from hd 3 (by decide)).trans (F20.get (t := 3) rfl)
   exact ze (zc rfl) (.slice (some ⟨g4, 0, none⟩) 18 18) (zy _ (.inl rfl) e3) rfl (M.sub ⟨rfl, rfl, rfl, rfl, rfl, rfl, rfl, trivial⟩)
  ·intro ua uw SV pV M0 hk hn hd
   have M : Mx none w uw _ := M0
   clear M0
   have e4 : ua.eval (.tmp 4) = .int .i64 (jn : Int) := (show ua.eval (.tmp 4) = _ from hd 4 (by decide)).trans (F20.get (t := 4) rfl)
   exact ze (zc rfl) (.int .i64 (jn : Int)) (zy _ (.inl rfl) e4) rfl (M.sub ⟨rfl, rfl, rfl, rfl, rfl, rfl, rfl, trivial⟩)
  ·intro ua uw SV pV M0 hk hn hd
   have M : Mx none w uw _ := M0
   clear M0
   have e5 : ua.eval (.tmp 5) = .pointer (some ⟨g19, 0, none⟩) := (show ua.eval (.tmp 5) = _ from hd 5 (by decide)).trans (F20.get (t := 5) rfl)
   exact ze (zc rfl) (.pointer (some ⟨g19, 0, none⟩)) (y_fa (off := 0) rfl e5 (by kernel_rfl) rfl) rfl (M.sub ⟨rfl, rfl, rfl, rfl, rfl, rfl, rfl, trivial⟩)
  ·intro ua uw SV pV M0 hk hn hd
   have M : Mx none w uw _ := M0
   clear M0
   obtain ⟨s2, f17, q17⟩ := (show SV 2 = true ∧ ua.eval (.tmp 17) = pV 2 ∧ stE _ 2 (pV 2) from hd 17 (by decide))
   have e17 : ua.eval (.tmp 17) = .pointer (some ⟨g19, 0, none⟩) := f17.trans q17
   exact ze (zc rfl) ((s jn)) (zia _ _ rfl e17 (M.blk (k := 3) rfl) rfl Tryz.underlying23 rfl) rfl (M.sub ⟨rfl, rfl, rfl, rfl, rfl, rfl, rfl, trivial⟩)
  ·intro ua uw SV pV M0 hk hn hd
   have M : Mx none w uw _ := M0
   clear M0
   obtain ⟨s3, f18, q18⟩ := (show SV 3 = true ∧ ua.eval (.tmp 18) = pV 3 ∧ stE _ 3 (pV 3) from hd 18 (by decide))
   have e18 : ua.eval (.tmp 18) = (s jn) := f18.trans q18
   exact zsa (zc rfl) rfl #[(s jn)] (zw e18) (zE Tryz.func90 rfl) (((clone_any ((V.c jn).s) ((s jn)) (by have := hv jn hlt; omega) uw ((h.hs jn hlt).step M.below))).mono fun e w2 h => (by obtain ⟨u, h1, h2, h3⟩ := h; exact ⟨u, h1, trivial, (M.newO h3 4 h2).sub ⟨rfl, rfl, rfl, rfl, rfl, rfl, (condR_off (hn 10 (by kernel_rfl)) rfl), trivial⟩⟩))
  ·intro ua uw SV pV M0 hk hn hd
   have M : Mx none w uw _ := M0
   clear M0
   have e5 : ua.eval (.tmp 5) = .pointer (some ⟨g19, 0, none⟩) := (show ua.eval (.tmp 5) = _ from hd 5 (by decide)).trans (F20.get (t := 5) rfl)
   exact ze (zc rfl) (.pointer (some ⟨g19, 1, none⟩)) (y_fa (off := 1) rfl e5 (by kernel_rfl) rfl) rfl (M.sub ⟨rfl, rfl, rfl, rfl, rfl, rfl, rfl, trivial⟩)
  ·intro ua uw SV pV M0 hk hn hd
   have M : Mx none w uw _ := M0
   clear M0
   obtain ⟨s5, f20, q20⟩ := (show SV 5 = true ∧ ua.eval (.tmp 20) = pV 5 ∧ stE _ 5 (pV 5) from hd 20 (by decide))
   have e20 : ua.eval (.tmp 20) = .pointer (some ⟨g19, 1, none⟩) := f20.trans q20
   exact ze (zc rfl) ((n jn)) (zia _ _ rfl e20 (M.blk (k := 3) rfl) rfl Tryz.underlying23 rfl) rfl (M.sub ⟨rfl, rfl, rfl, rfl, rfl, rfl, rfl, trivial⟩)
  ·intro ua uw SV pV M0 hk hn hd
   have M : Mx none w uw _ := M0
   clear M0
   obtain ⟨s6, f21, q21⟩ := (show SV 6 = true ∧ ua.eval (.tmp 21) = pV 6 ∧ stE _ 6 (pV 6) from hd 21 (by decide))
   have e21 : ua.eval (.tmp 21) = (n jn) := f21.trans q21
   exact zsa (zc rfl) rfl #[(n jn)] (zw e21) (zE Tryz.func90 rfl) (((clone_any ((V.c jn).n) ((n jn)) (by have := hv jn hlt; omega) uw ((h.hn jn hlt).step M.below))).mono fun e w2 h => (by obtain ⟨u, h1, h2, h3⟩ := h; exact ⟨u, h1, trivial, (M.newO h3 5 h2).sub ⟨rfl, rfl, rfl, rfl, rfl, rfl, (condR_off (hn 10 (by kernel_rfl)) rfl), trivial⟩⟩))
  ·intro ua uw SV pV M0 hk hn hd
   have M : Mx none w uw _ := M0
   clear M0
   have e5 : ua.eval (.tmp 5) = .pointer (some ⟨g19, 0, none⟩) := (show ua.eval (.tmp 5) = _ from hd 5 (by decide)).trans (F20.get (t := 5) rfl)
   exact ze (zc rfl) (.pointer (some ⟨g19, 2, none⟩)) (y_fa (off := 2) rfl e5 (by kernel_rfl) rfl) rfl (M.sub ⟨rfl, rfl, rfl, rfl, rfl, rfl, rfl, trivial⟩)
  ·intro ua uw SV pV M0 hk hn hd
   have M : Mx none w uw _ := M0
   clear M0
   obtain ⟨s8, f23, q23⟩ := (show SV 8 = true ∧ ua.eval (.tmp 23) = pV 8 ∧ stE _ 8 (pV 8) from hd 23 (by decide))
   have e23 : ua.eval (.tmp 23) = .pointer (some ⟨g19, 2, none⟩) := f23.trans q23
   exact ze (zc rfl) (.bool ((V.c jn).f)) (zia _ _ rfl e23 (M.blk (k := 3) rfl) rfl Tryz.underlying4 rfl) rfl (M.sub ⟨rfl, rfl, rfl, rfl, rfl, rfl, rfl, trivial⟩)
  ·intro ua uw SV pV M0 hk hn hd
   have M : Mx none w uw _ := M0
   clear M0
   obtain ⟨s4, f19, q19⟩ := (show SV 4 = true ∧ ua.eval (.tmp 19) = pV 4 ∧ stE _ 4 (pV 4) from hd 19 (by decide))
   have e19 : ua.eval (.tmp 19) = (pV 4) := f19
   obtain ⟨s7, f22, q22⟩ := (show SV 7 = true ∧ ua.eval (.tmp 22) = pV 7 ∧ stE _ 7 (pV 7) from hd 22 (by decide))
   have e22 : ua.eval (.tmp 22) = (pV 7) := f22
   obtain ⟨s9, f24, q24⟩ := (show SV 9 = true ∧ ua.eval (.tmp 24) = pV 9 ∧ stE _ 9 (pV 9) from hd 24 (by decide))
   have e24 : ua.eval (.tmp 24) = .bool ((V.c jn).f) := f24.trans q24
   obtain ⟨A0_, c0_, h0_⟩ := (M.isO (k := 4) (z1a s4 rfl)).shape
   obtain ⟨A1_, c1_, h1_⟩ := (M.isO (k := 5) (z1a s7 rfl)).shape
   exact ze (zc rfl) (.agg #[(pV 4), (pV 7), .bool (V.c jn).f]) (by unfold execOp; simp only [List.map_toArray, List.map_cons, List.map_nil, e19, e22, e24, h0_, h1_]; kernel_rfl) trivial ((M.pure_ 6 rfl).sub ⟨rfl, rfl, rfl, rfl, rfl, rfl, rfl, trivial⟩)
  intro p22 a22 w22 M22 G22 y22
  obtain ⟨q0, q1, -, -, -, -, -, -, -, -, q10, -⟩ := y22
  have r0 : p22 0 = .slice (some ⟨g4, 0, none⟩) 18 18 := q0
  have r1 : p22 1 = .int .i64 (jn : Int) := q1
  have r10 : p22 10 = .agg #[(p22 4), (p22 7), .bool (V.c jn).f] := (show (pureR (p22 10 = .agg #[(p22 4), (p22 7), .bool (V.c jn).f])).F _ from Mx.at_ (show Mx _ _ _ _ from M22) 6 _ rfl)
  replace M22 : Mx _ _ w22 [(2, ztb w.heap.size 18 (cutC V.c jn) so no), (1, blkR g4 63 (celA (cutC V.c jn) so no)), (0, blkO g 80 (vltA V s n)), (3, blkR g19 63 (#[(s jn), (n jn), .bool ((V.c jn).f)])), (4, zva true (ownR ((V.c jn).s) (p22 4))), (5, zva true (ownR ((V.c jn).n) (p22 7))), (6, zva true (pureR (p22 10 = .agg #[(p22 4), (p22 7), .bool (V.c jn).f])))] := M22
  simp only [List.take, layV, Nat.zero_add, Nat.reduceAdd, r0, r1, r10] at G22
  obtain ⟨Ap22_4, cp22_4, hp22_4⟩ := (M22.isO (k := 4) rfl).shape
  rw [hp22_4] at M22
  try rw [hp22_4] at G22
  obtain ⟨Ap22_5, cp22_5, hp22_5⟩ := (M22.isO (k := 5) rfl).shape
  rw [hp22_5] at M22
  try rw [hp22_5] at G22
  refine zd (w' := w22) (zc rfl) rfl G22 rfl (.pointer (some ⟨g4, 3 * jn, none⟩)) (y_ixG 49 (s := 3) Tryz.underlying49 (by kernel_rfl) _ _ rfl (G22.get (t := 15) rfl) (G22.get (t := 16) rfl) rfl hlt (by omega)) fun _ F23 => ?_
  clear G22
  refine zn (zc rfl) rfl F23 M22 (k := 1) rfl _ _ _ rfl (F23.get (t := 26) rfl) (F23.get (t := 25) rfl) (#[(.slice Ap22_4 ((V.c jn).s).length cp22_4), (.slice Ap22_5 ((V.c jn).n).length cp22_5), .bool ((V.c jn).f)]) (celA (putC (cutC V.c jn) jn ⟨(V.c jn).s, (V.c jn).n, (V.c jn).f⟩) (putN so jn ((.slice Ap22_4 ((V.c jn).s).length cp22_4))) (putN no jn ((.slice Ap22_5 ((V.c jn).n).length cp22_5)))) rfl (show 3 * jn + 3 ≤ 54 by omega) (by simp [Value.oneCell']) (cel_put (cutC V.c jn) so no ((.slice Ap22_4 ((V.c jn).s).length cp22_4)) ((.slice Ap22_5 ((V.c jn).n).length cp22_5)) (V.c jn).s (V.c jn).n (V.c jn).f hlt) (by kernel_rfl) ?_
  intro w24 M24
  clear M22
  refine hK15 _ _ ?_
  refine zR ?_
  refine zd (w' := w24) (zc rfl) rfl F23 rfl (.int .i64 ((jn + 1 : Nat) : Int)) (zya _ _ _ _ rfl (F23.get (t := 11) rfl) rfl (by omega) (by omega)) fun _ F25 => ?_
  clear F23
  refine rm rfl F25 fun _ F26 => ?_
  have M27 := M24.rowsTwo (i := 2) (k := 4) (k2 := 5) (f := (V.c jn).f) rfl rfl rfl (fun b hb => M24.owns (k := 4) rfl b (zka hb)) (fun b hb => M24.owns (k := 5) rfl b (zka hb)) jn (by decide)
  rw [cutC_next] at M27
  clear M24
  subst ek11
  exact hK11 _ ⟨(jn + 1), (putN so jn ((.slice Ap22_4 ((V.c jn).s).length cp22_4))), (putN no jn ((.slice Ap22_5 ((V.c jn).n).length cp22_5)))⟩ _ _ (by omega) ⟨rfl, (by omega)⟩ (F26.sub ⟨rfl, rfl, rfl, trivial⟩) (M27.sub ⟨rfl, rfl, rfl, trivial⟩)
 ·have hj18 : jn = 18 := by omega
  refine zS fun _ hK28 => ?_
  refine zR ?_
  refine zd (w' := w11) (zc rfl) rfl F11 rfl (.bool false) (zpb _ _ _ _ rfl (F11.get (t := 11) rfl) rfl (decide_eq_false (show ¬ (jn : Int) < 18 by omega))) fun _ F29 => ?_
  clear F11
  refine hK28 _ _ ?_
  refine zS fun _ hK30 => ?_
  refine wp_cond_false (F29.get (t := 12) rfl) ?_
  refine wp_exit ?_
  simp only [Exit.then, Exit.inBlock, ↓reduceIte, Nat.reduceEqDiff]
  refine hK6 _ _ ?_
  refine zS fun _ hK31 => ?_
  refine zR ?_
  refine rm rfl F29 fun _ F32 => ?_
  refine rm rfl F32 fun _ F33 => ?_
  refine hK31 _ _ ?_
  refine wp_ret ?_
  try simp only [Exit.then, Exit.inBlock, Exit.jump]
  exact bodyPost_ret (res1 rfl (F33.get rfl)) F33.defers ⟨g4, so, no, rfl, (by subst hj18; exact ⟨M11.blk (k := 1) rfl, (M11.own 1 _ rfl rfl _ rfl).resolve_right (fun e => by cases e), fun i hi => (by have q := M11.rowsAt (i := 2) rfl i hi; rwa [show cutC V.c 18 i = V.c i from if_pos hi] at q), fun i hi => ⟨fun hb => M11.dis 1 2 _ _ rfl rfl (by decide) rfl _ rfl ⟨i, hi, .inl hb⟩, fun hb => M11.dis 1 2 _ _ rfl rfl (by decide) rfl _ rfl ⟨i, hi, .inr hb⟩⟩⟩), M11.below⟩
theorem copies_ex (g : Nat) (V : VltN) (s n : Nat → Value) (hv : zea V) (w : World) (h : HasV w g V s n) : Calls Tryz.prog 60 #[.pointer (some ⟨g, 0, none⟩)] w fun e w' => ∃ t, e = .returned t ∧ ∃ gq s' n', t = .slice (some ⟨gq, 0, none⟩) 18 18 ∧ CelsAt w' w.heap.size gq V.c s' n' ∧ Below w.heap.size w w' :=
  (copies_any g V s n hv w h).mono fun e w' ⟨gq, s', n', h1, h2, h3⟩ => ⟨_, h1, gq, s', n', rfl, h2, h3⟩
theorem CelsAt.low {w : World} {B B' gq : Nat} {c : Nat → CelN} {s n : Nat → Value} (h : CelsAt w B gq c s n) (hb : B' ≤ B) : CelsAt w B' gq c s n :=
  ⟨h.1, Nat.le_trans hb h.2.1, fun i hi => ⟨(h.2.2.1 i hi).1, (h.2.2.1 i hi).2.1, fun b hb2 => Nat.le_trans hb ((h.2.2.1 i hi).2.2 b hb2)⟩, h.2.2.2⟩
theorem CelsAt.step {w w' : World} {B gq : Nat} {c : Nat → CelN} {s n : Nat → Value} (h : CelsAt w B gq c s n) (hb : Below w.heap.size w w') : CelsAt w' B gq c s n :=
  ⟨(hb.block gq (zxa h.1)).trans h.1, h.2.1, fun i hi => ⟨(h.2.2.1 i hi).1.step hb, (h.2.2.1 i hi).2.1.step hb, (h.2.2.1 i hi).2.2⟩, h.2.2.2⟩
theorem cells_any (g : Nat) (V : VltN) (s n : Nat → Value) (hv : zea V) (w : World) (h : HasV w g V s n) :
  Calls Tryz.prog 28 #[.pointer (some ⟨g, 0, none⟩)] w fun e w' => ∃ gq s' n', e = .returned (.slice (some ⟨gq, 0, none⟩) 18 18) ∧ CelsAt w' w.heap.size gq V.c s' n' ∧ Below w.heap.size w w' := by
 refine zj (args := [.pointer (some ⟨g, 0, none⟩)]) 7 Tryz.func28 rfl rfl rfl ?_
 intro fa F
 have M := Mx.start w
 replace M := M.argO 0 h.blk (fun b e => by cases e)
 refine zS fun _ hK1 => ?_
 refine zR ?_
 refine rm rfl F fun _ F2 => ?_
 refine hK1 _ _ ?_
 refine zS fun _ hK3 => ?_
 refine zR ?_
 refine zB 3 [(2, zN), (5, .pointer (some ⟨g, 0, none⟩))] [] dnil [] F2 fun _ F4 => ?_
 clear F2
 refine zh (zc rfl) rfl F4 rfl rfl (zE Tryz.func60 rfl) #[.pointer (some ⟨g, 0, none⟩)] (zw (F4.get (t := 5) rfl)) (copies_ex g V s n hv w (h.step M.below)) ?_
 rintro _ w5 a5 ⟨gq5, s5, n5, rfl, hq5, b5⟩ F5
 have hle := M.le
 have M5 := M.step b5
 refine rm rfl F5 fun _ F6 => ?_
 refine hK3 _ _ ?_
 refine wp_ret ?_
 try simp only [Exit.then, Exit.inBlock, Exit.jump]
 exact bodyPost_ret (res1 rfl (F6.get rfl)) F6.defers ⟨gq5, s5, n5, rfl, CelsAt.low hq5 hle, M5.below⟩
end Go.Proofs.YtmjbnmbobocpdaaGreat
namespace Go.Proofs.YtmjbnmbobocpdaaGreat
open Go.ChangeShapes Go.WideShapes Go.ChangeAt Go.RowKit Go.Shelf
section
variable {G : Option Nat} {w0 w w' : World} {R : List (Nat × Res)} {kg kr g : Nat} {t : TypeId} {a a' : Array Value} {c c' : Nat → CelN} {s n s' n' : Nat → Value}
theorem Mx.vault (M : Mx G w0 w R) (hk : look R kg = some (blkR g t a)) (hrr : look R kr = some (ztb 0 18 c s n)) (hb : w.grownBy w' (some g)) (hblk : w'.heap[g]? = some (.cells a' t (0, 0))) (hrow : RowsV w' g c' s' n') (hto : ∀ b, zr 18 s' n' b → zr 18 s n b ∨ w.heap.size ≤ b) : Mx G w0 w' ((kr, ztb 0 18 c' s' n') :: (kg, blkR g t a') :: R) :=
  (M.put hk hb hblk).cons kr _ (fun j hj => ⟨(hrow j hj).1.1, (hrow j hj).2.1, fun _ _ => Nat.zero_le _⟩) rows_dep (fun b ⟨j, hj, h⟩ => by
    rcases h with h | h
    · exact (hrow j hj).1.1.lt h
    · exact (hrow j hj).2.1.lt h) (fun e => by cases e) fun k r e hkk hw b h h2 => by
    rcases hw with hw | hw
    · cases hw
    rw [zt] at e
    split at e
    · cases e
      obtain rfl : b = g := h2
      obtain ⟨j, hj, h⟩ := h
      rcases h with h | h
      · exact (hrow j hj).1.2 h
      · exact (hrow j hj).2.2 h
    · rcases hto b h with h | h
      · exact M.dis k kr r _ e hrr (fun e2 => hkk e2.symm) hw b h2 h
      · have := M.lt k r e b h2
        omega
theorem Mx.newVault (M : Mx G w0 w R) (hb : Below w.heap.size w w') (kg kr : Nat) (hg : w.heap.size ≤ g) (hblk : w'.heap[g]? = some (.cells a' t (0, 0))) (hrow : RowsV w' g c' s' n') (hto : ∀ b, zr 18 s' n' b → w.heap.size ≤ b) : Mx G w0 w' ((kr, ztb 0 18 c' s' n') :: (kg, blkR g t a') :: R) :=
  (M.newb hb kg hg hblk).cons kr _ (fun j hj => ⟨(hrow j hj).1.1, (hrow j hj).2.1, fun _ _ => Nat.zero_le _⟩) rows_dep (fun b ⟨j, hj, h⟩ => by
    rcases h with h | h
    · exact (hrow j hj).1.1.lt h
    · exact (hrow j hj).2.1.lt h) (fun e => by cases e) fun k r e hkk hw b h h2 => by
    rcases hw with hw | hw
    · cases hw
    rw [zt] at e
    split at e
    · cases e
      obtain rfl : b = g := h2
      obtain ⟨j, hj, h⟩ := h
      rcases h with h | h
      · exact (hrow j hj).1.2 h
      · exact (hrow j hj).2.2 h
    · have := M.lt k r e b h2
      have := hto b h
      omega
theorem Mx.hasV (M : Mx G w0 w R) {V : VltN} (hk : look R kg = some (blkR g 80 (vltA V s n))) (hrr : look R kr = some (ztb 0 18 V.c s n)) (hne : kr ≠ kg) : HasV w g V s n := HasV.of (M.blk hk) (M.rowsV hrr hk hne)
theorem Mx.freeze (M : Mx G w0 w R) {k g : Nat} {t : TypeId} {a : Array Value} (hk : look R k = some (blkR g t a)) : Mx G w0 w ((k, blkO g t a) :: R) :=
  M.cons k _ (M.blk hk) blkO_dep (fun b hb => by cases hb; exact zxa (M.blk hk)) (fun e => by cases e) fun j r e hj hw b hb => M.dis k j _ r hk e hj rfl b hb
end
section
variable (g : Nat) (V : VltN) (s n : Nat → Value) (w : World)
theorem vnew_is (V' : VltN) (h : ageW zeroV = V') (w : World) : Calls Tryz.prog 14 #[] w fun e w' => ∃ t, e = .returned t ∧ ∃ g, t = .pointer (some ⟨g, 0, none⟩) ∧ w.heap.size ≤ g ∧ ∃ s' n', RowsV w' g V'.c s' n' ∧ (∀ b, zr 18 s' n' b → w.heap.size ≤ b) ∧ w'.heap[g]? = some (.cells (vltA V' s' n') 80 (0, 0)) ∧ Below w.heap.size w w' := by
  subst h
  exact (vnew_any w).mono fun e w' ⟨g, h1, h2, s', n', h3, h4, h5, h6⟩ => ⟨_, h1, g, rfl, h2, s', n', h3, h4, h5, h6⟩
theorem put_is {K : Nat} (r : RecN) (Vr : RecV) (ho : RecOk r) (hi : InvV K V) (hK : K < 256) (V' : VltN) (z : Int) (h1 : (putV V r).1 = V') (h2 : (putV V r).2 = z) (w : World) (hR : RecIs w r Vr) (hRg : ¬ bfp Vr.v2 g ∧ ¬ bfp Vr.v5 g) (hr : RowsV w g V.c s n) (hg : w.heap[g]? = some (.cells (vltA V s n) 80 (0, 0))) :
    Calls Tryz.prog 22 #[.pointer (some ⟨g, 0, none⟩), .agg (recA r Vr)] w fun e w' => ∃ t, e = .returned t ∧ t = .int .i64 z ∧ ∃ s' n', RowsV w' g V'.c s' n' ∧ (∀ b, zr 18 s' n' b → zr 18 s n b ∨ w.heap.size ≤ b) ∧ w'.heap[g]? = some (.cells (vltA V' s' n') 80 (0, 0)) ∧ w.grownBy w' (some g) := by
  subst h1 h2
  exact put_any g V s n r Vr ho hi hK w hR hRg hr hg
theorem gone_is {K : Nat} (nm : ByteArray) (hi : InvV K V) (hK : K < 256) (V' : VltN) (z : Int) (h1 : (goneV V nm).1 = V') (h2 : (goneV V nm).2 = z) (w : World) (hr : RowsV w g V.c s n) (hg : w.heap[g]? = some (.cells (vltA V s n) 80 (0, 0))) :
    Calls Tryz.prog 27 #[.pointer (some ⟨g, 0, none⟩), .string nm] w fun e w' => ∃ t, e = .returned t ∧ t = .int .i64 z ∧ ∃ s' n', RowsV w' g V'.c s' n' ∧ (∀ b, zr 18 s' n' b → zr 18 s n b ∨ w.heap.size ≤ b) ∧ w'.heap[g]? = some (.cells (vltA V' s' n') 80 (0, 0)) ∧ w.grownBy w' (some g) := by
  subst h1 h2
  exact gone_any g V s n nm hi hK w hr hg
theorem again_isV {K : Nat} {e0 : Int} (A0 : Option Addr) (m c0 : Nat) (tx : Nat → Int) (hmc : m ≤ c0) (hi : InvV K V) (hK : K < 256) (he : EraV V e0) (h0 : 0 ≤ e0) (h1 : e0 < 1000) (V' : VltN) (h : ageW (setlV V tx m) = V') (w : World) (hT : RdI w A0 m tx) (hTg : ¬ ifp A0 m g) (hr : RowsV w g V.c s n) (hg : w.heap[g]? = some (.cells (vltA V s n) 80 (0, 0))) :
    Calls Tryz.prog 30 #[.pointer (some ⟨g, 0, none⟩), .slice A0 m c0] w fun e w' => ∃ t, e = .returned t ∧ ∃ s' n', RowsV w' g V'.c s' n' ∧ (∀ b, zr 18 s' n' b → zr 18 s n b ∨ w.heap.size ≤ b) ∧ w'.heap[g]? = some (.cells (vltA V' s' n') 80 (0, 0)) ∧ w.grownBy w' (some g) := by
  subst h
  exact vagain_any g V s n (inv_short hi) A0 m c0 tx hmc (era_bd (era_setl he tx m) h0 h1) (inv_turn (setl_inv hi tx m) hK 16) w hT hTg hr hg
theorem boot_is {K : Nat} {e0 : Int} (hi : InvV K V) (he : EraV V e0) (w : World) (h : HasV w g V s n) : Calls Tryz.prog 26 #[.pointer (some ⟨g, 0, none⟩)] w fun e w' => e = .returned (.int .i64 e0) ∧ Below w.heap.size w w' := by
  have := boot_any g V s n (inv_short hi) w h
  rwa [he.2.2.2] at this
theorem dead_is (b : Bool) (hb : V.dd = b) (w : World) (h : HasV w g V s n) : Calls Tryz.prog 32 #[.pointer (some ⟨g, 0, none⟩)] w fun e w' => e = .returned (.bool b) ∧ Below w.heap.size w w' := by
  subst hb; exact vdead_any g V s n w h
theorem get_yes {K : Nat} (hi : InvV K V) (nm : ByteArray) (k : Nat) (h8 : k < 8) (hk : fst8 (zz V nm) = k) (r : RecN) (hr : zla V (2 * k) = r) (w : World) (h : HasV w g V s n) : Calls Tryz.prog 24 #[.pointer (some ⟨g, 0, none⟩), .string nm] w fun e w' => ∃ t, e = .returned t ∧ ∃ V', t = .tuple #[.agg (recA r V'), .bool true] ∧ RecIs w' r V' ∧ (∀ b, bfp V'.v2 b ∨ bfp V'.v5 b → w.heap.size ≤ b) ∧ Below w.heap.size w w' := by
  subst hr hk
  exact (get_any g V s n (inv_short hi) nm w h).mono fun e w' ⟨t, h1, h2, h3⟩ => ⟨t, h1, by
    rcases h2 with ⟨k, V', q1, q2, q3, q4, q5⟩ | ⟨q1, q2⟩
    · subst q2; exact ⟨V', q3, q4, q5, h3⟩
    · omega⟩
theorem names_is {K : Nat} (hi : InvV K V) (L : List ByteArray) (hL : srtL (namL V 8) = L) (w : World) (h : HasV w g V s n) : Calls Tryz.prog 25 #[.pointer (some ⟨g, 0, none⟩)] w fun e w' => ∃ v, e = .returned v ∧ TxtAt w' w.heap.size L v ∧ Below w.heap.size w w' := by
  subst hL; exact names_any g V s n (inv_short hi) w h
theorem cells_is {K : Nat} (hi : InvV K V) (w : World) (h : HasV w g V s n) : Calls Tryz.prog 28 #[.pointer (some ⟨g, 0, none⟩)] w fun e w' => ∃ t, e = .returned t ∧ ∃ gq s' n', t = .slice (some ⟨gq, 0, none⟩) 18 18 ∧ CelsAt w' w.heap.size gq V.c s' n' ∧ Below w.heap.size w w' :=
  (cells_any g V s n (inv_short hi) w h).mono fun e w' ⟨gq, s', n', h1, h2, h3⟩ => ⟨_, h1, gq, s', n', rfl, h2, h3⟩
theorem rec6_is (m : Int) (b : List UInt8) (bv : Value) (hn : -9223372036854775808 ≤ m ∧ m < 9223372036854775808) (hb : b.length ≤ 1000) (r : RecN) (hr : recK m b ((m.tdiv 23) % 10).toNat = r) (w : World) (hB : IsB w b bv) : Calls Tryz.prog 21 #[.int .i64 m, bv] w fun e w' => ∃ t, e = .returned t ∧ ∃ V, t = .agg (recA r V) ∧ RecIs w' r V ∧ (∀ q, bfp V.v2 q ∨ bfp V.v5 q → w.heap.size ≤ q) ∧ Below w.heap.size w w' := by
  subst hr; exact rec6_any m b bv hn hb w hB
end
end Go.Proofs.YtmjbnmbobocpdaaGreat
namespace Go.Proofs.YtmjbnmbobocpdaaGreat
open Go.ChangeShapes Go.WideShapes Go.ChangeAt Go.RowKit Go.Shelf
theorem recE_pos {r : RecN} (h : zaa r = true) : recE r ≠ [] := by
  rw [show recE r = recL r from if_pos h, recL_is]
  exact fun e => by cases e
theorem rdOk_nil : rdOk [] = false := by
  cases h : rdOk [] with
  | false => rfl
  | true =>
    unfold rdOk zqb at h
    simp only [Bool.and_eq_true, decide_eq_true_eq] at h
    exact absurd h.2 (recE_pos h.1)
def accP (V : VltN) (k : Nat) : Option RecN → Prop
  | none => saidB V (2 * k) = false ∧ zra V (2 * k) = true
  | some r => saidB V (2 * k) = true ∧ zla V (2 * k) = r ∧ zra V (2 * k) = false
def AccV (V : VltN) (m : Nat → Option RecN) : Prop := ∀ k, k < 8 → accP V k (m k)
def updO (m : Nat → Option RecN) (k : Nat) (r : Option RecN) : Nat → Option RecN := fun i => if i = k then r else m i
theorem acc_of {V V' : VltN} {k : Nat} (h : saidB V' (2 * k) = saidB V (2 * k) ∧ zla V' (2 * k) = zla V (2 * k) ∧ zra V' (2 * k) = zra V (2 * k) ∧ numB V' (2 * k) = numB V (2 * k) ∧ zrb V' (2 * k) = zrb V (2 * k)) {o : Option RecN} (ha : accP V k o) : accP V' k o := by
  obtain ⟨h1, h2, h3, -⟩ := h
  cases o with
  | none => exact ⟨h1.trans ha.1, h3.trans ha.2⟩
  | some r => exact ⟨h1.trans ha.1, h2.trans ha.2.1, h3.trans ha.2.2⟩
theorem acc_nil {V : VltN} (h : ∀ i, i < 16 → (V.c i).s = []) : AccV V fun _ => none := fun k hk => by
  have hg : ∀ i, i < 16 → znb zk i (V.c i).s = false := fun i hi => by rw [h i hi]; exact good0 i
  have ha : anyB zk V (2 * k) = false := by
    unfold anyB secB
    rw [hg _ (by omega), hg _ (by omega)]; rfl
  exact ⟨by unfold saidB; rw [ha]; rfl, by unfold zra; rw [ha]; rfl⟩
theorem acc_new : AccV (ageW zeroV) fun _ => none := acc_nil fun i hi => by
  have hp := nxtP_in zeroV 16
  unfold ageW
  rw [(sayW_c zeroV 16 _).1 i (by omega)]; rfl
theorem sayW_ok {V : VltN} {q : Nat} {l : List UInt8} (h : (sayW V q l).2 = true) : (sayW V q l).1.c (nxtP V q) = ⟨zma zk (nxtP V q) (nxtT V q) l, [], false⟩ ∧ (sayW V q l).1.dd = V.dd ∧ (sayW V q l).1.fl = V.fl ∧ (sayW V q l).1.lf = IntKind.i64.wrap (IntKind.i64.wrap (V.lf - 1) - 1) := by
  unfold sayW wrtV at h ⊢
  by_cases h1 : fallB V = true
  · rw [if_pos h1] at h; cases h
  · rw [if_neg h1] at h ⊢
    by_cases h2 : fallB (layV6 V (nxtP V q) (zma zk (nxtP V q) (nxtT V q) l)) = true
    · rw [if_pos h2] at h; cases h
    · rw [if_neg h2]
      refine ⟨?_, rfl, rfl, rfl⟩
      show putC (putC V.c _ _) _ ⟨(putC V.c _ _ _).n, [], false⟩ _ = _
      rw [z3b, z3b]
theorem say_said' {K : Nat} {V : VltN} (hi : InvV K V) (hK : K < 255) {q : Nat} {l : List UInt8} (h : (sayW V q l).2 = true) : anyB zk (sayW V q l).1 q = true ∧ cntS (sayW V q l).1 q = l :=
  wrote hi hK (by rw [(sayW_ok h).1]) (fun i hne => by rw [(sayW_c V q l).1 i hne])
theorem acc_say {K : Nat} {V : VltN} {m : Nat → Option RecN} (hi : InvV K V) (hK : K < 255) (ha : AccV V m) {k : Nat} {r : RecN} (ho : RecOk r) (hk : zaa r = true) (h : (sayW V (2 * k) (recE r)).2 = true) : AccV (sayW V (2 * k) (recE r)).1 (updO m k (some r)) := fun j hj => by
  unfold updO
  by_cases e : j = k
  · subst e
    rw [if_pos rfl]
    obtain ⟨h1, h2⟩ := say_said' hi hK h
    obtain ⟨y1, y2⟩ := rd_rec ho hk
    refine ⟨by unfold saidB; rw [h1, h2, y1]; rfl, by unfold zla; rw [if_pos h1, h2, y2], ?_⟩
    unfold zra
    rw [h1, h2]
    have := List.length_pos_iff.2 (recE_pos hk)
    rw [decide_eq_false (show ¬ (((recE r).length : Int) = 0) by omega)]; rfl
  · rw [if_neg e]
    exact acc_of (said_eq (sayW_pair V _ (by omega))) (ha j hj)
theorem acc_gone {K : Nat} {V : VltN} {m : Nat → Option RecN} (hi : InvV K V) (hK : K < 255) (ha : AccV V m) {k : Nat} (h : (sayW V (2 * k) []).2 = true) : AccV (sayW V (2 * k) []).1 (updO m k none) := fun j hj => by
  unfold updO
  by_cases e : j = k
  · subst e
    rw [if_pos rfl]
    obtain ⟨h1, h2⟩ := say_said' hi hK h
    refine ⟨by unfold saidB; rw [h1, h2, rdOk_nil]; rfl, ?_⟩
    unfold zra
    rw [h1, h2]; rfl
  · rw [if_neg e]
    exact acc_of (said_eq (sayW_pair V _ (by omega))) (ha j hj)
def isN (nm : ByteArray) : Option RecN → Bool
  | none => false
  | some r => decide (r.s.toList = nm.toList)
theorem named_acc {V : VltN} {m : Nat → Option RecN} (ha : AccV V m) (nm : ByteArray) {k : Nat} (hk : k < 8) : zz V nm k = isN nm (m k) := by
  have h := ha k hk
  cases hm : m k with
  | none => rw [hm] at h; exact namedB_no h.1
  | some r => rw [hm] at h; exact namedB_is h.1 (by rw [h.2.1]; rfl)
theorem empty_acc {V : VltN} {m : Nat → Option RecN} (ha : AccV V m) {k : Nat} (hk : k < 8) : zra V (2 * k) = (m k).isNone := by
  have h := ha k hk
  cases hm : m k with
  | none => rw [hm] at h; exact h.2
  | some r => rw [hm] at h; exact h.2.2
theorem fst8_congr {p q : Nat → Bool} (h : ∀ k, k < 8 → p k = q k) : fst8 p = fst8 q := by
  have : ∀ n k, k + n ≤ 8 → fstN p n k = fstN q n k := fun n => by
    induction n with
    | zero => intro k _; rfl
    | succ n ih => intro k hk; unfold fstN; rw [h k (by omega), ih (k + 1) (by omega)]
  exact this 8 0 (by omega)
theorem named8 {V : VltN} {m : Nat → Option RecN} (ha : AccV V m) (nm : ByteArray) : fst8 (zz V nm) = fst8 fun k => isN nm (m k) := fst8_congr fun k hk => named_acc ha nm hk
theorem empty8 {V : VltN} {m : Nat → Option RecN} (ha : AccV V m) : fst8 (fun i => zra V (2 * i)) = fst8 fun k => (m k).isNone := fst8_congr fun k hk => empty_acc ha hk
theorem fst8_at {p : Nat → Bool} {k : Nat} (hk : k < 8) (h : p k = true) (hl : ∀ i, i < k → p i = false) : fst8 p = k := by
  rcases fst8_spec p with ⟨h1, h2, h3⟩ | ⟨h1, h2⟩
  · rcases Nat.lt_trichotomy (fst8 p) k with h4 | h4 | h4
    · rw [hl _ h4] at h2; cases h2
    · exact h4
    · rw [h3 k h4] at h; cases h
  · rw [h2 k hk] at h; cases h
theorem fst8_none {p : Nat → Bool} (h : ∀ i, i < 8 → p i = false) : fst8 p = 8 := by
  rcases fst8_spec p with ⟨h1, h2, h3⟩ | ⟨h1, h2⟩
  · rw [h _ h1] at h2; cases h2
  · exact h1
def plcM (m : Nat → Option RecN) (nm : ByteArray) : Nat := if fst8 (fun k => isN nm (m k)) < 8 then fst8 (fun k => isN nm (m k)) else fst8 fun k => (m k).isNone
theorem put_acc {V : VltN} {m : Nat → Option RecN} (ha : AccV V m) {r : RecN} (hd : V.dd = false) (hk : zaa r = true) (hp : plcM m r.s < 8) : putV V r = ((sayW V (2 * plcM m r.s) (recE r)).1, if (sayW V (2 * plcM m r.s) (recE r)).2 = true then 0 else 10) := by
  unfold putV
  rw [if_neg (by rw [hd]; exact Bool.false_ne_true), if_neg (by rw [hk]; exact fun h => by cases h), named8 ha, empty8 ha]
  unfold plcM at hp ⊢
  split
  · rfl
  · rename_i h
    rw [if_neg h] at hp
    rw [if_pos hp]
theorem put_full {V : VltN} {m : Nat → Option RecN} (ha : AccV V m) {r : RecN} (hd : V.dd = false) (hk : zaa r = true) (hp : plcM m r.s = 8) : putV V r = (V, 7) := by
  unfold putV
  rw [if_neg (by rw [hd]; exact Bool.false_ne_true), if_neg (by rw [hk]; exact fun h => by cases h), named8 ha, empty8 ha]
  unfold plcM at hp
  split at hp
  · omega
  · rename_i h
    rw [if_neg h, if_neg (by omega)]
theorem put_done {K : Nat} {V : VltN} {m : Nat → Option RecN} (hi : InvV K V) (hK : K < 255) (ha : AccV V m) {r : RecN} (ho : RecOk r) (hk : zaa r = true) (hd : V.dd = false) (hf : V.fl = false) (hp : plcM m r.s < 8) : (putV V r).2 = 0 ∧ AccV (putV V r).1 (updO m (plcM m r.s) (some r)) ∧ (putV V r).1.dd = false ∧ (putV V r).1.fl = false := by
  rw [put_acc ha hd hk hp]
  obtain ⟨h1, h2, h3, h4⟩ := sayW_live (2 * plcM m r.s) (recE r) hf
  exact ⟨by dsimp only; rw [if_pos h1], acc_say hi hK ha ho hk h1, h3.trans hd, h2⟩
theorem gone_acc {V : VltN} {m : Nat → Option RecN} (ha : AccV V m) (nm : ByteArray) (hd : V.dd = false) : goneV V nm = if fst8 (fun k => isN nm (m k)) < 8 then ((sayW V (2 * fst8 fun k => isN nm (m k)) []).1, if (sayW V (2 * fst8 fun k => isN nm (m k)) []).2 = true then 0 else 10) else (V, 3) := by
  unfold goneV
  rw [if_neg (by rw [hd]; exact Bool.false_ne_true), named8 ha]
theorem gone_done {K : Nat} {V : VltN} {m : Nat → Option RecN} (hi : InvV K V) (hK : K < 255) (ha : AccV V m) {nm : ByteArray} (hd : V.dd = false) (hf : V.fl = false) {k : Nat} (hp : fst8 (fun k => isN nm (m k)) = k) (h8 : k < 8) : (goneV V nm).2 = 0 ∧ AccV (goneV V nm).1 (updO m k none) ∧ (goneV V nm).1.dd = false ∧ (goneV V nm).1.fl = false := by
  rw [gone_acc ha nm hd, hp, if_pos h8]
  obtain ⟨h1, h2, h3, h4⟩ := sayW_live (2 * k) [] hf
  exact ⟨by dsimp only; rw [if_pos h1], acc_gone hi hK ha h1, h3.trans hd, h2⟩
def nmsM (m : Nat → Option RecN) : Nat → List ByteArray
  | 0 => []
  | k + 1 => match m k with
    | none => nmsM m k
    | some r => nmsM m k ++ [r.s]
theorem namL_acc {V : VltN} {m : Nat → Option RecN} (ha : AccV V m) : ∀ k, k ≤ 8 → namL V k = nmsM m k
  | 0, _ => rfl
  | k + 1, hk => by
    have h := ha k (by omega)
    have ih := namL_acc ha k (by omega)
    unfold nmsM
    cases hm : m k with
    | none => rw [hm] at h; rw [namL_no h.1]; exact ih
    | some r => rw [hm] at h; rw [namL_yes h.1 h.2.1, ih]
end Go.Proofs.YtmjbnmbobocpdaaGreat
namespace Go.Proofs.YtmjbnmbobocpdaaGreat
open Go.ChangeShapes Go.WideShapes Go.ChangeAt Go.RowKit
def rA : RecN := ⟨1, ⟨#[97]⟩, [], 0, 0, [], 0, 0, 0⟩
theorem rA_ok : RecOk rA := ⟨by decide, by decide, by decide, by decide, by decide, by decide, by decide⟩
theorem rA_name : NameOk rA.s := by
  refine ⟨by decide, by decide, fun i h => ?_⟩
  have : i = 0 := by have h1 : rA.s.size = 1 := rfl; omega
  subst this
  exact (show (33 : Int) ≤ ((97 : UInt8).toNat : Int) ∧ ((97 : UInt8).toNat : Int) ≤ 126 by decide)
theorem rA_keep : zaa rA = true := by
  unfold zaa
  rw [show nameB rA.s = true from @decide_eq_true _ (Classical.propDecidable _) rA_name, show topI rA.a 8 = 0 from topI_none 8, show topI rA.b 8 = 0 from topI_none 8]
  decide
theorem y_eqPN {a : Act} {w : World} {o : Oper} (ty tz : TypeId) (hu : Tryz.prog.underlying ty = some (.pointer (Tryz.prog.pointee ty))) (hgt : Tryz.prog.eqGuardType Tryz.prog.depth ty = false) (x : Operand) {p : Addr} (ho : o.op = .binOp .eql ty x (.const (.pointer none)) tz) (hx : a.eval x = .pointer (some p)) : (execOp a.eval o).run Tryz.prog w = .ok (.value (.bool false)) w :=
  y_eqV ty tz x _ ho hx (v := .pointer none) rfl (by simp [eqGuard, go_sem, hgt]) (by rw [run_eql_pointer_nil (h := hu)]; rfl)
end Go.Proofs.YtmjbnmbobocpdaaGreat
namespace Go.Proofs.YtmjbnmbobocpdaaGreat
open Go.ChangeShapes Go.WideShapes Go.ChangeAt Go.RowKit
theorem plcA : plcM (fun _ => none) rA.s = 0 := by
  have e : (fst8 fun k => isN rA.s ((fun _ => none) k)) = 8 := fst8_none fun _ _ => rfl
  unfold plcM
  rw [if_neg (by omega)]
  exact fst8_at (by decide) rfl fun i h => absurd h (Nat.not_lt_zero i)
theorem rdI_none (w : World) {x : Nat → Int} (hx : ∀ k, -9223372036854775808 ≤ x k ∧ x k < 9223372036854775808 := by intro k; decide) : RdI w none 0 x := ⟨by unfold maxLen; decide, hx, fun h => absurd h (Nat.lt_irrefl 0)⟩
theorem known6_any  (w : World) :
  Calls Tryz.prog 13 #[] w fun e w' => e = .returned (.bool true) ∧ Below w.heap.size w w' := by
 obtain ⟨hE1, hI1, hf1, hd1⟩ := new_is
 have hA1 := acc_new
 obtain ⟨V1, hV1⟩ : ∃ x, ageW zeroV = x := ⟨_, rfl⟩
 rw [hV1] at hE1 hI1 hf1 hd1 hA1
 obtain ⟨hz2, hA2, hd2, hf2⟩ := put_done hI1 (by decide) hA1 rA_ok rA_keep hd1 hf1 (by rw [plcA]; decide)
 rw [plcA] at hA2
 obtain ⟨hI2, hE2⟩ := put_keep hI1 (by decide) hE1 rA
 obtain ⟨V2, hV2⟩ : ∃ x, (putV V1 rA).1 = x := ⟨_, rfl⟩
 rw [hV2] at hA2 hd2 hf2 hI2 hE2
 have h20 : accP V2 0 (some rA) := hA2 0 (by decide)
 have hn2 : fst8 (zz V2 rA.s) = 0 := by
  rw [named8 hA2]
  exact fst8_at (by decide) (show isN rA.s (some rA) = true from decide_eq_true rfl) fun i h => absurd h (Nat.not_lt_zero i)
 have hL2 : srtL (namL V2 8) = [rA.s] := by rw [namL_acc hA2 8 (Nat.le_refl _)]; rfl
 obtain ⟨hE3, hI3, -, hd3⟩ := again_is hI2 (by decide) hE2 (by decide) (by decide) (fun _ => 0) 0
 obtain ⟨V3, hV3⟩ : ∃ x, ageW (setlV V2 (fun _ => 0) 0) = x := ⟨_, rfl⟩
 rw [hV3] at hE3 hI3 hd3
 refine zj (args := []) 57 Tryz.func13 rfl rfl rfl ?_
 intro fa F
 have M := Mx.start w
 refine zS fun _ hK21 => ?_
 refine zR ?_
 refine rm rfl F fun _ F22 => ?_
 refine hK21 _ _ ?_
 refine zS fun _ hK23 => ?_
 refine zR ?_
 refine zh (zc rfl) rfl F22 rfl rfl (zE Tryz.func14 rfl) #[] (args0) (vnew_is V1 hV1 w) ?_
 rintro _ w24 a24 ⟨g24, rfl, hg24, s24, n24, hr24, ht24, hc24, b24⟩ F24
 have M24 := M.newVault b24 0 1 hg24 hc24 hr24 ht24
 clear M b24 hg24 hc24 hr24 ht24
 refine rm rfl F24 fun _ F25 => ?_
 refine hK23 _ _ ?_
 refine zS fun _ hK26 => ?_
 refine zS fun _ hK27 => ?_
 refine zR ?_
 refine rm rfl F25 fun _ F28 => ?_
 refine zd (w' := w24) (zc rfl) rfl F28 rfl (.bool false) (y_eqPN 25 _ Tryz.underlying25 (by kernel_rfl) _ rfl (F28.get (t := 7) rfl)) fun _ F29 => ?_
 clear F28
 refine rm rfl F29 fun _ F30 => ?_
 refine rm rfl F30 fun _ F31 => ?_
 refine zh (zg rfl rfl rfl (F31.get (t := 9) rfl)) rfl F31 rfl rfl (zE Tryz.func26 rfl) #[.pointer (some ⟨g24, 0, none⟩)] (zw (F31.get (t := 10) rfl)) (zda ((boot_is g24 V1 s24 n24 hI1 hE1 w24 (M24.hasV (kg := 0) (kr := 1) rfl rfl (by decide))))) ?_
 rintro _ w32 a32 ⟨rfl, b32⟩ F32
 have M32 := M24.step b32
 refine zB 2 [(0, .bool false), (1, .pointer (some ⟨g24, 0, none⟩)), (13, .bool false)] [] dnil [] F32 fun _ F33 => ?_
 clear F32
 refine hK27 _ _ ?_
 refine wp_cond_false (F33.get (t := 13) rfl) ?_
 refine wp_skip ?_
 refine hK26 _ _ ?_
 refine zS fun _ hK34 => ?_
 refine zR ?_
 refine rm rfl F33 fun _ F35 => ?_
 refine zd (w' := w32) (zc rfl) rfl F35 rfl (.agg (recA ⟨1, ({ data := #[97] }), [], 0, 0, [], 0, 0, 0⟩ ⟨zN, zN⟩)) (by unfold execOp; simp only [List.map_toArray, List.map_cons, List.map_nil, ]; kernel_rfl) fun _ F36 => ?_
 clear F35
 refine zh (zc rfl) rfl F36 rfl rfl (zE Tryz.func22 rfl) #[.pointer (some ⟨g24, 0, none⟩), .agg (recA ⟨1, ({ data := #[97] }), [], 0, 0, [], 0, 0, 0⟩ ⟨zN, zN⟩)] (zja (F36.get (t := 14) rfl) (F36.get (t := 15) rfl)) (put_is g24 V1 s24 n24 rA rvZero rA_ok hI1 (by decide) V2 0 hV2 hz2 w32 ⟨(zua _), (zua _)⟩ ⟨(zab _), (zab _)⟩ (M32.rowsV (i := 1) (k := 0) rfl rfl (by decide)) (M32.blk (k := 0) rfl)) ?_
 rintro _ w37 a37 ⟨rfl, s37, n37, hr37, ht37, hc37, hg37⟩ F37
 have M37 := M32.vault (kg := 0) (kr := 1) rfl rfl hg37 hc37 hr37 ht37
 clear M32 hg37 hc37 hr37 ht37
 refine rm rfl F37 fun _ F38 => ?_
 refine hK34 _ _ ?_
 refine zS fun _ hK39 => ?_
 refine zR ?_
 refine rm rfl F38 fun _ F40 => ?_
 refine zh (zc rfl) rfl F40 rfl rfl (zE Tryz.func24 rfl) #[.pointer (some ⟨g24, 0, none⟩), .string ({ data := #[97] })] (zja (F40.get (t := 18) rfl) rfl) (get_yes g24 V2 s37 n37 hI2 ({ data := #[97] }) 0 (by decide) hn2 rA h20.2.1 w37 (M37.hasV (kg := 0) (kr := 1) rfl rfl (by decide))) ?_
 rintro _ w41 a41 ⟨U41, rfl, is41, lo41, b41⟩ F41
 have M41 := M37.newRec b41 is41 lo41 2 3
 clear M37 b41 lo41
 refine zB 3 [(0, .bool false), (1, .pointer (some ⟨g24, 0, none⟩)), (2, .int .i64 0), (20, .agg (recA rA U41)), (21, .bool true)] [] dnil [] F41 fun _ F42 => ?_
 clear F41
 refine zi (zc rfl) rfl F42 rfl M41 4 (t := 37) (c := recA ⟨0, "".toUTF8, [], 0, 0, [], 0, 0, 0⟩ ⟨zN, zN⟩) (by unfold execOp; kernel_rfl) ?_
 intro g43 a43 w43 F43 M43
 clear F42 M41
 refine zn (zc rfl) rfl F43 M43 (k := 4) rfl _ _ _ rfl (F43.get (t := 3) rfl) (F43.get (t := 20) rfl) (recA rA U41) _ rfl (zL rfl) (z4a (w := w43) ⟨(M43.isb (k := 2) rfl), (M43.isb (k := 3) rfl)⟩) (zo rfl) (by kernel_rfl) ?_
 intro w44 M44
 clear M43
 refine rm rfl F43 fun _ F45 => ?_
 refine hK39 _ _ ?_
 refine zS fun _ hK46 => ?_
 refine zR ?_
 refine rm rfl F45 fun _ F47 => ?_
 refine zh (zc rfl) rfl F47 rfl rfl (zE Tryz.func25 rfl) #[.pointer (some ⟨g24, 0, none⟩)] (zw (F47.get (t := 22) rfl)) (names_is g24 V2 s37 n37 hI2 ([rA.s]) hL2 w44 (M44.hasV (kg := 0) (kr := 1) rfl rfl (by decide))) ?_
 rintro _ w48 a48 ⟨⟨A48, c48, rfl, tx48⟩, b48⟩ F48
 have M48 := M44.step b48
 clear M44 tx48
 refine rm rfl F48 fun _ F49 => ?_
 refine hK46 _ _ ?_
 refine zS fun _ hK50 => ?_
 refine zR ?_
 refine rm rfl F49 fun _ F51 => ?_
 refine zh (zc rfl) rfl F51 rfl rfl (zE Tryz.func30 rfl) #[.pointer (some ⟨g24, 0, none⟩), zN] (zja (F51.get (t := 24) rfl) rfl) (again_isV g24 V2 s37 n37 none 0 0 (fun _ => 0) (Nat.le_refl _) hI2 (by decide) hE2 (by decide) (by decide) V3 hV3 w48 (rdI_none _) (fun h => absurd h.1 (Nat.not_lt_zero _)) (M48.rowsV (i := 1) (k := 0) rfl rfl (by decide)) (M48.blk (k := 0) rfl)) ?_
 rintro _ w52 a52 ⟨s52, n52, hr52, ht52, hc52, hg52⟩ F52
 have M52 := M48.vault (kg := 0) (kr := 1) rfl rfl hg52 hc52 hr52 ht52
 clear M48 hg52 hc52 hr52 ht52
 refine hK50 _ _ ?_
 refine zS fun _ hK53 => ?_
 refine zR ?_
 refine zB 8 [(0, .bool false), (1, .pointer (some ⟨g24, 0, none⟩)), (5, .slice A48 ([rA.s]).length c48), (31, .bool true), (33, .string rA.s)] [0] (zca (M52.blk (k := 4) rfl) dnil) [g43] F52 fun _ F54 => ?_
 clear F52
 refine zd (w' := w52) (zg rfl rfl rfl (F54.get (t := 31) rfl)) rfl F54 rfl (.bool true) (y_eqS _ _ _ rfl (F54.get (t := 33) rfl) rfl (decide_eq_true rfl)) fun _ F55 => ?_
 clear F54
 refine zd (w' := w52) (zc rfl) rfl F55 rfl (.bool true) (zxb rfl (F55.get (t := 31) rfl) (F55.get (t := 34) rfl)) fun _ F56 => ?_
 clear F55
 refine rm rfl F56 fun _ F57 => ?_
 refine rm rfl F57 fun _ F58 => ?_
 refine zd (w' := w52) (zg rfl rfl rfl (F58.get (t := 36) rfl)) rfl F58 rfl (.int .i64 1) (y_lnG 45 Tryz.underlying45 _ rfl (F58.get (t := 37) rfl) rfl) fun _ F59 => ?_
 clear F58
 refine zB 4 [(0, .bool false), (1, .pointer (some ⟨g24, 0, none⟩)), (41, .bool true), (42, .pointer (some ⟨g24, 0, none⟩))] [] dnil [] F59 fun _ F60 => ?_
 clear F59
 refine zh (zg rfl rfl rfl (F60.get (t := 41) rfl)) rfl F60 rfl rfl (zE Tryz.func26 rfl) #[.pointer (some ⟨g24, 0, none⟩)] (zw (F60.get (t := 42) rfl)) (zda ((boot_is g24 V3 s52 n52 hI3 hE3 w52 (M52.hasV (kg := 0) (kr := 1) rfl rfl (by decide))))) ?_
 rintro _ w61 a61 ⟨rfl, b61⟩ F61
 have M61 := M52.step b61
 refine zd (w' := w61) (zg rfl rfl rfl (F61.get (t := 41) rfl)) rfl F61 rfl (.bool true) (y_eqI _ _ _ _ rfl (F61.get (t := 43) rfl) rfl Tryz.underlying3 (y_beqT (by decide))) fun _ F62 => ?_
 clear F61
 refine zd (w' := w61) (zc rfl) rfl F62 rfl (.bool true) (zxb rfl (F62.get (t := 41) rfl) (F62.get (t := 44) rfl)) fun _ F63 => ?_
 clear F62
 refine rm rfl F63 fun _ F64 => ?_
 refine rm rfl F64 fun _ F65 => ?_
 refine zh (zg rfl rfl rfl (F65.get (t := 46) rfl)) rfl F65 rfl rfl (zE Tryz.func32 rfl) #[.pointer (some ⟨g24, 0, none⟩)] (zw (F65.get (t := 47) rfl)) (zda ((dead_is g24 V3 s52 n52 false hd3 w61 (M61.hasV (kg := 0) (kr := 1) rfl rfl (by decide))))) ?_
 rintro _ w66 a66 ⟨rfl, b66⟩ F66
 have M66 := M61.step b66
 refine zB 4 [(0, .bool false), (51, .bool true), (52, .pointer (some ⟨g24, 0, none⟩))] [] dnil [] F66 fun _ F67 => ?_
 clear F66
 refine zh (zg rfl rfl rfl (F67.get (t := 51) rfl)) rfl F67 rfl rfl (zE Tryz.func28 rfl) #[.pointer (some ⟨g24, 0, none⟩)] (zw (F67.get (t := 52) rfl)) (cells_is g24 V3 s52 n52 hI3 w66 (M66.hasV (kg := 0) (kr := 1) rfl rfl (by decide))) ?_
 rintro _ w68 a68 ⟨gq68, s68, n68, rfl, ce68, b68⟩ F68
 have M68 := M66.step b68
 clear M66 ce68
 refine zd (w' := w68) (zg rfl rfl rfl (F68.get (t := 51) rfl)) rfl F68 rfl (.int .i64 18) (y_lnG 49 Tryz.underlying49 _ rfl (F68.get (t := 53) rfl) rfl) fun _ F69 => ?_
 clear F68
 refine zB 3 [(0, .bool true)] [] dnil [] F69 fun _ F70 => ?_
 clear F69
 refine hK53 _ _ ?_
 refine wp_ret ?_
 try simp only [Exit.then, Exit.inBlock, Exit.jump]
 exact bodyPost_ret (res1 rfl (F70.get rfl)) F70.defers ⟨rfl, M68.below⟩
end Go.Proofs.YtmjbnmbobocpdaaGreat
namespace Go.Proofs.YtmjbnmbobocpdaaGreat
open Go.ChangeShapes Go.WideShapes Go.ChangeAt Go.RowKit Go.Shelf
theorem in6 (a : Int) {n : Nat} (h : 0 < n) : ∃ k : Nat, a % (n : Int) = (k : Int) ∧ k < n := by
  have h1 := Int.emod_nonneg a (show (n : Int) ≠ 0 by omega)
  have h2 := Int.emod_lt_of_pos a (show (0 : Int) < n by omega)
  exact ⟨(a % (n : Int)).toNat, by omega, by omega⟩
theorem nmK_ne : ∀ {i j : Nat}, i < 10 → j < 10 → i ≠ j → (nmK i).toList ≠ (nmK j).toList := by
  have h : ∀ i, i < 10 → ∀ j, j < 10 → i ≠ j → (nmK i).data.toList ≠ (nmK j).data.toList := by decide
  intro i j hi hj hne
  rw [ByteArray.toList_eq, ByteArray.toList_eq]
  exact h i hi j hj hne
theorem isN_eq (nm : ByteArray) {r : RecN} (h : r.s = nm) : isN nm (some r) = true := decide_eq_true (by rw [h])
theorem isN_ne {i j : Nat} (hi : i < 10) (hj : j < 10) (hne : i ≠ j) {r : RecN} (h : r.s = nmK j) : isN (nmK i) (some r) = false := decide_eq_false (by rw [h]; exact fun e => nmK_ne hi hj hne e.symm)
def setN (r : RecN) (j : Nat) : RecN := { r with s := nmK j }
theorem setN_ok {n : Int} {b : List UInt8} {k : Nat} {r : RecN} (hr : recK n b k = r) {j : Nat} (hj : j < 10) : RecOk (setN r j) ∧ zaa (setN r j) = true := by
  subst hr; exact ⟨recK_ok n b hj, recK_keep n b hj⟩
theorem plc_new {m : Nat → Option RecN} {nm : ByteArray} {k : Nat} (h8 : k < 8) (hn : ∀ j, j < 8 → isN nm (m j) = false) (hk : m k = none) (hl : ∀ j, j < k → m j ≠ none) : plcM m nm = k := by
  have e : (fst8 fun j => isN nm (m j)) = 8 := fst8_none hn
  unfold plcM
  rw [if_neg (by omega)]
  exact fst8_at h8 (by rw [hk]; rfl) fun j hj => by
    cases h : m j with
    | none => exact absurd h (hl j hj)
    | some r => rfl
theorem plc_is {m : Nat → Option RecN} {nm : ByteArray} {k : Nat} (h8 : k < 8) (hn : isN nm (m k) = true) (hl : ∀ j, j < k → isN nm (m j) = false) : plcM m nm = k := by
  have e : (fst8 fun j => isN nm (m j)) = k := fst8_at h8 hn hl
  unfold plcM
  rw [if_pos (by omega), e]
def setS (r : RecN) (s : ByteArray) : RecN := { r with s := s }
theorem setS_ok {r : RecN} {s : ByteArray} (h : RecOk r) (hk : zaa r = true) (hs : NameOk s) : RecOk (setS r s) ∧ zaa (setS r s) = true := by
  refine ⟨⟨h.p, h.t, h.c, h.z, by have := hs.2.1; show s.size ≤ 1000; omega, h.a, h.b⟩, ?_⟩
  unfold zaa at hk ⊢
  simp only [Bool.and_eq_true, decide_eq_true_eq] at hk ⊢
  obtain ⟨⟨⟨⟨⟨⟨⟨⟨⟨h1, h2⟩, h3⟩, h4⟩, h5⟩, h6⟩, h7⟩, h8⟩, h9⟩, h10⟩ := hk
  exact ⟨⟨⟨⟨⟨⟨⟨⟨⟨h1, @decide_eq_true _ (Classical.propDecidable _) hs⟩, h3⟩, h4⟩, h5⟩, h6⟩, h7⟩, h8⟩, h9⟩, h10⟩
def mF (f : Nat → RecN) (i : Nat) : Nat → Option RecN := fun j => if j < i then some (f j) else none
theorem mF_in {f : Nat → RecN} {i j : Nat} (h : j < i) : mF f i j = some (f j) := if_pos h
theorem mF_out {f : Nat → RecN} {i j : Nat} (h : ¬ j < i) : mF f i j = none := if_neg h
theorem mF_no {f : Nat → RecN} (hf : ∀ j, (f j).s = nmK j) {i q : Nat} (hq : q < 10) (hi : i ≤ q) (hi8 : i ≤ 8) : ∀ j, j < 8 → isN (nmK q) (mF f i j) = false := fun j hj => by
  by_cases h : j < i
  · rw [mF_in h]; exact isN_ne hq (by omega) (by omega) (hf j)
  · rw [mF_out h]; rfl
theorem mF_plc {f : Nat → RecN} (hf : ∀ j, (f j).s = nmK j) {i : Nat} (hi : i < 8) : plcM (mF f i) (nmK i) = i :=
  plc_new hi (mF_no hf (by omega) (Nat.le_refl _) (by omega)) (mF_out (Nat.lt_irrefl _)) fun j hj => by rw [mF_in hj]; exact fun e => by cases e
theorem mF_full {f : Nat → RecN} (hf : ∀ j, (f j).s = nmK j) {q : Nat} (hq : q < 10) (h8 : 8 ≤ q) : plcM (mF f 8) (nmK q) = 8 := by
  have e : (fst8 fun j => isN (nmK q) (mF f 8 j)) = 8 := fst8_none (mF_no hf hq h8 (Nat.le_refl _))
  have e2 : (fst8 fun j => (mF f 8 j).isNone) = 8 := fst8_none fun j hj => by rw [mF_in hj]; rfl
  unfold plcM
  rw [if_neg (by omega), e2]
theorem mF_upd (f : Nat → RecN) (i : Nat) : updO (mF f i) i (some (f i)) = mF f (i + 1) := by
  funext j
  unfold updO mF
  by_cases e : j = i
  · subst e; rw [if_pos rfl, if_pos (by omega)]
  · rw [if_neg e]
    by_cases h : j < i
    · rw [if_pos h, if_pos (by omega)]
    · rw [if_neg h, if_neg (by omega)]
theorem mF_zero (f : Nat → RecN) : mF f 0 = fun _ => none := by funext j; exact if_neg (by omega)
theorem nms_mF (f : Nat → RecN) (i : Nat) : ∀ k, (nmsM (mF f i) k).length = min i k
  | 0 => by simp [nmsM]
  | k + 1 => by
    have ih := nms_mF f i k
    unfold nmsM
    by_cases h : k < i
    · rw [mF_in h]; simp [ih]; omega
    · rw [mF_out h]; dsimp only; omega
def oneO : Option RecN → Nat
  | none => 0
  | some _ => 1
theorem nms_upd (m : Nat → Option RecN) (j : Nat) (o : Option RecN) : ∀ k, (nmsM (updO m j o) k).length + (if j < k then oneO (m j) else 0) = (nmsM m k).length + (if j < k then oneO o else 0)
  | 0 => by simp [nmsM]
  | k + 1 => by
    have ih := nms_upd m j o k
    have hl : ∀ (m : Nat → Option RecN), (nmsM m (k + 1)).length = (nmsM m k).length + oneO (m k) := fun m => by
      rw [nmsM]
      cases h : m k with
      | none => rfl
      | some r => rw [List.length_append]; rfl
    rw [hl, hl]
    by_cases e : j = k
    · subst e
      rw [if_neg (Nat.lt_irrefl _), if_neg (Nat.lt_irrefl _)] at ih
      rw [if_pos (Nat.lt_succ_self _), if_pos (Nat.lt_succ_self _), show updO m j o j = o from if_pos rfl]
      omega
    · rw [show updO m j o k = m k from if_neg (fun h => e h.symm)]
      by_cases h : j < k
      · rw [if_pos h, if_pos h] at ih
        rw [if_pos (by omega), if_pos (by omega)]
        omega
      · rw [if_neg h, if_neg h] at ih
        rw [if_neg (by omega), if_neg (by omega)]
        omega
theorem nms_upd8 {m : Nat → Option RecN} {j : Nat} {o : Option RecN} (hj : j < 8) : (nmsM (updO m j o) 8).length + oneO (m j) = (nmsM m 8).length + oneO o := by
  have := nms_upd m j o 8
  rwa [if_pos hj, if_pos hj] at this
theorem put_nine {V : VltN} {f : Nat → RecN} (hf : ∀ j, (f j).s = nmK j) (ha : AccV V (mF f 8)) {q : Nat} (hq : q < 10) (h8 : 8 ≤ q) (hk : zaa (f q) = true) (hd : V.dd = false) : putV V (f q) = (V, 7) :=
  put_full ha hd hk (by rw [hf q]; exact mF_full hf hq h8)
theorem full_put {K jn : Nat} {V : VltN} {f : Nat → RecN} (hf : ∀ j, (f j).s = nmK j) (hI : InvV K V) (hK : K < 255) (hA : AccV V (mF f (min jn 8))) (hj : jn < 10) (ho : RecOk (f jn)) (hk : zaa (f jn) = true) (hd : V.dd = false) (hfl : V.fl = false) :
    (putV V (f jn)).2 = (if jn < 8 then 0 else 7) ∧ AccV (putV V (f jn)).1 (mF f (min (jn + 1) 8)) ∧ (putV V (f jn)).1.dd = false ∧ (putV V (f jn)).1.fl = false := by
  by_cases h : jn < 8
  · rw [show min jn 8 = jn by omega] at hA
    have hp : plcM (mF f jn) (f jn).s = jn := by rw [hf]; exact mF_plc hf h
    obtain ⟨q1, q2, q3, q4⟩ := put_done hI hK hA ho hk hd hfl (by rw [hp]; exact h)
    rw [hp, mF_upd] at q2
    exact ⟨by rw [if_pos h]; exact q1, by rw [show min (jn + 1) 8 = jn + 1 by omega]; exact q2, q3, q4⟩
  · rw [show min jn 8 = 8 by omega] at hA
    rw [put_nine hf hA hj (by omega) hk hd]
    exact ⟨by rw [if_neg h], by rw [show min (jn + 1) 8 = 8 by omega]; exact hA, hd, hfl⟩
theorem names_num {V : VltN} {m : Nat → Option RecN} (ha : AccV V m) : ∃ L, srtL (namL V 8) = L ∧ L.length = (nmsM m 8).length := ⟨_, rfl, by rw [srtL_len, namL_acc ha 8 (Nat.le_refl _)]⟩
theorem full_end {K : Nat} {V : VltN} {f : Nat → RecN} (hf : ∀ j, (f j).s = nmK j) (hI : InvV K V) (hK : K < 200) (he : EraV V 1) (hA : AccV V (mF f 8)) {o : Nat} (hoo : o < 8) {r : RecN} (ho : RecOk r) (hk : zaa r = true) (hr : r.s = nmK o) {r2 : RecN} (ho2 : RecOk r2) (hk2 : zaa r2 = true) (hr2 : ∀ j, j < 8 → r2.s.toList ≠ (nmK j).toList) (hd : V.dd = false) (hfl : V.fl = false) :
    ∃ V1 V2 V3, putV V r = (V1, 0) ∧ InvV (K + 1) V1 ∧ EraV V1 1 ∧ goneV V1 (nmK o) = (V2, 0) ∧ InvV (K + 2) V2 ∧ EraV V2 1 ∧ goneV V2 (nmK o) = (V2, 3) ∧ (∃ L, srtL (namL V2 8) = L ∧ L.length = 7) ∧ putV V2 r2 = (V3, 0) ∧ InvV (K + 3) V3 ∧ EraV V3 1 ∧ ∃ L, srtL (namL V3 8) = L ∧ L.length = 8 := by
  have hp : plcM (mF f 8) r.s = o := by
    rw [hr]
    exact plc_is hoo (by rw [mF_in hoo]; exact isN_eq _ (hf o)) fun j hj => by rw [mF_in (by omega)]; exact isN_ne (by omega) (by omega) (by omega) (hf j)
  obtain ⟨a1, a2, a3, a4⟩ := put_done hI (by omega) hA ho hk hd hfl (by rw [hp]; exact hoo)
  rw [hp] at a2
  obtain ⟨a5, a6⟩ := put_keep hI (by omega) he r
  have hg1 : (fst8 fun k => isN (nmK o) (updO (mF f 8) o (some r) k)) = o := fst8_at hoo (by rw [show updO (mF f 8) o (some r) o = some r from if_pos rfl]; exact isN_eq _ hr) fun j hj => by
    rw [show updO (mF f 8) o (some r) j = mF f 8 j from if_neg (by omega), mF_in (by omega)]
    exact isN_ne (by omega) (by omega) (by omega) (hf j)
  obtain ⟨b1, b2, b3, b4⟩ := gone_done a5 (by omega) a2 a3 a4 hg1 hoo
  obtain ⟨b5, b6⟩ := gone_keep a5 (by omega) a6 (nmK o)
  have hno : ∀ j, j < 8 → updO (updO (mF f 8) o (some r)) o none j = if j = o then none else some (f j) := fun j hj => by
    unfold updO
    by_cases e : j = o
    · rw [if_pos e, if_pos e]
    · rw [if_neg e, if_neg e, if_neg e, mF_in hj]
  have hg2 : (fst8 fun k => isN (nmK o) (updO (updO (mF f 8) o (some r)) o none k)) = 8 := fst8_none fun j hj => by
    rw [hno j hj]
    by_cases e : j = o
    · rw [if_pos e]; rfl
    · rw [if_neg e]; exact isN_ne (by omega) (by omega) (by omega) (hf j)
  have hgn := gone_acc b2 (nmK o) b3
  rw [hg2, if_neg (by omega)] at hgn
  have hp2 : plcM (updO (updO (mF f 8) o (some r)) o none) r2.s = o := plc_new hoo (fun j hj => by
    rw [hno j hj]
    by_cases e : j = o
    · rw [if_pos e]; rfl
    · rw [if_neg e]; exact decide_eq_false (by rw [hf]; exact fun h => hr2 j hj h.symm)) (by rw [hno o hoo, if_pos rfl]) fun j hj => by
    rw [hno j (by omega), if_neg (by omega)]; exact fun e => by cases e
  obtain ⟨c1, c2, c3, c4⟩ := put_done b5 (by omega) b2 ho2 hk2 b3 b4 (by rw [hp2]; exact hoo)
  rw [hp2] at c2
  obtain ⟨c5, c6⟩ := put_keep b5 (by omega) b6 r2
  have n0 := nms_mF f 8 8
  have n1 := nms_upd8 (m := mF f 8) (o := some r) hoo
  have n2 := nms_upd8 (m := updO (mF f 8) o (some r)) (o := none) hoo
  have n3 := nms_upd8 (m := updO (updO (mF f 8) o (some r)) o none) (o := some r2) hoo
  rw [mF_in hoo] at n1
  rw [show updO (mF f 8) o (some r) o = some r from if_pos rfl] at n2
  rw [show updO (updO (mF f 8) o (some r)) o none o = none from if_pos rfl] at n3
  simp only [oneO] at n1 n2 n3
  obtain ⟨L2, l1, l2⟩ := names_num b2
  obtain ⟨L3, l3, l4⟩ := names_num c2
  refine ⟨_, _, _, Prod.ext rfl a1, a5, a6, Prod.ext rfl b1, b5, b6, hgn, ⟨L2, l1, by omega⟩, Prod.ext rfl c1, c5, c6, L3, l3, by omega⟩
theorem new_ne {s : ByteArray} (hs : s.data.toList = [110, 101, 119]) : ∀ j, j < 8 → s.toList ≠ (nmK j).toList := fun j hj => by
  rw [ByteArray.toList_eq, ByteArray.toList_eq, hs]
  have h : ∀ j, j < 8 → ([110, 101, 119] : List UInt8) ≠ (nmK j).data.toList := by decide
  exact h j hj
end Go.Proofs.YtmjbnmbobocpdaaGreat
