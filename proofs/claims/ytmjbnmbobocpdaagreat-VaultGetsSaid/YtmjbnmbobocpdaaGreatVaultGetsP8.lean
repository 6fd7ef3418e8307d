/- What VaultGets stands on, part 8. -/
import Derived.Deep.CutRange
import Derived.Test.YtmjbnmbobocpdaaGreatVaultGetsP1
import Derived.Test.YtmjbnmbobocpdaaGreatVaultGetsP2
import Derived.Test.YtmjbnmbobocpdaaGreatVaultGetsP3
import Derived.Test.YtmjbnmbobocpdaaGreatVaultGetsP4
import Derived.Test.YtmjbnmbobocpdaaGreatVaultGetsP5
import Derived.Test.YtmjbnmbobocpdaaGreatVaultGetsP6
import Derived.Test.YtmjbnmbobocpdaaGreatVaultGetsP7
set_option maxRecDepth 100000
set_option maxHeartbeats 8000000
set_option linter.unusedVariables false
set_option linter.unusedSimpArgs false
namespace Go.Proofs.YtmjbnmbobocpdaaGreat
open Go.ChangeShapes Go.WideShapes Go.ChangeAt Go.RowKit
theorem str_eqsT {s t : ByteArray} (h : s = t) : decide (s.toList = t.toList) = true := by subst h; exact decide_eq_true rfl
theorem str_eqsF {s t : ByteArray} (h : ¬ s = t) : decide (s.toList = t.toList) = false := decide_eq_false fun e => h (by
  rw [ByteArray.toList_eq, ByteArray.toList_eq] at e
  cases s; cases t
  congr 1
  exact Array.toList_inj.1 e)
noncomputable def eqR (r r2 : RecN) : Bool := decide (r.p = r2.p) && @decide (r.s = r2.s) (Classical.propDecidable _) && decide (r.l2 = r2.l2) && decide (r.a = r2.a) && decide (r.b = r2.b) && decide (r.l5 = r2.l5) && decide (r.t = r2.t) && decide (r.c = r2.c) && decide (r.z = r2.z)
theorem eqR_iff (r r2 : RecN) : eqR r r2 = true ↔ r = r2 := by
  unfold eqR
  simp only [Bool.and_eq_true, decide_eq_true_eq]
  constructor
  · rintro ⟨⟨⟨⟨⟨⟨⟨⟨h1, h2⟩, h3⟩, h4⟩, h5⟩, h6⟩, h7⟩, h8⟩, h9⟩
    cases r; cases r2
    simp_all
  · rintro rfl; simp
theorem eqR_self (r : RecN) : eqR r r = true := (eqR_iff r r).2 rfl
theorem recs_any (r r2 : RecN) (V V2 : RecV) (ho : RecOk r) (ho2 : RecOk r2) (w : World) (hm : RecIs w r V) (hm2 : RecIs w r2 V2) :
  Calls Tryz.prog 31 #[.agg (recA r V), .agg (recA r2 V2)] w fun e w' => e = .returned (.bool (eqR r r2)) ∧ Below w.heap.size w w' := by
 refine zi (args := [.agg (recA r V), .agg (recA r2 V2)]) 70 Tryz.func31 rfl rfl rfl ?_
 intro fa F
 have M := Mx.start w
 replace M := M.argB 0 hm.h2 (fun g e => by cases e)
 replace M := M.argB 1 hm.h5 (fun g e => by cases e)
 replace M := M.argB 2 hm2.h2 (fun g e => by cases e)
 replace M := M.argB 3 hm2.h5 (fun g e => by cases e)
 refine zT fun _ hK1 => ?_
 refine zh (zb rfl) rfl F rfl M 4 (t := 37) (c := recA r V) (by unfold execOp; simp only [(F.get (t := 0) rfl)]; kernel_rfl) ?_
 intro g2 a2 w2 F2 M2
 clear F M
 refine zh (zb rfl) rfl F2 rfl M2 5 (t := 37) (c := recA r2 V2) (by unfold execOp; simp only [(F2.get (t := 1) rfl)]; kernel_rfl) ?_
 intro g3 a3 w3 F3 M3
 clear F2 M2
 refine rm rfl F3 fun _ F4 => ?_
 refine hK1 _ _ (zS fun _ hK5 => ?_)
 simp only [List.append_eq, List.cons_append, List.nil_append]
 refine zR ?_
 refine zB 4 [(2, .pointer (some ⟨g2, 0, none⟩)), (3, .pointer (some ⟨g3, 0, none⟩)), (4, .bool false), (6, .int .i64 r.p), (8, .int .i64 r2.p)] [0, 1] (zt (M3.blk (k := 4) rfl) (zt (M3.blk (k := 5) rfl) dnil)) [g2, g3] F4 fun _ F6 => ?_
 by_cases h7 : r.p = r2.p
 rotate_left
 ·refine rn rfl rfl F6 rfl (.bool false) (zsb _ _ _ _ rfl (F6.get rfl) (F6.get rfl) Tryz.underlying3 (y_beqF h7)) fun _ F56 => ?_
  refine zB 61 [(4, .bool false)] [] dnil [] F56 fun _ F57 => ?_
  refine hK5 _ _ (wp_ret ?_)
  try simp only [Exit.then, Exit.inBlock, Exit.jump]
  exact bodyPost_ret (res1 rfl (F57.get rfl)) F57.defers ⟨by rw [show eqR r r2 = false from by unfold eqR; simp [h7]], M3.below⟩
 refine rn rfl rfl F6 rfl (.bool true) (zsb _ _ _ _ rfl (F6.get rfl) (F6.get rfl) Tryz.underlying3 (y_beqT h7)) fun _ F8 => ?_
 refine zB 5 [(2, .pointer (some ⟨g2, 0, none⟩)), (3, .pointer (some ⟨g3, 0, none⟩)), (4, .bool false), (10, .bool true), (12, .string r.s), (14, .string r2.s)] [0, 1] (zt (M3.blk (k := 4) rfl) (zt (M3.blk (k := 5) rfl) dnil)) [g2, g3] F8 fun _ F9 => ?_
 by_cases h10 : r.s = r2.s
 rotate_left
 ·refine zc (w' := w3) (zf rfl rfl rfl (F9.get rfl)) rfl F9 rfl (.bool false) (y_eqS _ _ _ rfl (F9.get rfl) (F9.get rfl) (str_eqsF h10)) fun _ F54 => ?_
  refine zB 55 [(4, .bool false)] [] dnil [] F54 fun _ F55 => ?_
  refine hK5 _ _ (wp_ret ?_)
  try simp only [Exit.then, Exit.inBlock, Exit.jump]
  exact bodyPost_ret (res1 rfl (F55.get rfl)) F55.defers ⟨by rw [show eqR r r2 = false from by unfold eqR; simp [h7, h10]], M3.below⟩
 refine zc (w' := w3) (zf rfl rfl rfl (F9.get rfl)) rfl F9 rfl (.bool true) (y_eqS _ _ _ rfl (F9.get rfl) (F9.get rfl) (str_eqsT h10)) fun _ F11 => ?_
 refine zB 4 [(2, .pointer (some ⟨g2, 0, none⟩)), (3, .pointer (some ⟨g3, 0, none⟩)), (4, .bool false), (17, .bool true), (19, V.v2)] [0] (zt (M3.blk (k := 4) rfl) dnil) [g2] F11 fun _ F12 => ?_
 refine zc (w' := w3) (zf rfl rfl rfl (F12.get rfl)) rfl F12 rfl (.string (⟨(r.l2).toArray⟩)) (y_str _ rfl (F12.get rfl) (M3.isb (k := 0) rfl)) fun _ F13 => ?_
 refine zA 2 [(21, .pointer (some ⟨g3, 2, none⟩)), (22, V2.v2)] [0] (zt (M3.blk (k := 5) rfl) dnil) [g3] F13 fun _ F14 => ?_
 refine zc (w' := w3) (zf rfl rfl rfl (F14.get rfl)) rfl F14 rfl (.string (⟨(r2.l2).toArray⟩)) (y_str _ rfl (F14.get rfl) (M3.isb (k := 2) rfl)) fun _ F15 => ?_
 by_cases h16 : r.l2 = r2.l2
 rotate_left
 ·refine zc (w' := w3) (zf rfl rfl rfl (F15.get rfl)) rfl F15 rfl (.bool false) (y_eqS _ _ _ rfl (F15.get rfl) (F15.get rfl) (str_ne h16)) fun _ F52 => ?_
  refine zB 46 [(4, .bool false)] [] dnil [] F52 fun _ F53 => ?_
  refine hK5 _ _ (wp_ret ?_)
  try simp only [Exit.then, Exit.inBlock, Exit.jump]
  exact bodyPost_ret (res1 rfl (F53.get rfl)) F53.defers ⟨by rw [show eqR r r2 = false from by unfold eqR; simp [h7, h10, h16]], M3.below⟩
 refine zc (w' := w3) (zf rfl rfl rfl (F15.get rfl)) rfl F15 rfl (.bool true) (y_eqS _ _ _ rfl (F15.get rfl) (F15.get rfl) (str_eq h16)) fun _ F17 => ?_
 refine zB 6 [(2, .pointer (some ⟨g2, 0, none⟩)), (3, .pointer (some ⟨g3, 0, none⟩)), (4, .bool false), (26, .bool true), (28, numV r.a), (30, numV r2.a)] [0, 1] (zt (M3.blk (k := 4) rfl) (zt (M3.blk (k := 5) rfl) dnil)) [g2, g3] F17 fun _ F18 => ?_
 by_cases h19 : r.a = r2.a
 rotate_left
 ·refine zc (w' := w3) (zf rfl rfl rfl (F18.get rfl)) rfl F18 rfl (.bool false) (y_eqA _ _ _ _ rfl (F18.get rfl) (F18.get rfl) (by kernel_rfl) (eqn_diff ho.a ho2.a h19 _)) fun _ F50 => ?_
  refine zB 39 [(4, .bool false)] [] dnil [] F50 fun _ F51 => ?_
  refine hK5 _ _ (wp_ret ?_)
  try simp only [Exit.then, Exit.inBlock, Exit.jump]
  exact bodyPost_ret (res1 rfl (F51.get rfl)) F51.defers ⟨by rw [show eqR r r2 = false from by unfold eqR; simp [h7, h10, h16, h19]], M3.below⟩
 refine zc (w' := w3) (zf rfl rfl rfl (F18.get rfl)) rfl F18 rfl (.bool true) (y_eqA _ _ _ _ rfl (F18.get rfl) (F18.get rfl) (by kernel_rfl) (by rw [h19]; exact eqn_same _ _)) fun _ F20 => ?_
 refine zB 6 [(2, .pointer (some ⟨g2, 0, none⟩)), (3, .pointer (some ⟨g3, 0, none⟩)), (4, .bool false), (33, .bool true), (35, numV r.b), (37, numV r2.b)] [0, 1] (zt (M3.blk (k := 4) rfl) (zt (M3.blk (k := 5) rfl) dnil)) [g2, g3] F20 fun _ F21 => ?_
 by_cases h22 : r.b = r2.b
 rotate_left
 ·refine zc (w' := w3) (zf rfl rfl rfl (F21.get rfl)) rfl F21 rfl (.bool false) (y_eqA _ _ _ _ rfl (F21.get rfl) (F21.get rfl) (by kernel_rfl) (eqn_diff ho.b ho2.b h22 _)) fun _ F48 => ?_
  refine zB 32 [(4, .bool false)] [] dnil [] F48 fun _ F49 => ?_
  refine hK5 _ _ (wp_ret ?_)
  try simp only [Exit.then, Exit.inBlock, Exit.jump]
  exact bodyPost_ret (res1 rfl (F49.get rfl)) F49.defers ⟨by rw [show eqR r r2 = false from by unfold eqR; simp [h7, h10, h16, h19, h22]], M3.below⟩
 refine zc (w' := w3) (zf rfl rfl rfl (F21.get rfl)) rfl F21 rfl (.bool true) (y_eqA _ _ _ _ rfl (F21.get rfl) (F21.get rfl) (by kernel_rfl) (by rw [h22]; exact eqn_same _ _)) fun _ F23 => ?_
 refine zB 4 [(2, .pointer (some ⟨g2, 0, none⟩)), (3, .pointer (some ⟨g3, 0, none⟩)), (4, .bool false), (40, .bool true), (42, V.v5)] [0] (zt (M3.blk (k := 4) rfl) dnil) [g2] F23 fun _ F24 => ?_
 refine zc (w' := w3) (zf rfl rfl rfl (F24.get rfl)) rfl F24 rfl (.string (⟨(r.l5).toArray⟩)) (y_str _ rfl (F24.get rfl) (M3.isb (k := 1) rfl)) fun _ F25 => ?_
 refine zA 2 [(44, .pointer (some ⟨g3, 19, none⟩)), (45, V2.v5)] [0] (zt (M3.blk (k := 5) rfl) dnil) [g3] F25 fun _ F26 => ?_
 refine zc (w' := w3) (zf rfl rfl rfl (F26.get rfl)) rfl F26 rfl (.string (⟨(r2.l5).toArray⟩)) (y_str _ rfl (F26.get rfl) (M3.isb (k := 3) rfl)) fun _ F27 => ?_
 by_cases h28 : r.l5 = r2.l5
 rotate_left
 ·refine zc (w' := w3) (zf rfl rfl rfl (F27.get rfl)) rfl F27 rfl (.bool false) (y_eqS _ _ _ rfl (F27.get rfl) (F27.get rfl) (str_ne h28)) fun _ F46 => ?_
  refine zB 23 [(4, .bool false)] [] dnil [] F46 fun _ F47 => ?_
  refine hK5 _ _ (wp_ret ?_)
  try simp only [Exit.then, Exit.inBlock, Exit.jump]
  exact bodyPost_ret (res1 rfl (F47.get rfl)) F47.defers ⟨by rw [show eqR r r2 = false from by unfold eqR; simp [h7, h10, h16, h19, h22, h28]], M3.below⟩
 refine zc (w' := w3) (zf rfl rfl rfl (F27.get rfl)) rfl F27 rfl (.bool true) (y_eqS _ _ _ rfl (F27.get rfl) (F27.get rfl) (str_eq h28)) fun _ F29 => ?_
 refine zB 6 [(2, .pointer (some ⟨g2, 0, none⟩)), (3, .pointer (some ⟨g3, 0, none⟩)), (4, .bool false), (49, .bool true), (51, .int .i64 r.t), (53, .int .i64 r2.t)] [0, 1] (zt (M3.blk (k := 4) rfl) (zt (M3.blk (k := 5) rfl) dnil)) [g2, g3] F29 fun _ F30 => ?_
 by_cases h31 : r.t = r2.t
 rotate_left
 ·refine zc (w' := w3) (zf rfl rfl rfl (F30.get rfl)) rfl F30 rfl (.bool false) (zsb _ _ _ _ rfl (F30.get rfl) (F30.get rfl) Tryz.underlying3 (y_beqF h31)) fun _ F44 => ?_
  refine zB 16 [(4, .bool false)] [] dnil [] F44 fun _ F45 => ?_
  refine hK5 _ _ (wp_ret ?_)
  try simp only [Exit.then, Exit.inBlock, Exit.jump]
  exact bodyPost_ret (res1 rfl (F45.get rfl)) F45.defers ⟨by rw [show eqR r r2 = false from by unfold eqR; simp [h7, h10, h16, h19, h22, h28, h31]], M3.below⟩
 refine zc (w' := w3) (zf rfl rfl rfl (F30.get rfl)) rfl F30 rfl (.bool true) (zsb _ _ _ _ rfl (F30.get rfl) (F30.get rfl) Tryz.underlying3 (y_beqT h31)) fun _ F32 => ?_
 refine zB 6 [(2, .pointer (some ⟨g2, 0, none⟩)), (3, .pointer (some ⟨g3, 0, none⟩)), (4, .bool false), (56, .bool true), (58, .int .i64 r.c), (60, .int .i64 r2.c)] [0, 1] (zt (M3.blk (k := 4) rfl) (zt (M3.blk (k := 5) rfl) dnil)) [g2, g3] F32 fun _ F33 => ?_
 by_cases h34 : r.c = r2.c
 rotate_left
 ·refine zc (w' := w3) (zf rfl rfl rfl (F33.get rfl)) rfl F33 rfl (.bool false) (zsb _ _ _ _ rfl (F33.get rfl) (F33.get rfl) Tryz.underlying3 (y_beqF h34)) fun _ F42 => ?_
  refine zB 9 [(4, .bool false)] [] dnil [] F42 fun _ F43 => ?_
  refine hK5 _ _ (wp_ret ?_)
  try simp only [Exit.then, Exit.inBlock, Exit.jump]
  exact bodyPost_ret (res1 rfl (F43.get rfl)) F43.defers ⟨by rw [show eqR r r2 = false from by unfold eqR; simp [h7, h10, h16, h19, h22, h28, h31, h34]], M3.below⟩
 refine zc (w' := w3) (zf rfl rfl rfl (F33.get rfl)) rfl F33 rfl (.bool true) (zsb _ _ _ _ rfl (F33.get rfl) (F33.get rfl) Tryz.underlying3 (y_beqT h34)) fun _ F35 => ?_
 refine zB 6 [(4, .bool false), (63, .bool true), (65, .int .i64 r.z), (67, .int .i64 r2.z)] [0, 1] (zt (M3.blk (k := 4) rfl) (zt (M3.blk (k := 5) rfl) dnil)) [g2, g3] F35 fun _ F36 => ?_
 by_cases h37 : r.z = r2.z
 ·refine zc (w' := w3) (zf rfl rfl rfl (F36.get rfl)) rfl F36 rfl (.bool true) (zsb _ _ _ _ rfl (F36.get rfl) (F36.get rfl) Tryz.underlying3 (y_beqT h37)) fun _ F38 => ?_
  refine zB 2 [(4, .bool true)] [] dnil [] F38 fun _ F39 => ?_
  refine hK5 _ _ (wp_ret ?_)
  try simp only [Exit.then, Exit.inBlock, Exit.jump]
  exact bodyPost_ret (res1 rfl (F39.get rfl)) F39.defers ⟨by rw [show eqR r r2 = true from by unfold eqR; simp [h7, h10, h16, h19, h22, h28, h31, h34, h37]], M3.below⟩
 refine zc (w' := w3) (zf rfl rfl rfl (F36.get rfl)) rfl F36 rfl (.bool false) (zsb _ _ _ _ rfl (F36.get rfl) (F36.get rfl) Tryz.underlying3 (y_beqF h37)) fun _ F40 => ?_
 refine zB 2 [(4, .bool false)] [] dnil [] F40 fun _ F41 => ?_
 refine hK5 _ _ (wp_ret ?_)
 try simp only [Exit.then, Exit.inBlock, Exit.jump]
 exact bodyPost_ret (res1 rfl (F41.get rfl)) F41.defers ⟨by rw [show eqR r r2 = false from by unfold eqR; simp [h7, h10, h16, h19, h22, h28, h31, h34, h37]], M3.below⟩
end Go.Proofs.YtmjbnmbobocpdaaGreat
namespace Go.Proofs.YtmjbnmbobocpdaaGreat
open Go.ChangeShapes Go.WideShapes Go.ChangeAt Go.RowKit
theorem rec_is (r : RecN) (V : RecV) (ho : RecOk r) (ok : Bool) (l : List UInt8) (h1 : zka r = ok) (h2 : recE r = l) (w : World) (hm : RecIs w r V) : Calls Tryz.prog 48 #[.agg (recA r V)] w fun e w' => ∃ t, e = .returned t ∧ ∃ v, t = .tuple #[v, .bool ok] ∧ Byt w' w.heap.size v l ∧ Below w.heap.size w w' := by
  subst h1 h2; exact record_ex r V ho w hm
theorem recs_is (r r2 : RecN) (V V2 : RecV) (ho : RecOk r) (ho2 : RecOk r2) (ok : Bool) (h1 : eqR r r2 = ok) (w : World) (hm : RecIs w r V) (hm2 : RecIs w r2 V2) : Calls Tryz.prog 31 #[.agg (recA r V), .agg (recA r2 V2)] w fun e w' => e = .returned (.bool ok) ∧ Below w.heap.size w w' := by
  subst h1; exact recs_any r r2 V V2 ho ho2 w hm hm2
theorem maker_is (n : Int) (s : ByteArray) (b : List UInt8) (v : Value) (hN : -9223372036854775808 ≤ n ∧ n < 9223372036854775808) (hs : s.size ≤ 40) (hbl : b.length ≤ 1000) (r : RecN) (hr : mkR n s b = r) (w : World) (hv : IsB w b v) : Calls Tryz.prog 47 #[.int .i64 n, .string s, v] w fun e w' => ∃ t, e = .returned t ∧ ∃ V, t = .agg (recA r V) ∧ RecIs w' r V ∧ (∀ g, bfp V.v2 g ∨ bfp V.v5 g → w.heap.size ≤ g) ∧ Below w.heap.size w w' := by
  subst hr; exact make_rec n s b v hN hs hbl w hv
section
variable {G : Option Nat} {w0 w : World} {R : List (Nat × Res)}
theorem Mx.newRec {w' : World} (M : Mx G w0 w R) (h : Below w.heap.size w w') {r : RecN} {V : RecV} (hm : RecIs w' r V) (hlo : ∀ q, bfp V.v2 q ∨ bfp V.v5 q → w.heap.size ≤ q) (a b : Nat) : Mx G w0 w' ((b, bytR r.l5 V.v5) :: (a, bytR r.l2 V.v2) :: R) := by
  obtain ⟨M1, n1⟩ := (M.step h).roB2 (N := w.heap.size) (fun k s e _ g hg => M.lt k s e g hg) a hm.h2 (fun g hg => hlo g (.inl hg))
  exact (M1.roB2 n1 b hm.h5 (fun g hg => hlo g (.inr hg))).1
end
end Go.Proofs.YtmjbnmbobocpdaaGreat
namespace Go.Proofs.YtmjbnmbobocpdaaGreat
open Go.ChangeShapes Go.WideShapes Go.ChangeAt Go.RowKit
theorem HasV.step {w w' : World} {g : Nat} {V : VltN} {s n : Nat → Value} (h : HasV w g V s n) (hb : Below w.heap.size w w') : HasV w' g V s n :=
  ⟨(hb.block g (zxa h.blk)).trans h.blk, fun i hi => (h.hs i hi).step hb, fun i hi => (h.hn i hi).step hb⟩
theorem cnt_len (V : VltN) (q : Nat) (h1 : (V.c q).s.length ≤ 1000) (h2 : (V.c (q + 1)).s.length ≤ 1000) : (cntS V q).length ≤ 1000 := by
  have : ∀ b : List UInt8, (entS b).length ≤ b.length := fun b => by
    unfold entS; split
    · rw [saysL_len]; omega
    · exact Nat.zero_le _
  unfold cntS
  split
  · exact Nat.le_trans (this _) h2
  · exact Nat.le_trans (this _) h1
def zeroRec : RecN := ⟨0, "".toUTF8, [], 0, 0, [], 0, 0, 0⟩
noncomputable def saidB (V : VltN) (q : Nat) : Bool := anyB zj V q && rdOk (cntS V q)
noncomputable def zja (V : VltN) (q : Nat) : RecN := if anyB zj V q = true then rdR (cntS V q) else zeroRec
def numB (V : VltN) (q : Nat) : Bool := anyB zj V q && numOk (cntS V q)
def ztb (V : VltN) (q : Nat) : Int := if anyB zj V q = true then numI (cntS V q) else 0
theorem vrd_is (b : List UInt8) (bv : Value) (hl : b.length ≤ 100000) (ok : Bool) (r : RecN) (h1 : rdOk b = ok) (h2 : rdR b = r) (w : World) (hb : IsB w b bv) : Calls Tryz.prog 105 #[bv] w fun e w' => ∃ t, e = .returned t ∧ ∃ V, t = .tuple #[.agg (recA r V), .bool ok] ∧ RecIs w' r V ∧ (∀ q, bfp V.v2 q ∨ bfp V.v5 q → w.heap.size ≤ q) ∧ Below w.heap.size w w' := by
  subst h1 h2; exact (readrec_any b bv hl w hb).mono fun e w' ⟨V, k1, k2, k3, k4⟩ => ⟨_, k1, V, rfl, k2, k3, k4⟩
theorem vnum_is (b : List UInt8) (bv : Value) (hl : b.length ≤ 100000) (ok : Bool) (r : Int) (h1 : numOk b = ok) (h2 : numI b = r) (w : World) (hb : IsB w b bv) : Calls Tryz.prog 88 #[bv] w fun e w' => e = .returned (.tuple #[.int .i64 r, .bool ok]) ∧ Below w.heap.size w w' := by
  subst h1 h2; exact number_any b bv hl w hb
theorem countsR_is (q : Nat) (hq : q + 1 < 18) (g : Nat) (V : VltN) (s n : Nat → Value) (hv : zfa V) (b : Bool) (hA : anyB zj V q = b) (w : World) (h : HasV w g V s n) : Calls Tryz.prog 106 #[.agg #[.int .i64 (q : Int), .func (.func 105) #[] #[]], .pointer (some ⟨g, 0, none⟩)] w fun e w' => ∃ t, e = .returned t ∧ ∃ S, t = .tuple #[.agg #[.int .i64 (cntP V q : Int), .int .i64 (cntT V q), S], .bool b] ∧ IsB w (cntS V q) S ∧ (∀ b, bfp S b → bfp (s q) b ∨ bfp (s (q + 1)) b) ∧ Below w.heap.size w w' := by
  subst hA; exact (countsR q hq g V s n hv w h).mono fun e w' ⟨S, k1, k2, k3, k4⟩ => ⟨_, k1, S, rfl, k2, k3, k4⟩
theorem countsI_is (q : Nat) (hq : q + 1 < 18) (g : Nat) (V : VltN) (s n : Nat → Value) (hv : zfa V) (b : Bool) (hA : anyB zj V q = b) (w : World) (h : HasV w g V s n) : Calls Tryz.prog 89 #[.agg #[.int .i64 (q : Int), .func (.func 88) #[] #[]], .pointer (some ⟨g, 0, none⟩)] w fun e w' => ∃ t, e = .returned t ∧ ∃ S, t = .tuple #[.agg #[.int .i64 (cntP V q : Int), .int .i64 (cntT V q), S], .bool b] ∧ IsB w (cntS V q) S ∧ (∀ b, bfp S b → bfp (s q) b ∨ bfp (s (q + 1)) b) ∧ Below w.heap.size w w' := by
  subst hA; exact (countsI q hq g V s n hv w h).mono fun e w' ⟨S, k1, k2, k3, k4⟩ => ⟨_, k1, S, rfl, k2, k3, k4⟩
theorem saysR (q : Nat) (hq : q + 1 < 18) (g : Nat) (V : VltN) (s n : Nat → Value) (hv : zfa V) (w : World) (h : HasV w g V s n) :
  Calls Tryz.prog 85 #[.agg #[.int .i64 (q : Int), .func (.func 105) #[] #[]], .pointer (some ⟨g, 0, none⟩)] w fun e w' => ∃ V', e = .returned (.tuple #[.agg (recA (zja V q) V'), .bool (saidB V q)]) ∧ RecIs w' (zja V q) V' ∧ (∀ b, bfp V'.v2 b ∨ bfp V'.v5 b → w.heap.size ≤ b) ∧ Below w.heap.size w w' := by
 obtain ⟨qA, hA⟩ : ∃ x, anyB zj V q = x := ⟨_, rfl⟩
 have hcl := cnt_len V q (hv q (by omega)).1 (hv (q + 1) hq).1
 obtain ⟨qR, hR⟩ : ∃ x, rdOk (cntS V q) = x := ⟨_, rfl⟩
 rw [show saidB V q = (qA && qR) by rw [saidB, hA, hR]]
 obtain ⟨rr, hrr⟩ : ∃ x, rdR (cntS V q) = x := ⟨_, rfl⟩
 rw [show zja V q = if qA = true then rr else zeroRec by rw [zja, hA, hrr]]
 refine zi (args := [.agg (#[.int .i64 (q : Int), .func (.func 105) #[] #[]]), .pointer (some ⟨g, 0, none⟩)]) 25 Tryz.func85 rfl rfl rfl ?_
 intro fa F
 have M := Mx.start w
 replace M := M.argO 0 h.blk (fun b e => by cases e)
 refine zS fun _ hK1 => ?_
 refine zR ?_
 refine zh (zb rfl) rfl F rfl M 1 (t := 87) (c := #[.int .i64 (q : Int), .func (.func 105) #[] #[]]) (by unfold execOp; simp only [(F.get (t := 0) rfl)]; kernel_rfl) ?_
 intro g2 a2 w2 F2 M2
 clear F M
 refine zh (zb rfl) rfl F2 rfl M2 2 (t := 37) (c := recA ⟨0, "".toUTF8, [], 0, 0, [], 0, 0, 0⟩ ⟨zN, zN⟩) (by unfold execOp; kernel_rfl) ?_
 intro g3 a3 w3 F3 M3
 clear F2 M2
 refine rm rfl F3 fun _ F4 => ?_
 refine hK1 _ _ ?_
 refine zS fun _ hK5 => ?_
 refine zR ?_
 refine zc (w' := w3) (zb rfl) rfl F4 rfl _ (zna _ _ rfl (F4.get (t := 2) rfl) (M3.blk (k := 1) rfl) (#[.int .i64 (q : Int), .func (.func 105) #[] #[]]) (zra rfl) Tryz.underlying87 rfl (by kernel_rfl)) fun _ F6 => ?_
 clear F4
 refine rm rfl F6 fun _ F7 => ?_
 refine zg (zb rfl) rfl F7 rfl rfl (zE Tryz.func106 rfl) #[.agg (#[.int .i64 (q : Int), .func (.func 105) #[] #[]]), .pointer (some ⟨g, 0, none⟩)] (zha (F7.get (t := 10) rfl) (F7.get (t := 11) rfl)) (countsR_is q hq g V s n hv qA hA w3 (h.step M3.below)) ?_
 rintro _ w8 a8 ⟨S8, rfl, hS8, hf8, b8⟩ F8
 have hS0 := hS8.back M3.below (fun g hg => (hf8 g hg).elim (fun h3 => (h.hs q (by omega)).lt h3) (fun h3 => (h.hs (q + 1) hq).lt h3))
 have M8 := M3.step b8
 clear M3
 refine zB 3 [(2, .pointer (some ⟨g2, 0, none⟩)), (4, .pointer (some ⟨g3, 0, none⟩)), (5, .bool false), (13, .agg (#[.int .i64 (cntP V q : Int), .int .i64 (cntT V q), S8])), (14, .bool qA)] [] dnil [] F8 fun _ F9 => ?_
 clear F8
 refine zh (zb rfl) rfl F9 rfl M8 3 (t := 128) (c := #[.int .i64 0, .int .i64 0, zN]) (by unfold execOp; kernel_rfl) ?_
 intro g10 a10 w10 F10 M10
 clear F9 M8
 refine zm (zb rfl) rfl F10 M10 (k := 3) rfl _ _ _ rfl (F10.get (t := 6) rfl) (F10.get (t := 13) rfl) (#[.int .i64 (cntP V q : Int), .int .i64 (cntT V q), S8]) _ rfl (zL rfl) (z0a (hS0.step M10.below)) (zn rfl) (by kernel_rfl) ?_
 intro w11 M11
 clear M10
 refine rm rfl F10 fun _ F12 => ?_
 refine hK5 _ _ ?_
 refine zS fun _ hK13 => ?_
 refine zS fun _ hK14 => ?_
 refine zR ?_
 refine rm rfl F12 fun _ F15 => ?_
 cases qA
 ·refine zc (w' := w11) (zb rfl) rfl F15 rfl (.bool true) (zub _ _ rfl (F15.get (t := 15) rfl)) fun _ F16 => ?_
  clear F15
  refine hK14 _ _ ?_
  refine wp_cond_true (F16.get (t := 16) rfl) ?_
  refine zS fun _ hK17 => ?_
  refine zR ?_
  refine zh (zb rfl) rfl F16 rfl M11 4 (t := 37) (c := recA ⟨0, "".toUTF8, [], 0, 0, [], 0, 0, 0⟩ ⟨zN, zN⟩) (by unfold execOp; kernel_rfl) ?_
  intro g18 a18 w18 F18 M18
  clear F16 M11
  refine hK17 _ _ ?_
  refine zS fun _ hK19 => ?_
  refine zR ?_
  refine zc (w' := w18) (zb rfl) rfl F18 rfl _ (zna _ _ rfl (F18.get (t := 8) rfl) (M18.blk (k := 4) rfl) (recA ⟨0, "".toUTF8, [], 0, 0, [], 0, 0, 0⟩ ⟨zN, zN⟩) (zra rfl) Tryz.underlying37 rfl (by kernel_rfl)) fun _ F20 => ?_
  clear F18
  refine zm (zb rfl) rfl F20 M18 (k := 2) rfl _ _ _ rfl (F20.get (t := 4) rfl) (F20.get (t := 17) rfl) (recA ⟨0, "".toUTF8, [], 0, 0, [], 0, 0, 0⟩ ⟨zN, zN⟩) _ rfl (zL rfl) (zta (w := w18) ⟨(zla _), (zla _)⟩) (zn rfl) (by kernel_rfl) ?_
  intro w21 M21
  clear M18
  refine rm rfl F20 fun _ F22 => ?_
  refine hK19 _ _ ?_
  refine wp_ret ?_
  try simp only [Exit.then, Exit.inBlock, Exit.jump]
  exact bodyPost_ret (resCT rfl (F22.get rfl) (M21.blk (k := 2) rfl) (F22.get rfl) Tryz.underlying37 rfl (by kernel_rfl)) F22.defers ⟨⟨zN, zN⟩, rfl, ⟨zla _, zla _⟩, (fun q h => h.elim (fun h => absurd h (z5a q)) (fun h => absurd h (z5a q))), M21.below⟩
 ·refine zc (w' := w11) (zb rfl) rfl F15 rfl (.bool false) (zub _ _ rfl (F15.get (t := 15) rfl)) fun _ F23 => ?_
  clear F15
  refine hK14 _ _ ?_
  refine wp_cond_false (F23.get (t := 16) rfl) ?_
  refine wp_skip ?_
  refine hK13 _ _ ?_
  refine zS fun _ hK24 => ?_
  refine zR ?_
  refine zB 4 [(4, .pointer (some ⟨g3, 0, none⟩)), (5, .bool false), (19, .func (.func 105) #[] #[]), (21, S8)] [0, 1] (zt (M11.blk (k := 1) rfl) (zt (M11.blk (k := 3) rfl) dnil)) [g2, g10] F23 fun _ F25 => ?_
  clear F23
  refine wl_callV (zb rfl) rfl F25 rfl rfl (F25.get (t := 19) rfl) (zE Tryz.func105 rfl) #[S8] (show _ ++ _ = _ from by rw [(zx (F25.get (t := 21) rfl))]; rfl) (vrd_is (cntS V q) (S8) (by omega) qR rr hR hrr w11 (hS0.step M11.below)) ?_
  rintro _ w26 a26 ⟨V26, rfl, is26, lo26, b26⟩ F26
  have lf := fun q h => Nat.le_trans M11.le (lo26 q h)
  have M26 := M11.newRec b26 is26 lo26 4 5
  clear M11 b26 lo26
  refine zB 2 [(4, .pointer (some ⟨g3, 0, none⟩)), (5, .bool false), (23, .agg (recA rr V26)), (24, .bool qR)] [] dnil [] F26 fun _ F27 => ?_
  clear F26
  refine zm (zb rfl) rfl F27 M26 (k := 2) rfl _ _ _ rfl (F27.get (t := 4) rfl) (F27.get (t := 23) rfl) (recA rr V26) _ rfl (zL rfl) (zta (w := w26) ⟨(M26.isb (k := 4) rfl), (M26.isb (k := 5) rfl)⟩) (zn rfl) (by kernel_rfl) ?_
  intro w28 M28
  clear M26
  refine rm rfl F27 fun _ F29 => ?_
  refine hK24 _ _ ?_
  refine wp_ret ?_
  try simp only [Exit.then, Exit.inBlock, Exit.jump]
  exact bodyPost_ret (resCT rfl (F29.get rfl) (M28.blk (k := 2) rfl) (F29.get rfl) Tryz.underlying37 rfl (by kernel_rfl)) F29.defers ⟨_, rfl, ⟨(M28.isb (k := 4) rfl), (M28.isb (k := 5) rfl)⟩, lf, M28.below⟩
theorem saysI (q : Nat) (hq : q + 1 < 18) (g : Nat) (V : VltN) (s n : Nat → Value) (hv : zfa V) (w : World) (h : HasV w g V s n) :
  Calls Tryz.prog 59 #[.agg #[.int .i64 (q : Int), .func (.func 88) #[] #[]], .pointer (some ⟨g, 0, none⟩)] w fun e w' => e = .returned (.tuple #[.int .i64 (ztb V q), .bool (numB V q)]) ∧ Below w.heap.size w w' := by
 obtain ⟨qA, hA⟩ : ∃ x, anyB zj V q = x := ⟨_, rfl⟩
 have hcl := cnt_len V q (hv q (by omega)).1 (hv (q + 1) hq).1
 obtain ⟨qR, hR⟩ : ∃ x, numOk (cntS V q) = x := ⟨_, rfl⟩
 rw [show numB V q = (qA && qR) by rw [numB, hA, hR]]
 obtain ⟨rr, hrr⟩ : ∃ x, numI (cntS V q) = x := ⟨_, rfl⟩
 rw [show ztb V q = if qA = true then rr else 0 by rw [ztb, hA, hrr]]
 refine zi (args := [.agg (#[.int .i64 (q : Int), .func (.func 88) #[] #[]]), .pointer (some ⟨g, 0, none⟩)]) 25 Tryz.func59 rfl rfl rfl ?_
 intro fa F
 have M := Mx.start w
 replace M := M.argO 0 h.blk (fun b e => by cases e)
 refine zS fun _ hK1 => ?_
 refine zR ?_
 refine zh (zb rfl) rfl F rfl M 1 (t := 100) (c := #[.int .i64 (q : Int), .func (.func 88) #[] #[]]) (by unfold execOp; simp only [(F.get (t := 0) rfl)]; kernel_rfl) ?_
 intro g2 a2 w2 F2 M2
 clear F M
 refine rm rfl F2 fun _ F3 => ?_
 refine rm rfl F3 fun _ F4 => ?_
 refine hK1 _ _ ?_
 refine zS fun _ hK5 => ?_
 refine zR ?_
 refine zc (w' := w2) (zb rfl) rfl F4 rfl _ (zna _ _ rfl (F4.get (t := 2) rfl) (M2.blk (k := 1) rfl) (#[.int .i64 (q : Int), .func (.func 88) #[] #[]]) (zra rfl) Tryz.underlying100 rfl (by kernel_rfl)) fun _ F6 => ?_
 clear F4
 refine rm rfl F6 fun _ F7 => ?_
 refine zg (zb rfl) rfl F7 rfl rfl (zE Tryz.func89 rfl) #[.agg (#[.int .i64 (q : Int), .func (.func 88) #[] #[]]), .pointer (some ⟨g, 0, none⟩)] (zha (F7.get (t := 10) rfl) (F7.get (t := 11) rfl)) (countsI_is q hq g V s n hv qA hA w2 (h.step M2.below)) ?_
 rintro _ w8 a8 ⟨S8, rfl, hS8, hf8, b8⟩ F8
 have hS0 := hS8.back M2.below (fun g hg => (hf8 g hg).elim (fun h3 => (h.hs q (by omega)).lt h3) (fun h3 => (h.hs (q + 1) hq).lt h3))
 have M8 := M2.step b8
 clear M2
 refine zB 3 [(2, .pointer (some ⟨g2, 0, none⟩)), (4, .int .i64 0), (5, .bool false), (13, .agg (#[.int .i64 (cntP V q : Int), .int .i64 (cntT V q), S8])), (14, .bool qA)] [] dnil [] F8 fun _ F9 => ?_
 clear F8
 refine zh (zb rfl) rfl F9 rfl M8 2 (t := 128) (c := #[.int .i64 0, .int .i64 0, zN]) (by unfold execOp; kernel_rfl) ?_
 intro g10 a10 w10 F10 M10
 clear F9 M8
 refine zm (zb rfl) rfl F10 M10 (k := 2) rfl _ _ _ rfl (F10.get (t := 6) rfl) (F10.get (t := 13) rfl) (#[.int .i64 (cntP V q : Int), .int .i64 (cntT V q), S8]) _ rfl (zL rfl) (z0a (hS0.step M10.below)) (zn rfl) (by kernel_rfl) ?_
 intro w11 M11
 clear M10
 refine rm rfl F10 fun _ F12 => ?_
 refine hK5 _ _ ?_
 refine zS fun _ hK13 => ?_
 refine zS fun _ hK14 => ?_
 refine zR ?_
 refine rm rfl F12 fun _ F15 => ?_
 cases qA
 ·refine zc (w' := w11) (zb rfl) rfl F15 rfl (.bool true) (zub _ _ rfl (F15.get (t := 15) rfl)) fun _ F16 => ?_
  clear F15
  refine hK14 _ _ ?_
  refine wp_cond_true (F16.get (t := 16) rfl) ?_
  refine zS fun _ hK17 => ?_
  refine zR ?_
  refine rm rfl F16 fun _ F18 => ?_
  refine hK17 _ _ ?_
  refine zS fun _ hK19 => ?_
  refine zR ?_
  refine rm rfl F18 fun _ F20 => ?_
  refine rm rfl F20 fun _ F21 => ?_
  refine rm rfl F21 fun _ F22 => ?_
  refine hK19 _ _ ?_
  refine wp_ret ?_
  try simp only [Exit.then, Exit.inBlock, Exit.jump]
  exact bodyPost_ret (res2 rfl (F22.get rfl) (F22.get rfl)) F22.defers ⟨rfl, M11.below⟩
 ·refine zc (w' := w11) (zb rfl) rfl F15 rfl (.bool false) (zub _ _ rfl (F15.get (t := 15) rfl)) fun _ F23 => ?_
  clear F15
  refine hK14 _ _ ?_
  refine wp_cond_false (F23.get (t := 16) rfl) ?_
  refine wp_skip ?_
  refine hK13 _ _ ?_
  refine zS fun _ hK24 => ?_
  refine zR ?_
  refine zB 4 [(4, .int .i64 0), (5, .bool false), (19, .func (.func 88) #[] #[]), (21, S8)] [0, 1] (zt (M11.blk (k := 1) rfl) (zt (M11.blk (k := 2) rfl) dnil)) [g2, g10] F23 fun _ F25 => ?_
  clear F23
  refine wl_callV (zb rfl) rfl F25 rfl rfl (F25.get (t := 19) rfl) (zE Tryz.func88 rfl) #[S8] (show _ ++ _ = _ from by rw [(zx (F25.get (t := 21) rfl))]; rfl) (zda ((vnum_is (cntS V q) (S8) (by omega) qR rr hR hrr w11 (hS0.step M11.below)))) ?_
  rintro _ w26 a26 ⟨rfl, b26⟩ F26
  have M26 := M11.step b26
  refine zB 4 [(4, .int .i64 rr), (5, .bool qR)] [] dnil [] F26 fun _ F27 => ?_
  clear F26
  refine hK24 _ _ ?_
  refine wp_ret ?_
  try simp only [Exit.then, Exit.inBlock, Exit.jump]
  exact bodyPost_ret (res2 rfl (F27.get rfl) (F27.get rfl)) F27.defers ⟨rfl, M26.below⟩
end Go.Proofs.YtmjbnmbobocpdaaGreat
namespace Go.Proofs.YtmjbnmbobocpdaaGreat
open Go.ChangeShapes Go.WideShapes Go.ChangeAt Go.RowKit
def zua (V : VltN) (q : Nat) : Bool := !anyB zj V q || decide (((cntS V q).length : Int) = 0)
theorem empty_any (q : Nat) (hq : q + 1 < 18) (g : Nat) (V : VltN) (s n : Nat → Value) (hv : zfa V) (w : World) (h : HasV w g V s n) :
  Calls Tryz.prog 76 #[.agg #[.int .i64 (q : Int), .func (.func 105) #[] #[]], .pointer (some ⟨g, 0, none⟩)] w fun e w' => e = .returned (.bool (zua V q)) ∧ Below w.heap.size w w' := by
 obtain ⟨qA, hA⟩ : ∃ x, anyB zj V q = x := ⟨_, rfl⟩
 have hcl := cnt_len V q (hv q (by omega)).1 (hv (q + 1) hq).1
 rw [show zua V q = (!qA || decide (((cntS V q).length : Int) = 0)) by rw [zua, hA]]
 refine zi (args := [.agg (#[.int .i64 (q : Int), .func (.func 105) #[] #[]]), .pointer (some ⟨g, 0, none⟩)]) 21 Tryz.func76 rfl rfl rfl ?_
 intro fa F
 have M := Mx.start w
 replace M := M.argO 0 h.blk (fun b e => by cases e)
 refine zS fun _ hK1 => ?_
 refine zR ?_
 refine zh (zb rfl) rfl F rfl M 1 (t := 87) (c := #[.int .i64 (q : Int), .func (.func 105) #[] #[]]) (by unfold execOp; simp only [(F.get (t := 0) rfl)]; kernel_rfl) ?_
 intro g2 a2 w2 F2 M2
 clear F M
 refine rm rfl F2 fun _ F3 => ?_
 refine hK1 _ _ ?_
 refine zS fun _ hK4 => ?_
 refine zR ?_
 refine zc (w' := w2) (zb rfl) rfl F3 rfl _ (zna _ _ rfl (F3.get (t := 2) rfl) (M2.blk (k := 1) rfl) (#[.int .i64 (q : Int), .func (.func 105) #[] #[]]) (zra rfl) Tryz.underlying87 rfl (by kernel_rfl)) fun _ F5 => ?_
 clear F3
 refine rm rfl F5 fun _ F6 => ?_
 refine zg (zb rfl) rfl F6 rfl rfl (zE Tryz.func106 rfl) #[.agg (#[.int .i64 (q : Int), .func (.func 105) #[] #[]]), .pointer (some ⟨g, 0, none⟩)] (zha (F6.get (t := 8) rfl) (F6.get (t := 9) rfl)) (countsR_is q hq g V s n hv qA hA w2 (h.step M2.below)) ?_
 rintro _ w7 a7 ⟨S7, rfl, hS7, hf7, b7⟩ F7
 have hS0 := hS7.back M2.below (fun g hg => (hf7 g hg).elim (fun h3 => (h.hs q (by omega)).lt h3) (fun h3 => (h.hs (q + 1) hq).lt h3))
 have M7 := M2.step b7
 clear M2
 refine zB 3 [(4, .bool false), (11, .agg (#[.int .i64 (cntP V q : Int), .int .i64 (cntT V q), S7])), (12, .bool qA)] [] dnil [] F7 fun _ F8 => ?_
 clear F7
 refine zh (zb rfl) rfl F8 rfl M7 2 (t := 128) (c := #[.int .i64 0, .int .i64 0, zN]) (by unfold execOp; kernel_rfl) ?_
 intro g9 a9 w9 F9 M9
 clear F8 M7
 refine zm (zb rfl) rfl F9 M9 (k := 2) rfl _ _ _ rfl (F9.get (t := 5) rfl) (F9.get (t := 11) rfl) (#[.int .i64 (cntP V q : Int), .int .i64 (cntT V q), S7]) _ rfl (zL rfl) (z0a (hS0.step M9.below)) (zn rfl) (by kernel_rfl) ?_
 intro w10 M10
 clear M9
 refine rm rfl F9 fun _ F11 => ?_
 refine hK4 _ _ ?_
 refine zS fun _ hK12 => ?_
 refine zR ?_
 refine rm rfl F11 fun _ F13 => ?_
 cases qA
 ·refine zB 8 [(4, .bool true)] [] dnil [] F13 fun _ F14 => ?_
  clear F13
  refine hK12 _ _ ?_
  refine wp_ret ?_
  try simp only [Exit.then, Exit.inBlock, Exit.jump]
  exact bodyPost_ret (res1 rfl (F14.get rfl)) F14.defers ⟨rfl, M10.below⟩
 ·refine zB 4 [(4, .bool false), (15, .bool false), (17, S7)] [0] (zt (M10.blk (k := 2) rfl) dnil) [g9] F13 fun _ F15 => ?_
  clear F13
  refine zc (w' := w10) (zf rfl rfl rfl (F15.get (t := 15) rfl)) rfl F15 rfl (.int .i64 ((cntS V q).length : Int)) (zob _ rfl (F15.get (t := 17) rfl) (hS0.step M10.below) rfl) fun _ F16 => ?_
  clear F15
  by_cases h17 : ((cntS V q).length : Int) = 0
  ·refine zc (w' := w10) (zf rfl rfl rfl (F16.get (t := 15) rfl)) rfl F16 rfl (.bool true) (zsb _ _ _ _ rfl (F16.get (t := 18) rfl) rfl Tryz.underlying3 (y_beqT h17)) fun _ F18 => ?_
   clear F16
   refine zB 2 [(4, .bool true)] [] dnil [] F18 fun _ F19 => ?_
   clear F18
   refine hK12 _ _ ?_
   refine wp_ret ?_
   try simp only [Exit.then, Exit.inBlock, Exit.jump]
   exact bodyPost_ret (res1 rfl (F19.get rfl)) F19.defers ⟨(by rw [decide_eq_true h17]; rfl), M10.below⟩
  ·refine zc (w' := w10) (zf rfl rfl rfl (F16.get (t := 15) rfl)) rfl F16 rfl (.bool false) (zsb _ _ _ _ rfl (F16.get (t := 18) rfl) rfl Tryz.underlying3 (y_beqF h17)) fun _ F20 => ?_
   clear F16
   refine zB 2 [(4, .bool false)] [] dnil [] F20 fun _ F21 => ?_
   clear F20
   refine hK12 _ _ ?_
   refine wp_ret ?_
   try simp only [Exit.then, Exit.inBlock, Exit.jump]
   exact bodyPost_ret (res1 rfl (F21.get rfl)) F21.defers ⟨(by rw [decide_eq_false h17]; rfl), M10.below⟩
theorem eras_any  (w : World) :
  Calls Tryz.prog 58 #[] w fun e w' => e = .returned (.agg #[.int .i64 16, .func (.func 88) #[] #[]]) ∧ Below w.heap.size w w' := by
 refine zi (args := []) 2 Tryz.func58 rfl rfl rfl ?_
 intro fa F
 have M := Mx.start w
 refine zS fun _ hK1 => ?_
 refine zR ?_
 refine zh (zb rfl) rfl F rfl M 0 (t := 100) (c := #[.int .i64 0, .nilFunc]) (by unfold execOp; kernel_rfl) ?_
 intro g2 a2 w2 F2 M2
 clear F M
 refine hK1 _ _ ?_
 refine zS fun _ hK3 => ?_
 refine zR ?_
 refine zc (w' := w2) (zb rfl) rfl F2 rfl (.agg (#[.int .i64 16, .func (.func 88) #[] #[]])) (by unfold execOp; simp only [List.map_toArray, List.map_cons, List.map_nil, ]; kernel_rfl) fun _ F4 => ?_
 clear F2
 refine zm (zb rfl) rfl F4 M2 (k := 0) rfl _ _ _ rfl (F4.get (t := 0) rfl) (F4.get (t := 1) rfl) (#[.int .i64 16, .func (.func 88) #[] #[]]) _ rfl (zL rfl) (by first | rfl | simp [Value.oneCell']) (zn rfl) (by kernel_rfl) ?_
 intro w5 M5
 clear M2
 refine hK3 _ _ ?_
 refine wp_ret ?_
 try simp only [Exit.then, Exit.inBlock, Exit.jump]
 exact bodyPost_ret (results_cell_row rfl _ _ _ _ _ (0, 0) _ (F4.get rfl) (M5.blk (k := 0) rfl) Tryz.underlying100 rfl (by kernel_rfl)) F4.defers ⟨rfl, M5.below⟩
theorem boot_any (g : Nat) (V : VltN) (s n : Nat → Value) (hv : zfa V) (w : World) (h : HasV w g V s n) :
  Calls Tryz.prog 26 #[.pointer (some ⟨g, 0, none⟩)] w fun e w' => e = .returned (.int .i64 (ztb V 16)) ∧ Below w.heap.size w w' := by
 refine zi (args := [.pointer (some ⟨g, 0, none⟩)]) 14 Tryz.func26 rfl rfl rfl ?_
 intro fa F
 have M := Mx.start w
 replace M := M.argO 0 h.blk (fun b e => by cases e)
 refine zS fun _ hK1 => ?_
 refine zR ?_
 refine rm rfl F fun _ F2 => ?_
 refine hK1 _ _ ?_
 refine zS fun _ hK3 => ?_
 refine z3b F2 (SK [.inl (.agg (#[.int .i64 16, .func (.func 88) #[] #[]])), .inl (.pointer (some ⟨g, 0, none⟩)), .inl (.pointer (some ⟨g, 0, none⟩)), .inl (.pointer (some ⟨g, 0, none⟩)), .inl (.tuple #[.int .i64 (ztb V 16), .bool (numB V 16)]), .inl (.tuple #[.int .i64 (ztb V 16), .bool (numB V 16)]), .inl (.int .i64 (ztb V 16)), .inl (.bool (numB V 16)), .inl (.int .i64 (ztb V 16)), .inl (.bool (numB V 16))]) 10 rfl (by kernel_rfl) ⟨?_, hop0 F2 (by kernel_rfl), hop0 F2 (by kernel_rfl), hop0 F2 (by kernel_rfl), ?_, hop0 F2 (by kernel_rfl), hop0 F2 (by kernel_rfl), hop0 F2 (by kernel_rfl), hop0 F2 (by kernel_rfl), hop0 F2 (by kernel_rfl), trivial⟩ ?_
 ·intro ua uw hb hd
  exact z4b (F := (StK.eq (.agg (#[.int .i64 16, .func (.func 88) #[] #[]]))).F) (zb rfl) hb.size rfl #[] (args0) (zE Tryz.func58 rfl) (call_eqS ((eras_any uw)))
 ·intro ua uw hb hd
  have e6 : ua.eval (.tmp 6) = .agg (#[.int .i64 16, .func (.func 88) #[] #[]]) := hd 6 (by decide)
  have e9 : ua.eval (.tmp 9) = .pointer (some ⟨g, 0, none⟩) := hd 9 (by decide)
  exact z4b (F := (StK.eq (.tuple #[.int .i64 (ztb V 16), .bool (numB V 16)])).F) (zb rfl) hb.size rfl #[.agg (#[.int .i64 16, .func (.func 88) #[] #[]]), .pointer (some ⟨g, 0, none⟩)] (zha e6 e9) (zE Tryz.func59 rfl) (call_eqS ((saysI 16 (by omega) g V s n hv uw (h.step (M.step hb).below))))
 intro p5 a5 w5 b5 G5 y5
 obtain ⟨-, -, -, -, -, -, -, -, q8, -, -⟩ := y5
 have r8 : p5 8 = .int .i64 (ztb V 16) := q8 (by decide)
 simp only [List.take, layV, Nat.zero_add, Nat.reduceAdd, r8] at G5
 have M5 := M.kc b5
 clear F2 M r8 q8
 refine hK3 _ _ ?_
 refine zS fun _ hK6 => ?_
 refine zR ?_
 refine rm rfl G5 fun _ F7 => ?_
 refine rm rfl F7 fun _ F8 => ?_
 refine hK6 _ _ ?_
 refine wp_ret ?_
 try simp only [Exit.then, Exit.inBlock, Exit.jump]
 exact bodyPost_ret (res1 rfl (F8.get rfl)) F8.defers ⟨rfl, M5.below⟩
end Go.Proofs.YtmjbnmbobocpdaaGreat
namespace Go.Proofs.YtmjbnmbobocpdaaGreat
open Go.ChangeShapes Go.WideShapes Go.ChangeAt Go.RowKit
theorem dfail_any (g : Nat) (c : Nat → CelN) (fl : Bool) (lf : Int) (dd : Bool) (s n : Nat → Value) (z : Int) (w : World) (hg : w.heap[g]? = some (.cells (vltA ⟨c, fl, lf, dd⟩ s n) 80 (0, 0))) :
  Calls Tryz.prog 46 #[.pointer (some ⟨g, 0, none⟩), .int .i64 z] w fun e w' => ∃ t, e = .returned t ∧ w'.heap[g]? = some (.cells (vltA ⟨c, decide (0 ≤ z), z, dd⟩ s n) 80 (0, 0)) ∧ w.grownBy w' (some g) := by
 refine zi (args := [.pointer (some ⟨g, 0, none⟩), .int .i64 z]) 13 Tryz.func46 rfl rfl rfl ?_
 intro fa F
 have M := Mx.theG hg 0
 refine zS fun _ hK1 => ?_
 refine zR ?_
 refine rm rfl F fun _ F2 => ?_
 refine rm rfl F2 fun _ F3 => ?_
 by_cases h4 : 0 ≤ z
 ·refine zc (w' := w) (zb rfl) rfl F3 rfl (.bool true) (y_geq _ _ _ _ rfl (F3.get (t := 5) rfl) rfl (decide_eq_true h4)) fun _ F5 => ?_
  clear F3
  refine zB 2 [(0, .pointer (some ⟨g, 0, none⟩)), (1, .int .i64 z), (6, .bool true), (8, .pointer (some ⟨g, 54, none⟩))] [] dnil [] F5 fun _ F6 => ?_
  clear F5
  refine zm (zb rfl) rfl F6 M (k := 0) rfl _ _ _ rfl (F6.get (t := 8) rfl) (F6.get (t := 6) rfl) (#[.bool true]) (vltA ⟨c, true, lf, dd⟩ s n) rfl (zL rfl) (by simp [Value.oneCell']) (by kernel_rfl) (by kernel_rfl) ?_
  intro w7 M7
  clear M
  refine hK1 _ _ ?_
  refine zR ?_
  refine zB 4 [(10, .int .i64 z), (12, .pointer (some ⟨g, 55, none⟩))] [] dnil [] F6 fun _ F8 => ?_
  clear F6
  refine zm (zb rfl) rfl F8 M7 (k := 0) rfl _ _ _ rfl (F8.get (t := 12) rfl) (F8.get (t := 10) rfl) (#[.int .i64 z]) (vltA ⟨c, true, z, dd⟩ s n) rfl (zL rfl) (z5b _ _) (by kernel_rfl) (by kernel_rfl) ?_
  intro w9 M9
  clear M7
  refine wpList_nil ?_
  try simp only [Exit.then, Exit.inBlock, Exit.jump]
  exact bodyPost_end (res0 rfl) F8.defers ⟨_, rfl, (by rw [decide_eq_true h4]; exact M9.blk (k := 0) rfl), M9.grown⟩
 ·refine zc (w' := w) (zb rfl) rfl F3 rfl (.bool false) (y_geq _ _ _ _ rfl (F3.get (t := 5) rfl) rfl (decide_eq_false h4)) fun _ F10 => ?_
  clear F3
  refine zB 2 [(0, .pointer (some ⟨g, 0, none⟩)), (1, .int .i64 z), (6, .bool false), (8, .pointer (some ⟨g, 54, none⟩))] [] dnil [] F10 fun _ F11 => ?_
  clear F10
  refine zm (zb rfl) rfl F11 M (k := 0) rfl _ _ _ rfl (F11.get (t := 8) rfl) (F11.get (t := 6) rfl) (#[.bool false]) (vltA ⟨c, false, lf, dd⟩ s n) rfl (zL rfl) (by simp [Value.oneCell']) (by kernel_rfl) (by kernel_rfl) ?_
  intro w12 M12
  clear M
  refine hK1 _ _ ?_
  refine zR ?_
  refine zB 4 [(10, .int .i64 z), (12, .pointer (some ⟨g, 55, none⟩))] [] dnil [] F11 fun _ F13 => ?_
  clear F11
  refine zm (zb rfl) rfl F13 M12 (k := 0) rfl _ _ _ rfl (F13.get (t := 12) rfl) (F13.get (t := 10) rfl) (#[.int .i64 z]) (vltA ⟨c, false, z, dd⟩ s n) rfl (zL rfl) (z5b _ _) (by kernel_rfl) (by kernel_rfl) ?_
  intro w14 M14
  clear M12
  refine wpList_nil ?_
  try simp only [Exit.then, Exit.inBlock, Exit.jump]
  exact bodyPost_end (res0 rfl) F13.defers ⟨_, rfl, (by rw [decide_eq_false h4]; exact M14.blk (k := 0) rfl), M14.grown⟩
end Go.Proofs.YtmjbnmbobocpdaaGreat
namespace Go.Proofs.YtmjbnmbobocpdaaGreat
open Go.ChangeShapes Go.WideShapes Go.ChangeAt Go.RowKit
section
theorem put_n (c : Nat → CelN) (fl : Bool) (lf : Int) (dd : Bool) (s n : Nat → Value) (u : Value) : ∀ {p : Nat}, p < 18 → ((vltA ⟨c, fl, lf, dd⟩ s n).toList.take (3 * p + 1) ++ (#[u] : Array Value).toList ++ (vltA ⟨c, fl, lf, dd⟩ s n).toList.drop (3 * p + 1 + (#[u] : Array Value).size)).toArray = vltA ⟨c, fl, lf, dd⟩ s (putN n p u)
  | p, h => by
    match p, h with
    | 0, _ => show _ = _; kernel_rfl
    | 1, _ => show _ = _; kernel_rfl
    | 2, _ => show _ = _; kernel_rfl
    | 3, _ => show _ = _; kernel_rfl
    | 4, _ => show _ = _; kernel_rfl
    | 5, _ => show _ = _; kernel_rfl
    | 6, _ => show _ = _; kernel_rfl
    | 7, _ => show _ = _; kernel_rfl
    | 8, _ => show _ = _; kernel_rfl
    | 9, _ => show _ = _; kernel_rfl
    | 10, _ => show _ = _; kernel_rfl
    | 11, _ => show _ = _; kernel_rfl
    | 12, _ => show _ = _; kernel_rfl
    | 13, _ => show _ = _; kernel_rfl
    | 14, _ => show _ = _; kernel_rfl
    | 15, _ => show _ = _; kernel_rfl
    | 16, _ => show _ = _; kernel_rfl
    | 17, _ => show _ = _; kernel_rfl
    | k + 18, h => exact absurd h (by omega)
theorem put_f (c : Nat → CelN) (fl : Bool) (lf : Int) (dd : Bool) (s n : Nat → Value) (x y : List UInt8) (b : Bool) : ∀ {p : Nat}, p < 18 → ((vltA ⟨c, fl, lf, dd⟩ s n).toList.take (3 * p + 2) ++ (#[.bool b] : Array Value).toList ++ (vltA ⟨c, fl, lf, dd⟩ s n).toList.drop (3 * p + 2 + (#[.bool b] : Array Value).size)).toArray = vltA ⟨putC c p ⟨x, y, b⟩, fl, lf, dd⟩ s n
  | p, h => by
    match p, h with
    | 0, _ => show _ = _; kernel_rfl
    | 1, _ => show _ = _; kernel_rfl
    | 2, _ => show _ = _; kernel_rfl
    | 3, _ => show _ = _; kernel_rfl
    | 4, _ => show _ = _; kernel_rfl
    | 5, _ => show _ = _; kernel_rfl
    | 6, _ => show _ = _; kernel_rfl
    | 7, _ => show _ = _; kernel_rfl
    | 8, _ => show _ = _; kernel_rfl
    | 9, _ => show _ = _; kernel_rfl
    | 10, _ => show _ = _; kernel_rfl
    | 11, _ => show _ = _; kernel_rfl
    | 12, _ => show _ = _; kernel_rfl
    | 13, _ => show _ = _; kernel_rfl
    | 14, _ => show _ = _; kernel_rfl
    | 15, _ => show _ = _; kernel_rfl
    | 16, _ => show _ = _; kernel_rfl
    | 17, _ => show _ = _; kernel_rfl
    | k + 18, h => exact absurd h (by omega)
theorem put_c (c : Nat → CelN) (fl : Bool) (lf : Int) (dd : Bool) (s n : Nat → Value) (u v : Value) (x y : List UInt8) (b : Bool) : ∀ {p : Nat}, p < 18 → ((vltA ⟨c, fl, lf, dd⟩ s n).toList.take (3 * p) ++ (#[u, v, .bool b] : Array Value).toList ++ (vltA ⟨c, fl, lf, dd⟩ s n).toList.drop (3 * p + (#[u, v, .bool b] : Array Value).size)).toArray = vltA ⟨putC c p ⟨x, y, b⟩, fl, lf, dd⟩ (putN s p u) (putN n p v)
  | p, h => by
    match p, h with
    | 0, _ => show _ = _; kernel_rfl
    | 1, _ => show _ = _; kernel_rfl
    | 2, _ => show _ = _; kernel_rfl
    | 3, _ => show _ = _; kernel_rfl
    | 4, _ => show _ = _; kernel_rfl
    | 5, _ => show _ = _; kernel_rfl
    | 6, _ => show _ = _; kernel_rfl
    | 7, _ => show _ = _; kernel_rfl
    | 8, _ => show _ = _; kernel_rfl
    | 9, _ => show _ = _; kernel_rfl
    | 10, _ => show _ = _; kernel_rfl
    | 11, _ => show _ = _; kernel_rfl
    | 12, _ => show _ = _; kernel_rfl
    | 13, _ => show _ = _; kernel_rfl
    | 14, _ => show _ = _; kernel_rfl
    | 15, _ => show _ = _; kernel_rfl
    | 16, _ => show _ = _; kernel_rfl
    | 17, _ => show _ = _; kernel_rfl
    | k + 18, h => exact absurd h (by omega)
end
end Go.Proofs.YtmjbnmbobocpdaaGreat
namespace Go.Proofs.YtmjbnmbobocpdaaGreat
open Go.ChangeShapes Go.WideShapes Go.ChangeAt Go.RowKit
theorem lay_any (g : Nat) (c : Nat → CelN) (fl : Bool) (lf : Int) (dd : Bool) (s n : Nat → Value) (p bx : Nat) (hp : p < 18) (u : Value) (hu : ∃ A m k, u = .slice A m k) (l : List UInt8) (hne : ¬ bx = g) (w : World) (hbx : w.heap[bx]? = some (.cells #[u] 23 (0, 0))) (hg : w.heap[g]? = some (.cells (vltA ⟨c, fl, lf, dd⟩ s n) 80 (0, 0))) :
  Calls Tryz.prog 123 #[.pointer (some ⟨g, 3 * p, none⟩), .pointer (some ⟨bx, 0, none⟩)] w fun e w' => ∃ t, e = .returned t ∧ w'.heap[g]? = some (.cells (vltA ⟨putC c p ⟨(c p).s, l, true⟩, fl, lf, dd⟩ s (putN n p u)) 80 (0, 0)) ∧ w.grownBy w' (some g) := by
 obtain ⟨Au, mu, ku, rfl⟩ := hu
 refine zi (args := [.pointer (some ⟨g, 3 * p, none⟩), .pointer (some ⟨bx, 0, none⟩)]) 10 Tryz.func123 rfl rfl rfl ?_
 intro fa F
 have M := Mx.theG hg 0
 replace M := M.argO 1 hbx (fun b e => by cases e; exact hne)
 refine zR ?_
 refine zB 4 [(4, .pointer (some ⟨g, 3 * p, none⟩)), (5, (.slice Au mu ku)), (6, .pointer (some ⟨g, 3 * p, none⟩))] [0] (zt (M.roB (k := 1) rfl) dnil) [bx] F fun _ F1 => ?_
 clear F
 refine zc (w' := w) (zb rfl) rfl F1 rfl (.pointer (some ⟨g, 3 * p + 1, none⟩)) (y_fa (off := 1) rfl (F1.get (t := 6) rfl) (by kernel_rfl) rfl) fun _ F2 => ?_
 clear F1
 refine zm (zb rfl) rfl F2 M (k := 0) rfl _ _ _ rfl (F2.get (t := 7) rfl) (F2.get (t := 5) rfl) (#[(.slice Au mu ku)]) (vltA ⟨c, fl, lf, dd⟩ s (putN n p (.slice Au mu ku))) rfl (show 3 * p + 1 + 1 ≤ 57 by omega) (by simp [Value.oneCell']) (put_n c fl lf dd s n (.slice Au mu ku) hp) (by kernel_rfl) ?_
 intro w3 M3
 clear M
 refine zc (w' := w3) (zb rfl) rfl F2 rfl (.pointer (some ⟨g, 3 * p, none⟩)) (by unfold execOp; simp only [(F2.get (t := 4) rfl)]; kernel_rfl) fun _ F4 => ?_
 clear F2
 refine zc (w' := w3) (zb rfl) rfl F4 rfl (.pointer (some ⟨g, 3 * p + 2, none⟩)) (y_fa (off := 2) rfl (F4.get (t := 8) rfl) (by kernel_rfl) rfl) fun _ F5 => ?_
 clear F4
 refine zm (zb rfl) rfl F5 M3 (k := 0) rfl _ _ _ rfl (F5.get (t := 9) rfl) rfl (#[.bool true]) (vltA ⟨(putC c p ⟨(c p).s, l, true⟩), fl, lf, dd⟩ s (putN n p (.slice Au mu ku))) rfl (show 3 * p + 2 + 1 ≤ 57 by omega) (by simp [Value.oneCell']) (put_f c fl lf dd s (putN n p (.slice Au mu ku)) (c p).s l true hp) (by kernel_rfl) ?_
 intro w6 M6
 clear M3
 refine wpList_nil ?_
 try simp only [Exit.then, Exit.inBlock, Exit.jump]
 exact bodyPost_end (res0 rfl) F5.defers ⟨_, rfl, M6.blk (k := 0) rfl, M6.grown⟩
theorem keep_any (g : Nat) (c : Nat → CelN) (fl : Bool) (lf : Int) (dd : Bool) (s n : Nat → Value) (p : Nat) (hp : p < 18) (hu : ∃ A m k, n p = .slice A m k) (x : List UInt8) (w : World) (hg : w.heap[g]? = some (.cells (vltA ⟨c, fl, lf, dd⟩ s n) 80 (0, 0))) :
  Calls Tryz.prog 124 #[.pointer (some ⟨g, 3 * p, none⟩)] w fun e w' => ∃ t, e = .returned t ∧ w'.heap[g]? = some (.cells (vltA ⟨putC c p ⟨x, [], false⟩, fl, lf, dd⟩ (putN s p (n p)) (putN n p (zN))) 80 (0, 0)) ∧ w.grownBy w' (some g) := by
 obtain ⟨Au, mu, ku, hnu⟩ := hu
 refine zi (args := [.pointer (some ⟨g, 3 * p, none⟩)]) 9 Tryz.func124 rfl rfl rfl ?_
 intro fa F
 have M := Mx.theG hg 0
 refine zR ?_
 refine zB 3 [(2, .pointer (some ⟨g, 3 * p, none⟩)), (4, .pointer (some ⟨g, 3 * p, none⟩))] [] dnil [] F fun _ F1 => ?_
 clear F
 refine zc (w' := w) (zb rfl) rfl F1 rfl (.pointer (some ⟨g, 3 * p + 1, none⟩)) (y_fa (off := 1) rfl (F1.get (t := 4) rfl) (by kernel_rfl) rfl) fun _ F2 => ?_
 clear F1
 refine zc (w' := w) (zb rfl) rfl F2 rfl ((.slice Au mu ku)) (zba _ _ rfl (F2.get (t := 5) rfl) (M.blk (k := 0) rfl) (by rw [← hnu]; exact vlt_n ⟨c, fl, lf, dd⟩ s n hp) Tryz.underlying23 rfl) fun _ F3 => ?_
 clear F2
 refine zc (w' := w) (zb rfl) rfl F3 rfl (.agg (#[(.slice Au mu ku), zN, .bool false])) (by unfold execOp; simp only [List.map_toArray, List.map_cons, List.map_nil, (F3.get (t := 6) rfl)]; kernel_rfl) fun _ F4 => ?_
 clear F3
 refine zc (w' := w) (zb rfl) rfl F4 rfl (.pointer (some ⟨g, 3 * p, none⟩)) (by unfold execOp; simp only [(F4.get (t := 2) rfl)]; kernel_rfl) fun _ F5 => ?_
 clear F4
 refine zm (zb rfl) rfl F5 M (k := 0) rfl _ _ _ rfl (F5.get (t := 8) rfl) (F5.get (t := 7) rfl) (#[(.slice Au mu ku), zN, .bool false]) (vltA ⟨(putC c p ⟨x, [], false⟩), fl, lf, dd⟩ (putN s p (.slice Au mu ku)) (putN n p (zN))) rfl (show 3 * p + 3 ≤ 57 by omega) (by simp [Value.oneCell']) (put_c c fl lf dd s n (.slice Au mu ku) (zN) x [] false hp) (by kernel_rfl) ?_
 intro w6 M6
 clear M
 refine wpList_nil ?_
 try simp only [Exit.then, Exit.inBlock, Exit.jump]
 exact bodyPost_end (res0 rfl) F5.defers ⟨_, rfl, (by rw [hnu]; exact M6.blk (k := 0) rfl), M6.grown⟩
end Go.Proofs.YtmjbnmbobocpdaaGreat
namespace Go.Proofs.YtmjbnmbobocpdaaGreat
open Go.ChangeShapes Go.WideShapes Go.ChangeAt Go.RowKit
theorem y_subW {a : Act} {w : World} {o : Oper} (x y : Operand) (ho : o.op = .binOp .sub 3 x y 3) {p q : Int} (hx : a.eval x = .int .i64 p) (hy : a.eval y = .int .i64 q) : (execOp a.eval o).run Tryz.prog w = .ok (.value (.int .i64 (IntKind.i64.wrap (p - q)))) w := by
  unfold execOp; simp only [ho, hx, hy]; simp [go_sem]
theorem step_lay (g : Nat) (c : Nat → CelN) (fl : Bool) (lf : Int) (dd : Bool) (s n : Nat → Value) (p bx : Nat) (hp : p < 18) (u : Value) (hu : ∃ A m k, u = .slice A m k) (l : List UInt8) (hne : ¬ bx = g) (w : World) (hbx : w.heap[bx]? = some (.cells #[u] 23 (0, 0))) (hg : w.heap[g]? = some (.cells (vltA ⟨c, fl, lf, dd⟩ s n) 80 (0, 0))) :
  Calls Tryz.prog 125 #[.pointer (some ⟨g, 0, none⟩), .int .i64 (p : Int), .func (.func 123) #[] #[.pointer (some ⟨bx, 0, none⟩)]] w fun e w' => ∃ t, e = .returned t ∧ t = .bool (!(fl && decide (lf = 0))) ∧ w'.heap[g]? = some (.cells (if (fl && decide (lf = 0)) = true then vltA ⟨c, fl, lf, true⟩ s n else vltA ⟨putC c p ⟨(c p).s, l, true⟩, fl, IntKind.i64.wrap (lf - 1), dd⟩ s (putN n p u)) 80 (0, 0)) ∧ w.grownBy w' (some g) := by
 refine zi (args := [.pointer (some ⟨g, 0, none⟩), .int .i64 (p : Int), .func (.func 123) #[] #[.pointer (some ⟨bx, 0, none⟩)]]) 35 Tryz.func125 rfl rfl rfl ?_
 intro fa F
 have M := Mx.theG hg 0
 replace M := M.argO 1 hbx (fun b e => by cases e; exact hne)
 refine zS fun _ hK1 => ?_
 refine zR ?_
 refine rm rfl F fun _ F2 => ?_
 refine hK1 _ _ ?_
 refine zS fun _ hK3 => ?_
 refine zS fun _ hK4 => ?_
 refine zR ?_
 refine zB 5 [(0, .pointer (some ⟨g, 0, none⟩)), (1, .int .i64 (p : Int)), (2, .func (.func 123) #[] #[.pointer (some ⟨bx, 0, none⟩)]), (6, .bool false), (11, .bool fl)] [0] (zt (M.blk (k := 0) rfl) dnil) [g] F2 fun _ F5 => ?_
 clear F2
 cases fl
 ·refine zA 6 [(12, undef), (13, undef), (14, undef), (15, undef), (16, undef), (17, .bool false)] [] dnil [] F5 fun _ F6 => ?_
  clear F5
  refine hK4 _ _ ?_
  refine wp_cond_false (F6.get (t := 17) rfl) ?_
  refine wp_skip ?_
  refine hK3 _ _ ?_
  refine zS fun _ hK7 => ?_
  refine zR ?_
  refine zA 4 [(21, .pointer (some ⟨g, 0, none⟩)), (22, .pointer (some ⟨g, 0, none⟩)), (23, .pointer (some ⟨g, 55, none⟩)), (24, .int .i64 lf)] [0] (zt (M.blk (k := 0) rfl) dnil) [g] F6 fun _ F8 => ?_
  clear F6
  refine zc (w' := w) (zb rfl) rfl F8 rfl (.int .i64 (IntKind.i64.wrap (lf - 1))) (y_subW _ _ rfl (F8.get (t := 24) rfl) rfl) fun _ F9 => ?_
  clear F8
  refine zA 2 [(26, .pointer (some ⟨g, 0, none⟩)), (27, .pointer (some ⟨g, 55, none⟩))] [] dnil [] F9 fun _ F10 => ?_
  clear F9
  refine zm (zb rfl) rfl F10 M (k := 0) rfl _ _ _ rfl (F10.get (t := 27) rfl) (F10.get (t := 25) rfl) (#[.int .i64 (IntKind.i64.wrap (lf - 1))]) (vltA ⟨c, false, (IntKind.i64.wrap (lf - 1)), dd⟩ s n) rfl (zL rfl) (z5b _ _) (by kernel_rfl) (by kernel_rfl) ?_
  intro w11 M11
  clear M
  refine hK7 _ _ ?_
  refine zS fun _ hK12 => ?_
  refine zR ?_
  refine zB 5 [(6, .bool false), (28, .func (.func 123) #[] #[.pointer (some ⟨bx, 0, none⟩)]), (30, .int .i64 (p : Int)), (32, .pointer (some ⟨g, 0, none⟩))] [] dnil [] F10 fun _ F13 => ?_
  clear F10
  refine zc (w' := w11) (zb rfl) rfl F13 rfl (.pointer (some ⟨g, 3 * p, none⟩)) (y_ixC3 (N := 18) 76 (by kernel_rfl) (by kernel_rfl) (by kernel_rfl) rfl (F13.get (t := 32) rfl) (F13.get (t := 30) rfl) rfl hp) fun _ F14 => ?_
  clear F13
  refine wl_callV (zb rfl) rfl F14 rfl rfl (F14.get (t := 28) rfl) (zE Tryz.func123 rfl) #[.pointer (some ⟨g, 3 * p, none⟩), .pointer (some ⟨bx, 0, none⟩)] (show _ ++ _ = _ from by rw [(zx (F14.get (t := 33) rfl))]; rfl) (lay_any g c false (IntKind.i64.wrap (lf - 1)) dd s n p bx hp u hu l hne w11 (M11.roB (k := 1) rfl) (M11.blk (k := 0) rfl)) ?_
  rintro _ w15 a15 ⟨hc15, hg15⟩ F15
  have M15 := M11.put (k := 0) rfl hg15 hc15
  clear M11 hg15 hc15
  refine hK12 _ _ ?_
  refine zS fun _ hK16 => ?_
  refine zR ?_
  refine rm rfl F15 fun _ F17 => ?_
  refine hK16 _ _ ?_
  refine wp_ret ?_
  try simp only [Exit.then, Exit.inBlock, Exit.jump]
  exact bodyPost_ret (res1 rfl (F17.get rfl)) F17.defers ⟨_, rfl, rfl, (by rw [if_neg (by simp)]; exact M15.blk (k := 0) rfl), M15.grown⟩
 ·refine zA 4 [(12, .pointer (some ⟨g, 0, none⟩)), (13, .pointer (some ⟨g, 0, none⟩)), (14, .pointer (some ⟨g, 55, none⟩)), (15, .int .i64 lf)] [0] (zt (M.blk (k := 0) rfl) dnil) [g] F5 fun _ F18 => ?_
  clear F5
  by_cases h19 : lf = 0
  ·refine zc (w' := w) (zf rfl rfl rfl (F18.get (t := 11) rfl)) rfl F18 rfl (.bool true) (zsb _ _ _ _ rfl (F18.get (t := 15) rfl) rfl Tryz.underlying3 (y_beqT h19)) fun _ F20 => ?_
   clear F18
   refine zc (w' := w) (zb rfl) rfl F20 rfl (.bool true) (zbb rfl (F20.get (t := 11) rfl) (F20.get (t := 16) rfl)) fun _ F21 => ?_
   clear F20
   refine hK4 _ _ ?_
   refine wp_cond_true (F21.get (t := 17) rfl) ?_
   refine zS fun _ hK22 => ?_
   refine zR ?_
   refine zA 3 [(18, .pointer (some ⟨g, 0, none⟩)), (19, .pointer (some ⟨g, 0, none⟩)), (20, .pointer (some ⟨g, 56, none⟩))] [] dnil [] F21 fun _ F23 => ?_
   clear F21
   refine zm (zb rfl) rfl F23 M (k := 0) rfl _ _ _ rfl (F23.get (t := 20) rfl) rfl (#[.bool true]) (vltA ⟨c, true, lf, true⟩ s n) rfl (zL rfl) (by simp [Value.oneCell']) (by kernel_rfl) (by kernel_rfl) ?_
   intro w24 M24
   clear M
   refine hK22 _ _ ?_
   refine zS fun _ hK25 => ?_
   refine zR ?_
   refine rm rfl F23 fun _ F26 => ?_
   refine hK25 _ _ ?_
   refine wp_ret ?_
   try simp only [Exit.then, Exit.inBlock, Exit.jump]
   exact bodyPost_ret (res1 rfl (F26.get rfl)) F26.defers ⟨_, rfl, (by rw [decide_eq_true h19]; rfl), (by rw [if_pos (by simp [h19])]; exact M24.blk (k := 0) rfl), M24.grown⟩
  ·refine zc (w' := w) (zf rfl rfl rfl (F18.get (t := 11) rfl)) rfl F18 rfl (.bool false) (zsb _ _ _ _ rfl (F18.get (t := 15) rfl) rfl Tryz.underlying3 (y_beqF h19)) fun _ F27 => ?_
   clear F18
   refine zc (w' := w) (zb rfl) rfl F27 rfl (.bool false) (zbb rfl (F27.get (t := 11) rfl) (F27.get (t := 16) rfl)) fun _ F28 => ?_
   clear F27
   refine hK4 _ _ ?_
   refine wp_cond_false (F28.get (t := 17) rfl) ?_
   refine wp_skip ?_
   refine hK3 _ _ ?_
   refine zS fun _ hK29 => ?_
   refine zR ?_
   refine zA 4 [(21, .pointer (some ⟨g, 0, none⟩)), (22, .pointer (some ⟨g, 0, none⟩)), (23, .pointer (some ⟨g, 55, none⟩)), (24, .int .i64 lf)] [0] (zt (M.blk (k := 0) rfl) dnil) [g] F28 fun _ F30 => ?_
   clear F28
   refine zc (w' := w) (zb rfl) rfl F30 rfl (.int .i64 (IntKind.i64.wrap (lf - 1))) (y_subW _ _ rfl (F30.get (t := 24) rfl) rfl) fun _ F31 => ?_
   clear F30
   refine zA 2 [(26, .pointer (some ⟨g, 0, none⟩)), (27, .pointer (some ⟨g, 55, none⟩))] [] dnil [] F31 fun _ F32 => ?_
   clear F31
   refine zm (zb rfl) rfl F32 M (k := 0) rfl _ _ _ rfl (F32.get (t := 27) rfl) (F32.get (t := 25) rfl) (#[.int .i64 (IntKind.i64.wrap (lf - 1))]) (vltA ⟨c, true, (IntKind.i64.wrap (lf - 1)), dd⟩ s n) rfl (zL rfl) (z5b _ _) (by kernel_rfl) (by kernel_rfl) ?_
   intro w33 M33
   clear M
   refine hK29 _ _ ?_
   refine zS fun _ hK34 => ?_
   refine zR ?_
   refine zB 5 [(6, .bool false), (28, .func (.func 123) #[] #[.pointer (some ⟨bx, 0, none⟩)]), (30, .int .i64 (p : Int)), (32, .pointer (some ⟨g, 0, none⟩))] [] dnil [] F32 fun _ F35 => ?_
   clear F32
   refine zc (w' := w33) (zb rfl) rfl F35 rfl (.pointer (some ⟨g, 3 * p, none⟩)) (y_ixC3 (N := 18) 76 (by kernel_rfl) (by kernel_rfl) (by kernel_rfl) rfl (F35.get (t := 32) rfl) (F35.get (t := 30) rfl) rfl hp) fun _ F36 => ?_
   clear F35
   refine wl_callV (zb rfl) rfl F36 rfl rfl (F36.get (t := 28) rfl) (zE Tryz.func123 rfl) #[.pointer (some ⟨g, 3 * p, none⟩), .pointer (some ⟨bx, 0, none⟩)] (show _ ++ _ = _ from by rw [(zx (F36.get (t := 33) rfl))]; rfl) (lay_any g c true (IntKind.i64.wrap (lf - 1)) dd s n p bx hp u hu l hne w33 (M33.roB (k := 1) rfl) (M33.blk (k := 0) rfl)) ?_
   rintro _ w37 a37 ⟨hc37, hg37⟩ F37
   have M37 := M33.put (k := 0) rfl hg37 hc37
   clear M33 hg37 hc37
   refine hK34 _ _ ?_
   refine zS fun _ hK38 => ?_
   refine zR ?_
   refine rm rfl F37 fun _ F39 => ?_
   refine hK38 _ _ ?_
   refine wp_ret ?_
   try simp only [Exit.then, Exit.inBlock, Exit.jump]
   exact bodyPost_ret (res1 rfl (F39.get rfl)) F39.defers ⟨_, rfl, (by rw [decide_eq_false h19]; rfl), (by rw [if_neg (by simp [h19])]; exact M37.blk (k := 0) rfl), M37.grown⟩
theorem step_keep (g : Nat) (c : Nat → CelN) (fl : Bool) (lf : Int) (dd : Bool) (s n : Nat → Value) (p : Nat) (hp : p < 18) (hu : ∃ A m k, n p = .slice A m k) (x : List UInt8) (w : World) (hg : w.heap[g]? = some (.cells (vltA ⟨c, fl, lf, dd⟩ s n) 80 (0, 0))) :
  Calls Tryz.prog 125 #[.pointer (some ⟨g, 0, none⟩), .int .i64 (p : Int), .func (.func 124) #[] #[]] w fun e w' => ∃ t, e = .returned t ∧ t = .bool (!(fl && decide (lf = 0))) ∧ w'.heap[g]? = some (.cells (if (fl && decide (lf = 0)) = true then vltA ⟨c, fl, lf, true⟩ s n else vltA ⟨putC c p ⟨x, [], false⟩, fl, IntKind.i64.wrap (lf - 1), dd⟩ (putN s p (n p)) (putN n p (zN))) 80 (0, 0)) ∧ w.grownBy w' (some g) := by
 refine zi (args := [.pointer (some ⟨g, 0, none⟩), .int .i64 (p : Int), .func (.func 124) #[] #[]]) 35 Tryz.func125 rfl rfl rfl ?_
 intro fa F
 have M := Mx.theG hg 0
 refine zS fun _ hK1 => ?_
 refine zR ?_
 refine rm rfl F fun _ F2 => ?_
 refine hK1 _ _ ?_
 refine zS fun _ hK3 => ?_
 refine zS fun _ hK4 => ?_
 refine zR ?_
 refine zB 5 [(0, .pointer (some ⟨g, 0, none⟩)), (1, .int .i64 (p : Int)), (2, .func (.func 124) #[] #[]), (6, .bool false), (11, .bool fl)] [0] (zt (M.blk (k := 0) rfl) dnil) [g] F2 fun _ F5 => ?_
 clear F2
 cases fl
 ·refine zA 6 [(12, undef), (13, undef), (14, undef), (15, undef), (16, undef), (17, .bool false)] [] dnil [] F5 fun _ F6 => ?_
  clear F5
  refine hK4 _ _ ?_
  refine wp_cond_false (F6.get (t := 17) rfl) ?_
  refine wp_skip ?_
  refine hK3 _ _ ?_
  refine zS fun _ hK7 => ?_
  refine zR ?_
  refine zA 4 [(21, .pointer (some ⟨g, 0, none⟩)), (22, .pointer (some ⟨g, 0, none⟩)), (23, .pointer (some ⟨g, 55, none⟩)), (24, .int .i64 lf)] [0] (zt (M.blk (k := 0) rfl) dnil) [g] F6 fun _ F8 => ?_
  clear F6
  refine zc (w' := w) (zb rfl) rfl F8 rfl (.int .i64 (IntKind.i64.wrap (lf - 1))) (y_subW _ _ rfl (F8.get (t := 24) rfl) rfl) fun _ F9 => ?_
  clear F8
  refine zA 2 [(26, .pointer (some ⟨g, 0, none⟩)), (27, .pointer (some ⟨g, 55, none⟩))] [] dnil [] F9 fun _ F10 => ?_
  clear F9
  refine zm (zb rfl) rfl F10 M (k := 0) rfl _ _ _ rfl (F10.get (t := 27) rfl) (F10.get (t := 25) rfl) (#[.int .i64 (IntKind.i64.wrap (lf - 1))]) (vltA ⟨c, false, (IntKind.i64.wrap (lf - 1)), dd⟩ s n) rfl (zL rfl) (z5b _ _) (by kernel_rfl) (by kernel_rfl) ?_
  intro w11 M11
  clear M
  refine hK7 _ _ ?_
  refine zS fun _ hK12 => ?_
  refine zR ?_
  refine zB 5 [(6, .bool false), (28, .func (.func 124) #[] #[]), (30, .int .i64 (p : Int)), (32, .pointer (some ⟨g, 0, none⟩))] [] dnil [] F10 fun _ F13 => ?_
  clear F10
  refine zc (w' := w11) (zb rfl) rfl F13 rfl (.pointer (some ⟨g, 3 * p, none⟩)) (y_ixC3 (N := 18) 76 (by kernel_rfl) (by kernel_rfl) (by kernel_rfl) rfl (F13.get (t := 32) rfl) (F13.get (t := 30) rfl) rfl hp) fun _ F14 => ?_
  clear F13
  refine wl_callV (zb rfl) rfl F14 rfl rfl (F14.get (t := 28) rfl) (zE Tryz.func124 rfl) #[.pointer (some ⟨g, 3 * p, none⟩)] (show _ ++ _ = _ from by rw [(zx (F14.get (t := 33) rfl))]; rfl) (keep_any g c false (IntKind.i64.wrap (lf - 1)) dd s n p hp hu x w11 (M11.blk (k := 0) rfl)) ?_
  rintro _ w15 a15 ⟨hc15, hg15⟩ F15
  have M15 := M11.put (k := 0) rfl hg15 hc15
  clear M11 hg15 hc15
  refine hK12 _ _ ?_
  refine zS fun _ hK16 => ?_
  refine zR ?_
  refine rm rfl F15 fun _ F17 => ?_
  refine hK16 _ _ ?_
  refine wp_ret ?_
  try simp only [Exit.then, Exit.inBlock, Exit.jump]
  exact bodyPost_ret (res1 rfl (F17.get rfl)) F17.defers ⟨_, rfl, rfl, (by rw [if_neg (by simp)]; exact M15.blk (k := 0) rfl), M15.grown⟩
 ·refine zB 4 [(0, .pointer (some ⟨g, 0, none⟩)), (1, .int .i64 (p : Int)), (2, .func (.func 124) #[] #[]), (6, .bool false), (11, .bool true), (15, .int .i64 lf)] [0] (zt (M.blk (k := 0) rfl) dnil) [g] F5 fun _ F18 => ?_
  clear F5
  by_cases h19 : lf = 0
  ·refine zc (w' := w) (zf rfl rfl rfl (F18.get (t := 11) rfl)) rfl F18 rfl (.bool true) (zsb _ _ _ _ rfl (F18.get (t := 15) rfl) rfl Tryz.underlying3 (y_beqT h19)) fun _ F20 => ?_
   clear F18
   refine zc (w' := w) (zb rfl) rfl F20 rfl (.bool true) (zbb rfl (F20.get (t := 11) rfl) (F20.get (t := 16) rfl)) fun _ F21 => ?_
   clear F20
   refine hK4 _ _ ?_
   refine wp_cond_true (F21.get (t := 17) rfl) ?_
   refine zS fun _ hK22 => ?_
   refine zR ?_
   refine zA 3 [(18, .pointer (some ⟨g, 0, none⟩)), (19, .pointer (some ⟨g, 0, none⟩)), (20, .pointer (some ⟨g, 56, none⟩))] [] dnil [] F21 fun _ F23 => ?_
   clear F21
   refine zm (zb rfl) rfl F23 M (k := 0) rfl _ _ _ rfl (F23.get (t := 20) rfl) rfl (#[.bool true]) (vltA ⟨c, true, lf, true⟩ s n) rfl (zL rfl) (by simp [Value.oneCell']) (by kernel_rfl) (by kernel_rfl) ?_
   intro w24 M24
   clear M
   refine hK22 _ _ ?_
   refine zS fun _ hK25 => ?_
   refine zR ?_
   refine rm rfl F23 fun _ F26 => ?_
   refine hK25 _ _ ?_
   refine wp_ret ?_
   try simp only [Exit.then, Exit.inBlock, Exit.jump]
   exact bodyPost_ret (res1 rfl (F26.get rfl)) F26.defers ⟨_, rfl, (by rw [decide_eq_true h19]; rfl), (by rw [if_pos (by simp [h19])]; exact M24.blk (k := 0) rfl), M24.grown⟩
  ·refine zc (w' := w) (zf rfl rfl rfl (F18.get (t := 11) rfl)) rfl F18 rfl (.bool false) (zsb _ _ _ _ rfl (F18.get (t := 15) rfl) rfl Tryz.underlying3 (y_beqF h19)) fun _ F27 => ?_
   clear F18
   refine zc (w' := w) (zb rfl) rfl F27 rfl (.bool false) (zbb rfl (F27.get (t := 11) rfl) (F27.get (t := 16) rfl)) fun _ F28 => ?_
   clear F27
   refine hK4 _ _ ?_
   refine wp_cond_false (F28.get (t := 17) rfl) ?_
   refine wp_skip ?_
   refine hK3 _ _ ?_
   refine zS fun _ hK29 => ?_
   refine zR ?_
   refine zA 4 [(21, .pointer (some ⟨g, 0, none⟩)), (22, .pointer (some ⟨g, 0, none⟩)), (23, .pointer (some ⟨g, 55, none⟩)), (24, .int .i64 lf)] [0] (zt (M.blk (k := 0) rfl) dnil) [g] F28 fun _ F30 => ?_
   clear F28
   refine zc (w' := w) (zb rfl) rfl F30 rfl (.int .i64 (IntKind.i64.wrap (lf - 1))) (y_subW _ _ rfl (F30.get (t := 24) rfl) rfl) fun _ F31 => ?_
   clear F30
   refine zA 2 [(26, .pointer (some ⟨g, 0, none⟩)), (27, .pointer (some ⟨g, 55, none⟩))] [] dnil [] F31 fun _ F32 => ?_
   clear F31
   refine zm (zb rfl) rfl F32 M (k := 0) rfl _ _ _ rfl (F32.get (t := 27) rfl) (F32.get (t := 25) rfl) (#[.int .i64 (IntKind.i64.wrap (lf - 1))]) (vltA ⟨c, true, (IntKind.i64.wrap (lf - 1)), dd⟩ s n) rfl (zL rfl) (z5b _ _) (by kernel_rfl) (by kernel_rfl) ?_
   intro w33 M33
   clear M
   refine hK29 _ _ ?_
   refine zS fun _ hK34 => ?_
   refine zR ?_
   refine zB 5 [(6, .bool false), (28, .func (.func 124) #[] #[]), (30, .int .i64 (p : Int)), (32, .pointer (some ⟨g, 0, none⟩))] [] dnil [] F32 fun _ F35 => ?_
   clear F32
   refine zc (w' := w33) (zb rfl) rfl F35 rfl (.pointer (some ⟨g, 3 * p, none⟩)) (y_ixC3 (N := 18) 76 (by kernel_rfl) (by kernel_rfl) (by kernel_rfl) rfl (F35.get (t := 32) rfl) (F35.get (t := 30) rfl) rfl hp) fun _ F36 => ?_
   clear F35
   refine wl_callV (zb rfl) rfl F36 rfl rfl (F36.get (t := 28) rfl) (zE Tryz.func124 rfl) #[.pointer (some ⟨g, 3 * p, none⟩)] (show _ ++ _ = _ from by rw [(zx (F36.get (t := 33) rfl))]; rfl) (keep_any g c true (IntKind.i64.wrap (lf - 1)) dd s n p hp hu x w33 (M33.blk (k := 0) rfl)) ?_
   rintro _ w37 a37 ⟨hc37, hg37⟩ F37
   have M37 := M33.put (k := 0) rfl hg37 hc37
   clear M33 hg37 hc37
   refine hK34 _ _ ?_
   refine zS fun _ hK38 => ?_
   refine zR ?_
   refine rm rfl F37 fun _ F39 => ?_
   refine hK38 _ _ ?_
   refine wp_ret ?_
   try simp only [Exit.then, Exit.inBlock, Exit.jump]
   exact bodyPost_ret (res1 rfl (F39.get rfl)) F39.defers ⟨_, rfl, (by rw [decide_eq_false h19]; rfl), (by rw [if_neg (by simp [h19])]; exact M37.blk (k := 0) rfl), M37.grown⟩
end Go.Proofs.YtmjbnmbobocpdaaGreat
namespace Go.Proofs.YtmjbnmbobocpdaaGreat
open Go.ChangeShapes Go.WideShapes Go.ChangeAt Go.RowKit
theorem putN_at (s : Nat → Value) (p : Nat) (v : Value) : putN s p v p = v := if_pos rfl
theorem step_lay_t (g : Nat) (c : Nat → CelN) (fl : Bool) (lf : Int) (dd : Bool) (s n : Nat → Value) (p bx : Nat) (hp : p < 18) (u : Value) (hu : ∃ A m k, u = .slice A m k) (l : List UInt8) (hne : ¬ bx = g) (hf : (fl && decide (lf = 0)) = true) (w : World) (hbx : w.heap[bx]? = some (.cells #[u] 23 (0, 0))) (hg : w.heap[g]? = some (.cells (vltA ⟨c, fl, lf, dd⟩ s n) 80 (0, 0))) :
    Calls Tryz.prog 125 #[.pointer (some ⟨g, 0, none⟩), .int .i64 (p : Int), .func (.func 123) #[] #[.pointer (some ⟨bx, 0, none⟩)]] w fun e w' => ∃ t, e = .returned t ∧ t = .bool false ∧ w'.heap[g]? = some (.cells (vltA ⟨c, fl, lf, true⟩ s n) 80 (0, 0)) ∧ w.grownBy w' (some g) :=
  (step_lay g c fl lf dd s n p bx hp u hu l hne w hbx hg).mono fun e w' ⟨t, h1, h2, h3, h4⟩ => ⟨t, h1, (by simp only [hf, Bool.not_true, Bool.not_false] at h2; exact h2), (by simp only [hf, if_true, Bool.false_eq_true, if_false] at h3; exact h3), h4⟩
theorem step_lay_f (g : Nat) (c : Nat → CelN) (fl : Bool) (lf : Int) (dd : Bool) (s n : Nat → Value) (p bx : Nat) (hp : p < 18) (u : Value) (hu : ∃ A m k, u = .slice A m k) (l : List UInt8) (hne : ¬ bx = g) (hf : (fl && decide (lf = 0)) = false) (w : World) (hbx : w.heap[bx]? = some (.cells #[u] 23 (0, 0))) (hg : w.heap[g]? = some (.cells (vltA ⟨c, fl, lf, dd⟩ s n) 80 (0, 0))) :
    Calls Tryz.prog 125 #[.pointer (some ⟨g, 0, none⟩), .int .i64 (p : Int), .func (.func 123) #[] #[.pointer (some ⟨bx, 0, none⟩)]] w fun e w' => ∃ t, e = .returned t ∧ t = .bool true ∧ w'.heap[g]? = some (.cells (vltA ⟨putC c p ⟨(c p).s, l, true⟩, fl, IntKind.i64.wrap (lf - 1), dd⟩ s (putN n p u)) 80 (0, 0)) ∧ w.grownBy w' (some g) :=
  (step_lay g c fl lf dd s n p bx hp u hu l hne w hbx hg).mono fun e w' ⟨t, h1, h2, h3, h4⟩ => ⟨t, h1, (by simp only [hf, Bool.not_true, Bool.not_false] at h2; exact h2), (by simp only [hf, if_true, Bool.false_eq_true, if_false] at h3; exact h3), h4⟩
theorem step_keep_t (g : Nat) (c : Nat → CelN) (fl : Bool) (lf : Int) (dd : Bool) (s n : Nat → Value) (p : Nat) (hp : p < 18) (hu : ∃ A m k, n p = .slice A m k) (x : List UInt8) (hf : (fl && decide (lf = 0)) = true) (w : World) (hg : w.heap[g]? = some (.cells (vltA ⟨c, fl, lf, dd⟩ s n) 80 (0, 0))) :
    Calls Tryz.prog 125 #[.pointer (some ⟨g, 0, none⟩), .int .i64 (p : Int), .func (.func 124) #[] #[]] w fun e w' => ∃ t, e = .returned t ∧ t = .bool false ∧ w'.heap[g]? = some (.cells (vltA ⟨c, fl, lf, true⟩ s n) 80 (0, 0)) ∧ w.grownBy w' (some g) :=
  (step_keep g c fl lf dd s n p hp hu x w hg).mono fun e w' ⟨t, h1, h2, h3, h4⟩ => ⟨t, h1, (by simp only [hf, Bool.not_true, Bool.not_false] at h2; exact h2), (by simp only [hf, if_true, Bool.false_eq_true, if_false] at h3; exact h3), h4⟩
theorem step_keep_f (g : Nat) (c : Nat → CelN) (fl : Bool) (lf : Int) (dd : Bool) (s n : Nat → Value) (p : Nat) (hp : p < 18) (hu : ∃ A m k, n p = .slice A m k) (x : List UInt8) (hf : (fl && decide (lf = 0)) = false) (w : World) (hg : w.heap[g]? = some (.cells (vltA ⟨c, fl, lf, dd⟩ s n) 80 (0, 0))) :
    Calls Tryz.prog 125 #[.pointer (some ⟨g, 0, none⟩), .int .i64 (p : Int), .func (.func 124) #[] #[]] w fun e w' => ∃ t, e = .returned t ∧ t = .bool true ∧ w'.heap[g]? = some (.cells (vltA ⟨putC c p ⟨x, [], false⟩, fl, IntKind.i64.wrap (lf - 1), dd⟩ (putN s p (n p)) (putN n p (zN))) 80 (0, 0)) ∧ w.grownBy w' (some g) :=
  (step_keep g c fl lf dd s n p hp hu x w hg).mono fun e w' ⟨t, h1, h2, h3, h4⟩ => ⟨t, h1, (by simp only [hf, Bool.not_true, Bool.not_false] at h2; exact h2), (by simp only [hf, if_true, Bool.false_eq_true, if_false] at h3; exact h3), h4⟩
theorem dwrite_1 (g : Nat) (c : Nat → CelN) (fl : Bool) (lf : Int) (dd : Bool) (s n : Nat → Value) (p : Nat) (hp : p < 18) (u : Value) (hu : ∃ A m k, u = .slice A m k) (l : List UInt8) (hf1 : (fl && decide (lf = 0)) = true) (w : World) (hg : w.heap[g]? = some (.cells (vltA ⟨c, fl, lf, dd⟩ s n) 80 (0, 0))) :
  Calls Tryz.prog 98 #[.pointer (some ⟨g, 0, none⟩), .int .i64 (p : Int), u] w fun e w' => ∃ t, e = .returned t ∧ t = .bool false ∧ w'.heap[g]? = some (.cells (vltA ⟨c, fl, lf, true⟩ s n) 80 (0, 0)) ∧ w.grownBy w' (some g) := by
 obtain ⟨Au, mu, ku, rfl⟩ := hu
 refine zi (args := [.pointer (some ⟨g, 0, none⟩), .int .i64 (p : Int), (.slice Au mu ku)]) 20 Tryz.func98 rfl rfl rfl ?_
 intro fa F
 have M := Mx.theG hg 0
 refine zS fun _ hK1 => ?_
 refine zR ?_
 refine zh (zb rfl) rfl F rfl M 1 (t := 23) (c := #[(.slice Au mu ku)]) (by unfold execOp; simp only [(F.get (t := 2) rfl)]; kernel_rfl) ?_
 intro g2 a2 w2 F2 M2
 clear F M
 refine rm rfl F2 fun _ F3 => ?_
 refine hK1 _ _ ?_
 refine zS fun _ hK4 => ?_
 refine zR ?_
 refine zc (w' := w2) (zb rfl) rfl F3 rfl (.func (.func 123) #[] #[.pointer (some ⟨g2, 0, none⟩)]) (by unfold execOp; simp only [List.map_toArray, List.map_cons, List.map_nil, (F3.get (t := 5) rfl)]; kernel_rfl) fun _ F5 => ?_
 clear F3
 refine rm rfl F5 fun _ F6 => ?_
 refine hK4 _ _ ?_
 refine zS fun _ hK7 => ?_
 refine zR ?_
 refine zc (w' := w2) (zb rfl) rfl F6 rfl (.func (.func 124) #[] #[]) (zaa _ (.inr rfl) rfl) fun _ F8 => ?_
 clear F6
 refine hK7 _ _ ?_
 refine zS fun _ hK9 => ?_
 refine zR ?_
 refine rm rfl F8 fun _ F10 => ?_
 refine rm rfl F10 fun _ F11 => ?_
 refine rm rfl F11 fun _ F12 => ?_
 refine zg (zb rfl) rfl F12 rfl rfl (zE Tryz.func125 rfl) #[.pointer (some ⟨g, 0, none⟩), .int .i64 (p : Int), .func (.func 123) #[] #[.pointer (some ⟨g2, 0, none⟩)]] (args3 (F12.get (t := 10) rfl) (F12.get (t := 11) rfl) (F12.get (t := 12) rfl)) (step_lay_t g c fl lf dd s n p g2 hp (.slice Au mu ku) ⟨Au, mu, ku, rfl⟩ l (fun e => M2.dis 0 1 _ _ rfl rfl (by decide) rfl g rfl e.symm) hf1 w2 (M2.blk (k := 1) rfl) (M2.blk (k := 0) rfl)) ?_
 rintro _ w13 a13 ⟨rfl, hc13, hg13⟩ F13
 have M13 := M2.put (k := 0) rfl hg13 hc13
 clear M2 hg13 hc13
 refine zB 7 [(6, .bool false)] [] dnil [] F13 fun _ F14 => ?_
 clear F13
 refine hK9 _ _ ?_
 refine wp_ret ?_
 try simp only [Exit.then, Exit.inBlock, Exit.jump]
 exact bodyPost_ret (res1 rfl (F14.get rfl)) F14.defers ⟨_, rfl, rfl, M13.blk (k := 0) rfl, M13.grown⟩
theorem dwrite_2 (g : Nat) (c : Nat → CelN) (fl : Bool) (lf : Int) (dd : Bool) (s n : Nat → Value) (p : Nat) (hp : p < 18) (u : Value) (hu : ∃ A m k, u = .slice A m k) (l : List UInt8) (hf1 : (fl && decide (lf = 0)) = false) (hf2 : (fl && decide ((IntKind.i64.wrap (lf - 1)) = 0)) = true) (w : World) (hg : w.heap[g]? = some (.cells (vltA ⟨c, fl, lf, dd⟩ s n) 80 (0, 0))) :
  Calls Tryz.prog 98 #[.pointer (some ⟨g, 0, none⟩), .int .i64 (p : Int), u] w fun e w' => ∃ t, e = .returned t ∧ t = .bool false ∧ w'.heap[g]? = some (.cells (vltA ⟨(putC c p ⟨(c p).s, l, true⟩), fl, (IntKind.i64.wrap (lf - 1)), true⟩ s (putN n p u)) 80 (0, 0)) ∧ w.grownBy w' (some g) := by
 obtain ⟨Au, mu, ku, rfl⟩ := hu
 refine zi (args := [.pointer (some ⟨g, 0, none⟩), .int .i64 (p : Int), (.slice Au mu ku)]) 20 Tryz.func98 rfl rfl rfl ?_
 intro fa F
 have M := Mx.theG hg 0
 refine zS fun _ hK1 => ?_
 refine zR ?_
 refine zh (zb rfl) rfl F rfl M 1 (t := 23) (c := #[(.slice Au mu ku)]) (by unfold execOp; simp only [(F.get (t := 2) rfl)]; kernel_rfl) ?_
 intro g2 a2 w2 F2 M2
 clear F M
 refine rm rfl F2 fun _ F3 => ?_
 refine hK1 _ _ ?_
 refine zS fun _ hK4 => ?_
 refine zR ?_
 refine zc (w' := w2) (zb rfl) rfl F3 rfl (.func (.func 123) #[] #[.pointer (some ⟨g2, 0, none⟩)]) (by unfold execOp; simp only [List.map_toArray, List.map_cons, List.map_nil, (F3.get (t := 5) rfl)]; kernel_rfl) fun _ F5 => ?_
 clear F3
 refine rm rfl F5 fun _ F6 => ?_
 refine hK4 _ _ ?_
 refine zS fun _ hK7 => ?_
 refine zR ?_
 refine zc (w' := w2) (zb rfl) rfl F6 rfl (.func (.func 124) #[] #[]) (zaa _ (.inr rfl) rfl) fun _ F8 => ?_
 clear F6
 refine hK7 _ _ ?_
 refine zS fun _ hK9 => ?_
 refine zR ?_
 refine rm rfl F8 fun _ F10 => ?_
 refine rm rfl F10 fun _ F11 => ?_
 refine rm rfl F11 fun _ F12 => ?_
 refine zg (zb rfl) rfl F12 rfl rfl (zE Tryz.func125 rfl) #[.pointer (some ⟨g, 0, none⟩), .int .i64 (p : Int), .func (.func 123) #[] #[.pointer (some ⟨g2, 0, none⟩)]] (args3 (F12.get (t := 10) rfl) (F12.get (t := 11) rfl) (F12.get (t := 12) rfl)) (step_lay_f g c fl lf dd s n p g2 hp (.slice Au mu ku) ⟨Au, mu, ku, rfl⟩ l (fun e => M2.dis 0 1 _ _ rfl rfl (by decide) rfl g rfl e.symm) hf1 w2 (M2.blk (k := 1) rfl) (M2.blk (k := 0) rfl)) ?_
 rintro _ w13 a13 ⟨rfl, hc13, hg13⟩ F13
 have M13 := M2.put (k := 0) rfl hg13 hc13
 clear M2 hg13 hc13
 refine rm rfl F13 fun _ F14 => ?_
 refine rm rfl F14 fun _ F15 => ?_
 refine rm rfl F15 fun _ F16 => ?_
 refine rm rfl F16 fun _ F17 => ?_
 refine zg (zf rfl rfl rfl (F17.get (t := 14) rfl)) rfl F17 rfl rfl (zE Tryz.func125 rfl) #[.pointer (some ⟨g, 0, none⟩), .int .i64 (p : Int), .func (.func 124) #[] #[]] (args3 (F17.get (t := 15) rfl) (F17.get (t := 16) rfl) (F17.get (t := 17) rfl)) (step_keep_t g (putC c p ⟨(c p).s, l, true⟩) fl (IntKind.i64.wrap (lf - 1)) dd s (putN n p (.slice Au mu ku)) p hp (by rw [putN_at]; exact ⟨Au, mu, ku, rfl⟩) l hf2 w13 (M13.blk (k := 0) rfl)) ?_
 rintro _ w18 a18 ⟨rfl, hc18, hg18⟩ F18
 have M18 := M13.put (k := 0) rfl hg18 hc18
 clear M13 hg18 hc18
 refine zB 2 [(6, .bool false)] [] dnil [] F18 fun _ F19 => ?_
 clear F18
 refine hK9 _ _ ?_
 refine wp_ret ?_
 try simp only [Exit.then, Exit.inBlock, Exit.jump]
 exact bodyPost_ret (res1 rfl (F19.get rfl)) F19.defers ⟨_, rfl, rfl, M18.blk (k := 0) rfl, M18.grown⟩
theorem dwrite_3 (g : Nat) (c : Nat → CelN) (fl : Bool) (lf : Int) (dd : Bool) (s n : Nat → Value) (p : Nat) (hp : p < 18) (u : Value) (hu : ∃ A m k, u = .slice A m k) (l : List UInt8) (hf1 : (fl && decide (lf = 0)) = false) (hf2 : (fl && decide ((IntKind.i64.wrap (lf - 1)) = 0)) = false) (w : World) (hg : w.heap[g]? = some (.cells (vltA ⟨c, fl, lf, dd⟩ s n) 80 (0, 0))) :
  Calls Tryz.prog 98 #[.pointer (some ⟨g, 0, none⟩), .int .i64 (p : Int), u] w fun e w' => ∃ t, e = .returned t ∧ t = .bool true ∧ w'.heap[g]? = some (.cells (vltA ⟨putC (putC c p ⟨(c p).s, l, true⟩) p ⟨l, [], false⟩, fl, IntKind.i64.wrap ((IntKind.i64.wrap (lf - 1)) - 1), dd⟩ (putN s p ((putN n p u) p)) (putN (putN n p u) p (zN))) 80 (0, 0)) ∧ w.grownBy w' (some g) := by
 obtain ⟨Au, mu, ku, rfl⟩ := hu
 refine zi (args := [.pointer (some ⟨g, 0, none⟩), .int .i64 (p : Int), (.slice Au mu ku)]) 20 Tryz.func98 rfl rfl rfl ?_
 intro fa F
 have M := Mx.theG hg 0
 refine zS fun _ hK1 => ?_
 refine zR ?_
 refine zh (zb rfl) rfl F rfl M 1 (t := 23) (c := #[(.slice Au mu ku)]) (by unfold execOp; simp only [(F.get (t := 2) rfl)]; kernel_rfl) ?_
 intro g2 a2 w2 F2 M2
 clear F M
 refine rm rfl F2 fun _ F3 => ?_
 refine hK1 _ _ ?_
 refine zS fun _ hK4 => ?_
 refine zR ?_
 refine zc (w' := w2) (zb rfl) rfl F3 rfl (.func (.func 123) #[] #[.pointer (some ⟨g2, 0, none⟩)]) (by unfold execOp; simp only [List.map_toArray, List.map_cons, List.map_nil, (F3.get (t := 5) rfl)]; kernel_rfl) fun _ F5 => ?_
 clear F3
 refine rm rfl F5 fun _ F6 => ?_
 refine hK4 _ _ ?_
 refine zS fun _ hK7 => ?_
 refine zR ?_
 refine zc (w' := w2) (zb rfl) rfl F6 rfl (.func (.func 124) #[] #[]) (zaa _ (.inr rfl) rfl) fun _ F8 => ?_
 clear F6
 refine hK7 _ _ ?_
 refine zS fun _ hK9 => ?_
 refine zR ?_
 refine rm rfl F8 fun _ F10 => ?_
 refine rm rfl F10 fun _ F11 => ?_
 refine rm rfl F11 fun _ F12 => ?_
 refine zg (zb rfl) rfl F12 rfl rfl (zE Tryz.func125 rfl) #[.pointer (some ⟨g, 0, none⟩), .int .i64 (p : Int), .func (.func 123) #[] #[.pointer (some ⟨g2, 0, none⟩)]] (args3 (F12.get (t := 10) rfl) (F12.get (t := 11) rfl) (F12.get (t := 12) rfl)) (step_lay_f g c fl lf dd s n p g2 hp (.slice Au mu ku) ⟨Au, mu, ku, rfl⟩ l (fun e => M2.dis 0 1 _ _ rfl rfl (by decide) rfl g rfl e.symm) hf1 w2 (M2.blk (k := 1) rfl) (M2.blk (k := 0) rfl)) ?_
 rintro _ w13 a13 ⟨rfl, hc13, hg13⟩ F13
 have M13 := M2.put (k := 0) rfl hg13 hc13
 clear M2 hg13 hc13
 refine rm rfl F13 fun _ F14 => ?_
 refine rm rfl F14 fun _ F15 => ?_
 refine rm rfl F15 fun _ F16 => ?_
 refine rm rfl F16 fun _ F17 => ?_
 refine zg (zf rfl rfl rfl (F17.get (t := 14) rfl)) rfl F17 rfl rfl (zE Tryz.func125 rfl) #[.pointer (some ⟨g, 0, none⟩), .int .i64 (p : Int), .func (.func 124) #[] #[]] (args3 (F17.get (t := 15) rfl) (F17.get (t := 16) rfl) (F17.get (t := 17) rfl)) (step_keep_f g (putC c p ⟨(c p).s, l, true⟩) fl (IntKind.i64.wrap (lf - 1)) dd s (putN n p (.slice Au mu ku)) p hp (by rw [putN_at]; exact ⟨Au, mu, ku, rfl⟩) l hf2 w13 (M13.blk (k := 0) rfl)) ?_
 rintro _ w18 a18 ⟨rfl, hc18, hg18⟩ F18
 have M18 := M13.put (k := 0) rfl hg18 hc18
 clear M13 hg18 hc18
 refine zB 2 [(6, .bool true)] [] dnil [] F18 fun _ F19 => ?_
 clear F18
 refine hK9 _ _ ?_
 refine wp_ret ?_
 try simp only [Exit.then, Exit.inBlock, Exit.jump]
 exact bodyPost_ret (res1 rfl (F19.get rfl)) F19.defers ⟨_, rfl, rfl, M18.blk (k := 0) rfl, M18.grown⟩
end Go.Proofs.YtmjbnmbobocpdaaGreat
namespace Go.Proofs.YtmjbnmbobocpdaaGreat
open Go.ChangeShapes Go.WideShapes Go.ChangeAt Go.RowKit
def RowsV (w : World) (g : Nat) (c : Nat → CelN) (s n : Nat → Value) : Prop := ∀ i, i < 18 → (IsB w (c i).s (s i) ∧ ¬ bfp (s i) g) ∧ (IsB w (c i).n (n i) ∧ ¬ bfp (n i) g)
def zo (N : Nat) (s n : Nat → Value) (b : Nat) : Prop := ∃ i, i < N ∧ (bfp (s i) b ∨ bfp (n i) b)
theorem rowsfp_lay {s n : Nat → Value} {p : Nat} {u : Value} {b : Nat} (h : zo 18 s (putN n p u) b) : zo 18 s n b ∨ bfp u b := by
  obtain ⟨i, hi, hb⟩ := h
  rcases hb with hb | hb
  · exact .inl ⟨i, hi, .inl hb⟩
  · by_cases e : i = p
    · subst e
      rw [show putN n i u i = u from if_pos rfl] at hb
      exact .inr hb
    · rw [show putN n p u i = n i from if_neg e] at hb
      exact .inl ⟨i, hi, .inr hb⟩
theorem rowsfp_keep {s n : Nat → Value} {p : Nat} (hp : p < 18) {b : Nat} (h : zo 18 (putN s p (n p)) (putN n p (zN)) b) : zo 18 s n b := by
  obtain ⟨i, hi, hb⟩ := h
  by_cases e : i = p
  · subst e
    rw [show putN s i (n i) i = n i from if_pos rfl, show putN n i (zN) i = zN from if_pos rfl] at hb
    rcases hb with hb | hb
    · exact ⟨i, hi, .inr hb⟩
    · exact absurd hb (z5a b)
  · rw [show putN s p (n p) i = s i from if_neg e, show putN n p (zN) i = n i from if_neg e] at hb
    exact ⟨i, hi, hb⟩
theorem RowsV.lay {w : World} {g : Nat} {c : Nat → CelN} {s n : Nat → Value} (h : RowsV w g c s n) {p : Nat} {l : List UInt8} {u : Value} (hu : IsB w l u) (hg : ¬ bfp u g) : RowsV w g (putC c p ⟨(c p).s, l, true⟩) s (putN n p u) := fun i hi => by
  by_cases e : i = p
  · subst e
    rw [z6b, putN_at]
    exact ⟨(h i hi).1, hu, hg⟩
  · rw [putC_ne _ _ e, show putN n p u i = n i from if_neg e]
    exact h i hi
theorem RowsV.keep {w : World} {g : Nat} {c : Nat → CelN} {s n : Nat → Value} (h : RowsV w g c s n) {p : Nat} (hp : p < 18) : RowsV w g (putC c p ⟨(c p).n, [], false⟩) (putN s p (n p)) (putN n p (zN)) := fun i hi => by
  by_cases e : i = p
  · subst e
    rw [z6b, putN_at, putN_at]
    exact ⟨(h i hi).2, zla _, z5a _⟩
  · rw [putC_ne _ _ e, show putN s p (n p) i = s i from if_neg e, show putN n p (zN) i = n i from if_neg e]
    exact h i hi
theorem IsB.grow {w w' : World} {g : Nat} {l : List UInt8} {v : Value} (h : IsB w l v) (hb : w.grownBy w' (some g)) (hg : ¬ bfp v g) : IsB w' l v := by
  obtain ⟨A, c, rfl, h1, h2, h3, h4⟩ := h
  refine ⟨A, c, rfl, h1, h2, h3, fun hl => ?_⟩
  obtain ⟨ad, rfl, q1, q2⟩ := h4 hl
  obtain ⟨b, o, s⟩ := ad
  have e : w'.heap[b]? = w.heap[b]? := hb.block b q1 fun e => by
    have e2 : b = g := Option.some.inj e
    subst e2
    exact hg ⟨o, s, _, _, rfl, hl⟩
  have hlt : b < w'.heap.size := by
    obtain ⟨x, hx⟩ : ∃ x, w.heap[b]? = some x := ⟨_, Array.getElem?_eq_getElem q1⟩
    rw [hx] at e
    exact (Array.getElem?_eq_some_iff.1 e).1
  refine ⟨_, rfl, hlt, fun j x hj => ?_⟩
  have hblk : ((⟨b, o, s⟩ : Addr).add j).block = b := by unfold Addr.add; split <;> rfl
  have := q2 j x hj
  simp only [World.cell?, hblk, e] at this ⊢
  exact this
theorem RowsV.grow {w w' : World} {g : Nat} {c : Nat → CelN} {s n : Nat → Value} (h : RowsV w g c s n) (hb : w.grownBy w' (some g)) : RowsV w' g c s n := fun i hi =>
  ⟨⟨(h i hi).1.1.grow hb (h i hi).1.2, (h i hi).1.2⟩, (h i hi).2.1.grow hb (h i hi).2.2, (h i hi).2.2⟩
theorem dwrite_any (g : Nat) (V : VltN) (s n : Nat → Value) (p : Nat) (hp : p < 18) (u : Value) (l : List UInt8) (w : World) (hu : IsB w l u) (hug : ¬ bfp u g) (hr : RowsV w g V.c s n) (hg : w.heap[g]? = some (.cells (vltA V s n) 80 (0, 0))) :
    Calls Tryz.prog 98 #[.pointer (some ⟨g, 0, none⟩), .int .i64 (p : Int), u] w fun e w' => ∃ t, e = .returned t ∧ t = .bool (wrtV V p l).2 ∧ ∃ s' n', RowsV w' g (wrtV V p l).1.c s' n' ∧ (∀ b, zo 18 s' n' b → zo 18 s n b ∨ bfp u b) ∧ w'.heap[g]? = some (.cells (vltA (wrtV V p l).1 s' n') 80 (0, 0)) ∧ w.grownBy w' (some g) := by
  obtain ⟨c, fl, lf, dd⟩ := V
  have hs : ∃ A m k, u = .slice A m k := hu.slc
  have h1 : RowsV w g (putC c p ⟨(c p).s, l, true⟩) s (putN n p u) := RowsV.lay hr hu hug
  have h2 : RowsV w g (putC (putC c p ⟨(c p).s, l, true⟩) p ⟨l, [], false⟩) (putN s p (putN n p u p)) (putN (putN n p u) p (zN)) := by
    have := h1.keep hp
    rw [z6b] at this
    exact this
  by_cases hf1 : (fl && decide (lf = 0)) = true
  · have e : wrtV ⟨c, fl, lf, dd⟩ p l = (⟨c, fl, lf, true⟩, false) := by
      unfold wrtV; rw [if_pos (show fallB ⟨c, fl, lf, dd⟩ = true from hf1)]; rfl
    rw [e]
    exact (dwrite_1 g c fl lf dd s n p hp u hs l hf1 w hg).mono fun e w' ⟨t, k1, k2, k3, k4⟩ => ⟨t, k1, k2, s, n, RowsV.grow hr k4, fun b h => .inl h, k3, k4⟩
  · have hf1' : (fl && decide (lf = 0)) = false := by simpa using hf1
    by_cases hf2 : (fl && decide (IntKind.i64.wrap (lf - 1) = 0)) = true
    · have e : wrtV ⟨c, fl, lf, dd⟩ p l = (⟨putC c p ⟨(c p).s, l, true⟩, fl, IntKind.i64.wrap (lf - 1), true⟩, false) := by
        unfold wrtV; rw [if_neg (show ¬ fallB ⟨c, fl, lf, dd⟩ = true from hf1), if_pos (show fallB (layV6 ⟨c, fl, lf, dd⟩ p l) = true from hf2)]; rfl
      rw [e]
      exact (dwrite_2 g c fl lf dd s n p hp u hs l hf1' hf2 w hg).mono fun e w' ⟨t, k1, k2, k3, k4⟩ => ⟨t, k1, k2, s, putN n p u, RowsV.grow h1 k4, fun b h => rowsfp_lay h, k3, k4⟩
    · have hf2' : (fl && decide (IntKind.i64.wrap (lf - 1) = 0)) = false := by simpa using hf2
      have e : wrtV ⟨c, fl, lf, dd⟩ p l = (⟨putC (putC c p ⟨(c p).s, l, true⟩) p ⟨l, [], false⟩, fl, IntKind.i64.wrap (IntKind.i64.wrap (lf - 1) - 1), dd⟩, true) := by
        unfold wrtV; rw [if_neg (show ¬ fallB ⟨c, fl, lf, dd⟩ = true from hf1), if_neg (show ¬ fallB (layV6 ⟨c, fl, lf, dd⟩ p l) = true from hf2)]
        unfold keepV layV6
        dsimp only
        rw [z6b]
      rw [e]
      exact (dwrite_3 g c fl lf dd s n p hp u hs l hf1' hf2' w hg).mono fun e w' ⟨t, k1, k2, k3, k4⟩ => ⟨t, k1, k2, _, _, RowsV.grow h2 k4, fun b h => rowsfp_lay (rowsfp_keep hp h), k3, k4⟩
end Go.Proofs.YtmjbnmbobocpdaaGreat
