/- What VaultTorn stands on, part 12. -/
import Derived.Deep.CutRange
import Derived.Test.YtmjbnmbobocpdaaGreatVaultTornP1
import Derived.Test.YtmjbnmbobocpdaaGreatVaultTornP2
import Derived.Test.YtmjbnmbobocpdaaGreatVaultTornP3
import Derived.Test.YtmjbnmbobocpdaaGreatVaultTornP4
import Derived.Test.YtmjbnmbobocpdaaGreatVaultTornP5
import Derived.Test.YtmjbnmbobocpdaaGreatVaultTornP6
import Derived.Test.YtmjbnmbobocpdaaGreatVaultTornP7
import Derived.Test.YtmjbnmbobocpdaaGreatVaultTornP8
import Derived.Test.YtmjbnmbobocpdaaGreatVaultTornP9
import Derived.Test.YtmjbnmbobocpdaaGreatVaultTornP10
import Derived.Test.YtmjbnmbobocpdaaGreatVaultTornP11
set_option maxRecDepth 100000
set_option maxHeartbeats 8000000
set_option linter.unusedVariables false
set_option linter.unusedSimpArgs false
namespace Go.Proofs.YtmjbnmbobocpdaaGreat
open Go.ChangeShapes Go.WideShapes Go.ChangeAt Go.RowKit
theorem cel_one {w : World} {l r : List UInt8} {u v : Value} {b : Bool} (h : IsB w l u) (h2 : IsB w r v) : (#[u, v, .bool b] : Array Value).all (·.oneCell') = true := by
  obtain ⟨A, c, rfl⟩ := h.shape
  obtain ⟨A', c', rfl⟩ := h2.shape
  simp [Value.oneCell']
def CelsAt (w : World) (B gq : Nat) (c : Nat → CelN) (s n : Nat → Value) : Prop := w.heap[gq]? = some (.cells (celA c s n) 63 (0, 0)) ∧ B ≤ gq ∧ (∀ i, i < 18 → IsB w (c i).s (s i) ∧ IsB w (c i).n (n i) ∧ ∀ b, bfp (s i) b ∨ bfp (n i) b → B ≤ b) ∧ ∀ i, i < 18 → ¬ bfp (s i) gq ∧ ¬ bfp (n i) gq
theorem copies_any (g : Nat) (V : VltN) (s n : Nat → Value) (hv : zka V) (w : World) (h : HasV w g V s n) :
  Calls Tryz.prog 60 #[.pointer (some ⟨g, 0, none⟩)] w fun e w' => ∃ gq s' n', e = .returned (.slice (some ⟨gq, 0, none⟩) 18 18) ∧ CelsAt w' w.heap.size gq V.c s' n' ∧ Below w.heap.size w w' := by
 refine zi (args := [.pointer (some ⟨g, 0, none⟩)]) 29 Tryz.func60 rfl rfl rfl ?_
 intro fa F
 have M := Mx.start w
 replace M := M.argO 0 h.blk (fun b e => by cases e)
 refine zS fun _ hK1 => ?_
 refine zR ?_
 refine rm rfl F fun _ F2 => ?_
 refine hK1 _ _ ?_
 refine zS fun _ hK3 => ?_
 refine zR ?_
 refine z8b (zb rfl) rfl F2 rfl M 1 (t := 63) (c := celA (fun _ => nilC) nilS nilS) (k := 18) (m := 18) (y_mkCel _ _ _ Tryz.underlying49 rfl rfl rfl) ?_
 intro g4 a4 w4 F4 M4
 clear F2 M
 have N4 := M4.rowsNil 2 w.heap.size 18
 clear M4
 rw [← cutC_0 V.c] at N4
 refine rm rfl F4 fun _ F5 => ?_
 refine hK3 _ _ ?_
 refine zS fun _ hK6 => ?_
 refine zS fun _ hK7 => ?_
 refine zR ?_
 refine zB 3 [(2, zN), (3, .slice (some ⟨g4, 0, none⟩) 18 18), (9, .pointer (some ⟨g, 0, none⟩))] [] dnil [] F5 fun _ F8 => ?_
 clear F5
 refine zc (w' := w4) (zb rfl) rfl F8 rfl _ (zoa _ _ rfl (F8.get (t := 9) rfl) (N4.roB (k := 0) rfl) (celA V.c s n) (cel_in V s n) Tryz.underlying76 rfl (by kernel_rfl)) fun _ F9 => ?_
 clear F8
 refine rm rfl F9 fun _ F10 => ?_
 refine hK7 _ _ ?_
 refine wp_block ?_
 refine z4b (α := Nat × (Nat → Value) × (Nat → Value)) (n := 29) (G := none) (w0 := w) (fun x => [(3, .slice (some ⟨g4, 0, none⟩) 18 18), (10, .agg (celA V.c s n)), (11, .int .i64 (x.1 : Int))]) (fun x => [(2, zbb w.heap.size 18 (cutC V.c x.1) x.2.1 x.2.2), (1, blkR g4 63 (celA (cutC V.c x.1) x.2.1 x.2.2)), (0, blkO g 80 (vltA V s n))]) (fun k x => k = (18 - x.1) ∧ (x.1 ≤ 18)) _ ⟨0, nilS, nilS⟩ ⟨rfl, (Nat.zero_le _)⟩ (F10.sub ⟨rfl, rfl, rfl, trivial⟩) (N4.sub ⟨rfl, rfl, rfl, trivial⟩) ?_
 clear F10 N4
 rintro k11 ⟨jn, so, no⟩ a11 w11 K11 ⟨ek11, I11⟩ F11 M11 hK11
 replace F11 : Fx 29 a11 [(3, .slice (some ⟨g4, 0, none⟩) 18 18), (10, .agg (celA V.c s n)), (11, .int .i64 (jn : Int))] := F11
 replace M11 : Mx _ _ w11 [(2, zbb w.heap.size 18 (cutC V.c jn) so no), (1, blkR g4 63 (celA (cutC V.c jn) so no)), (0, blkO g 80 (vltA V s n))] := M11
 replace I11 : jn ≤ 18 := I11
 replace ek11 : k11 = (18 - jn) := ek11
 have hj := I11
 by_cases hlt : jn < 18
 ·refine zS fun _ hK12 => ?_
  refine zR ?_
  refine zc (w' := w11) (zb rfl) rfl F11 rfl (.bool true) (zlb _ _ _ _ rfl (F11.get (t := 11) rfl) rfl (decide_eq_true (show (jn : Int) < 18 by omega))) fun _ F13 => ?_
  clear F11
  refine hK12 _ _ ?_
  refine zS fun _ hK14 => ?_
  refine wp_cond_true (F13.get (t := 12) rfl) ?_
  refine wp_skip ?_
  refine hK14 _ _ ?_
  refine zS fun _ hK15 => ?_
  refine wp_block ?_
  refine zS fun _ hK16 => ?_
  refine zR ?_
  refine rm rfl F13 fun _ F17 => ?_
  refine zc (w' := w11) (zb rfl) rfl F17 rfl (.agg (#[(s jn), (n jn), .bool ((V.c jn).f)])) (y_ixCel _ _ _ rfl rfl (F17.get (t := 10) rfl) (F17.get (t := 11) rfl) hlt rfl) fun _ F18 => ?_
  clear F17
  refine zh (zb rfl) rfl F18 rfl M11 3 (t := 63) (c := #[zN, zN, .bool false]) (by unfold execOp; kernel_rfl) ?_
  intro g19 a19 w19 F19 M19
  clear F18 M11
  refine rm rfl F19 fun _ F20 => ?_
  refine zn (zb rfl) rfl F20 M19 (k := 3) rfl _ _ _ rfl (F20.get (t := 5) rfl) (F20.get (t := 14) rfl) (#[(s jn), (n jn), .bool ((V.c jn).f)]) _ rfl (zL rfl) (cel_one ((h.hs jn hlt).step M19.below) ((h.hn jn hlt).step M19.below)) (zo rfl) (by kernel_rfl) ?_
  intro w21 M21
  clear M19
  refine hK16 _ _ ?_
  refine zpa F20 [fun vE => vE = .slice (some ⟨g4, 0, none⟩) 18 18, fun vE => vE = .int .i64 (jn : Int), fun vE => vE = .pointer (some ⟨g19, 0, none⟩), fun vE => vE = (s jn), fun _ => True, fun vE => vE = .pointer (some ⟨g19, 1, none⟩), fun vE => vE = (n jn), fun _ => True, fun vE => vE = .pointer (some ⟨g19, 2, none⟩), fun vE => vE = .bool ((V.c jn).f), fun _ => True] (JM none w fun SV pV => [(2, zbb w.heap.size 18 (cutC V.c jn) so no), (1, blkR g4 63 (celA (cutC V.c jn) so no)), (0, blkO g 80 (vltA V s n)), (3, blkR g19 63 (#[(s jn), (n jn), .bool ((V.c jn).f)])), (4, zxa (SV 4) (ownR ((V.c jn).s) (pV 4))), (5, zxa (SV 7) (ownR ((V.c jn).n) (pV 7))), (6, zxa (SV 10) (pureR (pV 10 = .agg #[(pV 4), (pV 7), .bool (V.c jn).f])))]) 11 rfl (by kernel_rfl) rfl ⟨trivial, trivial, trivial, trivial, trivial, trivial, trivial, trivial, trivial, trivial, trivial, trivial⟩ (fun p => ((((M21.step (zga _)).triv 4).triv 5).triv 6).sub ⟨rfl, rfl, rfl, rfl, rfl, rfl, rfl, trivial⟩) ⟨?_, ?_, ?_, ?_, ?_, ?_, ?_, ?_, ?_, ?_, ?_, trivial⟩ ?_
  ·intro ua uw SV pV M0 hk hn hd
   have M : Mx none w uw _ := M0
   clear M0
   have e3 : ua.eval (.tmp 3) = .slice (some ⟨g4, 0, none⟩) 18 18 := (show ua.eval (.tmp 3) = _ from hd 3 (by decide)).trans (F20.get (t := 3) rfl)
   exact ze (zb rfl) (.slice (some ⟨g4, 0, none⟩) 18 18) (zz _ (.inl rfl) e3) rfl (M.sub ⟨rfl, rfl, rfl, rfl, rfl, rfl, rfl, trivial⟩)
  ·intro ua uw SV pV M0 hk hn hd
   have M : Mx none w uw _ := M0
   clear M0
   have e4 : ua.eval (.tmp 4) = .int .i64 (jn : Int) := (show ua.eval (.tmp 4) = _ from hd 4 (by decide)).trans (F20.get (t := 4) rfl)
   exact ze (zb rfl) (.int .i64 (jn : Int)) (zz _ (.inl rfl) e4) rfl (M.sub ⟨rfl, rfl, rfl, rfl, rfl, rfl, rfl, trivial⟩)
  ·intro ua uw SV pV M0 hk hn hd
   have M : Mx none w uw _ := M0
   clear M0
   have e5 : ua.eval (.tmp 5) = .pointer (some ⟨g19, 0, none⟩) := (show ua.eval (.tmp 5) = _ from hd 5 (by decide)).trans (F20.get (t := 5) rfl)
   exact ze (zb rfl) (.pointer (some ⟨g19, 0, none⟩)) (y_fa (off := 0) rfl e5 (by kernel_rfl) rfl) rfl (M.sub ⟨rfl, rfl, rfl, rfl, rfl, rfl, rfl, trivial⟩)
  ·intro ua uw SV pV M0 hk hn hd
   have M : Mx none w uw _ := M0
   clear M0
   obtain ⟨s2, f17, q17⟩ := (show SV 2 = true ∧ ua.eval (.tmp 17) = pV 2 ∧ stE _ 2 (pV 2) from hd 17 (by decide))
   have e17 : ua.eval (.tmp 17) = .pointer (some ⟨g19, 0, none⟩) := f17.trans q17
   exact ze (zb rfl) ((s jn)) (zaa _ _ rfl e17 (M.blk (k := 3) rfl) rfl Tryz.underlying23 rfl) rfl (M.sub ⟨rfl, rfl, rfl, rfl, rfl, rfl, rfl, trivial⟩)
  ·intro ua uw SV pV M0 hk hn hd
   have M : Mx none w uw _ := M0
   clear M0
   obtain ⟨s3, f18, q18⟩ := (show SV 3 = true ∧ ua.eval (.tmp 18) = pV 3 ∧ stE _ 3 (pV 3) from hd 18 (by decide))
   have e18 : ua.eval (.tmp 18) = (s jn) := f18.trans q18
   exact zsa (zb rfl) rfl #[(s jn)] (zx e18) (zE Tryz.func90 rfl) (((clone_any ((V.c jn).s) ((s jn)) (by have := hv jn hlt; omega) uw ((h.hs jn hlt).step M.below))).mono fun e w2 h => (by obtain ⟨u, h1, h2, h3⟩ := h; exact ⟨u, h1, trivial, (M.newO h3 4 h2).sub ⟨rfl, rfl, rfl, rfl, rfl, rfl, (condR_off (hn 10 (by kernel_rfl)) rfl), trivial⟩⟩))
  ·intro ua uw SV pV M0 hk hn hd
   have M : Mx none w uw _ := M0
   clear M0
   have e5 : ua.eval (.tmp 5) = .pointer (some ⟨g19, 0, none⟩) := (show ua.eval (.tmp 5) = _ from hd 5 (by decide)).trans (F20.get (t := 5) rfl)
   exact ze (zb rfl) (.pointer (some ⟨g19, 1, none⟩)) (y_fa (off := 1) rfl e5 (by kernel_rfl) rfl) rfl (M.sub ⟨rfl, rfl, rfl, rfl, rfl, rfl, rfl, trivial⟩)
  ·intro ua uw SV pV M0 hk hn hd
   have M : Mx none w uw _ := M0
   clear M0
   obtain ⟨s5, f20, q20⟩ := (show SV 5 = true ∧ ua.eval (.tmp 20) = pV 5 ∧ stE _ 5 (pV 5) from hd 20 (by decide))
   have e20 : ua.eval (.tmp 20) = .pointer (some ⟨g19, 1, none⟩) := f20.trans q20
   exact ze (zb rfl) ((n jn)) (zaa _ _ rfl e20 (M.blk (k := 3) rfl) rfl Tryz.underlying23 rfl) rfl (M.sub ⟨rfl, rfl, rfl, rfl, rfl, rfl, rfl, trivial⟩)
  ·intro ua uw SV pV M0 hk hn hd
   have M : Mx none w uw _ := M0
   clear M0
   obtain ⟨s6, f21, q21⟩ := (show SV 6 = true ∧ ua.eval (.tmp 21) = pV 6 ∧ stE _ 6 (pV 6) from hd 21 (by decide))
   have e21 : ua.eval (.tmp 21) = (n jn) := f21.trans q21
   exact zsa (zb rfl) rfl #[(n jn)] (zx e21) (zE Tryz.func90 rfl) (((clone_any ((V.c jn).n) ((n jn)) (by have := hv jn hlt; omega) uw ((h.hn jn hlt).step M.below))).mono fun e w2 h => (by obtain ⟨u, h1, h2, h3⟩ := h; exact ⟨u, h1, trivial, (M.newO h3 5 h2).sub ⟨rfl, rfl, rfl, rfl, rfl, rfl, (condR_off (hn 10 (by kernel_rfl)) rfl), trivial⟩⟩))
  ·intro ua uw SV pV M0 hk hn hd
   have M : Mx none w uw _ := M0
   clear M0
   have e5 : ua.eval (.tmp 5) = .pointer (some ⟨g19, 0, none⟩) := (show ua.eval (.tmp 5) = _ from hd 5 (by decide)).trans (F20.get (t := 5) rfl)
   exact ze (zb rfl) (.pointer (some ⟨g19, 2, none⟩)) (y_fa (off := 2) rfl e5 (by kernel_rfl) rfl) rfl (M.sub ⟨rfl, rfl, rfl, rfl, rfl, rfl, rfl, trivial⟩)
  ·intro ua uw SV pV M0 hk hn hd
   have M : Mx none w uw _ := M0
   clear M0
   obtain ⟨s8, f23, q23⟩ := (show SV 8 = true ∧ ua.eval (.tmp 23) = pV 8 ∧ stE _ 8 (pV 8) from hd 23 (by decide))
   have e23 : ua.eval (.tmp 23) = .pointer (some ⟨g19, 2, none⟩) := f23.trans q23
   exact ze (zb rfl) (.bool ((V.c jn).f)) (zaa _ _ rfl e23 (M.blk (k := 3) rfl) rfl Tryz.underlying4 rfl) rfl (M.sub ⟨rfl, rfl, rfl, rfl, rfl, rfl, rfl, trivial⟩)
  ·intro ua uw SV pV M0 hk hn hd
   have M : Mx none w uw _ := M0
   clear M0
   obtain ⟨s4, f19, q19⟩ := (show SV 4 = true ∧ ua.eval (.tmp 19) = pV 4 ∧ stE _ 4 (pV 4) from hd 19 (by decide))
   have e19 : ua.eval (.tmp 19) = (pV 4) := f19
   obtain ⟨s7, f22, q22⟩ := (show SV 7 = true ∧ ua.eval (.tmp 22) = pV 7 ∧ stE _ 7 (pV 7) from hd 22 (by decide))
   have e22 : ua.eval (.tmp 22) = (pV 7) := f22
   obtain ⟨s9, f24, q24⟩ := (show SV 9 = true ∧ ua.eval (.tmp 24) = pV 9 ∧ stE _ 9 (pV 9) from hd 24 (by decide))
   have e24 : ua.eval (.tmp 24) = .bool ((V.c jn).f) := f24.trans q24
   obtain ⟨A0_, c0_, h0_⟩ := (M.isO (k := 4) (z1a s4 rfl)).shape
   obtain ⟨A1_, c1_, h1_⟩ := (M.isO (k := 5) (z1a s7 rfl)).shape
   exact ze (zb rfl) (.agg #[(pV 4), (pV 7), .bool (V.c jn).f]) (by unfold execOp; simp only [List.map_toArray, List.map_cons, List.map_nil, e19, e22, e24, h0_, h1_]; kernel_rfl) trivial ((M.pure_ 6 rfl).sub ⟨rfl, rfl, rfl, rfl, rfl, rfl, rfl, trivial⟩)
  intro p22 a22 w22 M22 G22 y22
  obtain ⟨q0, q1, -, -, -, -, -, -, -, -, q10, -⟩ := y22
  have r0 : p22 0 = .slice (some ⟨g4, 0, none⟩) 18 18 := q0
  have r1 : p22 1 = .int .i64 (jn : Int) := q1
  have r10 : p22 10 = .agg #[(p22 4), (p22 7), .bool (V.c jn).f] := (show (pureR (p22 10 = .agg #[(p22 4), (p22 7), .bool (V.c jn).f])).F _ from Mx.at_ (show Mx _ _ _ _ from M22) 6 _ rfl)
  replace M22 : Mx _ _ w22 [(2, zbb w.heap.size 18 (cutC V.c jn) so no), (1, blkR g4 63 (celA (cutC V.c jn) so no)), (0, blkO g 80 (vltA V s n)), (3, blkR g19 63 (#[(s jn), (n jn), .bool ((V.c jn).f)])), (4, zxa true (ownR ((V.c jn).s) (p22 4))), (5, zxa true (ownR ((V.c jn).n) (p22 7))), (6, zxa true (pureR (p22 10 = .agg #[(p22 4), (p22 7), .bool (V.c jn).f])))] := M22
  simp only [List.take, layV, Nat.zero_add, Nat.reduceAdd, r0, r1, r10] at G22
  obtain ⟨Ap22_4, cp22_4, hp22_4⟩ := (M22.isO (k := 4) rfl).shape
  rw [hp22_4] at M22
  try rw [hp22_4] at G22
  obtain ⟨Ap22_5, cp22_5, hp22_5⟩ := (M22.isO (k := 5) rfl).shape
  rw [hp22_5] at M22
  try rw [hp22_5] at G22
  refine zc (w' := w22) (zb rfl) rfl G22 rfl (.pointer (some ⟨g4, 3 * jn, none⟩)) (y_ixG 49 (s := 3) Tryz.underlying49 (by kernel_rfl) _ _ rfl (G22.get (t := 15) rfl) (G22.get (t := 16) rfl) rfl hlt (by omega)) fun _ F23 => ?_
  clear G22
  refine zn (zb rfl) rfl F23 M22 (k := 1) rfl _ _ _ rfl (F23.get (t := 26) rfl) (F23.get (t := 25) rfl) (#[(.slice Ap22_4 ((V.c jn).s).length cp22_4), (.slice Ap22_5 ((V.c jn).n).length cp22_5), .bool ((V.c jn).f)]) (celA (putC (cutC V.c jn) jn ⟨(V.c jn).s, (V.c jn).n, (V.c jn).f⟩) (putN so jn ((.slice Ap22_4 ((V.c jn).s).length cp22_4))) (putN no jn ((.slice Ap22_5 ((V.c jn).n).length cp22_5)))) rfl (show 3 * jn + 3 ≤ 54 by omega) (by simp [Value.oneCell']) (cel_put (cutC V.c jn) so no ((.slice Ap22_4 ((V.c jn).s).length cp22_4)) ((.slice Ap22_5 ((V.c jn).n).length cp22_5)) (V.c jn).s (V.c jn).n (V.c jn).f hlt) (by kernel_rfl) ?_
  intro w24 M24
  clear M22
  refine hK15 _ _ ?_
  refine zR ?_
  refine zc (w' := w24) (zb rfl) rfl F23 rfl (.int .i64 ((jn + 1 : Nat) : Int)) (zya _ _ _ _ rfl (F23.get (t := 11) rfl) rfl (by omega) (by omega)) fun _ F25 => ?_
  clear F23
  refine rm rfl F25 fun _ F26 => ?_
  have M27 := M24.rowsTwo (i := 2) (k := 4) (k2 := 5) (f := (V.c jn).f) rfl rfl rfl (fun b hb => M24.owns (k := 4) rfl b (zla hb)) (fun b hb => M24.owns (k := 5) rfl b (zla hb)) jn (by decide)
  rw [cutC_next] at M27
  clear M24
  subst ek11
  exact hK11 _ ⟨(jn + 1), (putN so jn ((.slice Ap22_4 ((V.c jn).s).length cp22_4))), (putN no jn ((.slice Ap22_5 ((V.c jn).n).length cp22_5)))⟩ _ _ (by omega) ⟨rfl, (by omega)⟩ (F26.sub ⟨rfl, rfl, rfl, trivial⟩) (M27.sub ⟨rfl, rfl, rfl, trivial⟩)
 ·have hj18 : jn = 18 := by omega
  refine zS fun _ hK28 => ?_
  refine zR ?_
  refine zc (w' := w11) (zb rfl) rfl F11 rfl (.bool false) (zlb _ _ _ _ rfl (F11.get (t := 11) rfl) rfl (decide_eq_false (show ¬ (jn : Int) < 18 by omega))) fun _ F29 => ?_
  clear F11
  refine hK28 _ _ ?_
  refine zS fun _ hK30 => ?_
  refine wp_cond_false (F29.get (t := 12) rfl) ?_
  refine wp_exit ?_
  simp only [Exit.then, Exit.inBlock, ↓reduceIte, Nat.reduceEqDiff]
  refine hK6 _ _ ?_
  refine zS fun _ hK31 => ?_
  refine zR ?_
  refine rm rfl F29 fun _ F32 => ?_
  refine rm rfl F32 fun _ F33 => ?_
  refine hK31 _ _ ?_
  refine wp_ret ?_
  try simp only [Exit.then, Exit.inBlock, Exit.jump]
  exact bodyPost_ret (res1 rfl (F33.get rfl)) F33.defers ⟨g4, so, no, rfl, (by subst hj18; exact ⟨M11.blk (k := 1) rfl, (M11.own 1 _ rfl rfl _ rfl).resolve_right (fun e => by cases e), fun i hi => (by have q := M11.rowsAt (i := 2) rfl i hi; rwa [show cutC V.c 18 i = V.c i from if_pos hi] at q), fun i hi => ⟨fun hb => M11.dis 1 2 _ _ rfl rfl (by decide) rfl _ rfl ⟨i, hi, .inl hb⟩, fun hb => M11.dis 1 2 _ _ rfl rfl (by decide) rfl _ rfl ⟨i, hi, .inr hb⟩⟩⟩), M11.below⟩
theorem copies_ex (g : Nat) (V : VltN) (s n : Nat → Value) (hv : zka V) (w : World) (h : HasV w g V s n) : Calls Tryz.prog 60 #[.pointer (some ⟨g, 0, none⟩)] w fun e w' => ∃ t, e = .returned t ∧ ∃ gq s' n', t = .slice (some ⟨gq, 0, none⟩) 18 18 ∧ CelsAt w' w.heap.size gq V.c s' n' ∧ Below w.heap.size w w' :=
  (copies_any g V s n hv w h).mono fun e w' ⟨gq, s', n', h1, h2, h3⟩ => ⟨_, h1, gq, s', n', rfl, h2, h3⟩
theorem CelsAt.low {w : World} {B B' gq : Nat} {c : Nat → CelN} {s n : Nat → Value} (h : CelsAt w B gq c s n) (hb : B' ≤ B) : CelsAt w B' gq c s n :=
  ⟨h.1, Nat.le_trans hb h.2.1, fun i hi => ⟨(h.2.2.1 i hi).1, (h.2.2.1 i hi).2.1, fun b hb2 => Nat.le_trans hb ((h.2.2.1 i hi).2.2 b hb2)⟩, h.2.2.2⟩
theorem CelsAt.step {w w' : World} {B gq : Nat} {c : Nat → CelN} {s n : Nat → Value} (h : CelsAt w B gq c s n) (hb : Below w.heap.size w w') : CelsAt w' B gq c s n :=
  ⟨(hb.block gq (zwa h.1)).trans h.1, h.2.1, fun i hi => ⟨(h.2.2.1 i hi).1.step hb, (h.2.2.1 i hi).2.1.step hb, (h.2.2.1 i hi).2.2⟩, h.2.2.2⟩
theorem cells_any (g : Nat) (V : VltN) (s n : Nat → Value) (hv : zka V) (w : World) (h : HasV w g V s n) :
  Calls Tryz.prog 28 #[.pointer (some ⟨g, 0, none⟩)] w fun e w' => ∃ gq s' n', e = .returned (.slice (some ⟨gq, 0, none⟩) 18 18) ∧ CelsAt w' w.heap.size gq V.c s' n' ∧ Below w.heap.size w w' := by
 refine zi (args := [.pointer (some ⟨g, 0, none⟩)]) 7 Tryz.func28 rfl rfl rfl ?_
 intro fa F
 have M := Mx.start w
 replace M := M.argO 0 h.blk (fun b e => by cases e)
 refine zS fun _ hK1 => ?_
 refine zR ?_
 refine rm rfl F fun _ F2 => ?_
 refine hK1 _ _ ?_
 refine zS fun _ hK3 => ?_
 refine zR ?_
 refine zB 3 [(2, zN), (5, .pointer (some ⟨g, 0, none⟩))] [] dnil [] F2 fun _ F4 => ?_
 clear F2
 refine zg (zb rfl) rfl F4 rfl rfl (zE Tryz.func60 rfl) #[.pointer (some ⟨g, 0, none⟩)] (zx (F4.get (t := 5) rfl)) (copies_ex g V s n hv w (h.step M.below)) ?_
 rintro _ w5 a5 ⟨gq5, s5, n5, rfl, hq5, b5⟩ F5
 have hle := M.le
 have M5 := M.step b5
 refine rm rfl F5 fun _ F6 => ?_
 refine hK3 _ _ ?_
 refine wp_ret ?_
 try simp only [Exit.then, Exit.inBlock, Exit.jump]
 exact bodyPost_ret (res1 rfl (F6.get rfl)) F6.defers ⟨gq5, s5, n5, rfl, CelsAt.low hq5 hle, M5.below⟩
end Go.Proofs.YtmjbnmbobocpdaaGreat
namespace Go.Proofs.YtmjbnmbobocpdaaGreat
open Go.ChangeShapes Go.WideShapes Go.ChangeAt Go.RowKit Go.Shelf
section
variable {G : Option Nat} {w0 w w' : World} {R : List (Nat × Res)} {kg kr g : Nat} {t : TypeId} {a a' : Array Value} {c c' : Nat → CelN} {s n s' n' : Nat → Value}
theorem Mx.vault (M : Mx G w0 w R) (hk : look R kg = some (blkR g t a)) (hrr : look R kr = some (zbb 0 18 c s n)) (hb : w.grownBy w' (some g)) (hblk : w'.heap[g]? = some (.cells a' t (0, 0))) (hrow : RowsV w' g c' s' n') (hto : ∀ b, zu 18 s' n' b → zu 18 s n b ∨ w.heap.size ≤ b) : Mx G w0 w' ((kr, zbb 0 18 c' s' n') :: (kg, blkR g t a') :: R) :=
  (M.put hk hb hblk).cons kr _ (fun j hj => ⟨(hrow j hj).1.1, (hrow j hj).2.1, fun _ _ => Nat.zero_le _⟩) rows_dep (fun b ⟨j, hj, h⟩ => by
    rcases h with h | h
    · exact (hrow j hj).1.1.lt h
    · exact (hrow j hj).2.1.lt h) (fun e => by cases e) fun k r e hkk hw b h h2 => by
    rcases hw with hw | hw
    · cases hw
    rw [zt] at e
    split at e
    · cases e
      obtain rfl : b = g := h2
      obtain ⟨j, hj, h⟩ := h
      rcases h with h | h
      · exact (hrow j hj).1.2 h
      · exact (hrow j hj).2.2 h
    · rcases hto b h with h | h
      · exact M.dis k kr r _ e hrr (fun e2 => hkk e2.symm) hw b h2 h
      · have := M.lt k r e b h2
        omega
theorem Mx.newVault (M : Mx G w0 w R) (hb : Below w.heap.size w w') (kg kr : Nat) (hg : w.heap.size ≤ g) (hblk : w'.heap[g]? = some (.cells a' t (0, 0))) (hrow : RowsV w' g c' s' n') (hto : ∀ b, zu 18 s' n' b → w.heap.size ≤ b) : Mx G w0 w' ((kr, zbb 0 18 c' s' n') :: (kg, blkR g t a') :: R) :=
  (M.newb hb kg hg hblk).cons kr _ (fun j hj => ⟨(hrow j hj).1.1, (hrow j hj).2.1, fun _ _ => Nat.zero_le _⟩) rows_dep (fun b ⟨j, hj, h⟩ => by
    rcases h with h | h
    · exact (hrow j hj).1.1.lt h
    · exact (hrow j hj).2.1.lt h) (fun e => by cases e) fun k r e hkk hw b h h2 => by
    rcases hw with hw | hw
    · cases hw
    rw [zt] at e
    split at e
    · cases e
      obtain rfl : b = g := h2
      obtain ⟨j, hj, h⟩ := h
      rcases h with h | h
      · exact (hrow j hj).1.2 h
      · exact (hrow j hj).2.2 h
    · have := M.lt k r e b h2
      have := hto b h
      omega
theorem Mx.hasV (M : Mx G w0 w R) {V : VltN} (hk : look R kg = some (blkR g 80 (vltA V s n))) (hrr : look R kr = some (zbb 0 18 V.c s n)) (hne : kr ≠ kg) : HasV w g V s n := HasV.of (M.blk hk) (M.rowsV hrr hk hne)
theorem Mx.freeze (M : Mx G w0 w R) {k g : Nat} {t : TypeId} {a : Array Value} (hk : look R k = some (blkR g t a)) : Mx G w0 w ((k, blkO g t a) :: R) :=
  M.cons k _ (M.blk hk) blkO_dep (fun b hb => by cases hb; exact zwa (M.blk hk)) (fun e => by cases e) fun j r e hj hw b hb => M.dis k j _ r hk e hj rfl b hb
end
section
variable (g : Nat) (V : VltN) (s n : Nat → Value) (w : World)
theorem vnew_is (V' : VltN) (h : ageW zeroV = V') (w : World) : Calls Tryz.prog 14 #[] w fun e w' => ∃ t, e = .returned t ∧ ∃ g, t = .pointer (some ⟨g, 0, none⟩) ∧ w.heap.size ≤ g ∧ ∃ s' n', RowsV w' g V'.c s' n' ∧ (∀ b, zu 18 s' n' b → w.heap.size ≤ b) ∧ w'.heap[g]? = some (.cells (vltA V' s' n') 80 (0, 0)) ∧ Below w.heap.size w w' := by
  subst h
  exact (vnew_any w).mono fun e w' ⟨g, h1, h2, s', n', h3, h4, h5, h6⟩ => ⟨_, h1, g, rfl, h2, s', n', h3, h4, h5, h6⟩
theorem put_is {K : Nat} (r : RecN) (Vr : RecV) (ho : RecOk r) (hi : InvV K V) (hK : K < 256) (V' : VltN) (z : Int) (h1 : (putV V r).1 = V') (h2 : (putV V r).2 = z) (w : World) (hR : RecIs w r Vr) (hRg : ¬ bfp Vr.v2 g ∧ ¬ bfp Vr.v5 g) (hr : RowsV w g V.c s n) (hg : w.heap[g]? = some (.cells (vltA V s n) 80 (0, 0))) :
    Calls Tryz.prog 22 #[.pointer (some ⟨g, 0, none⟩), .agg (recA r Vr)] w fun e w' => ∃ t, e = .returned t ∧ t = .int .i64 z ∧ ∃ s' n', RowsV w' g V'.c s' n' ∧ (∀ b, zu 18 s' n' b → zu 18 s n b ∨ w.heap.size ≤ b) ∧ w'.heap[g]? = some (.cells (vltA V' s' n') 80 (0, 0)) ∧ w.grownBy w' (some g) := by
  subst h1 h2
  exact put_any g V s n r Vr ho hi hK w hR hRg hr hg
def failV (V : VltN) (z : Int) : VltN := ⟨V.c, decide (0 ≤ z), z, V.dd⟩
theorem fail_is (z : Int) (V' : VltN) (h : failV V z = V') (w : World) (hr : RowsV w g V.c s n) (hg : w.heap[g]? = some (.cells (vltA V s n) 80 (0, 0))) :
    Calls Tryz.prog 19 #[.pointer (some ⟨g, 0, none⟩), .int .i64 z] w fun e w' => ∃ t, e = .returned t ∧ ∃ s' n', RowsV w' g V'.c s' n' ∧ (∀ b, zu 18 s' n' b → zu 18 s n b ∨ w.heap.size ≤ b) ∧ w'.heap[g]? = some (.cells (vltA V' s' n') 80 (0, 0)) ∧ w.grownBy w' (some g) := by
  subst h
  obtain ⟨c, fl, lf, dd⟩ := V
  exact (vfail_any g c fl lf dd s n z w hg).mono fun e w' ⟨t, h1, h2, h3⟩ => ⟨t, h1, s, n, hr.grow h3, fun b hb => .inl hb, h2, h3⟩
theorem again_isV {K : Nat} {e0 : Int} (A0 : Option Addr) (m c0 : Nat) (tx : Nat → Int) (hmc : m ≤ c0) (hi : InvV K V) (hK : K < 256) (he : EraV V e0) (h0 : 0 ≤ e0) (h1 : e0 < 1000) (V' : VltN) (h : ageW (setlV V tx m) = V') (w : World) (hT : RdI w A0 m tx) (hTg : ¬ ifp A0 m g) (hr : RowsV w g V.c s n) (hg : w.heap[g]? = some (.cells (vltA V s n) 80 (0, 0))) :
    Calls Tryz.prog 30 #[.pointer (some ⟨g, 0, none⟩), .slice A0 m c0] w fun e w' => ∃ t, e = .returned t ∧ ∃ s' n', RowsV w' g V'.c s' n' ∧ (∀ b, zu 18 s' n' b → zu 18 s n b ∨ w.heap.size ≤ b) ∧ w'.heap[g]? = some (.cells (vltA V' s' n') 80 (0, 0)) ∧ w.grownBy w' (some g) := by
  subst h
  exact vagain_any g V s n (inv_short hi) A0 m c0 tx hmc (era_bd (era_setl he tx m) h0 h1) (inv_turn (setl_inv hi tx m) hK 16) w hT hTg hr hg
theorem boot_is {K : Nat} {e0 : Int} (hi : InvV K V) (he : EraV V e0) (w : World) (h : HasV w g V s n) : Calls Tryz.prog 26 #[.pointer (some ⟨g, 0, none⟩)] w fun e w' => e = .returned (.int .i64 e0) ∧ Below w.heap.size w w' := by
  have := boot_any g V s n (inv_short hi) w h
  rwa [he.2.2.2] at this
theorem dead_is (b : Bool) (hb : V.dd = b) (w : World) (h : HasV w g V s n) : Calls Tryz.prog 32 #[.pointer (some ⟨g, 0, none⟩)] w fun e w' => e = .returned (.bool b) ∧ Below w.heap.size w w' := by
  subst hb; exact vdead_any g V s n w h
theorem get_yes {K : Nat} (hi : InvV K V) (nm : ByteArray) (k : Nat) (h8 : k < 8) (hk : fst8 (zca V nm) = k) (r : RecN) (hr : zja V (2 * k) = r) (w : World) (h : HasV w g V s n) : Calls Tryz.prog 24 #[.pointer (some ⟨g, 0, none⟩), .string nm] w fun e w' => ∃ t, e = .returned t ∧ ∃ V', t = .tuple #[.agg (recA r V'), .bool true] ∧ RecIs w' r V' ∧ (∀ b, bfp V'.v2 b ∨ bfp V'.v5 b → w.heap.size ≤ b) ∧ Below w.heap.size w w' := by
  subst hr hk
  exact (get_any g V s n (inv_short hi) nm w h).mono fun e w' ⟨t, h1, h2, h3⟩ => ⟨t, h1, by
    rcases h2 with ⟨k, V', q1, q2, q3, q4, q5⟩ | ⟨q1, q2⟩
    · subst q2; exact ⟨V', q3, q4, q5, h3⟩
    · omega⟩
theorem get_not {K : Nat} (hi : InvV K V) (nm : ByteArray) (hk : fst8 (zca V nm) = 8) (w : World) (h : HasV w g V s n) : Calls Tryz.prog 24 #[.pointer (some ⟨g, 0, none⟩), .string nm] w fun e w' => e = .returned (.tuple #[.agg (recA zeroRec ⟨zN, zN⟩), .bool false]) ∧ Below w.heap.size w w' :=
  (get_any g V s n (inv_short hi) nm w h).mono fun e w' ⟨t, h1, h2, h3⟩ => ⟨by
    rcases h2 with ⟨k, V', q1, q2, q3, q4, q5⟩ | ⟨q1, q2⟩
    · omega
    · rw [h1, q2], h3⟩
theorem names_is {K : Nat} (hi : InvV K V) (L : List ByteArray) (hL : srtL (namL V 8) = L) (w : World) (h : HasV w g V s n) : Calls Tryz.prog 25 #[.pointer (some ⟨g, 0, none⟩)] w fun e w' => ∃ v, e = .returned v ∧ TxtAt w' w.heap.size L v ∧ Below w.heap.size w w' := by
  subst hL; exact names_any g V s n (inv_short hi) w h
theorem cells_is {K : Nat} (hi : InvV K V) (w : World) (h : HasV w g V s n) : Calls Tryz.prog 28 #[.pointer (some ⟨g, 0, none⟩)] w fun e w' => ∃ t, e = .returned t ∧ ∃ gq s' n', t = .slice (some ⟨gq, 0, none⟩) 18 18 ∧ CelsAt w' w.heap.size gq V.c s' n' ∧ Below w.heap.size w w' :=
  (cells_any g V s n (inv_short hi) w h).mono fun e w' ⟨gq, s', n', h1, h2, h3⟩ => ⟨_, h1, gq, s', n', rfl, h2, h3⟩
theorem rec6_is (m : Int) (b : List UInt8) (bv : Value) (hn : -9223372036854775808 ≤ m ∧ m < 9223372036854775808) (hb : b.length ≤ 1000) (r : RecN) (hr : recK m b ((m.tdiv 23) % 10).toNat = r) (w : World) (hB : IsB w b bv) : Calls Tryz.prog 21 #[.int .i64 m, bv] w fun e w' => ∃ t, e = .returned t ∧ ∃ V, t = .agg (recA r V) ∧ RecIs w' r V ∧ (∀ q, bfp V.v2 q ∨ bfp V.v5 q → w.heap.size ≤ q) ∧ Below w.heap.size w w' := by
  subst hr; exact rec6_any m b bv hn hb w hB
end
theorem rec6_ok (m : Int) (b : List UInt8) {r : RecN} (hr : recK m b ((m.tdiv 23) % 10).toNat = r) : RecOk r ∧ zfa r = true := by
  have hk : ((m.tdiv 23) % 10).toNat < 10 := by omega
  subst hr
  exact ⟨recK_ok m b hk, recK_keep m b hk⟩
end Go.Proofs.YtmjbnmbobocpdaaGreat
namespace Go.Proofs.YtmjbnmbobocpdaaGreat
open Go.ChangeShapes Go.WideShapes Go.ChangeAt Go.RowKit Go.Shelf
theorem recE_pos {r : RecN} (h : zfa r = true) : recE r ≠ [] := by
  rw [show recE r = recL r from if_pos h, recL_is]
  exact fun e => by cases e
def accP (V : VltN) (k : Nat) : Option RecN → Prop
  | none => saidB V (2 * k) = false ∧ zua V (2 * k) = true
  | some r => saidB V (2 * k) = true ∧ zja V (2 * k) = r ∧ zua V (2 * k) = false
def AccV (V : VltN) (m : Nat → Option RecN) : Prop := ∀ k, k < 8 → accP V k (m k)
def updO (m : Nat → Option RecN) (k : Nat) (r : Option RecN) : Nat → Option RecN := fun i => if i = k then r else m i
theorem acc_of {V V' : VltN} {k : Nat} (h : saidB V' (2 * k) = saidB V (2 * k) ∧ zja V' (2 * k) = zja V (2 * k) ∧ zua V' (2 * k) = zua V (2 * k) ∧ numB V' (2 * k) = numB V (2 * k) ∧ zrb V' (2 * k) = zrb V (2 * k)) {o : Option RecN} (ha : accP V k o) : accP V' k o := by
  obtain ⟨h1, h2, h3, -⟩ := h
  cases o with
  | none => exact ⟨h1.trans ha.1, h3.trans ha.2⟩
  | some r => exact ⟨h1.trans ha.1, h2.trans ha.2.1, h3.trans ha.2.2⟩
theorem acc_cells {V V' : VltN} {m : Nat → Option RecN} (h : ∀ i, i < 16 → (V'.c i).s = (V.c i).s) (ha : AccV V m) : AccV V' m := fun k hk => acc_of (said_eq (pair_eq (h _ (by omega)) (h _ (by omega)))) (ha k hk)
theorem acc_nil {V : VltN} (h : ∀ i, i < 16 → (V.c i).s = []) : AccV V fun _ => none := fun k hk => by
  have hg : ∀ i, i < 16 → znb zj i (V.c i).s = false := fun i hi => by rw [h i hi]; exact good0 i
  have ha : anyB zj V (2 * k) = false := by
    unfold anyB secB
    rw [hg _ (by omega), hg _ (by omega)]; rfl
  exact ⟨by unfold saidB; rw [ha]; rfl, by unfold zua; rw [ha]; rfl⟩
theorem acc_new : AccV (ageW zeroV) fun _ => none := acc_nil fun i hi => by
  have hp := nxtP_in zeroV 16
  unfold ageW
  rw [(sayW_c zeroV 16 _).1 i (by omega)]; rfl
theorem acc_fail {V : VltN} {m : Nat → Option RecN} (z : Int) (ha : AccV V m) : AccV (failV V z) m := acc_cells (fun _ _ => rfl) ha
theorem sayW_ok {V : VltN} {q : Nat} {l : List UInt8} (h : (sayW V q l).2 = true) : (sayW V q l).1.c (nxtP V q) = ⟨zma zj (nxtP V q) (nxtT V q) l, [], false⟩ ∧ (sayW V q l).1.dd = V.dd ∧ (sayW V q l).1.fl = V.fl ∧ (sayW V q l).1.lf = IntKind.i64.wrap (IntKind.i64.wrap (V.lf - 1) - 1) := by
  unfold sayW wrtV at h ⊢
  by_cases h1 : fallB V = true
  · rw [if_pos h1] at h; cases h
  · rw [if_neg h1] at h ⊢
    by_cases h2 : fallB (layV6 V (nxtP V q) (zma zj (nxtP V q) (nxtT V q) l)) = true
    · rw [if_pos h2] at h; cases h
    · rw [if_neg h2]
      refine ⟨?_, rfl, rfl, rfl⟩
      show putC (putC V.c _ _) _ ⟨(putC V.c _ _ _).n, [], false⟩ _ = _
      rw [zzb, zzb]
theorem say_said' {K : Nat} {V : VltN} (hi : InvV K V) (hK : K < 255) {q : Nat} {l : List UInt8} (h : (sayW V q l).2 = true) : anyB zj (sayW V q l).1 q = true ∧ cntS (sayW V q l).1 q = l :=
  wrote hi hK (by rw [(sayW_ok h).1]) (fun i hne => by rw [(sayW_c V q l).1 i hne])
theorem acc_say {K : Nat} {V : VltN} {m : Nat → Option RecN} (hi : InvV K V) (hK : K < 255) (ha : AccV V m) {k : Nat} {r : RecN} (ho : RecOk r) (hk : zfa r = true) (h : (sayW V (2 * k) (recE r)).2 = true) : AccV (sayW V (2 * k) (recE r)).1 (updO m k (some r)) := fun j hj => by
  unfold updO
  by_cases e : j = k
  · subst e
    rw [if_pos rfl]
    obtain ⟨h1, h2⟩ := say_said' hi hK h
    obtain ⟨y1, y2⟩ := rd_rec ho hk
    refine ⟨by unfold saidB; rw [h1, h2, y1]; rfl, by unfold zja; rw [if_pos h1, h2, y2], ?_⟩
    unfold zua
    rw [h1, h2]
    have := List.length_pos_iff.2 (recE_pos hk)
    rw [decide_eq_false (show ¬ (((recE r).length : Int) = 0) by omega)]; rfl
  · rw [if_neg e]
    exact acc_of (said_eq (sayW_pair V _ (by omega))) (ha j hj)
def isN (nm : ByteArray) : Option RecN → Bool
  | none => false
  | some r => decide (r.s.toList = nm.toList)
theorem named_acc {V : VltN} {m : Nat → Option RecN} (ha : AccV V m) (nm : ByteArray) {k : Nat} (hk : k < 8) : zca V nm k = isN nm (m k) := by
  have h := ha k hk
  cases hm : m k with
  | none => rw [hm] at h; exact namedB_no h.1
  | some r => rw [hm] at h; exact namedB_is h.1 (by rw [h.2.1]; rfl)
theorem empty_acc {V : VltN} {m : Nat → Option RecN} (ha : AccV V m) {k : Nat} (hk : k < 8) : zua V (2 * k) = (m k).isNone := by
  have h := ha k hk
  cases hm : m k with
  | none => rw [hm] at h; exact h.2
  | some r => rw [hm] at h; exact h.2.2
theorem fst8_congr {p q : Nat → Bool} (h : ∀ k, k < 8 → p k = q k) : fst8 p = fst8 q := by
  have : ∀ n k, k + n ≤ 8 → fstN p n k = fstN q n k := fun n => by
    induction n with
    | zero => intro k _; rfl
    | succ n ih => intro k hk; unfold fstN; rw [h k (by omega), ih (k + 1) (by omega)]
  exact this 8 0 (by omega)
theorem named8 {V : VltN} {m : Nat → Option RecN} (ha : AccV V m) (nm : ByteArray) : fst8 (zca V nm) = fst8 fun k => isN nm (m k) := fst8_congr fun k hk => named_acc ha nm hk
theorem empty8 {V : VltN} {m : Nat → Option RecN} (ha : AccV V m) : fst8 (fun i => zua V (2 * i)) = fst8 fun k => (m k).isNone := fst8_congr fun k hk => empty_acc ha hk
theorem fst8_at {p : Nat → Bool} {k : Nat} (hk : k < 8) (h : p k = true) (hl : ∀ i, i < k → p i = false) : fst8 p = k := by
  rcases fst8_spec p with ⟨h1, h2, h3⟩ | ⟨h1, h2⟩
  · rcases Nat.lt_trichotomy (fst8 p) k with h4 | h4 | h4
    · rw [hl _ h4] at h2; cases h2
    · exact h4
    · rw [h3 k h4] at h; cases h
  · rw [h2 k hk] at h; cases h
theorem fst8_none {p : Nat → Bool} (h : ∀ i, i < 8 → p i = false) : fst8 p = 8 := by
  rcases fst8_spec p with ⟨h1, h2, h3⟩ | ⟨h1, h2⟩
  · rw [h _ h1] at h2; cases h2
  · exact h1
def plcM (m : Nat → Option RecN) (nm : ByteArray) : Nat := if fst8 (fun k => isN nm (m k)) < 8 then fst8 (fun k => isN nm (m k)) else fst8 fun k => (m k).isNone
theorem put_acc {V : VltN} {m : Nat → Option RecN} (ha : AccV V m) {r : RecN} (hd : V.dd = false) (hk : zfa r = true) (hp : plcM m r.s < 8) : putV V r = ((sayW V (2 * plcM m r.s) (recE r)).1, if (sayW V (2 * plcM m r.s) (recE r)).2 = true then 0 else 10) := by
  unfold putV
  rw [if_neg (by rw [hd]; exact Bool.false_ne_true), if_neg (by rw [hk]; exact fun h => by cases h), named8 ha, empty8 ha]
  unfold plcM at hp ⊢
  split
  · rfl
  · rename_i h
    rw [if_neg h] at hp
    rw [if_pos hp]
theorem put_done {K : Nat} {V : VltN} {m : Nat → Option RecN} (hi : InvV K V) (hK : K < 255) (ha : AccV V m) {r : RecN} (ho : RecOk r) (hk : zfa r = true) (hd : V.dd = false) (hf : V.fl = false) (hp : plcM m r.s < 8) : (putV V r).2 = 0 ∧ AccV (putV V r).1 (updO m (plcM m r.s) (some r)) ∧ (putV V r).1.dd = false ∧ (putV V r).1.fl = false := by
  rw [put_acc ha hd hk hp]
  obtain ⟨h1, h2, h3, h4⟩ := sayW_live (2 * plcM m r.s) (recE r) hf
  exact ⟨by dsimp only; rw [if_pos h1], acc_say hi hK ha ho hk h1, h3.trans hd, h2⟩
def nmsM (m : Nat → Option RecN) : Nat → List ByteArray
  | 0 => []
  | k + 1 => match m k with
    | none => nmsM m k
    | some r => nmsM m k ++ [r.s]
theorem namL_acc {V : VltN} {m : Nat → Option RecN} (ha : AccV V m) : ∀ k, k ≤ 8 → namL V k = nmsM m k
  | 0, _ => rfl
  | k + 1, hk => by
    have h := ha k (by omega)
    have ih := namL_acc ha k (by omega)
    unfold nmsM
    cases hm : m k with
    | none => rw [hm] at h; rw [namL_no h.1]; exact ih
    | some r => rw [hm] at h; rw [namL_yes h.1 h.2.1, ih]
end Go.Proofs.YtmjbnmbobocpdaaGreat
namespace Go.Proofs.YtmjbnmbobocpdaaGreat
open Go.ChangeShapes Go.WideShapes Go.ChangeAt Go.RowKit
def rA : RecN := ⟨1, ⟨#[97]⟩, [], 0, 0, [], 0, 0, 0⟩
theorem rA_ok : RecOk rA := ⟨by decide, by decide, by decide, by decide, by decide, by decide, by decide⟩
theorem rA_name : NameOk rA.s := by
  refine ⟨by decide, by decide, fun i h => ?_⟩
  have : i = 0 := by have h1 : rA.s.size = 1 := rfl; omega
  subst this
  exact (show (33 : Int) ≤ ((97 : UInt8).toNat : Int) ∧ ((97 : UInt8).toNat : Int) ≤ 126 by decide)
theorem rA_keep : zfa rA = true := by
  unfold zfa
  rw [show nameB rA.s = true from @decide_eq_true _ (Classical.propDecidable _) rA_name, show topI rA.a 8 = 0 from topI_none 8, show topI rA.b 8 = 0 from topI_none 8]
  decide
theorem y_eqPN {a : Act} {w : World} {o : Oper} (ty tz : TypeId) (hu : Tryz.prog.underlying ty = some (.pointer (Tryz.prog.pointee ty))) (hgt : Tryz.prog.eqGuardType Tryz.prog.depth ty = false) (x : Operand) {p : Addr} (ho : o.op = .binOp .eql ty x (.const (.pointer none)) tz) (hx : a.eval x = .pointer (some p)) : (execOp a.eval o).run Tryz.prog w = .ok (.value (.bool false)) w :=
  y_eqV ty tz x _ ho hx (v := .pointer none) rfl (by simp [eqGuard, go_sem, hgt]) (by rw [run_eql_pointer_nil (h := hu)]; rfl)
end Go.Proofs.YtmjbnmbobocpdaaGreat
namespace Go.Proofs.YtmjbnmbobocpdaaGreat
open Go.ChangeShapes Go.WideShapes Go.ChangeAt Go.RowKit
theorem plcA : plcM (fun _ => none) rA.s = 0 := by
  have e : (fst8 fun k => isN rA.s ((fun _ => none) k)) = 8 := fst8_none fun _ _ => rfl
  unfold plcM
  rw [if_neg (by omega)]
  exact fst8_at (by decide) rfl fun i h => absurd h (Nat.not_lt_zero i)
theorem rdI_none (w : World) {x : Nat → Int} (hx : ∀ k, -9223372036854775808 ≤ x k ∧ x k < 9223372036854775808 := by intro k; decide) : RdI w none 0 x := ⟨by unfold maxLen; decide, hx, fun h => absurd h (Nat.lt_irrefl 0)⟩
theorem known6_any  (w : World) :
  Calls Tryz.prog 13 #[] w fun e w' => e = .returned (.bool true) ∧ Below w.heap.size w w' := by
 obtain ⟨hE1, hI1, hf1, hd1⟩ := new_is
 have hA1 := acc_new
 obtain ⟨V1, hV1⟩ : ∃ x, ageW zeroV = x := ⟨_, rfl⟩
 rw [hV1] at hE1 hI1 hf1 hd1 hA1
 obtain ⟨hz2, hA2, hd2, hf2⟩ := put_done hI1 (by decide) hA1 rA_ok rA_keep hd1 hf1 (by rw [plcA]; decide)
 rw [plcA] at hA2
 obtain ⟨hI2, hE2⟩ := put_keep hI1 (by decide) hE1 rA
 obtain ⟨V2, hV2⟩ : ∃ x, (putV V1 rA).1 = x := ⟨_, rfl⟩
 rw [hV2] at hA2 hd2 hf2 hI2 hE2
 have h20 : accP V2 0 (some rA) := hA2 0 (by decide)
 have hn2 : fst8 (zca V2 rA.s) = 0 := by
  rw [named8 hA2]
  exact fst8_at (by decide) (show isN rA.s (some rA) = true from decide_eq_true rfl) fun i h => absurd h (Nat.not_lt_zero i)
 have hL2 : srtL (namL V2 8) = [rA.s] := by rw [namL_acc hA2 8 (Nat.le_refl _)]; rfl
 obtain ⟨hE3, hI3, -, hd3⟩ := again_is hI2 (by decide) hE2 (by decide) (by decide) (fun _ => 0) 0
 obtain ⟨V3, hV3⟩ : ∃ x, ageW (setlV V2 (fun _ => 0) 0) = x := ⟨_, rfl⟩
 rw [hV3] at hE3 hI3 hd3
 refine zi (args := []) 57 Tryz.func13 rfl rfl rfl ?_
 intro fa F
 have M := Mx.start w
 refine zS fun _ hK21 => ?_
 refine zR ?_
 refine rm rfl F fun _ F22 => ?_
 refine hK21 _ _ ?_
 refine zS fun _ hK23 => ?_
 refine zR ?_
 refine zg (zb rfl) rfl F22 rfl rfl (zE Tryz.func14 rfl) #[] (args0) (vnew_is V1 hV1 w) ?_
 rintro _ w24 a24 ⟨g24, rfl, hg24, s24, n24, hr24, ht24, hc24, b24⟩ F24
 have M24 := M.newVault b24 0 1 hg24 hc24 hr24 ht24
 clear M b24 hg24 hc24 hr24 ht24
 refine rm rfl F24 fun _ F25 => ?_
 refine hK23 _ _ ?_
 refine zS fun _ hK26 => ?_
 refine zS fun _ hK27 => ?_
 refine zR ?_
 refine rm rfl F25 fun _ F28 => ?_
 refine zc (w' := w24) (zb rfl) rfl F28 rfl (.bool false) (y_eqPN 25 _ Tryz.underlying25 (by kernel_rfl) _ rfl (F28.get (t := 7) rfl)) fun _ F29 => ?_
 clear F28
 refine rm rfl F29 fun _ F30 => ?_
 refine rm rfl F30 fun _ F31 => ?_
 refine zg (zd rfl rfl rfl (F31.get (t := 9) rfl)) rfl F31 rfl rfl (zE Tryz.func26 rfl) #[.pointer (some ⟨g24, 0, none⟩)] (zx (F31.get (t := 10) rfl)) (zba ((boot_is g24 V1 s24 n24 hI1 hE1 w24 (M24.hasV (kg := 0) (kr := 1) rfl rfl (by decide))))) ?_
 rintro _ w32 a32 ⟨rfl, b32⟩ F32
 have M32 := M24.step b32
 refine zB 2 [(0, .bool false), (1, .pointer (some ⟨g24, 0, none⟩)), (13, .bool false)] [] dnil [] F32 fun _ F33 => ?_
 clear F32
 refine hK27 _ _ ?_
 refine wp_cond_false (F33.get (t := 13) rfl) ?_
 refine wp_skip ?_
 refine hK26 _ _ ?_
 refine zS fun _ hK34 => ?_
 refine zR ?_
 refine rm rfl F33 fun _ F35 => ?_
 refine zc (w' := w32) (zb rfl) rfl F35 rfl (.agg (recA ⟨1, ({ data := #[97] }), [], 0, 0, [], 0, 0, 0⟩ ⟨zN, zN⟩)) (by unfold execOp; simp only [List.map_toArray, List.map_cons, List.map_nil, ]; kernel_rfl) fun _ F36 => ?_
 clear F35
 refine zg (zb rfl) rfl F36 rfl rfl (zE Tryz.func22 rfl) #[.pointer (some ⟨g24, 0, none⟩), .agg (recA ⟨1, ({ data := #[97] }), [], 0, 0, [], 0, 0, 0⟩ ⟨zN, zN⟩)] (zda (F36.get (t := 14) rfl) (F36.get (t := 15) rfl)) (put_is g24 V1 s24 n24 rA rvZero rA_ok hI1 (by decide) V2 0 hV2 hz2 w32 ⟨(zta _), (zta _)⟩ ⟨(zib _), (zib _)⟩ (M32.rowsV (i := 1) (k := 0) rfl rfl (by decide)) (M32.blk (k := 0) rfl)) ?_
 rintro _ w37 a37 ⟨rfl, s37, n37, hr37, ht37, hc37, hg37⟩ F37
 have M37 := M32.vault (kg := 0) (kr := 1) rfl rfl hg37 hc37 hr37 ht37
 clear M32 hg37 hc37 hr37 ht37
 refine rm rfl F37 fun _ F38 => ?_
 refine hK34 _ _ ?_
 refine zS fun _ hK39 => ?_
 refine zR ?_
 refine rm rfl F38 fun _ F40 => ?_
 refine zg (zb rfl) rfl F40 rfl rfl (zE Tryz.func24 rfl) #[.pointer (some ⟨g24, 0, none⟩), .string ({ data := #[97] })] (zda (F40.get (t := 18) rfl) rfl) (get_yes g24 V2 s37 n37 hI2 ({ data := #[97] }) 0 (by decide) hn2 rA h20.2.1 w37 (M37.hasV (kg := 0) (kr := 1) rfl rfl (by decide))) ?_
 rintro _ w41 a41 ⟨U41, rfl, is41, lo41, b41⟩ F41
 have M41 := M37.newRec b41 is41 lo41 2 3
 clear M37 b41 lo41
 refine zB 3 [(0, .bool false), (1, .pointer (some ⟨g24, 0, none⟩)), (2, .int .i64 0), (20, .agg (recA rA U41)), (21, .bool true)] [] dnil [] F41 fun _ F42 => ?_
 clear F41
 refine zh (zb rfl) rfl F42 rfl M41 4 (t := 37) (c := recA ⟨0, "".toUTF8, [], 0, 0, [], 0, 0, 0⟩ ⟨zN, zN⟩) (by unfold execOp; kernel_rfl) ?_
 intro g43 a43 w43 F43 M43
 clear F42 M41
 refine zn (zb rfl) rfl F43 M43 (k := 4) rfl _ _ _ rfl (F43.get (t := 3) rfl) (F43.get (t := 20) rfl) (recA rA U41) _ rfl (zL rfl) (zva (w := w43) ⟨(M43.isb (k := 2) rfl), (M43.isb (k := 3) rfl)⟩) (zo rfl) (by kernel_rfl) ?_
 intro w44 M44
 clear M43
 refine rm rfl F43 fun _ F45 => ?_
 refine hK39 _ _ ?_
 refine zS fun _ hK46 => ?_
 refine zR ?_
 refine rm rfl F45 fun _ F47 => ?_
 refine zg (zb rfl) rfl F47 rfl rfl (zE Tryz.func25 rfl) #[.pointer (some ⟨g24, 0, none⟩)] (zx (F47.get (t := 22) rfl)) (names_is g24 V2 s37 n37 hI2 ([rA.s]) hL2 w44 (M44.hasV (kg := 0) (kr := 1) rfl rfl (by decide))) ?_
 rintro _ w48 a48 ⟨⟨A48, c48, rfl, tx48⟩, b48⟩ F48
 have M48 := M44.step b48
 clear M44 tx48
 refine rm rfl F48 fun _ F49 => ?_
 refine hK46 _ _ ?_
 refine zS fun _ hK50 => ?_
 refine zR ?_
 refine rm rfl F49 fun _ F51 => ?_
 refine zg (zb rfl) rfl F51 rfl rfl (zE Tryz.func30 rfl) #[.pointer (some ⟨g24, 0, none⟩), zN] (zda (F51.get (t := 24) rfl) rfl) (again_isV g24 V2 s37 n37 none 0 0 (fun _ => 0) (Nat.le_refl _) hI2 (by decide) hE2 (by decide) (by decide) V3 hV3 w48 (rdI_none _) (fun h => absurd h.1 (Nat.not_lt_zero _)) (M48.rowsV (i := 1) (k := 0) rfl rfl (by decide)) (M48.blk (k := 0) rfl)) ?_
 rintro _ w52 a52 ⟨s52, n52, hr52, ht52, hc52, hg52⟩ F52
 have M52 := M48.vault (kg := 0) (kr := 1) rfl rfl hg52 hc52 hr52 ht52
 clear M48 hg52 hc52 hr52 ht52
 refine hK50 _ _ ?_
 refine zS fun _ hK53 => ?_
 refine zR ?_
 refine zB 8 [(0, .bool false), (1, .pointer (some ⟨g24, 0, none⟩)), (5, .slice A48 ([rA.s]).length c48), (31, .bool true), (33, .string rA.s)] [0] (zr (M52.blk (k := 4) rfl) dnil) [g43] F52 fun _ F54 => ?_
 clear F52
 refine zc (w' := w52) (zd rfl rfl rfl (F54.get (t := 31) rfl)) rfl F54 rfl (.bool true) (y_eqS _ _ _ rfl (F54.get (t := 33) rfl) rfl (decide_eq_true rfl)) fun _ F55 => ?_
 clear F54
 refine zc (w' := w52) (zb rfl) rfl F55 rfl (.bool true) (zyb rfl (F55.get (t := 31) rfl) (F55.get (t := 34) rfl)) fun _ F56 => ?_
 clear F55
 refine rm rfl F56 fun _ F57 => ?_
 refine rm rfl F57 fun _ F58 => ?_
 refine zc (w' := w52) (zd rfl rfl rfl (F58.get (t := 36) rfl)) rfl F58 rfl (.int .i64 1) (y_lnG 45 Tryz.underlying45 _ rfl (F58.get (t := 37) rfl) rfl) fun _ F59 => ?_
 clear F58
 refine zB 4 [(0, .bool false), (1, .pointer (some ⟨g24, 0, none⟩)), (41, .bool true), (42, .pointer (some ⟨g24, 0, none⟩))] [] dnil [] F59 fun _ F60 => ?_
 clear F59
 refine zg (zd rfl rfl rfl (F60.get (t := 41) rfl)) rfl F60 rfl rfl (zE Tryz.func26 rfl) #[.pointer (some ⟨g24, 0, none⟩)] (zx (F60.get (t := 42) rfl)) (zba ((boot_is g24 V3 s52 n52 hI3 hE3 w52 (M52.hasV (kg := 0) (kr := 1) rfl rfl (by decide))))) ?_
 rintro _ w61 a61 ⟨rfl, b61⟩ F61
 have M61 := M52.step b61
 refine zc (w' := w61) (zd rfl rfl rfl (F61.get (t := 41) rfl)) rfl F61 rfl (.bool true) (zsb _ _ _ _ rfl (F61.get (t := 43) rfl) rfl Tryz.underlying3 (y_beqT (by decide))) fun _ F62 => ?_
 clear F61
 refine zc (w' := w61) (zb rfl) rfl F62 rfl (.bool true) (zyb rfl (F62.get (t := 41) rfl) (F62.get (t := 44) rfl)) fun _ F63 => ?_
 clear F62
 refine rm rfl F63 fun _ F64 => ?_
 refine rm rfl F64 fun _ F65 => ?_
 refine zg (zd rfl rfl rfl (F65.get (t := 46) rfl)) rfl F65 rfl rfl (zE Tryz.func32 rfl) #[.pointer (some ⟨g24, 0, none⟩)] (zx (F65.get (t := 47) rfl)) (zba ((dead_is g24 V3 s52 n52 false hd3 w61 (M61.hasV (kg := 0) (kr := 1) rfl rfl (by decide))))) ?_
 rintro _ w66 a66 ⟨rfl, b66⟩ F66
 have M66 := M61.step b66
 refine zB 4 [(0, .bool false), (51, .bool true), (52, .pointer (some ⟨g24, 0, none⟩))] [] dnil [] F66 fun _ F67 => ?_
 clear F66
 refine zg (zd rfl rfl rfl (F67.get (t := 51) rfl)) rfl F67 rfl rfl (zE Tryz.func28 rfl) #[.pointer (some ⟨g24, 0, none⟩)] (zx (F67.get (t := 52) rfl)) (cells_is g24 V3 s52 n52 hI3 w66 (M66.hasV (kg := 0) (kr := 1) rfl rfl (by decide))) ?_
 rintro _ w68 a68 ⟨gq68, s68, n68, rfl, ce68, b68⟩ F68
 have M68 := M66.step b68
 clear M66 ce68
 refine zc (w' := w68) (zd rfl rfl rfl (F68.get (t := 51) rfl)) rfl F68 rfl (.int .i64 18) (y_lnG 49 Tryz.underlying49 _ rfl (F68.get (t := 53) rfl) rfl) fun _ F69 => ?_
 clear F68
 refine zB 3 [(0, .bool true)] [] dnil [] F69 fun _ F70 => ?_
 clear F69
 refine hK53 _ _ ?_
 refine wp_ret ?_
 try simp only [Exit.then, Exit.inBlock, Exit.jump]
 exact bodyPost_ret (res1 rfl (F70.get rfl)) F70.defers ⟨rfl, M68.below⟩
end Go.Proofs.YtmjbnmbobocpdaaGreat
namespace Go.Proofs.YtmjbnmbobocpdaaGreat
open Go.ChangeShapes Go.WideShapes Go.ChangeAt Go.RowKit Go.Shelf
theorem in6 (a : Int) {n : Nat} (h : 0 < n) : ∃ k : Nat, a % (n : Int) = (k : Int) ∧ k < n := by
  have h1 := Int.emod_nonneg a (show (n : Int) ≠ 0 by omega)
  have h2 := Int.emod_lt_of_pos a (show (0 : Int) < n by omega)
  exact ⟨(a % (n : Int)).toNat, by omega, by omega⟩
theorem rdI_one {w : World} {g : Nat} {t : TypeId} {v : Int} (h : w.heap[g]? = some (.cells #[.int .i64 v] t (0, 0))) (hv : -9223372036854775808 ≤ v ∧ v < 9223372036854775808) : RdI w (some ⟨g, 0, none⟩) 1 (fun _ => v) :=
  ⟨by unfold maxLen; omega, fun _ => hv, fun _ => ⟨g, 0, rfl, (Array.getElem?_eq_some_iff.1 h).1, fun k hk => by
    rw [Nat.zero_add]
    exact y_cell h (by
      obtain rfl : k = 0 := by omega
      rfl)⟩⟩
theorem ifp_lit {g g2 n : Nat} (h : ifp (some ⟨g2, 0, none⟩) n g) : g = g2 := by
  obtain ⟨_, o, e⟩ := h
  cases e; rfl
theorem fail_keep {K : Nat} {V : VltN} {e : Int} (z : Int) (hi : InvV K V) (he : EraV V e) : InvV K (failV V z) ∧ EraV (failV V z) e := ⟨hi, he⟩
theorem isN_eq (nm : ByteArray) {r : RecN} (h : r.s = nm) : isN nm (some r) = true := decide_eq_true (by rw [h])
theorem plc_new {m : Nat → Option RecN} {nm : ByteArray} {k : Nat} (h8 : k < 8) (hn : ∀ j, j < 8 → isN nm (m j) = false) (hk : m k = none) (hl : ∀ j, j < k → m j ≠ none) : plcM m nm = k := by
  have e : (fst8 fun j => isN nm (m j)) = 8 := fst8_none hn
  unfold plcM
  rw [if_neg (by omega)]
  exact fst8_at h8 (by rw [hk]; rfl) fun j hj => by
    cases h : m j with
    | none => exact absurd h (hl j hj)
    | some r => rfl
theorem plc_is {m : Nat → Option RecN} {nm : ByteArray} {k : Nat} (h8 : k < 8) (hn : isN nm (m k) = true) (hl : ∀ j, j < k → isN nm (m j) = false) : plcM m nm = k := by
  have e : (fst8 fun j => isN nm (m j)) = k := fst8_at h8 hn hl
  unfold plcM
  rw [if_pos (by omega), e]
def setS (r : RecN) (s : ByteArray) : RecN := { r with s := s }
theorem setS_ok {r : RecN} {s : ByteArray} (h : RecOk r) (hk : zfa r = true) (hs : NameOk s) : RecOk (setS r s) ∧ zfa (setS r s) = true := by
  refine ⟨⟨h.p, h.t, h.c, h.z, by have := hs.2.1; show s.size ≤ 1000; omega, h.a, h.b⟩, ?_⟩
  unfold zfa at hk ⊢
  simp only [Bool.and_eq_true, decide_eq_true_eq] at hk ⊢
  obtain ⟨⟨⟨⟨⟨⟨⟨⟨⟨h1, h2⟩, h3⟩, h4⟩, h5⟩, h6⟩, h7⟩, h8⟩, h9⟩, h10⟩ := hk
  exact ⟨⟨⟨⟨⟨⟨⟨⟨⟨h1, @decide_eq_true _ (Classical.propDecidable _) hs⟩, h3⟩, h4⟩, h5⟩, h6⟩, h7⟩, h8⟩, h9⟩, h10⟩
end Go.Proofs.YtmjbnmbobocpdaaGreat
namespace Go.Proofs.YtmjbnmbobocpdaaGreat
open Go.ChangeShapes Go.WideShapes Go.ChangeAt Go.RowKit Go.Shelf
section
variable {G : Option Nat} {w0 w w' : World} {R : List (Nat × Res)} {gq : Nat} {c : Nat → CelN} {s n : Nat → Value}
theorem Mx.newCells (M : Mx G w0 w R) (hb : Below w.heap.size w w') (kg kr : Nat) (hq : CelsAt w' w.heap.size gq c s n) : Mx G w0 w' ((kr, zbb 0 18 c s n) :: (kg, blkO gq 63 (celA c s n)) :: R) := by
  have M1 : Mx G w0 w' ((kg, blkO gq 63 (celA c s n)) :: R) := (M.step hb).cons kg _ hq.1 blkO_dep (fun b hb => by cases hb; exact zwa hq.1) (fun e => by cases e) fun k r e hkk hw b h h2 => by
    rcases hw with hw | hw
    · cases hw
    have h3 := M.lt k r e b h2
    have h4 : b = gq := h
    have := hq.2.1
    omega
  refine M1.cons kr _ (fun j hj => ⟨(hq.2.2.1 j hj).1, (hq.2.2.1 j hj).2.1, fun _ _ => Nat.zero_le _⟩) rows_dep (fun b ⟨j, hj, h⟩ => ?_) (fun e => by cases e) fun k r e hkk hw b h h2 => ?_
  · rcases h with h | h
    · exact (hq.2.2.1 j hj).1.lt h
    · exact (hq.2.2.1 j hj).2.1.lt h
  · rcases hw with hw | hw
    · cases hw
    rw [zt] at e
    split at e
    · cases e; cases hw
    · obtain ⟨j, hj, hh⟩ := h
      have h3 := M.lt k r e b h2
      have := (hq.2.2.1 j hj).2.2 b hh
      omega
variable {N i j : Nat} {B : Nat} {l : List UInt8} {v : Value}
theorem Mx.rowBn (M : Mx G w0 w R) (h : look R i = some (zbb B N c s n)) (hj : j < N) (hl : (c j).n = l) (hv : n j = v) (k : Nat) : Mx G w0 w ((k, bytR l v) :: R) := by
  subst hl hv
  exact M.cons k _ (M.rowsN h hj) zpb (fun b hb => (M.rowsN h hj).lt hb) (fun e => by cases e) fun q r e hkk hw b hb h2 => by
    rcases hw with hw | hw
    · cases hw
    have hqi : q ≠ i := fun e2 => by subst e2; rw [h] at e; cases e; cases hw
    exact M.dis q i r _ e h hqi hw b h2 ⟨j, hj, .inr hb⟩
theorem Mx.rowBs (M : Mx G w0 w R) (h : look R i = some (zbb B N c s n)) (hj : j < N) (hl : (c j).s = l) (hv : s j = v) (k : Nat) : Mx G w0 w ((k, bytR l v) :: R) := by
  subst hl hv
  exact M.cons k _ (M.rowsS h hj) zpb (fun b hb => (M.rowsS h hj).lt hb) (fun e => by cases e) fun q r e hkk hw b hb h2 => by
    rcases hw with hw | hw
    · cases hw
    have hqi : q ≠ i := fun e2 => by subst e2; rw [h] at e; cases e; cases hw
    exact M.dis q i r _ e h hqi hw b h2 ⟨j, hj, .inl hb⟩
end
/-! One cell is fresh. -/
theorem setCK_one {c : Nat → CelN} {p : Nat} (hf : (c p).f = true) (ho : ∀ i, i ≠ p → (c i).f = false) (x : Nat → Int) {m : Nat} (hm : 0 < m) : ∀ j, setK c m j = (if p < j then 1 else 0) ∧ setC c x m j = if p < j then putC c p (tornC (c p) (tornN (x 0) (c p).n.length)) else c
  | 0 => ⟨rfl, rfl⟩
  | j + 1 => by
    obtain ⟨h1, h2⟩ := setCK_one hf ho x hm j
    by_cases e : j = p
    · subst e
      rw [if_neg (Nat.lt_irrefl _)] at h1 h2
      rw [if_pos (Nat.lt_succ_self _), if_pos (Nat.lt_succ_self _), setK_in hf (by omega), setC_in hf (by omega), h1, h2]
      exact ⟨rfl, rfl⟩
    · rw [setK_no (ho j e), setC_no (ho j e), h1, h2]
      by_cases h : p < j
      · rw [if_pos h, if_pos h, if_pos (by omega), if_pos (by omega)]; exact ⟨rfl, rfl⟩
      · rw [if_neg h, if_neg h, if_neg (by omega), if_neg (by omega)]; exact ⟨rfl, rfl⟩
theorem age_low {V : VltN} {i : Nat} (hi : i < 16) : (ageW V).c i = V.c i := by
  have hp := nxtP_in V 16
  unfold ageW
  exact (sayW_c V 16 _).1 i (by omega)
theorem sayW_unf {V : VltN} {q : Nat} {l : List UInt8} (hf : V.fl = false) (h : ∀ i, (V.c i).f = false) : ∀ i, ((sayW V q l).1.c i).f = false := fun i => by
  by_cases e : i = nxtP V q
  · subst e; rw [(sayW_live q l hf).2.2.2]
  · rw [(sayW_c V q l).1 i e]; exact h i
theorem new_unf : ∀ i, ((ageW zeroV).c i).f = false := sayW_unf rfl fun _ => rfl
theorem sayW_lay {V : VltN} {q : Nat} {l : List UInt8} (hf : V.fl = true) (hl : V.lf = 1) : sayW V q l = (deadV (layV6 V (nxtP V q) (zma zj (nxtP V q) (nxtT V q) l)), false) := by
  have w1 : IntKind.i64.wrap (V.lf - 1) = 0 := by rw [hl]; rfl
  unfold sayW wrtV
  rw [if_neg (by unfold fallB; rw [hf, hl]; decide), if_pos (by unfold fallB layV6; dsimp only; rw [hf, w1]; rfl)]
theorem nxt_first {K : Nat} {V : VltN} {l : List UInt8} (hi : InvV K V) (hK : K < 255) (hf : V.fl = false) (h0 : (V.c 0).s = []) (h1 : (V.c 1).s = []) : nxtP (sayW V 0 l).1 0 = 1 ∧ ((sayW V 0 l).1.c 1).s = [] := by
  have hA : anyB zj V 0 = false := by unfold anyB secB; rw [h0, h1, good0, good0]; rfl
  have hP : nxtP V 0 = 0 := if_neg (by rw [hA]; exact Bool.false_ne_true)
  have c1 : ((sayW V 0 l).1.c 1).s = [] := by rw [(sayW_c V 0 l).1 1 (by omega)]; exact h1
  have hs : secB zj (sayW V 0 l).1 0 = false := by unfold secB; rw [c1, good0]; rfl
  obtain ⟨ha, -⟩ := say_says hi hK 0 l hf
  have hg : znb zj 0 ((sayW V 0 l).1.c 0).s = true := by unfold anyB at ha; rw [hs] at ha; simpa using ha
  refine ⟨?_, c1⟩
  unfold nxtP
  rw [if_pos ha]
  have : cntP (sayW V 0 l).1 0 = 0 := by
    unfold cntP
    rw [if_neg (by rw [hs]; exact Bool.false_ne_true)]
    exact if_pos (good_ge hg)
  rw [this]
def m1 (r : RecN) : Nat → Option RecN := updO (fun _ => none) 0 (some r)
theorem m1_get {V : VltN} {r : RecN} (ha : AccV V (m1 r)) {nm : ByteArray} (hn : r.s = nm) : fst8 (zca V nm) = 0 ∧ zja V (2 * 0) = r := by
  have h0 : accP V 0 (some r) := ha 0 (by decide)
  refine ⟨?_, h0.2.1⟩
  rw [named8 ha]
  exact fst8_at (by decide) (isN_eq nm hn) fun i h => absurd h (Nat.not_lt_zero i)
theorem plc_none (nm : ByteArray) : plcM (fun _ => none) nm = 0 := plc_new (by decide) (fun _ _ => rfl) rfl fun j h => absurd h (Nat.not_lt_zero j)
theorem plc_m1 {r : RecN} {nm : ByteArray} (hn : r.s = nm) : plcM (m1 r) nm = 0 := plc_is (by decide) (isN_eq nm hn) fun j h => absurd h (Nat.not_lt_zero j)
theorem m1_upd (r u : RecN) : updO (m1 r) 0 (some u) = m1 u := by
  funext j
  unfold m1 updO
  by_cases h : j = 0
  · rw [if_pos h, if_pos h]
  · rw [if_neg h, if_neg h, if_neg h]
theorem torn_facts {V1 V2 V3 V4 : VltN} {r u : RecN} (hV1 : ageW zeroV = V1) (hV2 : (putV V1 r).1 = V2) (hV3 : failV V2 1 = V3) (hV4 : (putV V3 u).1 = V4) (ro : RecOk r) (rp : zfa r = true) (uo : RecOk u) (up : zfa u = true) (hn : u.s = r.s) :
    ∃ N, (putV V3 u).2 = 10 ∧ (V4.c 1).f = true ∧ (V4.c 1).n = N ∧ (V4.c 1).s = [] ∧ 0 < N.length ∧ N.length ≤ 300 ∧ (∀ i, i ≠ 1 → (V4.c i).f = false) ∧ ∀ k : Nat, k ≤ N.length → ∀ V5, ageW (setlV V4 (fun _ => (k : Int)) 1) = V5 → (V5.c 1).s = N.take k ∧ (V5.c 1).f = false ∧ (k = N.length → AccV V5 (m1 u)) ∧ (k = 0 → AccV V5 (m1 r)) := by
  have hu1 : ∀ i, (V1.c i).f = false := by subst hV1; exact new_unf
  obtain ⟨hE1, hI1, hf1, hd1⟩ := new_is
  have hA1 := acc_new
  have hz : ∀ i, i < 16 → (V1.c i).s = [] := fun i hi => by subst hV1; rw [age_low hi]; rfl
  rw [hV1] at hE1 hI1 hf1 hd1 hA1
  have hp1 := put_acc hA1 hd1 rp (by rw [plc_none]; decide)
  obtain ⟨-, hA2, hd2, hf2⟩ := put_done hI1 (by decide) hA1 ro rp hd1 hf1 (by rw [plc_none]; decide)
  rw [plc_none] at hp1 hA2
  obtain ⟨hI2, hE2⟩ := put_keep hI1 (by decide) hE1 r
  have hu2 : ∀ i, (V2.c i).f = false := by rw [← hV2, hp1]; exact sayW_unf hf1 hu1
  have hnx : nxtP V2 0 = 1 ∧ (V2.c 1).s = [] := by rw [← hV2, hp1]; exact nxt_first hI1 (by decide) hf1 (hz 0 (by decide)) (hz 1 (by decide))
  rw [hV2] at hA2 hd2 hf2 hI2 hE2
  replace hA2 : AccV V2 (m1 r) := hA2
  have hc3 : V3.c = V2.c := by rw [← hV3]; rfl
  have hA3 : AccV V3 (m1 r) := by rw [← hV3]; exact acc_fail 1 hA2
  have hd3 : V3.dd = false := by rw [← hV3]; exact hd2
  have hp3 := put_acc hA3 hd3 up (by rw [plc_m1 hn.symm]; decide)
  rw [plc_m1 hn.symm, sayW_lay (by rw [← hV3]; rfl) (by rw [← hV3]; rfl)] at hp3
  have hx3 : nxtP V3 (2 * 0) = 1 := by rw [← hV3]; exact hnx.1
  obtain ⟨N, hN⟩ : ∃ N, zma zj 1 (nxtT V3 (2 * 0)) (recE u) = N := ⟨_, rfl⟩
  rw [hx3, hN] at hp3
  have hNl : N.length = 25 + (recE u).length := by rw [← hN, saidL_len zj sealH_len]
  have hub := recE_bd u
  have hc4 : V4.c = putC V3.c 1 ⟨(V3.c 1).s, N, true⟩ := by rw [← hV4, hp3]; rfl
  have hs3 : (V3.c 1).s = [] := by rw [hc3]; exact hnx.2
  have h41 : V4.c 1 = ⟨[], N, true⟩ := by rw [hc4, zzb, hs3]
  have h4o : ∀ i, i ≠ 1 → V4.c i = V2.c i := fun i hi => by rw [hc4, putC_ne _ _ hi, hc3]
  have hA4 := put_done hI2 (by decide) hA2 uo up hd2 hf2 (by rw [plc_m1 hn.symm]; decide)
  have hp4 := put_acc hA2 hd2 up (by rw [plc_m1 hn.symm]; decide)
  rw [plc_m1 hn.symm] at hA4 hp4
  have hAx := hA4.2.1
  rw [m1_upd] at hAx
  have hx1 : (putV V2 u).1.c 1 = ⟨N, [], false⟩ := by
    have h := (sayW_live (2 * 0) (recE u) hf2).2.2.2
    rw [hp4]
    have e1 : nxtP V2 (2 * 0) = 1 := hnx.1
    rw [e1] at h
    dsimp only
    rw [h, ← hN, ← hV3]; rfl
  have hxo : ∀ i, i ≠ 1 → (putV V2 u).1.c i = V2.c i := fun i hi => by
    rw [hp4]
    exact (sayW_c V2 (2 * 0) (recE u)).1 i (by rw [show nxtP V2 (2 * 0) = 1 from hnx.1]; exact hi)
  refine ⟨N, by rw [hp3]; rfl, by rw [h41], by rw [h41], by rw [h41], by omega, by omega, fun i hi => by rw [h4o i hi]; exact hu2 i, fun k hk V5 hV5 => ?_⟩
  have ht : tornN (k : Int) (V4.c 1).n.length = k := by rw [h41]; unfold tornN; dsimp only; omega
  have hset := (setCK_one (c := V4.c) (p := 1) (by rw [h41]) (fun i hi => by rw [h4o i hi]; exact hu2 i) (fun _ => (k : Int)) (m := 1) (by decide) 18).2
  rw [if_pos (by decide), ht] at hset
  have h51 : V5.c 1 = ⟨N.take k, [], false⟩ := by
    rw [← hV5, age_low (by decide)]
    show setC V4.c _ 1 18 1 = _
    rw [hset, zzb, h41]
    simp [tornC]
  have h5o : ∀ i, i < 16 → i ≠ 1 → V5.c i = V2.c i := fun i hi hne => by
    rw [← hV5, age_low hi]
    show setC V4.c _ 1 18 i = _
    rw [hset, putC_ne _ _ hne, h4o i hne]
  refine ⟨by rw [h51], by rw [h51], fun hkN => acc_cells (fun i hi => ?_) hAx, fun hk0 => acc_cells (fun i hi => ?_) hA2⟩
  · by_cases e : i = 1
    · subst e; rw [h51, hx1, hkN, List.take_length]
    · rw [h5o i hi e, hxo i e]
  · by_cases e : i = 1
    · subst e; rw [h51, hnx.2, hk0]; rfl
    · rw [h5o i hi e]
end Go.Proofs.YtmjbnmbobocpdaaGreat
