/- What VaultGets stands on, part 12. -/
import Derived.Deep.CutRange
import Derived.Test.YtmjbnmbobocpdaaGreatVaultGetsP1
import Derived.Test.YtmjbnmbobocpdaaGreatVaultGetsP2
import Derived.Test.YtmjbnmbobocpdaaGreatVaultGetsP3
import Derived.Test.YtmjbnmbobocpdaaGreatVaultGetsP4
import Derived.Test.YtmjbnmbobocpdaaGreatVaultGetsP5
import Derived.Test.YtmjbnmbobocpdaaGreatVaultGetsP6
import Derived.Test.YtmjbnmbobocpdaaGreatVaultGetsP7
import Derived.Test.YtmjbnmbobocpdaaGreatVaultGetsP8
import Derived.Test.YtmjbnmbobocpdaaGreatVaultGetsP9
import Derived.Test.YtmjbnmbobocpdaaGreatVaultGetsP10
import Derived.Test.YtmjbnmbobocpdaaGreatVaultGetsP11
set_option maxRecDepth 100000
set_option maxHeartbeats 8000000
set_option linter.unusedVariables false
set_option linter.unusedSimpArgs false
namespace Go.Proofs.YtmjbnmbobocpdaaGreat
open Go.ChangeShapes Go.WideShapes Go.ChangeAt Go.RowKit
theorem cel_one {w : World} {l r : List UInt8} {u v : Value} {b : Bool} (h : IsB w l u) (h2 : IsB w r v) : (#[u, v, .bool b] : Array Value).all (·.oneCell') = true := by
  obtain ⟨A, c, rfl⟩ := h.shape
  obtain ⟨A', c', rfl⟩ := h2.shape
  simp [Value.oneCell']
def CelsAt (w : World) (B gq : Nat) (c : Nat → CelN) (s n : Nat → Value) : Prop := w.heap[gq]? = some (.cells (celA c s n) 63 (0, 0)) ∧ B ≤ gq ∧ (∀ i, i < 18 → IsB w (c i).s (s i) ∧ IsB w (c i).n (n i) ∧ ∀ b, bfp (s i) b ∨ bfp (n i) b → B ≤ b) ∧ ∀ i, i < 18 → ¬ bfp (s i) gq ∧ ¬ bfp (n i) gq
theorem copies_any (g : Nat) (V : VltN) (s n : Nat → Value) (hv : zfa V) (w : World) (h : HasV w g V s n) :
  Calls Tryz.prog 60 #[.pointer (some ⟨g, 0, none⟩)] w fun e w' => ∃ gq s' n', e = .returned (.slice (some ⟨gq, 0, none⟩) 18 18) ∧ CelsAt w' w.heap.size gq V.c s' n' ∧ Below w.heap.size w w' := by
 refine zi (args := [.pointer (some ⟨g, 0, none⟩)]) 29 Tryz.func60 rfl rfl rfl ?_
 intro fa F
 have M := Mx.start w
 replace M := M.argO 0 h.blk (fun b e => by cases e)
 refine zS fun _ hK1 => ?_
 refine zR ?_
 refine rm rfl F fun _ F2 => ?_
 refine hK1 _ _ ?_
 refine zS fun _ hK3 => ?_
 refine zR ?_
 refine wl_allocS (zb rfl) rfl F2 rfl M 1 (t := 63) (c := celA (fun _ => nilC) nilS nilS) (k := 18) (m := 18) (y_mkCel _ _ _ Tryz.underlying49 rfl rfl rfl) ?_
 intro g4 a4 w4 F4 M4
 clear F2 M
 have N4 := M4.rowsNil 2 w.heap.size 18
 clear M4
 rw [← cutC_0 V.c] at N4
 refine rm rfl F4 fun _ F5 => ?_
 refine hK3 _ _ ?_
 refine zS fun _ hK6 => ?_
 refine zS fun _ hK7 => ?_
 refine zR ?_
 refine zB 3 [(2, zN), (3, .slice (some ⟨g4, 0, none⟩) 18 18), (9, .pointer (some ⟨g, 0, none⟩))] [] dnil [] F5 fun _ F8 => ?_
 clear F5
 refine zc (w' := w4) (zb rfl) rfl F8 rfl _ (zna _ _ rfl (F8.get (t := 9) rfl) (N4.roB (k := 0) rfl) (celA V.c s n) (cel_in V s n) Tryz.underlying76 rfl (by kernel_rfl)) fun _ F9 => ?_
 clear F8
 refine rm rfl F9 fun _ F10 => ?_
 refine hK7 _ _ ?_
 refine wp_block ?_
 refine zyb (α := Nat × (Nat → Value) × (Nat → Value)) (n := 29) (G := none) (w0 := w) (fun x => [(3, .slice (some ⟨g4, 0, none⟩) 18 18), (10, .agg (celA V.c s n)), (11, .int .i64 (x.1 : Int))]) (fun x => [(2, z1a w.heap.size 18 (cutC V.c x.1) x.2.1 x.2.2), (1, blkR g4 63 (celA (cutC V.c x.1) x.2.1 x.2.2)), (0, blkO g 80 (vltA V s n))]) (fun k x => k = (18 - x.1) ∧ (x.1 ≤ 18)) _ ⟨0, nilS, nilS⟩ ⟨rfl, (Nat.zero_le _)⟩ (F10.sub ⟨rfl, rfl, rfl, trivial⟩) (N4.sub ⟨rfl, rfl, rfl, trivial⟩) ?_
 clear F10 N4
 rintro k11 ⟨jn, so, no⟩ a11 w11 K11 ⟨ek11, I11⟩ F11 M11 hK11
 replace F11 : Fx 29 a11 [(3, .slice (some ⟨g4, 0, none⟩) 18 18), (10, .agg (celA V.c s n)), (11, .int .i64 (jn : Int))] := F11
 replace M11 : Mx _ _ w11 [(2, z1a w.heap.size 18 (cutC V.c jn) so no), (1, blkR g4 63 (celA (cutC V.c jn) so no)), (0, blkO g 80 (vltA V s n))] := M11
 replace I11 : jn ≤ 18 := I11
 replace ek11 : k11 = (18 - jn) := ek11
 have hj := I11
 by_cases hlt : jn < 18
 ·refine zS fun _ hK12 => ?_
  refine zR ?_
  refine zc (w' := w11) (zb rfl) rfl F11 rfl (.bool true) (zgb _ _ _ _ rfl (F11.get (t := 11) rfl) rfl (decide_eq_true (show (jn : Int) < 18 by omega))) fun _ F13 => ?_
  clear F11
  refine hK12 _ _ ?_
  refine zS fun _ hK14 => ?_
  refine wp_cond_true (F13.get (t := 12) rfl) ?_
  refine wp_skip ?_
  refine hK14 _ _ ?_
  refine zS fun _ hK15 => ?_
  refine wp_block ?_
  refine zS fun _ hK16 => ?_
  refine zR ?_
  refine rm rfl F13 fun _ F17 => ?_
  refine zc (w' := w11) (zb rfl) rfl F17 rfl (.agg (#[(s jn), (n jn), .bool ((V.c jn).f)])) (y_ixCel _ _ _ rfl rfl (F17.get (t := 10) rfl) (F17.get (t := 11) rfl) hlt rfl) fun _ F18 => ?_
  clear F17
  refine zh (zb rfl) rfl F18 rfl M11 3 (t := 63) (c := #[zN, zN, .bool false]) (by unfold execOp; kernel_rfl) ?_
  intro g19 a19 w19 F19 M19
  clear F18 M11
  refine rm rfl F19 fun _ F20 => ?_
  refine zm (zb rfl) rfl F20 M19 (k := 3) rfl _ _ _ rfl (F20.get (t := 5) rfl) (F20.get (t := 14) rfl) (#[(s jn), (n jn), .bool ((V.c jn).f)]) _ rfl (zL rfl) (cel_one ((h.hs jn hlt).step M19.below) ((h.hn jn hlt).step M19.below)) (zn rfl) (by kernel_rfl) ?_
  intro w21 M21
  clear M19
  refine hK16 _ _ ?_
  refine zsa F20 [fun vE => vE = .slice (some ⟨g4, 0, none⟩) 18 18, fun vE => vE = .int .i64 (jn : Int), fun vE => vE = .pointer (some ⟨g19, 0, none⟩), fun vE => vE = (s jn), fun _ => True, fun vE => vE = .pointer (some ⟨g19, 1, none⟩), fun vE => vE = (n jn), fun _ => True, fun vE => vE = .pointer (some ⟨g19, 2, none⟩), fun vE => vE = .bool ((V.c jn).f), fun _ => True] (JM none w fun SV pV => [(2, z1a w.heap.size 18 (cutC V.c jn) so no), (1, blkR g4 63 (celA (cutC V.c jn) so no)), (0, blkO g 80 (vltA V s n)), (3, blkR g19 63 (#[(s jn), (n jn), .bool ((V.c jn).f)])), (4, zya (SV 4) (ownR ((V.c jn).s) (pV 4))), (5, zya (SV 7) (ownR ((V.c jn).n) (pV 7))), (6, zya (SV 10) (pureR (pV 10 = .agg #[(pV 4), (pV 7), .bool (V.c jn).f])))]) 11 rfl (by kernel_rfl) rfl ⟨trivial, trivial, trivial, trivial, trivial, trivial, trivial, trivial, trivial, trivial, trivial, trivial⟩ (fun p => ((((M21.step (zga _)).triv 4).triv 5).triv 6).sub ⟨rfl, rfl, rfl, rfl, rfl, rfl, rfl, trivial⟩) ⟨?_, ?_, ?_, ?_, ?_, ?_, ?_, ?_, ?_, ?_, ?_, trivial⟩ ?_
  ·intro ua uw SV pV M0 hk hn hd
   have M : Mx none w uw _ := M0
   clear M0
   have e3 : ua.eval (.tmp 3) = .slice (some ⟨g4, 0, none⟩) 18 18 := (show ua.eval (.tmp 3) = _ from hd 3 (by decide)).trans (F20.get (t := 3) rfl)
   exact zd (zb rfl) (.slice (some ⟨g4, 0, none⟩) 18 18) (zaa _ (.inl rfl) e3) rfl (M.sub ⟨rfl, rfl, rfl, rfl, rfl, rfl, rfl, trivial⟩)
  ·intro ua uw SV pV M0 hk hn hd
   have M : Mx none w uw _ := M0
   clear M0
   have e4 : ua.eval (.tmp 4) = .int .i64 (jn : Int) := (show ua.eval (.tmp 4) = _ from hd 4 (by decide)).trans (F20.get (t := 4) rfl)
   exact zd (zb rfl) (.int .i64 (jn : Int)) (zaa _ (.inl rfl) e4) rfl (M.sub ⟨rfl, rfl, rfl, rfl, rfl, rfl, rfl, trivial⟩)
  ·intro ua uw SV pV M0 hk hn hd
   have M : Mx none w uw _ := M0
   clear M0
   have e5 : ua.eval (.tmp 5) = .pointer (some ⟨g19, 0, none⟩) := (show ua.eval (.tmp 5) = _ from hd 5 (by decide)).trans (F20.get (t := 5) rfl)
   exact zd (zb rfl) (.pointer (some ⟨g19, 0, none⟩)) (y_fa (off := 0) rfl e5 (by kernel_rfl) rfl) rfl (M.sub ⟨rfl, rfl, rfl, rfl, rfl, rfl, rfl, trivial⟩)
  ·intro ua uw SV pV M0 hk hn hd
   have M : Mx none w uw _ := M0
   clear M0
   obtain ⟨s2, f17, q17⟩ := (show SV 2 = true ∧ ua.eval (.tmp 17) = pV 2 ∧ stE _ 2 (pV 2) from hd 17 (by decide))
   have e17 : ua.eval (.tmp 17) = .pointer (some ⟨g19, 0, none⟩) := f17.trans q17
   exact zd (zb rfl) ((s jn)) (zba _ _ rfl e17 (M.blk (k := 3) rfl) rfl Tryz.underlying23 rfl) rfl (M.sub ⟨rfl, rfl, rfl, rfl, rfl, rfl, rfl, trivial⟩)
  ·intro ua uw SV pV M0 hk hn hd
   have M : Mx none w uw _ := M0
   clear M0
   obtain ⟨s3, f18, q18⟩ := (show SV 3 = true ∧ ua.eval (.tmp 18) = pV 3 ∧ stE _ 3 (pV 3) from hd 18 (by decide))
   have e18 : ua.eval (.tmp 18) = (s jn) := f18.trans q18
   exact zwa (zb rfl) rfl #[(s jn)] (zx e18) (zE Tryz.func90 rfl) (((clone_any ((V.c jn).s) ((s jn)) (by have := hv jn hlt; omega) uw ((h.hs jn hlt).step M.below))).mono fun e w2 h => (by obtain ⟨u, h1, h2, h3⟩ := h; exact ⟨u, h1, trivial, (M.newO h3 4 h2).sub ⟨rfl, rfl, rfl, rfl, rfl, rfl, (condR_off (hn 10 (by kernel_rfl)) rfl), trivial⟩⟩))
  ·intro ua uw SV pV M0 hk hn hd
   have M : Mx none w uw _ := M0
   clear M0
   have e5 : ua.eval (.tmp 5) = .pointer (some ⟨g19, 0, none⟩) := (show ua.eval (.tmp 5) = _ from hd 5 (by decide)).trans (F20.get (t := 5) rfl)
   exact zd (zb rfl) (.pointer (some ⟨g19, 1, none⟩)) (y_fa (off := 1) rfl e5 (by kernel_rfl) rfl) rfl (M.sub ⟨rfl, rfl, rfl, rfl, rfl, rfl, rfl, trivial⟩)
  ·intro ua uw SV pV M0 hk hn hd
   have M : Mx none w uw _ := M0
   clear M0
   obtain ⟨s5, f20, q20⟩ := (show SV 5 = true ∧ ua.eval (.tmp 20) = pV 5 ∧ stE _ 5 (pV 5) from hd 20 (by decide))
   have e20 : ua.eval (.tmp 20) = .pointer (some ⟨g19, 1, none⟩) := f20.trans q20
   exact zd (zb rfl) ((n jn)) (zba _ _ rfl e20 (M.blk (k := 3) rfl) rfl Tryz.underlying23 rfl) rfl (M.sub ⟨rfl, rfl, rfl, rfl, rfl, rfl, rfl, trivial⟩)
  ·intro ua uw SV pV M0 hk hn hd
   have M : Mx none w uw _ := M0
   clear M0
   obtain ⟨s6, f21, q21⟩ := (show SV 6 = true ∧ ua.eval (.tmp 21) = pV 6 ∧ stE _ 6 (pV 6) from hd 21 (by decide))
   have e21 : ua.eval (.tmp 21) = (n jn) := f21.trans q21
   exact zwa (zb rfl) rfl #[(n jn)] (zx e21) (zE Tryz.func90 rfl) (((clone_any ((V.c jn).n) ((n jn)) (by have := hv jn hlt; omega) uw ((h.hn jn hlt).step M.below))).mono fun e w2 h => (by obtain ⟨u, h1, h2, h3⟩ := h; exact ⟨u, h1, trivial, (M.newO h3 5 h2).sub ⟨rfl, rfl, rfl, rfl, rfl, rfl, (condR_off (hn 10 (by kernel_rfl)) rfl), trivial⟩⟩))
  ·intro ua uw SV pV M0 hk hn hd
   have M : Mx none w uw _ := M0
   clear M0
   have e5 : ua.eval (.tmp 5) = .pointer (some ⟨g19, 0, none⟩) := (show ua.eval (.tmp 5) = _ from hd 5 (by decide)).trans (F20.get (t := 5) rfl)
   exact zd (zb rfl) (.pointer (some ⟨g19, 2, none⟩)) (y_fa (off := 2) rfl e5 (by kernel_rfl) rfl) rfl (M.sub ⟨rfl, rfl, rfl, rfl, rfl, rfl, rfl, trivial⟩)
  ·intro ua uw SV pV M0 hk hn hd
   have M : Mx none w uw _ := M0
   clear M0
   obtain ⟨s8, f23, q23⟩ := (show SV 8 = true ∧ ua.eval (.tmp 23) = pV 8 ∧ stE _ 8 (pV 8) from hd 23 (by decide))
   have e23 : ua.eval (.tmp 23) = .pointer (some ⟨g19, 2, none⟩) := f23.trans q23
   exact zd (zb rfl) (.bool ((V.c jn).f)) (zba _ _ rfl e23 (M.blk (k := 3) rfl) rfl Tryz.underlying4 rfl) rfl (M.sub ⟨rfl, rfl, rfl, rfl, rfl, rfl, rfl, trivial⟩)
  ·intro ua uw SV pV M0 hk hn hd
   have M : Mx none w uw _ := M0
   clear M0
   obtain ⟨s4, f19, q19⟩ := (show SV 4 = true ∧ ua.eval (.tmp 19) = pV 4 ∧ stE _ 4 (pV 4) from hd 19 (by decide))
   have e19 : ua.eval (.tmp 19) = (pV 4) := f19
   obtain ⟨s7, f22, q22⟩ := (show SV 7 = true ∧ ua.eval (.tmp 22) = pV 7 ∧ stE _ 7 (pV 7) from hd 22 (by decide))
   have e22 : ua.eval (.tmp 22) = (pV 7) := f22
   obtain ⟨s9, f24, q24⟩ := (show SV 9 = true ∧ ua.eval (.tmp 24) = pV 9 ∧ stE _ 9 (pV 9) from hd 24 (by decide))
   have e24 : ua.eval (.tmp 24) = .bool ((V.c jn).f) := f24.trans q24
   obtain ⟨A0_, c0_, h0_⟩ := (M.isO (k := 4) (z3a s4 rfl)).shape
   obtain ⟨A1_, c1_, h1_⟩ := (M.isO (k := 5) (z3a s7 rfl)).shape
   exact zd (zb rfl) (.agg #[(pV 4), (pV 7), .bool (V.c jn).f]) (by unfold execOp; simp only [List.map_toArray, List.map_cons, List.map_nil, e19, e22, e24, h0_, h1_]; kernel_rfl) trivial ((M.pure_ 6 rfl).sub ⟨rfl, rfl, rfl, rfl, rfl, rfl, rfl, trivial⟩)
  intro p22 a22 w22 M22 G22 y22
  obtain ⟨q0, q1, -, -, -, -, -, -, -, -, q10, -⟩ := y22
  have r0 : p22 0 = .slice (some ⟨g4, 0, none⟩) 18 18 := q0
  have r1 : p22 1 = .int .i64 (jn : Int) := q1
  have r10 : p22 10 = .agg #[(p22 4), (p22 7), .bool (V.c jn).f] := (show (pureR (p22 10 = .agg #[(p22 4), (p22 7), .bool (V.c jn).f])).F _ from Mx.at_ (show Mx _ _ _ _ from M22) 6 _ rfl)
  replace M22 : Mx _ _ w22 [(2, z1a w.heap.size 18 (cutC V.c jn) so no), (1, blkR g4 63 (celA (cutC V.c jn) so no)), (0, blkO g 80 (vltA V s n)), (3, blkR g19 63 (#[(s jn), (n jn), .bool ((V.c jn).f)])), (4, zya true (ownR ((V.c jn).s) (p22 4))), (5, zya true (ownR ((V.c jn).n) (p22 7))), (6, zya true (pureR (p22 10 = .agg #[(p22 4), (p22 7), .bool (V.c jn).f])))] := M22
  simp only [List.take, layV, Nat.zero_add, Nat.reduceAdd, r0, r1, r10] at G22
  obtain ⟨Ap22_4, cp22_4, hp22_4⟩ := (M22.isO (k := 4) rfl).shape
  rw [hp22_4] at M22
  try rw [hp22_4] at G22
  obtain ⟨Ap22_5, cp22_5, hp22_5⟩ := (M22.isO (k := 5) rfl).shape
  rw [hp22_5] at M22
  try rw [hp22_5] at G22
  refine zc (w' := w22) (zb rfl) rfl G22 rfl (.pointer (some ⟨g4, 3 * jn, none⟩)) (y_ixG 49 (s := 3) Tryz.underlying49 (by kernel_rfl) _ _ rfl (G22.get (t := 15) rfl) (G22.get (t := 16) rfl) rfl hlt (by omega)) fun _ F23 => ?_
  clear G22
  refine zm (zb rfl) rfl F23 M22 (k := 1) rfl _ _ _ rfl (F23.get (t := 26) rfl) (F23.get (t := 25) rfl) (#[(.slice Ap22_4 ((V.c jn).s).length cp22_4), (.slice Ap22_5 ((V.c jn).n).length cp22_5), .bool ((V.c jn).f)]) (celA (putC (cutC V.c jn) jn ⟨(V.c jn).s, (V.c jn).n, (V.c jn).f⟩) (putN so jn ((.slice Ap22_4 ((V.c jn).s).length cp22_4))) (putN no jn ((.slice Ap22_5 ((V.c jn).n).length cp22_5)))) rfl (show 3 * jn + 3 ≤ 54 by omega) (by simp [Value.oneCell']) (cel_put (cutC V.c jn) so no ((.slice Ap22_4 ((V.c jn).s).length cp22_4)) ((.slice Ap22_5 ((V.c jn).n).length cp22_5)) (V.c jn).s (V.c jn).n (V.c jn).f hlt) (by kernel_rfl) ?_
  intro w24 M24
  clear M22
  refine hK15 _ _ ?_
  refine zR ?_
  refine zc (w' := w24) (zb rfl) rfl F23 rfl (.int .i64 ((jn + 1 : Nat) : Int)) (zqa _ _ _ _ rfl (F23.get (t := 11) rfl) rfl (by omega) (by omega)) fun _ F25 => ?_
  clear F23
  refine rm rfl F25 fun _ F26 => ?_
  have M27 := M24.rowsTwo (i := 2) (k := 4) (k2 := 5) (f := (V.c jn).f) rfl rfl rfl (fun b hb => M24.owns (k := 4) rfl b (zma hb)) (fun b hb => M24.owns (k := 5) rfl b (zma hb)) jn (by decide)
  rw [cutC_next] at M27
  clear M24
  subst ek11
  exact hK11 _ ⟨(jn + 1), (putN so jn ((.slice Ap22_4 ((V.c jn).s).length cp22_4))), (putN no jn ((.slice Ap22_5 ((V.c jn).n).length cp22_5)))⟩ _ _ (by omega) ⟨rfl, (by omega)⟩ (F26.sub ⟨rfl, rfl, rfl, trivial⟩) (M27.sub ⟨rfl, rfl, rfl, trivial⟩)
 ·have hj18 : jn = 18 := by omega
  refine zS fun _ hK28 => ?_
  refine zR ?_
  refine zc (w' := w11) (zb rfl) rfl F11 rfl (.bool false) (zgb _ _ _ _ rfl (F11.get (t := 11) rfl) rfl (decide_eq_false (show ¬ (jn : Int) < 18 by omega))) fun _ F29 => ?_
  clear F11
  refine hK28 _ _ ?_
  refine zS fun _ hK30 => ?_
  refine wp_cond_false (F29.get (t := 12) rfl) ?_
  refine wp_exit ?_
  simp only [Exit.then, Exit.inBlock, ↓reduceIte, Nat.reduceEqDiff]
  refine hK6 _ _ ?_
  refine zS fun _ hK31 => ?_
  refine zR ?_
  refine rm rfl F29 fun _ F32 => ?_
  refine rm rfl F32 fun _ F33 => ?_
  refine hK31 _ _ ?_
  refine wp_ret ?_
  try simp only [Exit.then, Exit.inBlock, Exit.jump]
  exact bodyPost_ret (res1 rfl (F33.get rfl)) F33.defers ⟨g4, so, no, rfl, (by subst hj18; exact ⟨M11.blk (k := 1) rfl, (M11.own 1 _ rfl rfl _ rfl).resolve_right (fun e => by cases e), fun i hi => (by have q := M11.rowsAt (i := 2) rfl i hi; rwa [show cutC V.c 18 i = V.c i from if_pos hi] at q), fun i hi => ⟨fun hb => M11.dis 1 2 _ _ rfl rfl (by decide) rfl _ rfl ⟨i, hi, .inl hb⟩, fun hb => M11.dis 1 2 _ _ rfl rfl (by decide) rfl _ rfl ⟨i, hi, .inr hb⟩⟩⟩), M11.below⟩
theorem copies_ex (g : Nat) (V : VltN) (s n : Nat → Value) (hv : zfa V) (w : World) (h : HasV w g V s n) : Calls Tryz.prog 60 #[.pointer (some ⟨g, 0, none⟩)] w fun e w' => ∃ t, e = .returned t ∧ ∃ gq s' n', t = .slice (some ⟨gq, 0, none⟩) 18 18 ∧ CelsAt w' w.heap.size gq V.c s' n' ∧ Below w.heap.size w w' :=
  (copies_any g V s n hv w h).mono fun e w' ⟨gq, s', n', h1, h2, h3⟩ => ⟨_, h1, gq, s', n', rfl, h2, h3⟩
theorem CelsAt.low {w : World} {B B' gq : Nat} {c : Nat → CelN} {s n : Nat → Value} (h : CelsAt w B gq c s n) (hb : B' ≤ B) : CelsAt w B' gq c s n :=
  ⟨h.1, Nat.le_trans hb h.2.1, fun i hi => ⟨(h.2.2.1 i hi).1, (h.2.2.1 i hi).2.1, fun b hb2 => Nat.le_trans hb ((h.2.2.1 i hi).2.2 b hb2)⟩, h.2.2.2⟩
theorem CelsAt.step {w w' : World} {B gq : Nat} {c : Nat → CelN} {s n : Nat → Value} (h : CelsAt w B gq c s n) (hb : Below w.heap.size w w') : CelsAt w' B gq c s n :=
  ⟨(hb.block gq (zxa h.1)).trans h.1, h.2.1, fun i hi => ⟨(h.2.2.1 i hi).1.step hb, (h.2.2.1 i hi).2.1.step hb, (h.2.2.1 i hi).2.2⟩, h.2.2.2⟩
theorem cells_any (g : Nat) (V : VltN) (s n : Nat → Value) (hv : zfa V) (w : World) (h : HasV w g V s n) :
  Calls Tryz.prog 28 #[.pointer (some ⟨g, 0, none⟩)] w fun e w' => ∃ gq s' n', e = .returned (.slice (some ⟨gq, 0, none⟩) 18 18) ∧ CelsAt w' w.heap.size gq V.c s' n' ∧ Below w.heap.size w w' := by
 refine zi (args := [.pointer (some ⟨g, 0, none⟩)]) 7 Tryz.func28 rfl rfl rfl ?_
 intro fa F
 have M := Mx.start w
 replace M := M.argO 0 h.blk (fun b e => by cases e)
 refine zS fun _ hK1 => ?_
 refine zR ?_
 refine rm rfl F fun _ F2 => ?_
 refine hK1 _ _ ?_
 refine zS fun _ hK3 => ?_
 refine zR ?_
 refine zB 3 [(2, zN), (5, .pointer (some ⟨g, 0, none⟩))] [] dnil [] F2 fun _ F4 => ?_
 clear F2
 refine zg (zb rfl) rfl F4 rfl rfl (zE Tryz.func60 rfl) #[.pointer (some ⟨g, 0, none⟩)] (zx (F4.get (t := 5) rfl)) (copies_ex g V s n hv w (h.step M.below)) ?_
 rintro _ w5 a5 ⟨gq5, s5, n5, rfl, hq5, b5⟩ F5
 have hle := M.le
 have M5 := M.step b5
 refine rm rfl F5 fun _ F6 => ?_
 refine hK3 _ _ ?_
 refine wp_ret ?_
 try simp only [Exit.then, Exit.inBlock, Exit.jump]
 exact bodyPost_ret (res1 rfl (F6.get rfl)) F6.defers ⟨gq5, s5, n5, rfl, CelsAt.low hq5 hle, M5.below⟩
end Go.Proofs.YtmjbnmbobocpdaaGreat
namespace Go.Proofs.YtmjbnmbobocpdaaGreat
open Go.ChangeShapes Go.WideShapes Go.ChangeAt Go.RowKit Go.Shelf
section
variable {G : Option Nat} {w0 w w' : World} {R : List (Nat × Res)} {kg kr g : Nat} {t : TypeId} {a a' : Array Value} {c c' : Nat → CelN} {s n s' n' : Nat → Value}
theorem Mx.vault (M : Mx G w0 w R) (hk : look R kg = some (blkR g t a)) (hrr : look R kr = some (z1a 0 18 c s n)) (hb : w.grownBy w' (some g)) (hblk : w'.heap[g]? = some (.cells a' t (0, 0))) (hrow : RowsV w' g c' s' n') (hto : ∀ b, zo 18 s' n' b → zo 18 s n b ∨ w.heap.size ≤ b) : Mx G w0 w' ((kr, z1a 0 18 c' s' n') :: (kg, blkR g t a') :: R) :=
  (M.put hk hb hblk).cons kr _ (fun j hj => ⟨(hrow j hj).1.1, (hrow j hj).2.1, fun _ _ => Nat.zero_le _⟩) rows_dep (fun b ⟨j, hj, h⟩ => by
    rcases h with h | h
    · exact (hrow j hj).1.1.lt h
    · exact (hrow j hj).2.1.lt h) (fun e => by cases e) fun k r e hkk hw b h h2 => by
    rcases hw with hw | hw
    · cases hw
    rw [zu] at e
    split at e
    · cases e
      obtain rfl : b = g := h2
      obtain ⟨j, hj, h⟩ := h
      rcases h with h | h
      · exact (hrow j hj).1.2 h
      · exact (hrow j hj).2.2 h
    · rcases hto b h with h | h
      · exact M.dis k kr r _ e hrr (fun e2 => hkk e2.symm) hw b h2 h
      · have := M.lt k r e b h2
        omega
theorem Mx.newVault (M : Mx G w0 w R) (hb : Below w.heap.size w w') (kg kr : Nat) (hg : w.heap.size ≤ g) (hblk : w'.heap[g]? = some (.cells a' t (0, 0))) (hrow : RowsV w' g c' s' n') (hto : ∀ b, zo 18 s' n' b → w.heap.size ≤ b) : Mx G w0 w' ((kr, z1a 0 18 c' s' n') :: (kg, blkR g t a') :: R) :=
  (M.newb hb kg hg hblk).cons kr _ (fun j hj => ⟨(hrow j hj).1.1, (hrow j hj).2.1, fun _ _ => Nat.zero_le _⟩) rows_dep (fun b ⟨j, hj, h⟩ => by
    rcases h with h | h
    · exact (hrow j hj).1.1.lt h
    · exact (hrow j hj).2.1.lt h) (fun e => by cases e) fun k r e hkk hw b h h2 => by
    rcases hw with hw | hw
    · cases hw
    rw [zu] at e
    split at e
    · cases e
      obtain rfl : b = g := h2
      obtain ⟨j, hj, h⟩ := h
      rcases h with h | h
      · exact (hrow j hj).1.2 h
      · exact (hrow j hj).2.2 h
    · have := M.lt k r e b h2
      have := hto b h
      omega
theorem Mx.hasV (M : Mx G w0 w R) {V : VltN} (hk : look R kg = some (blkR g 80 (vltA V s n))) (hrr : look R kr = some (z1a 0 18 V.c s n)) (hne : kr ≠ kg) : HasV w g V s n := HasV.of (M.blk hk) (M.rowsV hrr hk hne)
theorem Mx.freeze (M : Mx G w0 w R) {k g : Nat} {t : TypeId} {a : Array Value} (hk : look R k = some (blkR g t a)) : Mx G w0 w ((k, blkO g t a) :: R) :=
  M.cons k _ (M.blk hk) blkO_dep (fun b hb => by cases hb; exact zxa (M.blk hk)) (fun e => by cases e) fun j r e hj hw b hb => M.dis k j _ r hk e hj rfl b hb
end
section
variable (g : Nat) (V : VltN) (s n : Nat → Value) (w : World)
theorem vnew_is (V' : VltN) (h : ageW zeroV = V') (w : World) : Calls Tryz.prog 14 #[] w fun e w' => ∃ t, e = .returned t ∧ ∃ g, t = .pointer (some ⟨g, 0, none⟩) ∧ w.heap.size ≤ g ∧ ∃ s' n', RowsV w' g V'.c s' n' ∧ (∀ b, zo 18 s' n' b → w.heap.size ≤ b) ∧ w'.heap[g]? = some (.cells (vltA V' s' n') 80 (0, 0)) ∧ Below w.heap.size w w' := by
  subst h
  exact (vnew_any w).mono fun e w' ⟨g, h1, h2, s', n', h3, h4, h5, h6⟩ => ⟨_, h1, g, rfl, h2, s', n', h3, h4, h5, h6⟩
theorem put_is {K : Nat} (r : RecN) (Vr : RecV) (ho : RecOk r) (hi : InvV K V) (hK : K < 256) (V' : VltN) (z : Int) (h1 : (putV V r).1 = V') (h2 : (putV V r).2 = z) (w : World) (hR : RecIs w r Vr) (hRg : ¬ bfp Vr.v2 g ∧ ¬ bfp Vr.v5 g) (hr : RowsV w g V.c s n) (hg : w.heap[g]? = some (.cells (vltA V s n) 80 (0, 0))) :
    Calls Tryz.prog 22 #[.pointer (some ⟨g, 0, none⟩), .agg (recA r Vr)] w fun e w' => ∃ t, e = .returned t ∧ t = .int .i64 z ∧ ∃ s' n', RowsV w' g V'.c s' n' ∧ (∀ b, zo 18 s' n' b → zo 18 s n b ∨ w.heap.size ≤ b) ∧ w'.heap[g]? = some (.cells (vltA V' s' n') 80 (0, 0)) ∧ w.grownBy w' (some g) := by
  subst h1 h2
  exact put_any g V s n r Vr ho hi hK w hR hRg hr hg
theorem gone_is {K : Nat} (nm : ByteArray) (hi : InvV K V) (hK : K < 256) (V' : VltN) (z : Int) (h1 : (goneV V nm).1 = V') (h2 : (goneV V nm).2 = z) (w : World) (hr : RowsV w g V.c s n) (hg : w.heap[g]? = some (.cells (vltA V s n) 80 (0, 0))) :
    Calls Tryz.prog 27 #[.pointer (some ⟨g, 0, none⟩), .string nm] w fun e w' => ∃ t, e = .returned t ∧ t = .int .i64 z ∧ ∃ s' n', RowsV w' g V'.c s' n' ∧ (∀ b, zo 18 s' n' b → zo 18 s n b ∨ w.heap.size ≤ b) ∧ w'.heap[g]? = some (.cells (vltA V' s' n') 80 (0, 0)) ∧ w.grownBy w' (some g) := by
  subst h1 h2
  exact gone_any g V s n nm hi hK w hr hg
theorem again_isV {K : Nat} {e0 : Int} (A0 : Option Addr) (m c0 : Nat) (tx : Nat → Int) (hmc : m ≤ c0) (hi : InvV K V) (hK : K < 256) (he : EraV V e0) (h0 : 0 ≤ e0) (h1 : e0 < 1000) (V' : VltN) (h : ageW (setlV V tx m) = V') (w : World) (hT : RdI w A0 m tx) (hTg : ¬ ifp A0 m g) (hr : RowsV w g V.c s n) (hg : w.heap[g]? = some (.cells (vltA V s n) 80 (0, 0))) :
    Calls Tryz.prog 30 #[.pointer (some ⟨g, 0, none⟩), .slice A0 m c0] w fun e w' => ∃ t, e = .returned t ∧ ∃ s' n', RowsV w' g V'.c s' n' ∧ (∀ b, zo 18 s' n' b → zo 18 s n b ∨ w.heap.size ≤ b) ∧ w'.heap[g]? = some (.cells (vltA V' s' n') 80 (0, 0)) ∧ w.grownBy w' (some g) := by
  subst h
  exact vagain_any g V s n (inv_short hi) A0 m c0 tx hmc (era_bd (era_setl he tx m) h0 h1) (inv_turn (setl_inv hi tx m) hK 16) w hT hTg hr hg
theorem boot_is {K : Nat} {e0 : Int} (hi : InvV K V) (he : EraV V e0) (w : World) (h : HasV w g V s n) : Calls Tryz.prog 26 #[.pointer (some ⟨g, 0, none⟩)] w fun e w' => e = .returned (.int .i64 e0) ∧ Below w.heap.size w w' := by
  have := boot_any g V s n (inv_short hi) w h
  rwa [he.2.2.2] at this
theorem dead_is (b : Bool) (hb : V.dd = b) (w : World) (h : HasV w g V s n) : Calls Tryz.prog 32 #[.pointer (some ⟨g, 0, none⟩)] w fun e w' => e = .returned (.bool b) ∧ Below w.heap.size w w' := by
  subst hb; exact vdead_any g V s n w h
theorem get_yes {K : Nat} (hi : InvV K V) (nm : ByteArray) (k : Nat) (h8 : k < 8) (hk : fst8 (zz V nm) = k) (r : RecN) (hr : zja V (2 * k) = r) (w : World) (h : HasV w g V s n) : Calls Tryz.prog 24 #[.pointer (some ⟨g, 0, none⟩), .string nm] w fun e w' => ∃ t, e = .returned t ∧ ∃ V', t = .tuple #[.agg (recA r V'), .bool true] ∧ RecIs w' r V' ∧ (∀ b, bfp V'.v2 b ∨ bfp V'.v5 b → w.heap.size ≤ b) ∧ Below w.heap.size w w' := by
  subst hr hk
  exact (get_any g V s n (inv_short hi) nm w h).mono fun e w' ⟨t, h1, h2, h3⟩ => ⟨t, h1, by
    rcases h2 with ⟨k, V', q1, q2, q3, q4, q5⟩ | ⟨q1, q2⟩
    · subst q2; exact ⟨V', q3, q4, q5, h3⟩
    · omega⟩
theorem get_not {K : Nat} (hi : InvV K V) (nm : ByteArray) (hk : fst8 (zz V nm) = 8) (w : World) (h : HasV w g V s n) : Calls Tryz.prog 24 #[.pointer (some ⟨g, 0, none⟩), .string nm] w fun e w' => e = .returned (.tuple #[.agg (recA zeroRec ⟨zN, zN⟩), .bool false]) ∧ Below w.heap.size w w' :=
  (get_any g V s n (inv_short hi) nm w h).mono fun e w' ⟨t, h1, h2, h3⟩ => ⟨by
    rcases h2 with ⟨k, V', q1, q2, q3, q4, q5⟩ | ⟨q1, q2⟩
    · omega
    · rw [h1, q2], h3⟩
theorem names_is {K : Nat} (hi : InvV K V) (L : List ByteArray) (hL : srtL (namL V 8) = L) (w : World) (h : HasV w g V s n) : Calls Tryz.prog 25 #[.pointer (some ⟨g, 0, none⟩)] w fun e w' => ∃ v, e = .returned v ∧ TxtAt w' w.heap.size L v ∧ Below w.heap.size w w' := by
  subst hL; exact names_any g V s n (inv_short hi) w h
theorem cells_is {K : Nat} (hi : InvV K V) (w : World) (h : HasV w g V s n) : Calls Tryz.prog 28 #[.pointer (some ⟨g, 0, none⟩)] w fun e w' => ∃ t, e = .returned t ∧ ∃ gq s' n', t = .slice (some ⟨gq, 0, none⟩) 18 18 ∧ CelsAt w' w.heap.size gq V.c s' n' ∧ Below w.heap.size w w' :=
  (cells_any g V s n (inv_short hi) w h).mono fun e w' ⟨gq, s', n', h1, h2, h3⟩ => ⟨_, h1, gq, s', n', rfl, h2, h3⟩
theorem rec6_is (m : Int) (b : List UInt8) (bv : Value) (hn : -9223372036854775808 ≤ m ∧ m < 9223372036854775808) (hb : b.length ≤ 1000) (r : RecN) (hr : recK m b ((m.tdiv 23) % 10).toNat = r) (w : World) (hB : IsB w b bv) : Calls Tryz.prog 21 #[.int .i64 m, bv] w fun e w' => ∃ t, e = .returned t ∧ ∃ V, t = .agg (recA r V) ∧ RecIs w' r V ∧ (∀ q, bfp V.v2 q ∨ bfp V.v5 q → w.heap.size ≤ q) ∧ Below w.heap.size w w' := by
  subst hr; exact rec6_any m b bv hn hb w hB
end
end Go.Proofs.YtmjbnmbobocpdaaGreat
namespace Go.Proofs.YtmjbnmbobocpdaaGreat
open Go.ChangeShapes Go.WideShapes Go.ChangeAt Go.RowKit Go.Shelf
theorem recE_pos {r : RecN} (h : zka r = true) : recE r ≠ [] := by
  rw [show recE r = recL r from if_pos h, recL_is]
  exact fun e => by cases e
theorem rdOk_nil : rdOk [] = false := by
  cases h : rdOk [] with
  | false => rfl
  | true =>
    unfold rdOk zrb at h
    simp only [Bool.and_eq_true, decide_eq_true_eq] at h
    exact absurd h.2 (recE_pos h.1)
def accP (V : VltN) (k : Nat) : Option RecN → Prop
  | none => saidB V (2 * k) = false ∧ zua V (2 * k) = true
  | some r => saidB V (2 * k) = true ∧ zja V (2 * k) = r ∧ zua V (2 * k) = false
def AccV (V : VltN) (m : Nat → Option RecN) : Prop := ∀ k, k < 8 → accP V k (m k)
def updO (m : Nat → Option RecN) (k : Nat) (r : Option RecN) : Nat → Option RecN := fun i => if i = k then r else m i
theorem acc_of {V V' : VltN} {k : Nat} (h : saidB V' (2 * k) = saidB V (2 * k) ∧ zja V' (2 * k) = zja V (2 * k) ∧ zua V' (2 * k) = zua V (2 * k) ∧ numB V' (2 * k) = numB V (2 * k) ∧ ztb V' (2 * k) = ztb V (2 * k)) {o : Option RecN} (ha : accP V k o) : accP V' k o := by
  obtain ⟨h1, h2, h3, -⟩ := h
  cases o with
  | none => exact ⟨h1.trans ha.1, h3.trans ha.2⟩
  | some r => exact ⟨h1.trans ha.1, h2.trans ha.2.1, h3.trans ha.2.2⟩
theorem acc_nil {V : VltN} (h : ∀ i, i < 16 → (V.c i).s = []) : AccV V fun _ => none := fun k hk => by
  have hg : ∀ i, i < 16 → zpb zj i (V.c i).s = false := fun i hi => by rw [h i hi]; exact good0 i
  have ha : anyB zj V (2 * k) = false := by
    unfold anyB secB
    rw [hg _ (by omega), hg _ (by omega)]; rfl
  exact ⟨by unfold saidB; rw [ha]; rfl, by unfold zua; rw [ha]; rfl⟩
theorem acc_new : AccV (ageW zeroV) fun _ => none := acc_nil fun i hi => by
  have hp := nxtP_in zeroV 16
  unfold ageW
  rw [(sayW_c zeroV 16 _).1 i (by omega)]; rfl
theorem sayW_ok {V : VltN} {q : Nat} {l : List UInt8} (h : (sayW V q l).2 = true) : (sayW V q l).1.c (nxtP V q) = ⟨zoa zj (nxtP V q) (nxtT V q) l, [], false⟩ ∧ (sayW V q l).1.dd = V.dd ∧ (sayW V q l).1.fl = V.fl ∧ (sayW V q l).1.lf = IntKind.i64.wrap (IntKind.i64.wrap (V.lf - 1) - 1) := by
  unfold sayW wrtV at h ⊢
  by_cases h1 : fallB V = true
  · rw [if_pos h1] at h; cases h
  · rw [if_neg h1] at h ⊢
    by_cases h2 : fallB (layV6 V (nxtP V q) (zoa zj (nxtP V q) (nxtT V q) l)) = true
    · rw [if_pos h2] at h; cases h
    · rw [if_neg h2]
      refine ⟨?_, rfl, rfl, rfl⟩
      show putC (putC V.c _ _) _ ⟨(putC V.c _ _ _).n, [], false⟩ _ = _
      rw [z6b, z6b]
theorem say_said' {K : Nat} {V : VltN} (hi : InvV K V) (hK : K < 255) {q : Nat} {l : List UInt8} (h : (sayW V q l).2 = true) : anyB zj (sayW V q l).1 q = true ∧ cntS (sayW V q l).1 q = l :=
  wrote hi hK (by rw [(sayW_ok h).1]) (fun i hne => by rw [(sayW_c V q l).1 i hne])
theorem acc_say {K : Nat} {V : VltN} {m : Nat → Option RecN} (hi : InvV K V) (hK : K < 255) (ha : AccV V m) {k : Nat} {r : RecN} (ho : RecOk r) (hk : zka r = true) (h : (sayW V (2 * k) (recE r)).2 = true) : AccV (sayW V (2 * k) (recE r)).1 (updO m k (some r)) := fun j hj => by
  unfold updO
  by_cases e : j = k
  · subst e
    rw [if_pos rfl]
    obtain ⟨h1, h2⟩ := say_said' hi hK h
    obtain ⟨y1, y2⟩ := rd_rec ho hk
    refine ⟨by unfold saidB; rw [h1, h2, y1]; rfl, by unfold zja; rw [if_pos h1, h2, y2], ?_⟩
    unfold zua
    rw [h1, h2]
    have := List.length_pos_iff.2 (recE_pos hk)
    rw [decide_eq_false (show ¬ (((recE r).length : Int) = 0) by omega)]; rfl
  · rw [if_neg e]
    exact acc_of (said_eq (sayW_pair V _ (by omega))) (ha j hj)
theorem acc_gone {K : Nat} {V : VltN} {m : Nat → Option RecN} (hi : InvV K V) (hK : K < 255) (ha : AccV V m) {k : Nat} (h : (sayW V (2 * k) []).2 = true) : AccV (sayW V (2 * k) []).1 (updO m k none) := fun j hj => by
  unfold updO
  by_cases e : j = k
  · subst e
    rw [if_pos rfl]
    obtain ⟨h1, h2⟩ := say_said' hi hK h
    refine ⟨by unfold saidB; rw [h1, h2, rdOk_nil]; rfl, ?_⟩
    unfold zua
    rw [h1, h2]; rfl
  · rw [if_neg e]
    exact acc_of (said_eq (sayW_pair V _ (by omega))) (ha j hj)
def isN (nm : ByteArray) : Option RecN → Bool
  | none => false
  | some r => decide (r.s.toList = nm.toList)
theorem named_acc {V : VltN} {m : Nat → Option RecN} (ha : AccV V m) (nm : ByteArray) {k : Nat} (hk : k < 8) : zz V nm k = isN nm (m k) := by
  have h := ha k hk
  cases hm : m k with
  | none => rw [hm] at h; exact namedB_no h.1
  | some r => rw [hm] at h; exact namedB_is h.1 (by rw [h.2.1]; rfl)
theorem empty_acc {V : VltN} {m : Nat → Option RecN} (ha : AccV V m) {k : Nat} (hk : k < 8) : zua V (2 * k) = (m k).isNone := by
  have h := ha k hk
  cases hm : m k with
  | none => rw [hm] at h; exact h.2
  | some r => rw [hm] at h; exact h.2.2
theorem fst8_congr {p q : Nat → Bool} (h : ∀ k, k < 8 → p k = q k) : fst8 p = fst8 q := by
  have : ∀ n k, k + n ≤ 8 → fstN p n k = fstN q n k := fun n => by
    induction n with
    | zero => intro k _; rfl
    | succ n ih => intro k hk; unfold fstN; rw [h k (by omega), ih (k + 1) (by omega)]
  exact this 8 0 (by omega)
theorem named8 {V : VltN} {m : Nat → Option RecN} (ha : AccV V m) (nm : ByteArray) : fst8 (zz V nm) = fst8 fun k => isN nm (m k) := fst8_congr fun k hk => named_acc ha nm hk
theorem empty8 {V : VltN} {m : Nat → Option RecN} (ha : AccV V m) : fst8 (fun i => zua V (2 * i)) = fst8 fun k => (m k).isNone := fst8_congr fun k hk => empty_acc ha hk
theorem fst8_at {p : Nat → Bool} {k : Nat} (hk : k < 8) (h : p k = true) (hl : ∀ i, i < k → p i = false) : fst8 p = k := by
  rcases fst8_spec p with ⟨h1, h2, h3⟩ | ⟨h1, h2⟩
  · rcases Nat.lt_trichotomy (fst8 p) k with h4 | h4 | h4
    · rw [hl _ h4] at h2; cases h2
    · exact h4
    · rw [h3 k h4] at h; cases h
  · rw [h2 k hk] at h; cases h
theorem fst8_none {p : Nat → Bool} (h : ∀ i, i < 8 → p i = false) : fst8 p = 8 := by
  rcases fst8_spec p with ⟨h1, h2, h3⟩ | ⟨h1, h2⟩
  · rw [h _ h1] at h2; cases h2
  · exact h1
def plcM (m : Nat → Option RecN) (nm : ByteArray) : Nat := if fst8 (fun k => isN nm (m k)) < 8 then fst8 (fun k => isN nm (m k)) else fst8 fun k => (m k).isNone
theorem put_acc {V : VltN} {m : Nat → Option RecN} (ha : AccV V m) {r : RecN} (hd : V.dd = false) (hk : zka r = true) (hp : plcM m r.s < 8) : putV V r = ((sayW V (2 * plcM m r.s) (recE r)).1, if (sayW V (2 * plcM m r.s) (recE r)).2 = true then 0 else 10) := by
  unfold putV
  rw [if_neg (by rw [hd]; exact Bool.false_ne_true), if_neg (by rw [hk]; exact fun h => by cases h), named8 ha, empty8 ha]
  unfold plcM at hp ⊢
  split
  · rfl
  · rename_i h
    rw [if_neg h] at hp
    rw [if_pos hp]
theorem put_done {K : Nat} {V : VltN} {m : Nat → Option RecN} (hi : InvV K V) (hK : K < 255) (ha : AccV V m) {r : RecN} (ho : RecOk r) (hk : zka r = true) (hd : V.dd = false) (hf : V.fl = false) (hp : plcM m r.s < 8) : (putV V r).2 = 0 ∧ AccV (putV V r).1 (updO m (plcM m r.s) (some r)) ∧ (putV V r).1.dd = false ∧ (putV V r).1.fl = false := by
  rw [put_acc ha hd hk hp]
  obtain ⟨h1, h2, h3, h4⟩ := sayW_live (2 * plcM m r.s) (recE r) hf
  exact ⟨by dsimp only; rw [if_pos h1], acc_say hi hK ha ho hk h1, h3.trans hd, h2⟩
theorem gone_acc {V : VltN} {m : Nat → Option RecN} (ha : AccV V m) (nm : ByteArray) (hd : V.dd = false) : goneV V nm = if fst8 (fun k => isN nm (m k)) < 8 then ((sayW V (2 * fst8 fun k => isN nm (m k)) []).1, if (sayW V (2 * fst8 fun k => isN nm (m k)) []).2 = true then 0 else 10) else (V, 3) := by
  unfold goneV
  rw [if_neg (by rw [hd]; exact Bool.false_ne_true), named8 ha]
theorem gone_done {K : Nat} {V : VltN} {m : Nat → Option RecN} (hi : InvV K V) (hK : K < 255) (ha : AccV V m) {nm : ByteArray} (hd : V.dd = false) (hf : V.fl = false) {k : Nat} (hp : fst8 (fun k => isN nm (m k)) = k) (h8 : k < 8) : (goneV V nm).2 = 0 ∧ AccV (goneV V nm).1 (updO m k none) ∧ (goneV V nm).1.dd = false ∧ (goneV V nm).1.fl = false := by
  rw [gone_acc ha nm hd, hp, if_pos h8]
  obtain ⟨h1, h2, h3, h4⟩ := sayW_live (2 * k) [] hf
  exact ⟨by dsimp only; rw [if_pos h1], acc_gone hi hK ha h1, h3.trans hd, h2⟩
def nmsM (m : Nat → Option RecN) : Nat → List ByteArray
  | 0 => []
  | k + 1 => match m k with
    | none => nmsM m k
    | some r => nmsM m k ++ [r.s]
theorem namL_acc {V : VltN} {m : Nat → Option RecN} (ha : AccV V m) : ∀ k, k ≤ 8 → namL V k = nmsM m k
  | 0, _ => rfl
  | k + 1, hk => by
    have h := ha k (by omega)
    have ih := namL_acc ha k (by omega)
    unfold nmsM
    cases hm : m k with
    | none => rw [hm] at h; rw [namL_no h.1]; exact ih
    | some r => rw [hm] at h; rw [namL_yes h.1 h.2.1, ih]
end Go.Proofs.YtmjbnmbobocpdaaGreat
namespace Go.Proofs.YtmjbnmbobocpdaaGreat
open Go.ChangeShapes Go.WideShapes Go.ChangeAt Go.RowKit
def rA : RecN := ⟨1, ⟨#[97]⟩, [], 0, 0, [], 0, 0, 0⟩
theorem rA_ok : RecOk rA := ⟨by decide, by decide, by decide, by decide, by decide, by decide, by decide⟩
theorem rA_name : NameOk rA.s := by
  refine ⟨by decide, by decide, fun i h => ?_⟩
  have : i = 0 := by have h1 : rA.s.size = 1 := rfl; omega
  subst this
  exact (show (33 : Int) ≤ ((97 : UInt8).toNat : Int) ∧ ((97 : UInt8).toNat : Int) ≤ 126 by decide)
theorem rA_keep : zka rA = true := by
  unfold zka
  rw [show nameB rA.s = true from @decide_eq_true _ (Classical.propDecidable _) rA_name, show topI rA.a 8 = 0 from topI_none 8, show topI rA.b 8 = 0 from topI_none 8]
  decide
theorem y_eqPN {a : Act} {w : World} {o : Oper} (ty tz : TypeId) (hu : Tryz.prog.underlying ty = some (.pointer (Tryz.prog.pointee ty))) (hgt : Tryz.prog.eqGuardType Tryz.prog.depth ty = false) (x : Operand) {p : Addr} (ho : o.op = .binOp .eql ty x (.const (.pointer none)) tz) (hx : a.eval x = .pointer (some p)) : (execOp a.eval o).run Tryz.prog w = .ok (.value (.bool false)) w :=
  y_eqV ty tz x _ ho hx (v := .pointer none) rfl (by simp [eqGuard, go_sem, hgt]) (by rw [run_eql_pointer_nil (h := hu)]; rfl)
end Go.Proofs.YtmjbnmbobocpdaaGreat
namespace Go.Proofs.YtmjbnmbobocpdaaGreat
open Go.ChangeShapes Go.WideShapes Go.ChangeAt Go.RowKit
theorem plcA : plcM (fun _ => none) rA.s = 0 := by
  have e : (fst8 fun k => isN rA.s ((fun _ => none) k)) = 8 := fst8_none fun _ _ => rfl
  unfold plcM
  rw [if_neg (by omega)]
  exact fst8_at (by decide) rfl fun i h => absurd h (Nat.not_lt_zero i)
theorem rdI_none (w : World) {x : Nat → Int} (hx : ∀ k, -9223372036854775808 ≤ x k ∧ x k < 9223372036854775808 := by intro k; decide) : RdI w none 0 x := ⟨by unfold maxLen; decide, hx, fun h => absurd h (Nat.lt_irrefl 0)⟩
theorem known6_any  (w : World) :
  Calls Tryz.prog 13 #[] w fun e w' => e = .returned (.bool true) ∧ Below w.heap.size w w' := by
 obtain ⟨hE1, hI1, hf1, hd1⟩ := new_is
 have hA1 := acc_new
 obtain ⟨V1, hV1⟩ : ∃ x, ageW zeroV = x := ⟨_, rfl⟩
 rw [hV1] at hE1 hI1 hf1 hd1 hA1
 obtain ⟨hz2, hA2, hd2, hf2⟩ := put_done hI1 (by decide) hA1 rA_ok rA_keep hd1 hf1 (by rw [plcA]; decide)
 rw [plcA] at hA2
 obtain ⟨hI2, hE2⟩ := put_keep hI1 (by decide) hE1 rA
 obtain ⟨V2, hV2⟩ : ∃ x, (putV V1 rA).1 = x := ⟨_, rfl⟩
 rw [hV2] at hA2 hd2 hf2 hI2 hE2
 have h20 : accP V2 0 (some rA) := hA2 0 (by decide)
 have hn2 : fst8 (zz V2 rA.s) = 0 := by
  rw [named8 hA2]
  exact fst8_at (by decide) (show isN rA.s (some rA) = true from decide_eq_true rfl) fun i h => absurd h (Nat.not_lt_zero i)
 have hL2 : srtL (namL V2 8) = [rA.s] := by rw [namL_acc hA2 8 (Nat.le_refl _)]; rfl
 obtain ⟨hE3, hI3, -, hd3⟩ := again_is hI2 (by decide) hE2 (by decide) (by decide) (fun _ => 0) 0
 obtain ⟨V3, hV3⟩ : ∃ x, ageW (setlV V2 (fun _ => 0) 0) = x := ⟨_, rfl⟩
 rw [hV3] at hE3 hI3 hd3
 refine zi (args := []) 57 Tryz.func13 rfl rfl rfl ?_
 intro fa F
 have M := Mx.start w
 refine zS fun _ hK21 => ?_
 refine zR ?_
 refine rm rfl F fun _ F22 => ?_
 refine hK21 _ _ ?_
 refine zS fun _ hK23 => ?_
 refine zR ?_
 refine zg (zb rfl) rfl F22 rfl rfl (zE Tryz.func14 rfl) #[] (args0) (vnew_is V1 hV1 w) ?_
 rintro _ w24 a24 ⟨g24, rfl, hg24, s24, n24, hr24, ht24, hc24, b24⟩ F24
 have M24 := M.newVault b24 0 1 hg24 hc24 hr24 ht24
 clear M b24 hg24 hc24 hr24 ht24
 refine rm rfl F24 fun _ F25 => ?_
 refine hK23 _ _ ?_
 refine zS fun _ hK26 => ?_
 refine zS fun _ hK27 => ?_
 refine zR ?_
 refine rm rfl F25 fun _ F28 => ?_
 refine zc (w' := w24) (zb rfl) rfl F28 rfl (.bool false) (y_eqPN 25 _ Tryz.underlying25 (by kernel_rfl) _ rfl (F28.get (t := 7) rfl)) fun _ F29 => ?_
 clear F28
 refine rm rfl F29 fun _ F30 => ?_
 refine rm rfl F30 fun _ F31 => ?_
 refine zg (zf rfl rfl rfl (F31.get (t := 9) rfl)) rfl F31 rfl rfl (zE Tryz.func26 rfl) #[.pointer (some ⟨g24, 0, none⟩)] (zx (F31.get (t := 10) rfl)) (zda ((boot_is g24 V1 s24 n24 hI1 hE1 w24 (M24.hasV (kg := 0) (kr := 1) rfl rfl (by decide))))) ?_
 rintro _ w32 a32 ⟨rfl, b32⟩ F32
 have M32 := M24.step b32
 refine zB 2 [(0, .bool false), (1, .pointer (some ⟨g24, 0, none⟩)), (13, .bool false)] [] dnil [] F32 fun _ F33 => ?_
 clear F32
 refine hK27 _ _ ?_
 refine wp_cond_false (F33.get (t := 13) rfl) ?_
 refine wp_skip ?_
 refine hK26 _ _ ?_
 refine zS fun _ hK34 => ?_
 refine zR ?_
 refine rm rfl F33 fun _ F35 => ?_
 refine zc (w' := w32) (zb rfl) rfl F35 rfl (.agg (recA ⟨1, ({ data := #[97] }), [], 0, 0, [], 0, 0, 0⟩ ⟨zN, zN⟩)) (by unfold execOp; simp only [List.map_toArray, List.map_cons, List.map_nil, ]; kernel_rfl) fun _ F36 => ?_
 clear F35
 refine zg (zb rfl) rfl F36 rfl rfl (zE Tryz.func22 rfl) #[.pointer (some ⟨g24, 0, none⟩), .agg (recA ⟨1, ({ data := #[97] }), [], 0, 0, [], 0, 0, 0⟩ ⟨zN, zN⟩)] (zha (F36.get (t := 14) rfl) (F36.get (t := 15) rfl)) (put_is g24 V1 s24 n24 rA rvZero rA_ok hI1 (by decide) V2 0 hV2 hz2 w32 ⟨(zla _), (zla _)⟩ ⟨(z5a _), (z5a _)⟩ (M32.rowsV (i := 1) (k := 0) rfl rfl (by decide)) (M32.blk (k := 0) rfl)) ?_
 rintro _ w37 a37 ⟨rfl, s37, n37, hr37, ht37, hc37, hg37⟩ F37
 have M37 := M32.vault (kg := 0) (kr := 1) rfl rfl hg37 hc37 hr37 ht37
 clear M32 hg37 hc37 hr37 ht37
 refine rm rfl F37 fun _ F38 => ?_
 refine hK34 _ _ ?_
 refine zS fun _ hK39 => ?_
 refine zR ?_
 refine rm rfl F38 fun _ F40 => ?_
 refine zg (zb rfl) rfl F40 rfl rfl (zE Tryz.func24 rfl) #[.pointer (some ⟨g24, 0, none⟩), .string ({ data := #[97] })] (zha (F40.get (t := 18) rfl) rfl) (get_yes g24 V2 s37 n37 hI2 ({ data := #[97] }) 0 (by decide) hn2 rA h20.2.1 w37 (M37.hasV (kg := 0) (kr := 1) rfl rfl (by decide))) ?_
 rintro _ w41 a41 ⟨U41, rfl, is41, lo41, b41⟩ F41
 have M41 := M37.newRec b41 is41 lo41 2 3
 clear M37 b41 lo41
 refine zB 3 [(0, .bool false), (1, .pointer (some ⟨g24, 0, none⟩)), (2, .int .i64 0), (20, .agg (recA rA U41)), (21, .bool true)] [] dnil [] F41 fun _ F42 => ?_
 clear F41
 refine zh (zb rfl) rfl F42 rfl M41 4 (t := 37) (c := recA ⟨0, "".toUTF8, [], 0, 0, [], 0, 0, 0⟩ ⟨zN, zN⟩) (by unfold execOp; kernel_rfl) ?_
 intro g43 a43 w43 F43 M43
 clear F42 M41
 refine zm (zb rfl) rfl F43 M43 (k := 4) rfl _ _ _ rfl (F43.get (t := 3) rfl) (F43.get (t := 20) rfl) (recA rA U41) _ rfl (zL rfl) (zta (w := w43) ⟨(M43.isb (k := 2) rfl), (M43.isb (k := 3) rfl)⟩) (zn rfl) (by kernel_rfl) ?_
 intro w44 M44
 clear M43
 refine rm rfl F43 fun _ F45 => ?_
 refine hK39 _ _ ?_
 refine zS fun _ hK46 => ?_
 refine zR ?_
 refine rm rfl F45 fun _ F47 => ?_
 refine zg (zb rfl) rfl F47 rfl rfl (zE Tryz.func25 rfl) #[.pointer (some ⟨g24, 0, none⟩)] (zx (F47.get (t := 22) rfl)) (names_is g24 V2 s37 n37 hI2 ([rA.s]) hL2 w44 (M44.hasV (kg := 0) (kr := 1) rfl rfl (by decide))) ?_
 rintro _ w48 a48 ⟨⟨A48, c48, rfl, tx48⟩, b48⟩ F48
 have M48 := M44.step b48
 clear M44 tx48
 refine rm rfl F48 fun _ F49 => ?_
 refine hK46 _ _ ?_
 refine zS fun _ hK50 => ?_
 refine zR ?_
 refine rm rfl F49 fun _ F51 => ?_
 refine zg (zb rfl) rfl F51 rfl rfl (zE Tryz.func30 rfl) #[.pointer (some ⟨g24, 0, none⟩), zN] (zha (F51.get (t := 24) rfl) rfl) (again_isV g24 V2 s37 n37 none 0 0 (fun _ => 0) (Nat.le_refl _) hI2 (by decide) hE2 (by decide) (by decide) V3 hV3 w48 (rdI_none _) (fun h => absurd h.1 (Nat.not_lt_zero _)) (M48.rowsV (i := 1) (k := 0) rfl rfl (by decide)) (M48.blk (k := 0) rfl)) ?_
 rintro _ w52 a52 ⟨s52, n52, hr52, ht52, hc52, hg52⟩ F52
 have M52 := M48.vault (kg := 0) (kr := 1) rfl rfl hg52 hc52 hr52 ht52
 clear M48 hg52 hc52 hr52 ht52
 refine hK50 _ _ ?_
 refine zS fun _ hK53 => ?_
 refine zR ?_
 refine zB 8 [(0, .bool false), (1, .pointer (some ⟨g24, 0, none⟩)), (5, .slice A48 ([rA.s]).length c48), (31, .bool true), (33, .string rA.s)] [0] (zt (M52.blk (k := 4) rfl) dnil) [g43] F52 fun _ F54 => ?_
 clear F52
 refine zc (w' := w52) (zf rfl rfl rfl (F54.get (t := 31) rfl)) rfl F54 rfl (.bool true) (y_eqS _ _ _ rfl (F54.get (t := 33) rfl) rfl (decide_eq_true rfl)) fun _ F55 => ?_
 clear F54
 refine zc (w' := w52) (zb rfl) rfl F55 rfl (.bool true) (zbb rfl (F55.get (t := 31) rfl) (F55.get (t := 34) rfl)) fun _ F56 => ?_
 clear F55
 refine rm rfl F56 fun _ F57 => ?_
 refine rm rfl F57 fun _ F58 => ?_
 refine zc (w' := w52) (zf rfl rfl rfl (F58.get (t := 36) rfl)) rfl F58 rfl (.int .i64 1) (y_lnG 45 Tryz.underlying45 _ rfl (F58.get (t := 37) rfl) rfl) fun _ F59 => ?_
 clear F58
 refine zB 4 [(0, .bool false), (1, .pointer (some ⟨g24, 0, none⟩)), (41, .bool true), (42, .pointer (some ⟨g24, 0, none⟩))] [] dnil [] F59 fun _ F60 => ?_
 clear F59
 refine zg (zf rfl rfl rfl (F60.get (t := 41) rfl)) rfl F60 rfl rfl (zE Tryz.func26 rfl) #[.pointer (some ⟨g24, 0, none⟩)] (zx (F60.get (t := 42) rfl)) (zda ((boot_is g24 V3 s52 n52 hI3 hE3 w52 (M52.hasV (kg := 0) (kr := 1) rfl rfl (by decide))))) ?_
 rintro _ w61 a61 ⟨rfl, b61⟩ F61
 have M61 := M52.step b61
 refine zc (w' := w61) (zf rfl rfl rfl (F61.get (t := 41) rfl)) rfl F61 rfl (.bool true) (zsb _ _ _ _ rfl (F61.get (t := 43) rfl) rfl Tryz.underlying3 (y_beqT (by decide))) fun _ F62 => ?_
 clear F61
 refine zc (w' := w61) (zb rfl) rfl F62 rfl (.bool true) (zbb rfl (F62.get (t := 41) rfl) (F62.get (t := 44) rfl)) fun _ F63 => ?_
 clear F62
 refine rm rfl F63 fun _ F64 => ?_
 refine rm rfl F64 fun _ F65 => ?_
 refine zg (zf rfl rfl rfl (F65.get (t := 46) rfl)) rfl F65 rfl rfl (zE Tryz.func32 rfl) #[.pointer (some ⟨g24, 0, none⟩)] (zx (F65.get (t := 47) rfl)) (zda ((dead_is g24 V3 s52 n52 false hd3 w61 (M61.hasV (kg := 0) (kr := 1) rfl rfl (by decide))))) ?_
 rintro _ w66 a66 ⟨rfl, b66⟩ F66
 have M66 := M61.step b66
 refine zB 4 [(0, .bool false), (51, .bool true), (52, .pointer (some ⟨g24, 0, none⟩))] [] dnil [] F66 fun _ F67 => ?_
 clear F66
 refine zg (zf rfl rfl rfl (F67.get (t := 51) rfl)) rfl F67 rfl rfl (zE Tryz.func28 rfl) #[.pointer (some ⟨g24, 0, none⟩)] (zx (F67.get (t := 52) rfl)) (cells_is g24 V3 s52 n52 hI3 w66 (M66.hasV (kg := 0) (kr := 1) rfl rfl (by decide))) ?_
 rintro _ w68 a68 ⟨gq68, s68, n68, rfl, ce68, b68⟩ F68
 have M68 := M66.step b68
 clear M66 ce68
 refine zc (w' := w68) (zf rfl rfl rfl (F68.get (t := 51) rfl)) rfl F68 rfl (.int .i64 18) (y_lnG 49 Tryz.underlying49 _ rfl (F68.get (t := 53) rfl) rfl) fun _ F69 => ?_
 clear F68
 refine zB 3 [(0, .bool true)] [] dnil [] F69 fun _ F70 => ?_
 clear F69
 refine hK53 _ _ ?_
 refine wp_ret ?_
 try simp only [Exit.then, Exit.inBlock, Exit.jump]
 exact bodyPost_ret (res1 rfl (F70.get rfl)) F70.defers ⟨rfl, M68.below⟩
end Go.Proofs.YtmjbnmbobocpdaaGreat
namespace Go.Proofs.YtmjbnmbobocpdaaGreat
open Go.ChangeShapes Go.WideShapes Go.ChangeAt Go.RowKit Go.Shelf
theorem in6 (a : Int) {n : Nat} (h : 0 < n) : ∃ k : Nat, a % (n : Int) = (k : Int) ∧ k < n := by
  have h1 := Int.emod_nonneg a (show (n : Int) ≠ 0 by omega)
  have h2 := Int.emod_lt_of_pos a (show (0 : Int) < n by omega)
  exact ⟨(a % (n : Int)).toNat, by omega, by omega⟩
theorem nmK_ne : ∀ {i j : Nat}, i < 10 → j < 10 → i ≠ j → (nmK i).toList ≠ (nmK j).toList := by
  have h : ∀ i, i < 10 → ∀ j, j < 10 → i ≠ j → (nmK i).data.toList ≠ (nmK j).data.toList := by decide
  intro i j hi hj hne
  rw [ByteArray.toList_eq, ByteArray.toList_eq]
  exact h i hi j hj hne
theorem isN_eq (nm : ByteArray) {r : RecN} (h : r.s = nm) : isN nm (some r) = true := decide_eq_true (by rw [h])
theorem isN_ne {i j : Nat} (hi : i < 10) (hj : j < 10) (hne : i ≠ j) {r : RecN} (h : r.s = nmK j) : isN (nmK i) (some r) = false := decide_eq_false (by rw [h]; exact fun e => nmK_ne hi hj hne e.symm)
def setN (r : RecN) (j : Nat) : RecN := { r with s := nmK j }
theorem setN_ok {n : Int} {b : List UInt8} {k : Nat} {r : RecN} (hr : recK n b k = r) {j : Nat} (hj : j < 10) : RecOk (setN r j) ∧ zka (setN r j) = true := by
  subst hr; exact ⟨recK_ok n b hj, recK_keep n b hj⟩
end Go.Proofs.YtmjbnmbobocpdaaGreat
namespace Go.Proofs.YtmjbnmbobocpdaaGreat
open Go.ChangeShapes Go.WideShapes Go.ChangeAt Go.RowKit Go.Shelf
theorem nmK_inj {i j : Nat} (hi : i < 10) (hj : j < 10) (h : nmK i = nmK j) : i = j := by
  by_cases e : i = j
  · exact e
  · exact absurd (congrArg ByteArray.toList h) (nmK_ne hi hj e)
/-! Names in their order. -/
def insX : Nat → List Nat → List Nat
  | x, [] => [x]
  | x, y :: ys => if x < y then y :: insX x ys else x :: y :: ys
theorem less_nm {i j : Nat} (hi : i < 8) (hj : j < 8) : Op.bytesLess (nmK i).toList (nmK j).toList = decide (i < j) := by
  rw [ByteArray.toList_eq, ByteArray.toList_eq]
  have h : ∀ i, i < 8 → ∀ j, j < 8 → Op.bytesLess (nmK i).data.toList (nmK j).data.toList = decide (i < j) := by decide
  exact h i hi j hj
theorem ins_nm {x : Nat} (hx : x < 8) : ∀ (P : List Nat), (∀ y, y ∈ P → y < 8) → insV (nmK x) (P.map nmK) = (insX x P).map nmK
  | [], _ => rfl
  | y :: P, h => by
    have hy := h y (List.mem_cons_self ..)
    rw [List.map_cons, insV, insX, less_nm hx hy]
    by_cases e : x < y
    · rw [if_pos (decide_eq_true e), if_pos e, ins_nm hx P (fun z hz => h z (List.mem_cons_of_mem _ hz))]; rfl
    · rw [if_neg (by rw [decide_eq_false e]; exact Bool.false_ne_true), if_neg e]; rfl
def flF (S : Nat → Bool) : List Nat := (List.range 8).filter S
def cnF (S : Nat → Bool) (k : Nat) : Nat := ((List.range k).filter S).length
def upF {α : Type} (g : Nat → α) (k : Nat) (v : α) : Nat → α := fun i => if i = k then v else g i
theorem upF_at {α : Type} (g : Nat → α) (k : Nat) (v : α) : upF g k v k = v := if_pos rfl
theorem upF_ne {α : Type} (g : Nat → α) {k i : Nat} (v : α) (h : i ≠ k) : upF g k v i = g i := if_neg h
def bitF (b0 b1 b2 b3 b4 b5 b6 b7 : Bool) (i : Nat) : Bool := [b0, b1, b2, b3, b4, b5, b6, b7].getD i false
theorem bit8_is (S : Nat → Bool) : ∀ i, i < 8 → S i = bitF (S 0) (S 1) (S 2) (S 3) (S 4) (S 5) (S 6) (S 7) i
  | i, h => by
    match i, h with
    | 0, _ => rfl
    | 1, _ => rfl
    | 2, _ => rfl
    | 3, _ => rfl
    | 4, _ => rfl
    | 5, _ => rfl
    | 6, _ => rfl
    | 7, _ => rfl
    | k + 8, h => exact absurd h (by omega)
theorem flF_congr {S T : Nat → Bool} (h : ∀ i, i < 8 → S i = T i) : flF S = flF T := List.filter_congr fun i hi => h i (List.mem_range.1 hi)
theorem cnF_congr {S T : Nat → Bool} {k : Nat} (hk : k ≤ 8) (h : ∀ i, i < 8 → S i = T i) : cnF S k = cnF T k := congrArg List.length (List.filter_congr fun i hi => h i (by have := List.mem_range.1 hi; omega))
theorem all_bits : ∀ (b0 b1 b2 b3 b4 b5 b6 b7 : Bool), ∀ x, x < 8 →
    (bitF b0 b1 b2 b3 b4 b5 b6 b7 x = false → (insX x (flF (bitF b0 b1 b2 b3 b4 b5 b6 b7)).reverse).reverse = flF (upF (bitF b0 b1 b2 b3 b4 b5 b6 b7) x true)) ∧
    (bitF b0 b1 b2 b3 b4 b5 b6 b7 x = true → (flF (bitF b0 b1 b2 b3 b4 b5 b6 b7))[cnF (bitF b0 b1 b2 b3 b4 b5 b6 b7) x]? = some x) ∧
    (bitF b0 b1 b2 b3 b4 b5 b6 b7 x = false → (flF (bitF b0 b1 b2 b3 b4 b5 b6 b7)).length ≤ 7) ∧
    cnF (bitF b0 b1 b2 b3 b4 b5 b6 b7) (x + 1) = (if bitF b0 b1 b2 b3 b4 b5 b6 b7 x = true then cnF (bitF b0 b1 b2 b3 b4 b5 b6 b7) x + 1 else cnF (bitF b0 b1 b2 b3 b4 b5 b6 b7) x) := by decide +kernel
theorem all_fl (S : Nat → Bool) {x : Nat} (hx : x < 8) : (S x = false → (insX x (flF S).reverse).reverse = flF (upF S x true)) ∧ (S x = true → (flF S)[cnF S x]? = some x) ∧ (S x = false → (flF S).length ≤ 7) ∧ cnF S (x + 1) = (if S x = true then cnF S x + 1 else cnF S x) := by
  have h := all_bits (S 0) (S 1) (S 2) (S 3) (S 4) (S 5) (S 6) (S 7) x hx
  rw [← bit8_is S x hx, ← flF_congr (bit8_is S), ← cnF_congr (by omega) (bit8_is S), ← cnF_congr (by omega) (bit8_is S)] at h
  refine ⟨fun e => ?_, h.2⟩
  rw [h.1 e]
  exact flF_congr fun i hi => by
    unfold upF
    rw [← bit8_is S i hi]
theorem flF_lt {S : Nat → Bool} {y : Nat} (h : y ∈ flF S) : y < 8 := List.mem_range.1 (List.mem_filter.1 h).1
theorem ins_fl (S : Nat → Bool) {x : Nat} (hx : x < 8) (h : S x = false) : insR ((flF S).map nmK) (nmK x) = (flF (upF S x true)).map nmK := by
  unfold insR
  rw [← List.map_reverse, ins_nm hx _ (fun y hy => flF_lt (List.mem_reverse.1 hy)), ← List.map_reverse, (all_fl S hx).1 h]
theorem srt_fold : ∀ (L : List Nat) (S : Nat → Bool), (∀ y, y ∈ L → y < 8) → L.Nodup → (∀ y, y ∈ L → S y = false) → (L.map nmK).foldl insR ((flF S).map nmK) = (flF fun i => S i || decide (i ∈ L)).map nmK
  | [], S, _, _, _ => by
    rw [List.map_nil, List.foldl_nil]
    exact congrArg _ (flF_congr fun i _ => by simp)
  | x :: L, S, h1, h2, h3 => by
    have hx := h1 x (List.mem_cons_self ..)
    obtain ⟨h4, h5⟩ := List.nodup_cons.1 h2
    rw [List.map_cons, List.foldl_cons, ins_fl S hx (h3 x (List.mem_cons_self ..)), srt_fold L (upF S x true) (fun y hy => h1 y (List.mem_cons_of_mem _ hy)) h5 fun y hy => by
      rw [upF_ne _ _ (fun e => h4 (by rw [← e]; exact hy))]; exact h3 y (List.mem_cons_of_mem _ hy)]
    refine congrArg _ (flF_congr fun i _ => ?_)
    by_cases e : i = x
    · subst e; rw [upF_at]; simp
    · rw [upF_ne _ _ e]; simp [e]
/-! What is said, by name. -/
structure RelG (m : Nat → Option RecN) (hs : Nat → Bool) (f : Nat → RecN) : Prop where
  a : ∀ j, j < 8 → ∀ r, m j = some r → ∃ k, k < 8 ∧ hs k = true ∧ r = f k
  n : ∀ k, k < 8 → hs k = true → (f k).s = nmK k ∧ RecOk (f k)
  b : ∀ k, k < 8 → hs k = true → ∃ j, j < 8 ∧ m j = some (f k)
  u : ∀ i j, i < 8 → j < 8 → ∀ r s, m i = some r → m j = some s → r.s = s.s → i = j
theorem RelG.zero (f : Nat → RecN) : RelG (fun _ => none) (fun _ => false) f := ⟨fun _ _ _ e => (by cases e), fun _ _ e => (by cases e), fun _ _ e => (by cases e), fun _ _ _ _ _ _ e => (by cases e)⟩
section
variable {m : Nat → Option RecN} {hs : Nat → Bool} {f : Nat → RecN} (H : RelG m hs f)
include H
theorem RelG.same {k k2 : Nat} (hk : k < 8) (hk2 : k2 < 8) (h1 : hs k = true) (h2 : hs k2 = true) (e : (f k).s = (f k2).s) : k = k2 := by
  rw [(H.n k hk h1).1, (H.n k2 hk2 h2).1] at e
  exact nmK_inj (by omega) (by omega) e
theorem RelG.idx : ∀ n, n ≤ 8 → ∃ L : List Nat, nmsM m n = L.map nmK ∧ L.Nodup ∧ ∀ k, k ∈ L ↔ k < 8 ∧ hs k = true ∧ ∃ j, j < n ∧ m j = some (f k)
  | 0, _ => ⟨[], rfl, List.nodup_nil, fun k => ⟨fun h => (by cases h), fun ⟨_, _, j, hj, _⟩ => absurd hj (Nat.not_lt_zero j)⟩⟩
  | n + 1, hn => by
    obtain ⟨L, h1, h2, h3⟩ := RelG.idx n (by omega)
    unfold nmsM
    cases hm : m n with
    | none =>
      refine ⟨L, h1, h2, fun k => (h3 k).trans ⟨fun ⟨q1, q2, j, q3, q4⟩ => ⟨q1, q2, j, by omega, q4⟩, fun ⟨q1, q2, j, q3, q4⟩ => ⟨q1, q2, j, ?_, q4⟩⟩⟩
      by_cases e : j = n
      · subst e; rw [hm] at q4; cases q4
      · omega
    | some r =>
      obtain ⟨k, hk, hsk, rfl⟩ := H.a n (by omega) r hm
      refine ⟨L ++ [k], (by show nmsM m n ++ [(f k).s] = _; rw [h1, List.map_append, (H.n k hk hsk).1]; rfl), ?_, fun k2 => ?_⟩
      · refine List.nodup_append.2 ⟨h2, List.pairwise_singleton _ _, fun a ha b hb e => ?_⟩
        rw [List.mem_singleton] at hb
        subst hb e
        obtain ⟨_, _, j, hj, hmj⟩ := (h3 a).1 ha
        have := H.u j n (by omega) (by omega) _ _ hmj hm rfl
        omega
      · rw [List.mem_append, List.mem_singleton, h3 k2]
        constructor
        · rintro (⟨q1, q2, j, q3, q4⟩ | rfl)
          · exact ⟨q1, q2, j, by omega, q4⟩
          · exact ⟨hk, hsk, n, by omega, hm⟩
        · rintro ⟨q1, q2, j, q3, q4⟩
          by_cases e : j = n
          · subst e
            rw [hm] at q4
            exact .inr (H.same q1 hk q2 hsk (by rw [← Option.some.inj q4]))
          · exact .inl ⟨q1, q2, j, by omega, q4⟩
theorem RelG.names : srtL (nmsM m 8) = (flF hs).map nmK := by
  obtain ⟨L, h1, h2, h3⟩ := H.idx 8 (Nat.le_refl _)
  rw [h1]
  have h := srt_fold L (fun _ => false) (fun y hy => ((h3 y).1 hy).1) h2 fun _ _ => rfl
  unfold srtL
  rw [show ([] : List ByteArray) = (flF fun _ => false).map nmK from rfl, h]
  refine congrArg _ (flF_congr fun i hi => ?_)
  cases e : hs i with
  | true =>
    obtain ⟨j, q1, q2⟩ := H.b i hi e
    rw [decide_eq_true ((h3 i).2 ⟨hi, e, j, q1, q2⟩)]; rfl
  | false => rw [decide_eq_false fun h => by have := ((h3 i).1 h).2.1; rw [e] at this; cases this]; rfl
theorem RelG.room {k : Nat} (hk : k < 8) (h : hs k = false) : ∃ j, j < 8 ∧ m j = none := by
  by_cases e : ∃ j, j < 8 ∧ m j = none
  · exact e
  · have hl : ∀ n, n ≤ 8 → (nmsM m n).length = n := fun n => by
      induction n with
      | zero => intro _; rfl
      | succ n ih =>
        intro hn
        unfold nmsM
        cases hm : m n with
        | none => exact absurd ⟨n, by omega, hm⟩ e
        | some r => rw [List.length_append, ih (by omega)]; rfl
    have h1 := congrArg List.length H.names
    rw [srtL_len, hl 8 (Nat.le_refl _), List.length_map] at h1
    have := (all_fl hs hk).2.2.1 h
    omega
theorem RelG.isN {k : Nat} (hk : k < 8) {j : Nat} (hj : j < 8) (h : ∀ r, m j = some r → r.s ≠ nmK k) : isN (nmK k) (m j) = false := by
  cases hm : m j with
  | none => rfl
  | some r =>
    obtain ⟨k2, q1, q2, q3⟩ := H.a j hj r hm
    have hn := (H.n k2 q1 q2).1
    rw [← q3] at hn
    exact isN_ne (by omega) (by omega) (fun e => h r hm (by rw [hn, e])) hn
theorem RelG.at_ {k p : Nat} (hk : k < 8) (hp : p < 8) (hold : m p = none ∨ hs k = true ∧ m p = some (f k)) (hoth : ∀ j, j < 8 → j ≠ p → ∀ s, m j = some s → s.s ≠ nmK k) {r : RecN} (hr : r.s = nmK k) (ho : RecOk r) : RelG (updO m p (some r)) (upF hs k true) (upF f k r) := by
  have up : ∀ j, j ≠ p → updO m p (some r) j = m j := fun j h => if_neg h
  have upp : updO m p (some r) p = some r := if_pos rfl
  refine ⟨fun j hj r2 h => ?_, fun k2 hk2 h => ?_, fun k2 hk2 h => ?_, fun i j hi hj r2 s h1 h2 h3 => ?_⟩
  · by_cases e : j = p
    · subst e
      rw [upp] at h
      obtain rfl := Option.some.inj h
      exact ⟨k, hk, upF_at _ _ _, (upF_at _ _ _).symm⟩
    · rw [up j e] at h
      obtain ⟨k2, q1, q2, q3⟩ := H.a j hj r2 h
      have hne : k2 ≠ k := fun e2 => hoth j hj e r2 h (by rw [q3, (H.n k2 q1 q2).1, e2])
      exact ⟨k2, q1, by rw [upF_ne _ _ hne]; exact q2, by rw [upF_ne _ _ hne]; exact q3⟩
  · by_cases e : k2 = k
    · subst e; rw [upF_at]; exact ⟨hr, ho⟩
    · rw [upF_ne _ _ e] at h ⊢; exact H.n k2 hk2 h
  · by_cases e : k2 = k
    · subst e; exact ⟨p, hp, by rw [upp, upF_at]⟩
    · rw [upF_ne _ _ e] at h
      obtain ⟨j, q1, q2⟩ := H.b k2 hk2 h
      refine ⟨j, q1, ?_⟩
      rw [upF_ne _ _ e, up j ?_]
      · exact q2
      · intro e2
        subst e2
        rcases hold with h0 | ⟨h0, h0'⟩
        · rw [h0] at q2; cases q2
        · rw [h0'] at q2
          exact e (H.same hk2 hk h h0 (by rw [Option.some.inj q2]))
  · by_cases e1 : i = p
    · by_cases e2 : j = p
      · omega
      · subst e1
        rw [upp] at h1
        obtain rfl := Option.some.inj h1
        rw [up j e2] at h2
        exact absurd (h3.symm.trans hr) (hoth j hj e2 s h2)
    · by_cases e2 : j = p
      · subst e2
        rw [upp] at h2
        obtain rfl := Option.some.inj h2
        rw [up i e1] at h1
        exact absurd (h3.trans hr) (hoth i hi e1 r2 h1)
      · rw [up i e1] at h1
        rw [up j e2] at h2
        exact H.u i j hi hj r2 s h1 h2 h3
theorem RelG.place {k : Nat} (hk : k < 8) (h : hs k = true) : ∃ p, p < 8 ∧ m p = some (f k) ∧ (fst8 fun j => Go.Proofs.YtmjbnmbobocpdaaGreat.isN (nmK k) (m j)) = p ∧ ∀ j, j < 8 → j ≠ p → ∀ s, m j = some s → s.s ≠ nmK k := by
  obtain ⟨p, hp, hmp⟩ := H.b k hk h
  have hoth : ∀ j, j < 8 → j ≠ p → ∀ s, m j = some s → s.s ≠ nmK k := fun j hj hne s hs2 e => hne (H.u j p hj hp s (f k) hs2 hmp (by rw [e, (H.n k hk h).1]))
  refine ⟨p, hp, hmp, ?_, hoth⟩
  exact fst8_at hp (by rw [hmp]; exact isN_eq _ (H.n k hk h).1) fun j hj => H.isN hk (by omega) (hoth j (by omega) (by omega))
theorem RelG.nowhere {k : Nat} (hk : k < 8) (h : hs k = false) : ∀ j, j < 8 → ∀ s, m j = some s → s.s ≠ nmK k := fun j hj s hs2 e => by
  obtain ⟨k2, q1, q2, q3⟩ := H.a j hj s hs2
  rw [q3, (H.n k2 q1 q2).1] at e
  have := nmK_inj (by omega) (by omega) e
  subst this
  rw [h] at q2; cases q2
theorem RelG.put {k : Nat} (hk : k < 8) {r : RecN} (hr : r.s = nmK k) (ho : RecOk r) : ∃ p, plcM m (nmK k) = p ∧ p < 8 ∧ RelG (updO m p (some r)) (upF hs k true) (upF f k r) := by
  cases h : hs k with
  | true =>
    obtain ⟨p, hp, hmp, hf, hoth⟩ := H.place hk h
    refine ⟨p, ?_, hp, H.at_ hk hp (.inr ⟨h, hmp⟩) hoth hr ho⟩
    unfold plcM
    rw [hf, if_pos hp]
  | false =>
    have hno := H.nowhere hk h
    have e8 : (fst8 fun j => Go.Proofs.YtmjbnmbobocpdaaGreat.isN (nmK k) (m j)) = 8 := fst8_none fun j hj => H.isN hk hj (hno j hj)
    obtain ⟨j, hj, hjn⟩ := H.room hk h
    rcases fst8_spec (fun k => (m k).isNone) with ⟨h1, h2, -⟩ | ⟨_, h2⟩
    · refine ⟨_, ?_, h1, H.at_ hk h1 (.inl ?_) (fun j hj _ => hno j hj) hr ho⟩
      · unfold plcM
        rw [e8, if_neg (by decide)]
      · cases hm : m (fst8 fun k => (m k).isNone) with
        | none => rfl
        | some s => rw [hm] at h2; cases h2
    · have := h2 j hj; rw [hjn] at this; cases this
theorem RelG.gone {k : Nat} (hk : k < 8) (h : hs k = true) : ∃ p, (fst8 fun j => Go.Proofs.YtmjbnmbobocpdaaGreat.isN (nmK k) (m j)) = p ∧ p < 8 ∧ RelG (updO m p none) (upF hs k false) f := by
  obtain ⟨p, hp, hmp, hf, hoth⟩ := H.place hk h
  have up : ∀ j, j ≠ p → updO m p none j = m j := fun j h => if_neg h
  have upp : updO m p none p = none := if_pos rfl
  refine ⟨p, hf, hp, fun j hj r2 h2 => ?_, fun k2 hk2 h2 => ?_, fun k2 hk2 h2 => ?_, fun i j hi hj r2 s h1 h2 h3 => ?_⟩
  · by_cases e : j = p
    · subst e; rw [upp] at h2; cases h2
    · rw [up j e] at h2
      obtain ⟨k2, q1, q2, q3⟩ := H.a j hj r2 h2
      have hne : k2 ≠ k := fun e2 => hoth j hj e r2 h2 (by rw [q3, (H.n k2 q1 q2).1, e2])
      exact ⟨k2, q1, by rw [upF_ne _ _ hne]; exact q2, q3⟩
  · by_cases e : k2 = k
    · subst e; rw [upF_at] at h2; cases h2
    · rw [upF_ne _ _ e] at h2; exact H.n k2 hk2 h2
  · by_cases e : k2 = k
    · subst e; rw [upF_at] at h2; cases h2
    · rw [upF_ne _ _ e] at h2
      obtain ⟨j, q1, q2⟩ := H.b k2 hk2 h2
      refine ⟨j, q1, ?_⟩
      rw [up j ?_]
      · exact q2
      · intro e2
        subst e2
        rw [hmp] at q2
        exact e (H.same hk2 hk h2 h (by rw [Option.some.inj q2]))
  · by_cases e1 : i = p
    · subst e1; rw [upp] at h1; cases h1
    · by_cases e2 : j = p
      · subst e2; rw [upp] at h2; cases h2
      · rw [up i e1] at h1
        rw [up j e2] at h2
        exact H.u i j hi hj r2 s h1 h2 h3
theorem RelG.get {V : VltN} (ha : AccV V m) {k : Nat} (hk : k < 8) : (hs k = true → ∃ p, p < 8 ∧ fst8 (zz V (nmK k)) = p ∧ zja V (2 * p) = f k) ∧ (hs k = false → fst8 (zz V (nmK k)) = 8) := by
  refine ⟨fun h => ?_, fun h => ?_⟩
  · obtain ⟨p, hp, hmp, hf, -⟩ := H.place hk h
    have hP := ha p hp
    rw [hmp] at hP
    exact ⟨p, hp, by rw [named8 ha]; exact hf, hP.2.1⟩
  · rw [named8 ha]
    exact fst8_none fun j hj => H.isN hk hj (H.nowhere hk h j hj)
end
end Go.Proofs.YtmjbnmbobocpdaaGreat
namespace Go.Proofs.YtmjbnmbobocpdaaGreat
open Go.ChangeShapes Go.WideShapes Go.ChangeAt Go.RowKit Go.Shelf
section
variable {G : Option Nat} {w0 w w' : World} {R : List (Nat × Res)} {gq : Nat} {c : Nat → CelN} {s n : Nat → Value}
variable {N i j : Nat} {B : Nat} {l : List UInt8} {v : Value}
end
/-! One cell is fresh. -/
def m1 (r : RecN) : Nat → Option RecN := updO (fun _ => none) 0 (some r)
end Go.Proofs.YtmjbnmbobocpdaaGreat
namespace Go.Proofs.YtmjbnmbobocpdaaGreat
open Go.ChangeShapes Go.WideShapes Go.ChangeAt Go.RowKit Go.Shelf
section
def lstA (f : Nat → RecN) (g : Nat → RecV) : Array Value := ((recA (f 0) (g 0)).toList ++ (recA (f 1) (g 1)).toList ++ (recA (f 2) (g 2)).toList ++ (recA (f 3) (g 3)).toList ++ (recA (f 4) (g 4)).toList ++ (recA (f 5) (g 5)).toList ++ (recA (f 6) (g 6)).toList ++ (recA (f 7) (g 7)).toList).toArray
def hasA (h : Nat → Bool) : Array Value := #[.bool (h 0), .bool (h 1), .bool (h 2), .bool (h 3), .bool (h 4), .bool (h 5), .bool (h 6), .bool (h 7)]
theorem has_get (h : Nat → Bool) : ∀ {k : Nat}, k < 8 → (hasA h)[k]? = some (.bool (h k))
  | k, hk => by
    match k, hk with
    | 0, _ => rfl
    | 1, _ => rfl
    | 2, _ => rfl
    | 3, _ => rfl
    | 4, _ => rfl
    | 5, _ => rfl
    | 6, _ => rfl
    | 7, _ => rfl
    | n + 8, h => exact absurd h (by omega)
theorem has_put (h : Nat → Bool) (b : Bool) : ∀ {k : Nat}, k < 8 → ((hasA h).toList.take k ++ (#[.bool b] : Array Value).toList ++ (hasA h).toList.drop (k + (#[.bool b] : Array Value).size)).toArray = hasA (upF h k b)
  | k, hk => by
    match k, hk with
    | 0, _ => rfl
    | 1, _ => rfl
    | 2, _ => rfl
    | 3, _ => rfl
    | 4, _ => rfl
    | 5, _ => rfl
    | 6, _ => rfl
    | 7, _ => rfl
    | n + 8, h => exact absurd h (by omega)
theorem lst_put (f : Nat → RecN) (g : Nat → RecV) (r : RecN) (V : RecV) : ∀ {k : Nat}, k < 8 → ((lstA f g).toList.take (0 + k * 23) ++ (recA r V).toList ++ (lstA f g).toList.drop (0 + k * 23 + (recA r V).size)).toArray = lstA (upF f k r) (upF g k V)
  | k, hk => by
    match k, hk with
    | 0, _ => show _ = _; kernel_rfl
    | 1, _ => show _ = _; kernel_rfl
    | 2, _ => show _ = _; kernel_rfl
    | 3, _ => show _ = _; kernel_rfl
    | 4, _ => show _ = _; kernel_rfl
    | 5, _ => show _ = _; kernel_rfl
    | 6, _ => show _ = _; kernel_rfl
    | 7, _ => show _ = _; kernel_rfl
    | n + 8, h => exact absurd h (by omega)
theorem arr_part {A B : Array Value} {o n : Nat} (h : (A.toList.drop o).take n = B.toList) : ∀ (i : Nat) (v : Value), B[i]? = some v → A[o + i]? = some v := fun i v hv => by
  rw [← Array.getElem?_toList, ← h, List.getElem?_take] at hv
  split at hv
  · rw [List.getElem?_drop] at hv
    rw [← Array.getElem?_toList]; exact hv
  · cases hv
theorem lst_get (f : Nat → RecN) (g : Nat → RecV) : ∀ {k : Nat}, k < 8 → ∀ (i : Nat) (v : Value), (recA (f k) (g k))[i]? = some v → (lstA f g)[0 + k * 23 + i]? = some v
  | k, hk => by
    have h : ((lstA f g).toList.drop (0 + k * 23)).take 23 = (recA (f k) (g k)).toList := by
      match k, hk with
      | 0, _ => show _ = _; kernel_rfl
      | 1, _ => show _ = _; kernel_rfl
      | 2, _ => show _ = _; kernel_rfl
      | 3, _ => show _ = _; kernel_rfl
      | 4, _ => show _ = _; kernel_rfl
      | 5, _ => show _ = _; kernel_rfl
      | 6, _ => show _ = _; kernel_rfl
      | 7, _ => show _ = _; kernel_rfl
      | n + 8, h => exact absurd h (by omega)
    exact arr_part h
end
def cLs (f : Nat → RecN) : Nat → CelN := fun j => ⟨(f j).l2, (f j).l5, false⟩
def sLs (g : Nat → RecV) : Nat → Value := fun j => (g j).v2
def nLs (g : Nat → RecV) : Nat → Value := fun j => (g j).v5
def vNil : RecV := ⟨zN, zN⟩
def txtR (L : List ByteArray) (v : Value) : Res := ⟨false, fun b => 0 < L.length ∧ v.ownBlock = some b, fun w => TxtAt w 0 L v⟩
theorem txt_dep {L : List ByteArray} {v : Value} : ∀ u u', Same (txtR L v).fp u u' → (txtR L v).F u → (txtR L v).F u' := fun u u' hs ⟨A, c, e, h⟩ => ⟨A, c, e, fun h0 => by
  obtain ⟨gr, E, e1, h1, h2⟩ := h h0
  exact ⟨gr, E, e1, h1, hs gr _ ⟨h0, by rw [e, e1]; rfl⟩ h2⟩⟩
section
variable {G : Option Nat} {w0 w w' : World} {R : List (Nat × Res)}
theorem Mx.newTxt (M : Mx G w0 w R) (hb : Below w.heap.size w w') (k : Nat) {L : List ByteArray} {v : Value} (h : TxtAt w' w.heap.size L v) : Mx G w0 w' ((k, txtR L v) :: R) := by
  obtain ⟨A, c, e, hA⟩ := h
  have hfp : ∀ b, (txtR L v).fp b → w.heap.size ≤ b ∧ b < w'.heap.size := fun b ⟨h0, h1⟩ => by
    obtain ⟨gr, E, e1, h2, h3⟩ := hA h0
    rw [e, e1] at h1
    have h1 : gr = b := Option.some.inj h1
    subst h1
    exact ⟨h2, zxa h3⟩
  exact (M.step hb).cons k _ ⟨A, c, e, fun h0 => by obtain ⟨gr, E, e1, h2, h3⟩ := hA h0; exact ⟨gr, E, e1, Nat.zero_le _, h3⟩⟩ txt_dep (fun b hb2 => (hfp b hb2).2) (fun e => by cases e) fun q r er hkk hw b hb1 h2 => by
    rcases hw with hw | hw
    · cases hw
    have h3 := M.lt q r er b h2
    have := (hfp b hb1).1
    omega
theorem Mx.recNil (M : Mx G w0 w R) (i : Nat) (f : Nat → RecN) (hf : ∀ j, (f j).l2 = [] ∧ (f j).l5 = []) : Mx G w0 w ((i, z1a 0 8 (cLs f) (sLs fun _ => vNil) (nLs fun _ => vNil)) :: R) :=
  M.cons i _ (fun j hj => ⟨(show IsB w (f j).l2 _ from (hf j).1.symm ▸ zla w), (show IsB w (f j).l5 _ from (hf j).2.symm ▸ zla w), fun _ _ => Nat.zero_le _⟩) rows_dep (fun b ⟨j, hj, hb⟩ => by rcases hb with hb | hb <;> exact absurd hb (z5a b)) (fun e => by cases e) fun _ _ _ _ _ b ⟨j, hj, hb⟩ => by rcases hb with hb | hb <;> exact absurd hb (z5a b)
theorem Mx.recPut (M : Mx G w0 w R) {i k2 k5 : Nat} {f : Nat → RecN} {g : Nat → RecV} (h : look R i = some (z1a 0 8 (cLs f) (sLs g) (nLs g))) {r : RecN} {V : RecV} (h2 : look R k2 = some (bytR r.l2 V.v2)) (h5 : look R k5 = some (bytR r.l5 V.v5)) (p : Nat) : Mx G w0 w ((i, z1a 0 8 (cLs (upF f p r)) (sLs (upF g p V)) (nLs (upF g p V))) :: R) := by
  have hsub : ∀ b, zo 8 (sLs (upF g p V)) (nLs (upF g p V)) b → zo 8 (sLs g) (nLs g) b ∨ bfp V.v2 b ∨ bfp V.v5 b := fun b ⟨j, hj, hb⟩ => by
    unfold sLs nLs at hb
    by_cases e : j = p
    · subst e; rw [upF_at] at hb; exact .inr hb
    · rw [upF_ne _ _ e] at hb; exact .inl ⟨j, hj, hb⟩
  refine M.cons i _ (fun j hj => ?_) rows_dep (fun b hb => ?_) (fun e => by cases e) fun q t e hq hw b hb hb2 => ?_
  · show IsB w (upF f p r j).l2 (upF g p V j).v2 ∧ IsB w (upF f p r j).l5 (upF g p V j).v5 ∧ _
    by_cases e : j = p
    · subst e; rw [upF_at, upF_at]; exact ⟨M.isb h2, M.isb h5, fun _ _ => Nat.zero_le _⟩
    · rw [upF_ne _ _ e, upF_ne _ _ e]; exact ⟨M.rowsS h hj, M.rowsN h hj, fun _ _ => Nat.zero_le _⟩
  · rcases hsub b hb with hb | hb | hb
    · exact M.lt i _ h b hb
    · exact (M.isb h2).lt hb
    · exact (M.isb h5).lt hb
  · rcases hw with hw | hw
    · cases hw
    rcases hsub b hb with hb | hb | hb
    · exact M.dis q i t _ e h (fun e2 => hq e2.symm) hw b hb2 hb
    · exact M.dis q k2 t _ e h2 (fun e2 => by subst e2; rw [h2] at e; cases e; cases hw) hw b hb2 hb
    · exact M.dis q k5 t _ e h5 (fun e2 => by subst e2; rw [h5] at e; cases e; cases hw) hw b hb2 hb
variable {a : Act} {o : Oper} {A : Option Addr} {c : Nat} {L : List ByteArray}
theorem y_ixT (x k : Operand) (ho : o.op = .indexAddr 45 x k) (hx : a.eval x = .slice A L.length c) (hT : (txtR L (.slice A L.length c)).F w) {z : Int} {i : Nat} (hk : a.eval k = .int .i64 z) (hz : z = (i : Int)) (hi : i < L.length) : (execOp a.eval o).run Tryz.prog w = .ok (.value (ixV (.slice A L.length c) i)) w := by
  subst hz
  obtain ⟨A', c', e, h⟩ := hT
  obtain ⟨gr, E, e1, -, hg⟩ := h (by omega)
  injection e with q1 q2 q3
  subst q1 q3 e1
  have h5 : (i : Int) < (L.length : Int) := by omega
  rw [y_ixG 45 (s := 1) Tryz.underlying45 (by kernel_rfl) _ _ ho hx hk rfl hi (j := i) (by omega)]
  simp [ixV, zca]
theorem y_ldT (y : Operand) (ho : o.op = .load 9 y) {i : Nat} (hy : a.eval y = ixV (.slice A L.length c) i) (hT : (txtR L (.slice A L.length c)).F w) {s : ByteArray} (hl : L[i]? = some s) : (execOp a.eval o).run Tryz.prog w = .ok (.value (.string s)) w := by
  have hi := (List.getElem?_eq_some_iff.1 hl).1
  obtain ⟨A', c', e, h⟩ := hT
  obtain ⟨gr, E, e1, -, hg⟩ := h (by omega)
  injection e with q1 q2 q3
  subst q1 q3 e1
  exact zba _ _ ho (hy.trans (by simp [ixV, zca])) hg (rowA_at hl) Tryz.underlying9 rfl
end
def StK.nms : StK := ⟨fun w v => ∃ g, v = .slice (some ⟨g, 0, none⟩) 10 10 ∧ w.heap[g]? = some (.cells nmA 9 (0, 0)), fun _ _ _ _ hb ⟨g, h1, h2⟩ => by
  obtain ⟨fr, h3, h4⟩ := hb.kept _ _ _ _ h2
  rw [h4 (by decide)] at h3
  exact ⟨g, h1, h3⟩⟩
def StK.nmp (k : Nat) : StK := ⟨fun w v => ∃ g, v = .pointer (some ⟨g, k, none⟩) ∧ w.heap[g]? = some (.cells nmA 9 (0, 0)), fun _ _ _ _ hb ⟨g, h1, h2⟩ => by
  obtain ⟨fr, h3, h4⟩ := hb.kept _ _ _ _ h2
  rw [h4 (by decide)] at h3
  exact ⟨g, h1, h3⟩⟩
theorem names6_rel (w : World) : Calls Tryz.prog 34 #[] w fun e w' => ∃ v, e = .returned v ∧ Below w.heap.size w w' ∧ StK.nms.F w' v :=
  (names6_any w).mono fun e w' ⟨gq, h1, h2, h3, h4⟩ => ⟨_, h1, h4, gq, rfl, h3⟩
end Go.Proofs.YtmjbnmbobocpdaaGreat
