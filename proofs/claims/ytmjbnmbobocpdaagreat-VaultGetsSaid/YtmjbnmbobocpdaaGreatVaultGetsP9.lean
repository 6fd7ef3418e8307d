/- What VaultGets stands on, part 9. -/
import Derived.Deep.CutRange
import Derived.RangeFuncWrites
import Derived.Test.YtmjbnmbobocpdaaGreatVaultGetsP1
import Derived.Test.YtmjbnmbobocpdaaGreatVaultGetsP2
import Derived.Test.YtmjbnmbobocpdaaGreatVaultGetsP3
import Derived.Test.YtmjbnmbobocpdaaGreatVaultGetsP4
import Derived.Test.YtmjbnmbobocpdaaGreatVaultGetsP5
import Derived.Test.YtmjbnmbobocpdaaGreatVaultGetsP6
import Derived.Test.YtmjbnmbobocpdaaGreatVaultGetsP7
import Derived.Test.YtmjbnmbobocpdaaGreatVaultGetsP8
set_option maxRecDepth 100000
set_option maxHeartbeats 8000000
set_option linter.unusedVariables false
set_option linter.unusedSimpArgs false
namespace Go.Proofs.YtmjbnmbobocpdaaGreat
open Go.ChangeShapes Go.WideShapes Go.ChangeAt Go.RowKit
def nxtP (V : VltN) (q : Nat) : Nat := if anyB zj V q = true then 2 * q + 1 - cntP V q else q
def nxtT (V : VltN) (q : Nat) : Int := if anyB zj V q = true then cntT V q + 1 else 1
def sayW (V : VltN) (q : Nat) (l : List UInt8) : VltN × Bool := wrtV V (nxtP V q) (zoa zj (nxtP V q) (nxtT V q) l)
theorem cntP_in {V : VltN} {q : Nat} (h : anyB zj V q = true) : cntP V q = q ∨ cntP V q = q + 1 := by
  unfold cntP
  by_cases hs : secB zj V q = true
  · rw [if_pos hs]
    right
    have : zpb zj (q + 1) (V.c (q + 1)).s = true := by
      unfold secB at hs
      simp only [Bool.and_eq_true] at hs
      exact hs.1
    exact if_pos (good_ge this)
  · rw [if_neg hs]
    left
    have : zpb zj q (V.c q).s = true := by
      unfold anyB at h
      simp only [Bool.or_eq_true] at h
      exact h.resolve_left hs
    exact if_pos (good_ge this)
theorem cw_is {f : FuncId} {args : Array Value} {w : World} {V : VltN} {q P : Nat} {T : Int} {b : Bool} {s : Nat → Value} (hP : cntP V q = P) (hT : cntT V q = T) (h : Calls Tryz.prog f args w fun e w' => ∃ t, e = .returned t ∧ ∃ S, t = .tuple #[.agg #[.int .i64 (cntP V q : Int), .int .i64 (cntT V q), S], .bool b] ∧ IsB w (cntS V q) S ∧ (∀ b, bfp S b → bfp (s q) b ∨ bfp (s (q + 1)) b) ∧ Below w.heap.size w w') : Calls Tryz.prog f args w fun e w' => ∃ t, e = .returned t ∧ ∃ S, t = .tuple #[.agg #[.int .i64 (P : Int), .int .i64 T, S], .bool b] ∧ IsB w (cntS V q) S ∧ (∀ b, bfp S b → bfp (s q) b ∨ bfp (s (q + 1)) b) ∧ Below w.heap.size w w' := by
  subst hP hT; exact h
theorem HasV.of {w : World} {g : Nat} {V : VltN} {s n : Nat → Value} (hg : w.heap[g]? = some (.cells (vltA V s n) 80 (0, 0))) (hr : RowsV w g V.c s n) : HasV w g V s n := ⟨hg, fun i hi => (hr i hi).1.1, fun i hi => (hr i hi).2.1⟩
theorem pwriteR_t (q : Nat) (hq : q + 1 < 18) (g : Nat) (V : VltN) (s n : Nat → Value) (hv : zfa V) (l : List UInt8) (lv : Value) (hl : l.length ≤ 1000) (hA : anyB zj V q = true) (ht : -9223372036854775808 ≤ cntT V q ∧ cntT V q < 9223372036854775807) (w : World) (hB : IsB w l lv) (hBg : ¬ bfp lv g) (hr : RowsV w g V.c s n) (hg : w.heap[g]? = some (.cells (vltA V s n) 80 (0, 0))) :
  Calls Tryz.prog 77 #[.agg #[.int .i64 (q : Int), .func (.func 105) #[] #[]], .pointer (some ⟨g, 0, none⟩), lv] w fun e w' => ∃ t, e = .returned t ∧ t = .bool (sayW V q l).2 ∧ ∃ s' n', RowsV w' g (sayW V q l).1.c s' n' ∧ (∀ b, zo 18 s' n' b → zo 18 s n b ∨ w.heap.size ≤ b) ∧ w'.heap[g]? = some (.cells (vltA (sayW V q l).1 s' n') 80 (0, 0)) ∧ w.grownBy w' (some g) := by
 obtain ⟨Av, cv, rfl⟩ := hB.shape
 obtain ⟨P, hP⟩ : ∃ x, cntP V q = x := ⟨_, rfl⟩
 have hPq := cntP_in hA
 rw [hP] at hPq
 obtain ⟨T, hT⟩ : ∃ x, cntT V q = x := ⟨_, rfl⟩
 rw [hT] at ht
 obtain ⟨N, hN⟩ : ∃ N, 2 * q + 1 - P = N := ⟨_, rfl⟩
 rw [show sayW V q l = wrtV V N (zoa zj N (T + 1) l) by rw [sayW, nxtP, nxtT, if_pos hA, if_pos hA, hP, hT, hN]]
 refine zi (args := [.agg (#[.int .i64 (q : Int), .func (.func 105) #[] #[]]), .pointer (some ⟨g, 0, none⟩), .slice Av l.length cv]) 39 Tryz.func77 rfl rfl rfl ?_
 intro fa F
 have M := Mx.theG hg 0
 refine zS fun _ hK1 => ?_
 refine zR ?_
 refine zh (zb rfl) rfl F rfl M 1 (t := 87) (c := #[.int .i64 (q : Int), .func (.func 105) #[] #[]]) (by unfold execOp; simp only [(F.get (t := 0) rfl)]; kernel_rfl) ?_
 intro g2 a2 w2 F2 M2
 clear F M
 refine rm rfl F2 fun _ F3 => ?_
 refine hK1 _ _ ?_
 refine zS fun _ hK4 => ?_
 refine zR ?_
 refine zB 3 [(1, .pointer (some ⟨g, 0, none⟩)), (3, .pointer (some ⟨g2, 0, none⟩)), (6, .bool false), (11, .int .i64 (q : Int)), (12, .slice Av l.length cv)] [0] (zt (M2.blk (k := 1) rfl) dnil) [g2] F3 fun _ F5 => ?_
 clear F3
 refine zc (w' := w2) (zb rfl) rfl F5 rfl (.agg (#[.int .i64 (q : Int), .int .i64 1, .slice Av l.length cv])) (by unfold execOp; simp only [List.map_toArray, List.map_cons, List.map_nil, (F5.get (t := 11) rfl), (F5.get (t := 12) rfl)]; kernel_rfl) fun _ F6 => ?_
 clear F5
 refine zh (zb rfl) rfl F6 rfl M2 2 (t := 128) (c := #[.int .i64 0, .int .i64 0, zN]) (by unfold execOp; kernel_rfl) ?_
 intro g7 a7 w7 F7 M7
 clear F6 M2
 refine zm (zb rfl) rfl F7 M7 (k := 2) rfl _ _ _ rfl (F7.get (t := 7) rfl) (F7.get (t := 13) rfl) (#[.int .i64 (q : Int), .int .i64 1, .slice Av l.length cv]) _ rfl (zL rfl) (z0a (hB.grow M7.grown hBg)) (zn rfl) (by kernel_rfl) ?_
 intro w8 M8
 clear M7
 refine hK4 _ _ ?_
 refine zS fun _ hK9 => ?_
 refine zS fun _ hK10 => ?_
 refine zR ?_
 refine zc (w' := w8) (zb rfl) rfl F7 rfl _ (zna _ _ rfl (F7.get (t := 3) rfl) (M8.blk (k := 1) rfl) (#[.int .i64 (q : Int), .func (.func 105) #[] #[]]) (zra rfl) Tryz.underlying87 rfl (by kernel_rfl)) fun _ F11 => ?_
 clear F7
 refine rm rfl F11 fun _ F12 => ?_
 refine zg (zb rfl) rfl F12 rfl rfl (zE Tryz.func106 rfl) #[.agg (#[.int .i64 (q : Int), .func (.func 105) #[] #[]]), .pointer (some ⟨g, 0, none⟩)] (zha (F12.get (t := 15) rfl) (F12.get (t := 16) rfl)) (cw_is hP hT (countsR_is q hq g V s n hv true hA w8 (HasV.of (M8.blk (k := 0) rfl) (hr.grow M8.grown)))) ?_
 rintro _ w13 a13 ⟨S13, rfl, hS13, hf13, b13⟩ F13
 skip
 have M13 := M8.step b13
 have hS13 := hS13.step b13
 clear M8
 refine rm rfl F13 fun _ F14 => ?_
 refine zA 2 [(18, .agg (#[.int .i64 (P : Int), .int .i64 T, S13])), (19, .bool true)] [] dnil [] F14 fun _ F15 => ?_
 clear F14
 refine zh (zb rfl) rfl F15 rfl M13 4 (t := 128) (c := #[.int .i64 0, .int .i64 0, zN]) (by unfold execOp; kernel_rfl) ?_
 intro g16 a16 w16 F16 M16
 clear F15 M13
 refine zm (zb rfl) rfl F16 M16 (k := 4) rfl _ _ _ rfl (F16.get (t := 8) rfl) (F16.get (t := 18) rfl) (#[.int .i64 (P : Int), .int .i64 T, S13]) _ rfl (zL rfl) (z0a hS13) (zn rfl) (by kernel_rfl) ?_
 intro w17 M17
 clear M16
 refine rm rfl F16 fun _ F18 => ?_
 refine hK10 _ _ ?_
 refine zS fun _ hK19 => ?_
 refine zR ?_
 refine rm rfl F18 fun _ F20 => ?_
 refine hK19 _ _ ?_
 refine wp_cond_true (F20.get (t := 20) rfl) ?_
 refine zS fun _ hK21 => ?_
 refine zR ?_
 refine zA 2 [(21, .pointer (some ⟨g2, 0, none⟩)), (22, .int .i64 (q : Int))] [0] (zt (M17.blk (k := 1) rfl) dnil) [g2] F20 fun _ F22 => ?_
 clear F20
 refine zc (w' := w17) (zb rfl) rfl F22 rfl (.int .i64 ((2 * q : Nat) : Int)) (y_mulI _ _ _ _ rfl rfl (F22.get (t := 22) rfl) (by omega) (by omega)) fun _ F23 => ?_
 clear F22
 refine zc (w' := w17) (zb rfl) rfl F23 rfl (.int .i64 ((2 * q + 1 : Nat) : Int)) (zqa _ _ _ _ rfl (F23.get (t := 23) rfl) rfl (by omega) (by omega)) fun _ F24 => ?_
 clear F23
 refine zA 2 [(25, .pointer (some ⟨g16, 0, none⟩)), (26, .int .i64 (P : Int))] [0] (zt (M17.blk (k := 4) rfl) dnil) [g16] F24 fun _ F25 => ?_
 clear F24
 refine zc (w' := w17) (zb rfl) rfl F25 rfl (.int .i64 (N : Int)) (y_subI _ _ _ _ rfl (F25.get (t := 24) rfl) (F25.get (t := 26) rfl) (by omega) (by omega)) fun _ F26 => ?_
 clear F25
 refine zc (w' := w17) (zb rfl) rfl F26 rfl (.pointer (some ⟨g7, 0, none⟩)) (y_fa (off := 0) rfl (F26.get (t := 7) rfl) (by kernel_rfl) rfl) fun _ F27 => ?_
 clear F26
 refine zm (zb rfl) rfl F27 M17 (k := 2) rfl _ _ _ rfl (F27.get (t := 28) rfl) (F27.get (t := 27) rfl) (#[.int .i64 (N : Int)]) (#[.int .i64 (N : Int), .int .i64 1, .slice Av l.length cv]) rfl (zL rfl) (z5b _ _) (by kernel_rfl) (by kernel_rfl) ?_
 intro w28 M28
 clear M17
 refine hK21 _ _ ?_
 refine zR ?_
 refine zc (w' := w28) (zb rfl) rfl F27 rfl (.pointer (some ⟨g16, 1, none⟩)) (y_fa (off := 1) rfl (F27.get (t := 8) rfl) (by kernel_rfl) rfl) fun _ F29 => ?_
 clear F27
 refine zc (w' := w28) (zb rfl) rfl F29 rfl (.int .i64 T) (zba _ _ rfl (F29.get (t := 29) rfl) (M28.blk (k := 4) rfl) rfl Tryz.underlying3 rfl) fun _ F30 => ?_
 clear F29
 refine zc (w' := w28) (zb rfl) rfl F30 rfl (.int .i64 (T + 1)) (zqa _ _ _ _ rfl (F30.get (t := 30) rfl) rfl rfl (by omega)) fun _ F31 => ?_
 clear F30
 refine zc (w' := w28) (zb rfl) rfl F31 rfl (.pointer (some ⟨g7, 1, none⟩)) (y_fa (off := 1) rfl (F31.get (t := 7) rfl) (by kernel_rfl) rfl) fun _ F32 => ?_
 clear F31
 refine zm (zb rfl) rfl F32 M28 (k := 2) rfl _ _ _ rfl (F32.get (t := 32) rfl) (F32.get (t := 31) rfl) (#[.int .i64 (T + 1)]) (#[.int .i64 (N : Int), .int .i64 (T + 1), .slice Av l.length cv]) rfl (zL rfl) (z5b _ _) (by kernel_rfl) (by kernel_rfl) ?_
 intro w33 M33
 clear M28
 refine hK9 _ _ ?_
 refine zS fun _ hK34 => ?_
 refine zsa F32 [fun vE => vE = .pointer (some ⟨g, 0, none⟩), fun vE => vE = .pointer (some ⟨g7, 0, none⟩), fun vE => vE = .int .i64 (N : Int), fun vE => vE = .agg (#[.int .i64 (N : Int), .int .i64 (T + 1), .slice Av l.length cv]), fun _ => True] (JM (some g) w fun SV pV => [(0, blkR g 80 (vltA V s n)), (1, blkR g2 87 (#[.int .i64 (q : Int), .func (.func 105) #[] #[]])), (2, blkR g7 128 (#[.int .i64 (N : Int), .int .i64 (T + 1), .slice Av l.length cv])), (4, blkR g16 128 (#[.int .i64 (P : Int), .int .i64 T, S13])), (5, zya (SV 4) (ownR (zoa zj N (T + 1) l) (pV 4)))]) 5 rfl (by kernel_rfl) rfl ⟨trivial, trivial, trivial, trivial, trivial, trivial⟩ (fun p => ((M33.step (zga _)).triv 5).sub ⟨rfl, rfl, rfl, rfl, rfl, trivial⟩) ⟨?_, ?_, ?_, ?_, ?_, trivial⟩ ?_
 ·intro ua uw SV pV M0 hk hn hd
  have M : Mx (some g) w uw _ := M0
  clear M0
  have e1 : ua.eval (.tmp 1) = .pointer (some ⟨g, 0, none⟩) := (show ua.eval (.tmp 1) = _ from hd 1 (by decide)).trans (F32.get (t := 1) rfl)
  exact zd (zb rfl) (.pointer (some ⟨g, 0, none⟩)) (zaa _ (.inl rfl) e1) rfl (M.sub ⟨rfl, rfl, rfl, rfl, rfl, trivial⟩)
 ·intro ua uw SV pV M0 hk hn hd
  have M : Mx (some g) w uw _ := M0
  clear M0
  have e7 : ua.eval (.tmp 7) = .pointer (some ⟨g7, 0, none⟩) := (show ua.eval (.tmp 7) = _ from hd 7 (by decide)).trans (F32.get (t := 7) rfl)
  exact zd (zb rfl) (.pointer (some ⟨g7, 0, none⟩)) (y_fa (off := 0) rfl e7 (by kernel_rfl) rfl) rfl (M.sub ⟨rfl, rfl, rfl, rfl, rfl, trivial⟩)
 ·intro ua uw SV pV M0 hk hn hd
  have M : Mx (some g) w uw _ := M0
  clear M0
  obtain ⟨s1, f34, q34⟩ := (show SV 1 = true ∧ ua.eval (.tmp 34) = pV 1 ∧ stE _ 1 (pV 1) from hd 34 (by decide))
  have e34 : ua.eval (.tmp 34) = .pointer (some ⟨g7, 0, none⟩) := f34.trans q34
  exact zd (zb rfl) (.int .i64 (N : Int)) (zba _ _ rfl e34 (M.blk (k := 2) rfl) rfl Tryz.underlying3 rfl) rfl (M.sub ⟨rfl, rfl, rfl, rfl, rfl, trivial⟩)
 ·intro ua uw SV pV M0 hk hn hd
  have M : Mx (some g) w uw _ := M0
  clear M0
  have e7 : ua.eval (.tmp 7) = .pointer (some ⟨g7, 0, none⟩) := (show ua.eval (.tmp 7) = _ from hd 7 (by decide)).trans (F32.get (t := 7) rfl)
  exact zd (zb rfl) _ (zna _ _ rfl e7 (M.blk (k := 2) rfl) (#[.int .i64 (N : Int), .int .i64 (T + 1), .slice Av l.length cv]) (zra rfl) Tryz.underlying128 rfl (by kernel_rfl)) rfl (M.sub ⟨rfl, rfl, rfl, rfl, rfl, trivial⟩)
 ·intro ua uw SV pV M0 hk hn hd
  have M : Mx (some g) w uw _ := M0
  clear M0
  obtain ⟨s3, f36, q36⟩ := (show SV 3 = true ∧ ua.eval (.tmp 36) = pV 3 ∧ stE _ 3 (pV 3) from hd 36 (by decide))
  have e36 : ua.eval (.tmp 36) = .agg (#[.int .i64 (N : Int), .int .i64 (T + 1), .slice Av l.length cv]) := f36.trans q36
  exact zwa (zb rfl) rfl #[.agg (#[.int .i64 (N : Int), .int .i64 (T + 1), .slice Av l.length cv])] (zx e36) (zE Tryz.func99 rfl) (((cbytes_any N (T + 1) l (.slice Av l.length cv) hl uw (hB.grow M.grown hBg))).mono fun e w2 h => (by obtain ⟨u, h1, h2, h3⟩ := h; exact ⟨u, h1, trivial, (M.newO h3 5 h2).sub ⟨rfl, rfl, rfl, rfl, rfl, trivial⟩⟩))
 intro p35 a35 w35 M35 G35 y35
 obtain ⟨q0, -, q2, -, q4, -⟩ := y35
 have r0 : p35 0 = .pointer (some ⟨g, 0, none⟩) := q0
 have r2 : p35 2 = .int .i64 (N : Int) := q2
 replace M35 : Mx _ _ w35 [(0, blkR g 80 (vltA V s n)), (1, blkR g2 87 (#[.int .i64 (q : Int), .func (.func 105) #[] #[]])), (2, blkR g7 128 (#[.int .i64 (N : Int), .int .i64 (T + 1), .slice Av l.length cv])), (4, blkR g16 128 (#[.int .i64 (P : Int), .int .i64 T, S13])), (5, zya true (ownR (zoa zj N (T + 1) l) (p35 4)))] := M35
 simp only [List.take, layV, Nat.zero_add, Nat.reduceAdd, r0, r2] at G35
 obtain ⟨Ap35_5, cp35_5, hp35_5⟩ := (M35.isO (k := 5) rfl).shape
 rw [hp35_5] at M35
 try rw [hp35_5] at G35
 refine zg (zb rfl) rfl G35 rfl rfl (zE Tryz.func98 rfl) #[.pointer (some ⟨g, 0, none⟩), .int .i64 (N : Int), (.slice Ap35_5 ((zoa zj N (T + 1) l)).length cp35_5)] (args3 (G35.get (t := 33) rfl) (G35.get (t := 35) rfl) (G35.get (t := 37) rfl)) (dwrite_any g V s n N (by omega) ((.slice Ap35_5 ((zoa zj N (T + 1) l)).length cp35_5)) (zoa zj N (T + 1) l) w35 (M35.isO (k := 5) rfl) (fun h => M35.dis 0 5 _ _ rfl rfl (by decide) rfl g rfl (zma h)) (hr.grow M35.grown) (M35.blk (k := 0) rfl)) ?_
 rintro _ w36 a36 ⟨rfl, s2, n2, hr36, ht36, hc36, hg36⟩ F36
 refine rm rfl F36 fun _ F37 => ?_
 refine hK34 _ _ ?_
 refine wp_ret ?_
 try simp only [Exit.then, Exit.inBlock, Exit.jump]
 exact bodyPost_ret (res1 rfl (F37.get rfl)) F37.defers ⟨_, rfl, rfl, s2, n2, hr36, (fun b hb => (ht36 b hb).imp id (fun hb => (M35.own 5 _ rfl rfl b (zma hb)).resolve_right (fun e => M35.dis 0 5 _ _ rfl rfl (by decide) rfl b (Option.some.inj e).symm (zma hb)))), hc36, M35.grown.trans hg36⟩
theorem pwriteR_f (q : Nat) (hq : q + 1 < 18) (g : Nat) (V : VltN) (s n : Nat → Value) (hv : zfa V) (l : List UInt8) (lv : Value) (hl : l.length ≤ 1000) (hA : anyB zj V q = false) (w : World) (hB : IsB w l lv) (hBg : ¬ bfp lv g) (hr : RowsV w g V.c s n) (hg : w.heap[g]? = some (.cells (vltA V s n) 80 (0, 0))) :
  Calls Tryz.prog 77 #[.agg #[.int .i64 (q : Int), .func (.func 105) #[] #[]], .pointer (some ⟨g, 0, none⟩), lv] w fun e w' => ∃ t, e = .returned t ∧ t = .bool (sayW V q l).2 ∧ ∃ s' n', RowsV w' g (sayW V q l).1.c s' n' ∧ (∀ b, zo 18 s' n' b → zo 18 s n b ∨ w.heap.size ≤ b) ∧ w'.heap[g]? = some (.cells (vltA (sayW V q l).1 s' n') 80 (0, 0)) ∧ w.grownBy w' (some g) := by
 obtain ⟨Av, cv, rfl⟩ := hB.shape
 rw [show sayW V q l = wrtV V q (zoa zj q 1 l) by rw [sayW, nxtP, nxtT, if_neg (by rw [hA]; exact Bool.false_ne_true), if_neg (by rw [hA]; exact Bool.false_ne_true)]]
 refine zi (args := [.agg (#[.int .i64 (q : Int), .func (.func 105) #[] #[]]), .pointer (some ⟨g, 0, none⟩), .slice Av l.length cv]) 39 Tryz.func77 rfl rfl rfl ?_
 intro fa F
 have M := Mx.theG hg 0
 refine zS fun _ hK1 => ?_
 refine zR ?_
 refine zh (zb rfl) rfl F rfl M 1 (t := 87) (c := #[.int .i64 (q : Int), .func (.func 105) #[] #[]]) (by unfold execOp; simp only [(F.get (t := 0) rfl)]; kernel_rfl) ?_
 intro g2 a2 w2 F2 M2
 clear F M
 refine rm rfl F2 fun _ F3 => ?_
 refine hK1 _ _ ?_
 refine zS fun _ hK4 => ?_
 refine zR ?_
 refine zB 3 [(1, .pointer (some ⟨g, 0, none⟩)), (3, .pointer (some ⟨g2, 0, none⟩)), (6, .bool false), (11, .int .i64 (q : Int)), (12, .slice Av l.length cv)] [0] (zt (M2.blk (k := 1) rfl) dnil) [g2] F3 fun _ F5 => ?_
 clear F3
 refine zc (w' := w2) (zb rfl) rfl F5 rfl (.agg (#[.int .i64 (q : Int), .int .i64 1, .slice Av l.length cv])) (by unfold execOp; simp only [List.map_toArray, List.map_cons, List.map_nil, (F5.get (t := 11) rfl), (F5.get (t := 12) rfl)]; kernel_rfl) fun _ F6 => ?_
 clear F5
 refine zh (zb rfl) rfl F6 rfl M2 2 (t := 128) (c := #[.int .i64 0, .int .i64 0, zN]) (by unfold execOp; kernel_rfl) ?_
 intro g7 a7 w7 F7 M7
 clear F6 M2
 refine zm (zb rfl) rfl F7 M7 (k := 2) rfl _ _ _ rfl (F7.get (t := 7) rfl) (F7.get (t := 13) rfl) (#[.int .i64 (q : Int), .int .i64 1, .slice Av l.length cv]) _ rfl (zL rfl) (z0a (hB.grow M7.grown hBg)) (zn rfl) (by kernel_rfl) ?_
 intro w8 M8
 clear M7
 refine hK4 _ _ ?_
 refine zS fun _ hK9 => ?_
 refine zS fun _ hK10 => ?_
 refine zR ?_
 refine zc (w' := w8) (zb rfl) rfl F7 rfl _ (zna _ _ rfl (F7.get (t := 3) rfl) (M8.blk (k := 1) rfl) (#[.int .i64 (q : Int), .func (.func 105) #[] #[]]) (zra rfl) Tryz.underlying87 rfl (by kernel_rfl)) fun _ F11 => ?_
 clear F7
 refine rm rfl F11 fun _ F12 => ?_
 refine zg (zb rfl) rfl F12 rfl rfl (zE Tryz.func106 rfl) #[.agg (#[.int .i64 (q : Int), .func (.func 105) #[] #[]]), .pointer (some ⟨g, 0, none⟩)] (zha (F12.get (t := 15) rfl) (F12.get (t := 16) rfl)) (countsR_is q hq g V s n hv false hA w8 (HasV.of (M8.blk (k := 0) rfl) (hr.grow M8.grown))) ?_
 rintro _ w13 a13 ⟨S13, rfl, hS13, hf13, b13⟩ F13
 skip
 have M13 := M8.step b13
 have hS13 := hS13.step b13
 clear M8
 refine rm rfl F13 fun _ F14 => ?_
 refine zA 2 [(18, .agg (#[.int .i64 (cntP V q : Int), .int .i64 (cntT V q), S13])), (19, .bool false)] [] dnil [] F14 fun _ F15 => ?_
 clear F14
 refine zh (zb rfl) rfl F15 rfl M13 4 (t := 128) (c := #[.int .i64 0, .int .i64 0, zN]) (by unfold execOp; kernel_rfl) ?_
 intro g16 a16 w16 F16 M16
 clear F15 M13
 refine zm (zb rfl) rfl F16 M16 (k := 4) rfl _ _ _ rfl (F16.get (t := 8) rfl) (F16.get (t := 18) rfl) (#[.int .i64 (cntP V q : Int), .int .i64 (cntT V q), S13]) _ rfl (zL rfl) (z0a hS13) (zn rfl) (by kernel_rfl) ?_
 intro w17 M17
 clear M16
 refine rm rfl F16 fun _ F18 => ?_
 refine hK10 _ _ ?_
 refine zS fun _ hK19 => ?_
 refine zR ?_
 refine rm rfl F18 fun _ F20 => ?_
 refine hK19 _ _ ?_
 refine wp_cond_false (F20.get (t := 20) rfl) ?_
 refine wp_skip ?_
 refine hK9 _ _ ?_
 refine zS fun _ hK21 => ?_
 refine zsa F20 [fun vE => vE = .pointer (some ⟨g, 0, none⟩), fun vE => vE = .pointer (some ⟨g7, 0, none⟩), fun vE => vE = .int .i64 (q : Int), fun vE => vE = .agg (#[.int .i64 (q : Int), .int .i64 1, .slice Av l.length cv]), fun _ => True] (JM (some g) w fun SV pV => [(0, blkR g 80 (vltA V s n)), (1, blkR g2 87 (#[.int .i64 (q : Int), .func (.func 105) #[] #[]])), (2, blkR g7 128 (#[.int .i64 (q : Int), .int .i64 1, .slice Av l.length cv])), (4, blkR g16 128 (#[.int .i64 (cntP V q : Int), .int .i64 (cntT V q), S13])), (5, zya (SV 4) (ownR (zoa zj q 1 l) (pV 4)))]) 5 rfl (by kernel_rfl) rfl ⟨trivial, trivial, trivial, trivial, trivial, trivial⟩ (fun p => ((M17.step (zga _)).triv 5).sub ⟨rfl, rfl, rfl, rfl, rfl, trivial⟩) ⟨?_, ?_, ?_, ?_, ?_, trivial⟩ ?_
 ·intro ua uw SV pV M0 hk hn hd
  have M : Mx (some g) w uw _ := M0
  clear M0
  have e1 : ua.eval (.tmp 1) = .pointer (some ⟨g, 0, none⟩) := (show ua.eval (.tmp 1) = _ from hd 1 (by decide)).trans (F20.get (t := 1) rfl)
  exact zd (zb rfl) (.pointer (some ⟨g, 0, none⟩)) (zaa _ (.inl rfl) e1) rfl (M.sub ⟨rfl, rfl, rfl, rfl, rfl, trivial⟩)
 ·intro ua uw SV pV M0 hk hn hd
  have M : Mx (some g) w uw _ := M0
  clear M0
  have e7 : ua.eval (.tmp 7) = .pointer (some ⟨g7, 0, none⟩) := (show ua.eval (.tmp 7) = _ from hd 7 (by decide)).trans (F20.get (t := 7) rfl)
  exact zd (zb rfl) (.pointer (some ⟨g7, 0, none⟩)) (y_fa (off := 0) rfl e7 (by kernel_rfl) rfl) rfl (M.sub ⟨rfl, rfl, rfl, rfl, rfl, trivial⟩)
 ·intro ua uw SV pV M0 hk hn hd
  have M : Mx (some g) w uw _ := M0
  clear M0
  obtain ⟨s1, f34, q34⟩ := (show SV 1 = true ∧ ua.eval (.tmp 34) = pV 1 ∧ stE _ 1 (pV 1) from hd 34 (by decide))
  have e34 : ua.eval (.tmp 34) = .pointer (some ⟨g7, 0, none⟩) := f34.trans q34
  exact zd (zb rfl) (.int .i64 (q : Int)) (zba _ _ rfl e34 (M.blk (k := 2) rfl) rfl Tryz.underlying3 rfl) rfl (M.sub ⟨rfl, rfl, rfl, rfl, rfl, trivial⟩)
 ·intro ua uw SV pV M0 hk hn hd
  have M : Mx (some g) w uw _ := M0
  clear M0
  have e7 : ua.eval (.tmp 7) = .pointer (some ⟨g7, 0, none⟩) := (show ua.eval (.tmp 7) = _ from hd 7 (by decide)).trans (F20.get (t := 7) rfl)
  exact zd (zb rfl) _ (zna _ _ rfl e7 (M.blk (k := 2) rfl) (#[.int .i64 (q : Int), .int .i64 1, .slice Av l.length cv]) (zra rfl) Tryz.underlying128 rfl (by kernel_rfl)) rfl (M.sub ⟨rfl, rfl, rfl, rfl, rfl, trivial⟩)
 ·intro ua uw SV pV M0 hk hn hd
  have M : Mx (some g) w uw _ := M0
  clear M0
  obtain ⟨s3, f36, q36⟩ := (show SV 3 = true ∧ ua.eval (.tmp 36) = pV 3 ∧ stE _ 3 (pV 3) from hd 36 (by decide))
  have e36 : ua.eval (.tmp 36) = .agg (#[.int .i64 (q : Int), .int .i64 1, .slice Av l.length cv]) := f36.trans q36
  exact zwa (zb rfl) rfl #[.agg (#[.int .i64 (q : Int), .int .i64 1, .slice Av l.length cv])] (zx e36) (zE Tryz.func99 rfl) (((cbytes_any q 1 l (.slice Av l.length cv) hl uw (hB.grow M.grown hBg))).mono fun e w2 h => (by obtain ⟨u, h1, h2, h3⟩ := h; exact ⟨u, h1, trivial, (M.newO h3 5 h2).sub ⟨rfl, rfl, rfl, rfl, rfl, trivial⟩⟩))
 intro p22 a22 w22 M22 G22 y22
 obtain ⟨q0, -, q2, -, q4, -⟩ := y22
 have r0 : p22 0 = .pointer (some ⟨g, 0, none⟩) := q0
 have r2 : p22 2 = .int .i64 (q : Int) := q2
 replace M22 : Mx _ _ w22 [(0, blkR g 80 (vltA V s n)), (1, blkR g2 87 (#[.int .i64 (q : Int), .func (.func 105) #[] #[]])), (2, blkR g7 128 (#[.int .i64 (q : Int), .int .i64 1, .slice Av l.length cv])), (4, blkR g16 128 (#[.int .i64 (cntP V q : Int), .int .i64 (cntT V q), S13])), (5, zya true (ownR (zoa zj q 1 l) (p22 4)))] := M22
 simp only [List.take, layV, Nat.zero_add, Nat.reduceAdd, r0, r2] at G22
 obtain ⟨Ap22_5, cp22_5, hp22_5⟩ := (M22.isO (k := 5) rfl).shape
 rw [hp22_5] at M22
 try rw [hp22_5] at G22
 refine zg (zb rfl) rfl G22 rfl rfl (zE Tryz.func98 rfl) #[.pointer (some ⟨g, 0, none⟩), .int .i64 (q : Int), (.slice Ap22_5 ((zoa zj q 1 l)).length cp22_5)] (args3 (G22.get (t := 33) rfl) (G22.get (t := 35) rfl) (G22.get (t := 37) rfl)) (dwrite_any g V s n q (by omega) ((.slice Ap22_5 ((zoa zj q 1 l)).length cp22_5)) (zoa zj q 1 l) w22 (M22.isO (k := 5) rfl) (fun h => M22.dis 0 5 _ _ rfl rfl (by decide) rfl g rfl (zma h)) (hr.grow M22.grown) (M22.blk (k := 0) rfl)) ?_
 rintro _ w23 a23 ⟨rfl, s2, n2, hr23, ht23, hc23, hg23⟩ F23
 refine rm rfl F23 fun _ F24 => ?_
 refine hK21 _ _ ?_
 refine wp_ret ?_
 try simp only [Exit.then, Exit.inBlock, Exit.jump]
 exact bodyPost_ret (res1 rfl (F24.get rfl)) F24.defers ⟨_, rfl, rfl, s2, n2, hr23, (fun b hb => (ht23 b hb).imp id (fun hb => (M22.own 5 _ rfl rfl b (zma hb)).resolve_right (fun e => M22.dis 0 5 _ _ rfl rfl (by decide) rfl b (Option.some.inj e).symm (zma hb)))), hc23, M22.grown.trans hg23⟩
theorem pwriteI_t (q : Nat) (hq : q + 1 < 18) (g : Nat) (V : VltN) (s n : Nat → Value) (hv : zfa V) (l : List UInt8) (lv : Value) (hl : l.length ≤ 1000) (hA : anyB zj V q = true) (ht : -9223372036854775808 ≤ cntT V q ∧ cntT V q < 9223372036854775807) (w : World) (hB : IsB w l lv) (hBg : ¬ bfp lv g) (hr : RowsV w g V.c s n) (hg : w.heap[g]? = some (.cells (vltA V s n) 80 (0, 0))) :
  Calls Tryz.prog 66 #[.agg #[.int .i64 (q : Int), .func (.func 88) #[] #[]], .pointer (some ⟨g, 0, none⟩), lv] w fun e w' => ∃ t, e = .returned t ∧ t = .bool (sayW V q l).2 ∧ ∃ s' n', RowsV w' g (sayW V q l).1.c s' n' ∧ (∀ b, zo 18 s' n' b → zo 18 s n b ∨ w.heap.size ≤ b) ∧ w'.heap[g]? = some (.cells (vltA (sayW V q l).1 s' n') 80 (0, 0)) ∧ w.grownBy w' (some g) := by
 obtain ⟨Av, cv, rfl⟩ := hB.shape
 obtain ⟨P, hP⟩ : ∃ x, cntP V q = x := ⟨_, rfl⟩
 have hPq := cntP_in hA
 rw [hP] at hPq
 obtain ⟨T, hT⟩ : ∃ x, cntT V q = x := ⟨_, rfl⟩
 rw [hT] at ht
 obtain ⟨N, hN⟩ : ∃ N, 2 * q + 1 - P = N := ⟨_, rfl⟩
 rw [show sayW V q l = wrtV V N (zoa zj N (T + 1) l) by rw [sayW, nxtP, nxtT, if_pos hA, if_pos hA, hP, hT, hN]]
 refine zi (args := [.agg (#[.int .i64 (q : Int), .func (.func 88) #[] #[]]), .pointer (some ⟨g, 0, none⟩), .slice Av l.length cv]) 39 Tryz.func66 rfl rfl rfl ?_
 intro fa F
 have M := Mx.theG hg 0
 refine zS fun _ hK1 => ?_
 refine zR ?_
 refine zh (zb rfl) rfl F rfl M 1 (t := 100) (c := #[.int .i64 (q : Int), .func (.func 88) #[] #[]]) (by unfold execOp; simp only [(F.get (t := 0) rfl)]; kernel_rfl) ?_
 intro g2 a2 w2 F2 M2
 clear F M
 refine rm rfl F2 fun _ F3 => ?_
 refine hK1 _ _ ?_
 refine zS fun _ hK4 => ?_
 refine zR ?_
 refine zB 3 [(1, .pointer (some ⟨g, 0, none⟩)), (3, .pointer (some ⟨g2, 0, none⟩)), (6, .bool false), (11, .int .i64 (q : Int)), (12, .slice Av l.length cv)] [0] (zt (M2.blk (k := 1) rfl) dnil) [g2] F3 fun _ F5 => ?_
 clear F3
 refine zc (w' := w2) (zb rfl) rfl F5 rfl (.agg (#[.int .i64 (q : Int), .int .i64 1, .slice Av l.length cv])) (by unfold execOp; simp only [List.map_toArray, List.map_cons, List.map_nil, (F5.get (t := 11) rfl), (F5.get (t := 12) rfl)]; kernel_rfl) fun _ F6 => ?_
 clear F5
 refine zh (zb rfl) rfl F6 rfl M2 2 (t := 128) (c := #[.int .i64 0, .int .i64 0, zN]) (by unfold execOp; kernel_rfl) ?_
 intro g7 a7 w7 F7 M7
 clear F6 M2
 refine zm (zb rfl) rfl F7 M7 (k := 2) rfl _ _ _ rfl (F7.get (t := 7) rfl) (F7.get (t := 13) rfl) (#[.int .i64 (q : Int), .int .i64 1, .slice Av l.length cv]) _ rfl (zL rfl) (z0a (hB.grow M7.grown hBg)) (zn rfl) (by kernel_rfl) ?_
 intro w8 M8
 clear M7
 refine hK4 _ _ ?_
 refine zS fun _ hK9 => ?_
 refine zS fun _ hK10 => ?_
 refine zR ?_
 refine zc (w' := w8) (zb rfl) rfl F7 rfl _ (zna _ _ rfl (F7.get (t := 3) rfl) (M8.blk (k := 1) rfl) (#[.int .i64 (q : Int), .func (.func 88) #[] #[]]) (zra rfl) Tryz.underlying100 rfl (by kernel_rfl)) fun _ F11 => ?_
 clear F7
 refine rm rfl F11 fun _ F12 => ?_
 refine zg (zb rfl) rfl F12 rfl rfl (zE Tryz.func89 rfl) #[.agg (#[.int .i64 (q : Int), .func (.func 88) #[] #[]]), .pointer (some ⟨g, 0, none⟩)] (zha (F12.get (t := 15) rfl) (F12.get (t := 16) rfl)) (cw_is hP hT (countsI_is q hq g V s n hv true hA w8 (HasV.of (M8.blk (k := 0) rfl) (hr.grow M8.grown)))) ?_
 rintro _ w13 a13 ⟨S13, rfl, hS13, hf13, b13⟩ F13
 skip
 have M13 := M8.step b13
 have hS13 := hS13.step b13
 clear M8
 refine rm rfl F13 fun _ F14 => ?_
 refine zA 2 [(18, .agg (#[.int .i64 (P : Int), .int .i64 T, S13])), (19, .bool true)] [] dnil [] F14 fun _ F15 => ?_
 clear F14
 refine zh (zb rfl) rfl F15 rfl M13 4 (t := 128) (c := #[.int .i64 0, .int .i64 0, zN]) (by unfold execOp; kernel_rfl) ?_
 intro g16 a16 w16 F16 M16
 clear F15 M13
 refine zm (zb rfl) rfl F16 M16 (k := 4) rfl _ _ _ rfl (F16.get (t := 8) rfl) (F16.get (t := 18) rfl) (#[.int .i64 (P : Int), .int .i64 T, S13]) _ rfl (zL rfl) (z0a hS13) (zn rfl) (by kernel_rfl) ?_
 intro w17 M17
 clear M16
 refine rm rfl F16 fun _ F18 => ?_
 refine hK10 _ _ ?_
 refine zS fun _ hK19 => ?_
 refine zR ?_
 refine rm rfl F18 fun _ F20 => ?_
 refine hK19 _ _ ?_
 refine wp_cond_true (F20.get (t := 20) rfl) ?_
 refine zS fun _ hK21 => ?_
 refine zR ?_
 refine zA 2 [(21, .pointer (some ⟨g2, 0, none⟩)), (22, .int .i64 (q : Int))] [0] (zt (M17.blk (k := 1) rfl) dnil) [g2] F20 fun _ F22 => ?_
 clear F20
 refine zc (w' := w17) (zb rfl) rfl F22 rfl (.int .i64 ((2 * q : Nat) : Int)) (y_mulI _ _ _ _ rfl rfl (F22.get (t := 22) rfl) (by omega) (by omega)) fun _ F23 => ?_
 clear F22
 refine zc (w' := w17) (zb rfl) rfl F23 rfl (.int .i64 ((2 * q + 1 : Nat) : Int)) (zqa _ _ _ _ rfl (F23.get (t := 23) rfl) rfl (by omega) (by omega)) fun _ F24 => ?_
 clear F23
 refine zA 2 [(25, .pointer (some ⟨g16, 0, none⟩)), (26, .int .i64 (P : Int))] [0] (zt (M17.blk (k := 4) rfl) dnil) [g16] F24 fun _ F25 => ?_
 clear F24
 refine zc (w' := w17) (zb rfl) rfl F25 rfl (.int .i64 (N : Int)) (y_subI _ _ _ _ rfl (F25.get (t := 24) rfl) (F25.get (t := 26) rfl) (by omega) (by omega)) fun _ F26 => ?_
 clear F25
 refine zc (w' := w17) (zb rfl) rfl F26 rfl (.pointer (some ⟨g7, 0, none⟩)) (y_fa (off := 0) rfl (F26.get (t := 7) rfl) (by kernel_rfl) rfl) fun _ F27 => ?_
 clear F26
 refine zm (zb rfl) rfl F27 M17 (k := 2) rfl _ _ _ rfl (F27.get (t := 28) rfl) (F27.get (t := 27) rfl) (#[.int .i64 (N : Int)]) (#[.int .i64 (N : Int), .int .i64 1, .slice Av l.length cv]) rfl (zL rfl) (z5b _ _) (by kernel_rfl) (by kernel_rfl) ?_
 intro w28 M28
 clear M17
 refine hK21 _ _ ?_
 refine zR ?_
 refine zc (w' := w28) (zb rfl) rfl F27 rfl (.pointer (some ⟨g16, 1, none⟩)) (y_fa (off := 1) rfl (F27.get (t := 8) rfl) (by kernel_rfl) rfl) fun _ F29 => ?_
 clear F27
 refine zc (w' := w28) (zb rfl) rfl F29 rfl (.int .i64 T) (zba _ _ rfl (F29.get (t := 29) rfl) (M28.blk (k := 4) rfl) rfl Tryz.underlying3 rfl) fun _ F30 => ?_
 clear F29
 refine zc (w' := w28) (zb rfl) rfl F30 rfl (.int .i64 (T + 1)) (zqa _ _ _ _ rfl (F30.get (t := 30) rfl) rfl rfl (by omega)) fun _ F31 => ?_
 clear F30
 refine zc (w' := w28) (zb rfl) rfl F31 rfl (.pointer (some ⟨g7, 1, none⟩)) (y_fa (off := 1) rfl (F31.get (t := 7) rfl) (by kernel_rfl) rfl) fun _ F32 => ?_
 clear F31
 refine zm (zb rfl) rfl F32 M28 (k := 2) rfl _ _ _ rfl (F32.get (t := 32) rfl) (F32.get (t := 31) rfl) (#[.int .i64 (T + 1)]) (#[.int .i64 (N : Int), .int .i64 (T + 1), .slice Av l.length cv]) rfl (zL rfl) (z5b _ _) (by kernel_rfl) (by kernel_rfl) ?_
 intro w33 M33
 clear M28
 refine hK9 _ _ ?_
 refine zS fun _ hK34 => ?_
 refine zsa F32 [fun vE => vE = .pointer (some ⟨g, 0, none⟩), fun vE => vE = .pointer (some ⟨g7, 0, none⟩), fun vE => vE = .int .i64 (N : Int), fun vE => vE = .agg (#[.int .i64 (N : Int), .int .i64 (T + 1), .slice Av l.length cv]), fun _ => True] (JM (some g) w fun SV pV => [(0, blkR g 80 (vltA V s n)), (1, blkR g2 100 (#[.int .i64 (q : Int), .func (.func 88) #[] #[]])), (2, blkR g7 128 (#[.int .i64 (N : Int), .int .i64 (T + 1), .slice Av l.length cv])), (4, blkR g16 128 (#[.int .i64 (P : Int), .int .i64 T, S13])), (5, zya (SV 4) (ownR (zoa zj N (T + 1) l) (pV 4)))]) 5 rfl (by kernel_rfl) rfl ⟨trivial, trivial, trivial, trivial, trivial, trivial⟩ (fun p => ((M33.step (zga _)).triv 5).sub ⟨rfl, rfl, rfl, rfl, rfl, trivial⟩) ⟨?_, ?_, ?_, ?_, ?_, trivial⟩ ?_
 ·intro ua uw SV pV M0 hk hn hd
  have M : Mx (some g) w uw _ := M0
  clear M0
  have e1 : ua.eval (.tmp 1) = .pointer (some ⟨g, 0, none⟩) := (show ua.eval (.tmp 1) = _ from hd 1 (by decide)).trans (F32.get (t := 1) rfl)
  exact zd (zb rfl) (.pointer (some ⟨g, 0, none⟩)) (zaa _ (.inl rfl) e1) rfl (M.sub ⟨rfl, rfl, rfl, rfl, rfl, trivial⟩)
 ·intro ua uw SV pV M0 hk hn hd
  have M : Mx (some g) w uw _ := M0
  clear M0
  have e7 : ua.eval (.tmp 7) = .pointer (some ⟨g7, 0, none⟩) := (show ua.eval (.tmp 7) = _ from hd 7 (by decide)).trans (F32.get (t := 7) rfl)
  exact zd (zb rfl) (.pointer (some ⟨g7, 0, none⟩)) (y_fa (off := 0) rfl e7 (by kernel_rfl) rfl) rfl (M.sub ⟨rfl, rfl, rfl, rfl, rfl, trivial⟩)
 ·intro ua uw SV pV M0 hk hn hd
  have M : Mx (some g) w uw _ := M0
  clear M0
  obtain ⟨s1, f34, q34⟩ := (show SV 1 = true ∧ ua.eval (.tmp 34) = pV 1 ∧ stE _ 1 (pV 1) from hd 34 (by decide))
  have e34 : ua.eval (.tmp 34) = .pointer (some ⟨g7, 0, none⟩) := f34.trans q34
  exact zd (zb rfl) (.int .i64 (N : Int)) (zba _ _ rfl e34 (M.blk (k := 2) rfl) rfl Tryz.underlying3 rfl) rfl (M.sub ⟨rfl, rfl, rfl, rfl, rfl, trivial⟩)
 ·intro ua uw SV pV M0 hk hn hd
  have M : Mx (some g) w uw _ := M0
  clear M0
  have e7 : ua.eval (.tmp 7) = .pointer (some ⟨g7, 0, none⟩) := (show ua.eval (.tmp 7) = _ from hd 7 (by decide)).trans (F32.get (t := 7) rfl)
  exact zd (zb rfl) _ (zna _ _ rfl e7 (M.blk (k := 2) rfl) (#[.int .i64 (N : Int), .int .i64 (T + 1), .slice Av l.length cv]) (zra rfl) Tryz.underlying128 rfl (by kernel_rfl)) rfl (M.sub ⟨rfl, rfl, rfl, rfl, rfl, trivial⟩)
 ·intro ua uw SV pV M0 hk hn hd
  have M : Mx (some g) w uw _ := M0
  clear M0
  obtain ⟨s3, f36, q36⟩ := (show SV 3 = true ∧ ua.eval (.tmp 36) = pV 3 ∧ stE _ 3 (pV 3) from hd 36 (by decide))
  have e36 : ua.eval (.tmp 36) = .agg (#[.int .i64 (N : Int), .int .i64 (T + 1), .slice Av l.length cv]) := f36.trans q36
  exact zwa (zb rfl) rfl #[.agg (#[.int .i64 (N : Int), .int .i64 (T + 1), .slice Av l.length cv])] (zx e36) (zE Tryz.func99 rfl) (((cbytes_any N (T + 1) l (.slice Av l.length cv) hl uw (hB.grow M.grown hBg))).mono fun e w2 h => (by obtain ⟨u, h1, h2, h3⟩ := h; exact ⟨u, h1, trivial, (M.newO h3 5 h2).sub ⟨rfl, rfl, rfl, rfl, rfl, trivial⟩⟩))
 intro p35 a35 w35 M35 G35 y35
 obtain ⟨q0, -, q2, -, q4, -⟩ := y35
 have r0 : p35 0 = .pointer (some ⟨g, 0, none⟩) := q0
 have r2 : p35 2 = .int .i64 (N : Int) := q2
 replace M35 : Mx _ _ w35 [(0, blkR g 80 (vltA V s n)), (1, blkR g2 100 (#[.int .i64 (q : Int), .func (.func 88) #[] #[]])), (2, blkR g7 128 (#[.int .i64 (N : Int), .int .i64 (T + 1), .slice Av l.length cv])), (4, blkR g16 128 (#[.int .i64 (P : Int), .int .i64 T, S13])), (5, zya true (ownR (zoa zj N (T + 1) l) (p35 4)))] := M35
 simp only [List.take, layV, Nat.zero_add, Nat.reduceAdd, r0, r2] at G35
 obtain ⟨Ap35_5, cp35_5, hp35_5⟩ := (M35.isO (k := 5) rfl).shape
 rw [hp35_5] at M35
 try rw [hp35_5] at G35
 refine zg (zb rfl) rfl G35 rfl rfl (zE Tryz.func98 rfl) #[.pointer (some ⟨g, 0, none⟩), .int .i64 (N : Int), (.slice Ap35_5 ((zoa zj N (T + 1) l)).length cp35_5)] (args3 (G35.get (t := 33) rfl) (G35.get (t := 35) rfl) (G35.get (t := 37) rfl)) (dwrite_any g V s n N (by omega) ((.slice Ap35_5 ((zoa zj N (T + 1) l)).length cp35_5)) (zoa zj N (T + 1) l) w35 (M35.isO (k := 5) rfl) (fun h => M35.dis 0 5 _ _ rfl rfl (by decide) rfl g rfl (zma h)) (hr.grow M35.grown) (M35.blk (k := 0) rfl)) ?_
 rintro _ w36 a36 ⟨rfl, s2, n2, hr36, ht36, hc36, hg36⟩ F36
 refine rm rfl F36 fun _ F37 => ?_
 refine hK34 _ _ ?_
 refine wp_ret ?_
 try simp only [Exit.then, Exit.inBlock, Exit.jump]
 exact bodyPost_ret (res1 rfl (F37.get rfl)) F37.defers ⟨_, rfl, rfl, s2, n2, hr36, (fun b hb => (ht36 b hb).imp id (fun hb => (M35.own 5 _ rfl rfl b (zma hb)).resolve_right (fun e => M35.dis 0 5 _ _ rfl rfl (by decide) rfl b (Option.some.inj e).symm (zma hb)))), hc36, M35.grown.trans hg36⟩
theorem pwriteI_f (q : Nat) (hq : q + 1 < 18) (g : Nat) (V : VltN) (s n : Nat → Value) (hv : zfa V) (l : List UInt8) (lv : Value) (hl : l.length ≤ 1000) (hA : anyB zj V q = false) (w : World) (hB : IsB w l lv) (hBg : ¬ bfp lv g) (hr : RowsV w g V.c s n) (hg : w.heap[g]? = some (.cells (vltA V s n) 80 (0, 0))) :
  Calls Tryz.prog 66 #[.agg #[.int .i64 (q : Int), .func (.func 88) #[] #[]], .pointer (some ⟨g, 0, none⟩), lv] w fun e w' => ∃ t, e = .returned t ∧ t = .bool (sayW V q l).2 ∧ ∃ s' n', RowsV w' g (sayW V q l).1.c s' n' ∧ (∀ b, zo 18 s' n' b → zo 18 s n b ∨ w.heap.size ≤ b) ∧ w'.heap[g]? = some (.cells (vltA (sayW V q l).1 s' n') 80 (0, 0)) ∧ w.grownBy w' (some g) := by
 obtain ⟨Av, cv, rfl⟩ := hB.shape
 rw [show sayW V q l = wrtV V q (zoa zj q 1 l) by rw [sayW, nxtP, nxtT, if_neg (by rw [hA]; exact Bool.false_ne_true), if_neg (by rw [hA]; exact Bool.false_ne_true)]]
 refine zi (args := [.agg (#[.int .i64 (q : Int), .func (.func 88) #[] #[]]), .pointer (some ⟨g, 0, none⟩), .slice Av l.length cv]) 39 Tryz.func66 rfl rfl rfl ?_
 intro fa F
 have M := Mx.theG hg 0
 refine zS fun _ hK1 => ?_
 refine zR ?_
 refine zh (zb rfl) rfl F rfl M 1 (t := 100) (c := #[.int .i64 (q : Int), .func (.func 88) #[] #[]]) (by unfold execOp; simp only [(F.get (t := 0) rfl)]; kernel_rfl) ?_
 intro g2 a2 w2 F2 M2
 clear F M
 refine rm rfl F2 fun _ F3 => ?_
 refine hK1 _ _ ?_
 refine zS fun _ hK4 => ?_
 refine zR ?_
 refine zB 3 [(1, .pointer (some ⟨g, 0, none⟩)), (3, .pointer (some ⟨g2, 0, none⟩)), (6, .bool false), (11, .int .i64 (q : Int)), (12, .slice Av l.length cv)] [0] (zt (M2.blk (k := 1) rfl) dnil) [g2] F3 fun _ F5 => ?_
 clear F3
 refine zc (w' := w2) (zb rfl) rfl F5 rfl (.agg (#[.int .i64 (q : Int), .int .i64 1, .slice Av l.length cv])) (by unfold execOp; simp only [List.map_toArray, List.map_cons, List.map_nil, (F5.get (t := 11) rfl), (F5.get (t := 12) rfl)]; kernel_rfl) fun _ F6 => ?_
 clear F5
 refine zh (zb rfl) rfl F6 rfl M2 2 (t := 128) (c := #[.int .i64 0, .int .i64 0, zN]) (by unfold execOp; kernel_rfl) ?_
 intro g7 a7 w7 F7 M7
 clear F6 M2
 refine zm (zb rfl) rfl F7 M7 (k := 2) rfl _ _ _ rfl (F7.get (t := 7) rfl) (F7.get (t := 13) rfl) (#[.int .i64 (q : Int), .int .i64 1, .slice Av l.length cv]) _ rfl (zL rfl) (z0a (hB.grow M7.grown hBg)) (zn rfl) (by kernel_rfl) ?_
 intro w8 M8
 clear M7
 refine hK4 _ _ ?_
 refine zS fun _ hK9 => ?_
 refine zS fun _ hK10 => ?_
 refine zR ?_
 refine zc (w' := w8) (zb rfl) rfl F7 rfl _ (zna _ _ rfl (F7.get (t := 3) rfl) (M8.blk (k := 1) rfl) (#[.int .i64 (q : Int), .func (.func 88) #[] #[]]) (zra rfl) Tryz.underlying100 rfl (by kernel_rfl)) fun _ F11 => ?_
 clear F7
 refine rm rfl F11 fun _ F12 => ?_
 refine zg (zb rfl) rfl F12 rfl rfl (zE Tryz.func89 rfl) #[.agg (#[.int .i64 (q : Int), .func (.func 88) #[] #[]]), .pointer (some ⟨g, 0, none⟩)] (zha (F12.get (t := 15) rfl) (F12.get (t := 16) rfl)) (countsI_is q hq g V s n hv false hA w8 (HasV.of (M8.blk (k := 0) rfl) (hr.grow M8.grown))) ?_
 rintro _ w13 a13 ⟨S13, rfl, hS13, hf13, b13⟩ F13
 skip
 have M13 := M8.step b13
 have hS13 := hS13.step b13
 clear M8
 refine rm rfl F13 fun _ F14 => ?_
 refine zA 2 [(18, .agg (#[.int .i64 (cntP V q : Int), .int .i64 (cntT V q), S13])), (19, .bool false)] [] dnil [] F14 fun _ F15 => ?_
 clear F14
 refine zh (zb rfl) rfl F15 rfl M13 4 (t := 128) (c := #[.int .i64 0, .int .i64 0, zN]) (by unfold execOp; kernel_rfl) ?_
 intro g16 a16 w16 F16 M16
 clear F15 M13
 refine zm (zb rfl) rfl F16 M16 (k := 4) rfl _ _ _ rfl (F16.get (t := 8) rfl) (F16.get (t := 18) rfl) (#[.int .i64 (cntP V q : Int), .int .i64 (cntT V q), S13]) _ rfl (zL rfl) (z0a hS13) (zn rfl) (by kernel_rfl) ?_
 intro w17 M17
 clear M16
 refine rm rfl F16 fun _ F18 => ?_
 refine hK10 _ _ ?_
 refine zS fun _ hK19 => ?_
 refine zR ?_
 refine rm rfl F18 fun _ F20 => ?_
 refine hK19 _ _ ?_
 refine wp_cond_false (F20.get (t := 20) rfl) ?_
 refine wp_skip ?_
 refine hK9 _ _ ?_
 refine zS fun _ hK21 => ?_
 refine zsa F20 [fun vE => vE = .pointer (some ⟨g, 0, none⟩), fun vE => vE = .pointer (some ⟨g7, 0, none⟩), fun vE => vE = .int .i64 (q : Int), fun vE => vE = .agg (#[.int .i64 (q : Int), .int .i64 1, .slice Av l.length cv]), fun _ => True] (JM (some g) w fun SV pV => [(0, blkR g 80 (vltA V s n)), (1, blkR g2 100 (#[.int .i64 (q : Int), .func (.func 88) #[] #[]])), (2, blkR g7 128 (#[.int .i64 (q : Int), .int .i64 1, .slice Av l.length cv])), (4, blkR g16 128 (#[.int .i64 (cntP V q : Int), .int .i64 (cntT V q), S13])), (5, zya (SV 4) (ownR (zoa zj q 1 l) (pV 4)))]) 5 rfl (by kernel_rfl) rfl ⟨trivial, trivial, trivial, trivial, trivial, trivial⟩ (fun p => ((M17.step (zga _)).triv 5).sub ⟨rfl, rfl, rfl, rfl, rfl, trivial⟩) ⟨?_, ?_, ?_, ?_, ?_, trivial⟩ ?_
 ·intro ua uw SV pV M0 hk hn hd
  have M : Mx (some g) w uw _ := M0
  clear M0
  have e1 : ua.eval (.tmp 1) = .pointer (some ⟨g, 0, none⟩) := (show ua.eval (.tmp 1) = _ from hd 1 (by decide)).trans (F20.get (t := 1) rfl)
  exact zd (zb rfl) (.pointer (some ⟨g, 0, none⟩)) (zaa _ (.inl rfl) e1) rfl (M.sub ⟨rfl, rfl, rfl, rfl, rfl, trivial⟩)
 ·intro ua uw SV pV M0 hk hn hd
  have M : Mx (some g) w uw _ := M0
  clear M0
  have e7 : ua.eval (.tmp 7) = .pointer (some ⟨g7, 0, none⟩) := (show ua.eval (.tmp 7) = _ from hd 7 (by decide)).trans (F20.get (t := 7) rfl)
  exact zd (zb rfl) (.pointer (some ⟨g7, 0, none⟩)) (y_fa (off := 0) rfl e7 (by kernel_rfl) rfl) rfl (M.sub ⟨rfl, rfl, rfl, rfl, rfl, trivial⟩)
 ·intro ua uw SV pV M0 hk hn hd
  have M : Mx (some g) w uw _ := M0
  clear M0
  obtain ⟨s1, f34, q34⟩ := (show SV 1 = true ∧ ua.eval (.tmp 34) = pV 1 ∧ stE _ 1 (pV 1) from hd 34 (by decide))
  have e34 : ua.eval (.tmp 34) = .pointer (some ⟨g7, 0, none⟩) := f34.trans q34
  exact zd (zb rfl) (.int .i64 (q : Int)) (zba _ _ rfl e34 (M.blk (k := 2) rfl) rfl Tryz.underlying3 rfl) rfl (M.sub ⟨rfl, rfl, rfl, rfl, rfl, trivial⟩)
 ·intro ua uw SV pV M0 hk hn hd
  have M : Mx (some g) w uw _ := M0
  clear M0
  have e7 : ua.eval (.tmp 7) = .pointer (some ⟨g7, 0, none⟩) := (show ua.eval (.tmp 7) = _ from hd 7 (by decide)).trans (F20.get (t := 7) rfl)
  exact zd (zb rfl) _ (zna _ _ rfl e7 (M.blk (k := 2) rfl) (#[.int .i64 (q : Int), .int .i64 1, .slice Av l.length cv]) (zra rfl) Tryz.underlying128 rfl (by kernel_rfl)) rfl (M.sub ⟨rfl, rfl, rfl, rfl, rfl, trivial⟩)
 ·intro ua uw SV pV M0 hk hn hd
  have M : Mx (some g) w uw _ := M0
  clear M0
  obtain ⟨s3, f36, q36⟩ := (show SV 3 = true ∧ ua.eval (.tmp 36) = pV 3 ∧ stE _ 3 (pV 3) from hd 36 (by decide))
  have e36 : ua.eval (.tmp 36) = .agg (#[.int .i64 (q : Int), .int .i64 1, .slice Av l.length cv]) := f36.trans q36
  exact zwa (zb rfl) rfl #[.agg (#[.int .i64 (q : Int), .int .i64 1, .slice Av l.length cv])] (zx e36) (zE Tryz.func99 rfl) (((cbytes_any q 1 l (.slice Av l.length cv) hl uw (hB.grow M.grown hBg))).mono fun e w2 h => (by obtain ⟨u, h1, h2, h3⟩ := h; exact ⟨u, h1, trivial, (M.newO h3 5 h2).sub ⟨rfl, rfl, rfl, rfl, rfl, trivial⟩⟩))
 intro p22 a22 w22 M22 G22 y22
 obtain ⟨q0, -, q2, -, q4, -⟩ := y22
 have r0 : p22 0 = .pointer (some ⟨g, 0, none⟩) := q0
 have r2 : p22 2 = .int .i64 (q : Int) := q2
 replace M22 : Mx _ _ w22 [(0, blkR g 80 (vltA V s n)), (1, blkR g2 100 (#[.int .i64 (q : Int), .func (.func 88) #[] #[]])), (2, blkR g7 128 (#[.int .i64 (q : Int), .int .i64 1, .slice Av l.length cv])), (4, blkR g16 128 (#[.int .i64 (cntP V q : Int), .int .i64 (cntT V q), S13])), (5, zya true (ownR (zoa zj q 1 l) (p22 4)))] := M22
 simp only [List.take, layV, Nat.zero_add, Nat.reduceAdd, r0, r2] at G22
 obtain ⟨Ap22_5, cp22_5, hp22_5⟩ := (M22.isO (k := 5) rfl).shape
 rw [hp22_5] at M22
 try rw [hp22_5] at G22
 refine zg (zb rfl) rfl G22 rfl rfl (zE Tryz.func98 rfl) #[.pointer (some ⟨g, 0, none⟩), .int .i64 (q : Int), (.slice Ap22_5 ((zoa zj q 1 l)).length cp22_5)] (args3 (G22.get (t := 33) rfl) (G22.get (t := 35) rfl) (G22.get (t := 37) rfl)) (dwrite_any g V s n q (by omega) ((.slice Ap22_5 ((zoa zj q 1 l)).length cp22_5)) (zoa zj q 1 l) w22 (M22.isO (k := 5) rfl) (fun h => M22.dis 0 5 _ _ rfl rfl (by decide) rfl g rfl (zma h)) (hr.grow M22.grown) (M22.blk (k := 0) rfl)) ?_
 rintro _ w23 a23 ⟨rfl, s2, n2, hr23, ht23, hc23, hg23⟩ F23
 refine rm rfl F23 fun _ F24 => ?_
 refine hK21 _ _ ?_
 refine wp_ret ?_
 try simp only [Exit.then, Exit.inBlock, Exit.jump]
 exact bodyPost_ret (res1 rfl (F24.get rfl)) F24.defers ⟨_, rfl, rfl, s2, n2, hr23, (fun b hb => (ht23 b hb).imp id (fun hb => (M22.own 5 _ rfl rfl b (zma hb)).resolve_right (fun e => M22.dis 0 5 _ _ rfl rfl (by decide) rfl b (Option.some.inj e).symm (zma hb)))), hc23, M22.grown.trans hg23⟩
end Go.Proofs.YtmjbnmbobocpdaaGreat
namespace Go.Proofs.YtmjbnmbobocpdaaGreat
open Go.ChangeShapes Go.WideShapes Go.ChangeAt Go.RowKit
theorem pwriteR_any (q : Nat) (hq : q + 1 < 18) (g : Nat) (V : VltN) (s n : Nat → Value) (hv : zfa V) (l : List UInt8) (lv : Value) (hl : l.length ≤ 1000) (ht : anyB zj V q = true → -9223372036854775808 ≤ cntT V q ∧ cntT V q < 9223372036854775807) (w : World) (hB : IsB w l lv) (hBg : ¬ bfp lv g) (hr : RowsV w g V.c s n) (hg : w.heap[g]? = some (.cells (vltA V s n) 80 (0, 0))) :
    Calls Tryz.prog 77 #[.agg #[.int .i64 (q : Int), .func (.func 105) #[] #[]], .pointer (some ⟨g, 0, none⟩), lv] w fun e w' => ∃ t, e = .returned t ∧ t = .bool (sayW V q l).2 ∧ ∃ s' n', RowsV w' g (sayW V q l).1.c s' n' ∧ (∀ b, zo 18 s' n' b → zo 18 s n b ∨ w.heap.size ≤ b) ∧ w'.heap[g]? = some (.cells (vltA (sayW V q l).1 s' n') 80 (0, 0)) ∧ w.grownBy w' (some g) := by
  cases hA : anyB zj V q with
  | true => exact pwriteR_t q hq g V s n hv l lv hl hA (ht hA) w hB hBg hr hg
  | false => exact pwriteR_f q hq g V s n hv l lv hl hA w hB hBg hr hg
theorem pwriteI_any (q : Nat) (hq : q + 1 < 18) (g : Nat) (V : VltN) (s n : Nat → Value) (hv : zfa V) (l : List UInt8) (lv : Value) (hl : l.length ≤ 1000) (ht : anyB zj V q = true → -9223372036854775808 ≤ cntT V q ∧ cntT V q < 9223372036854775807) (w : World) (hB : IsB w l lv) (hBg : ¬ bfp lv g) (hr : RowsV w g V.c s n) (hg : w.heap[g]? = some (.cells (vltA V s n) 80 (0, 0))) :
    Calls Tryz.prog 66 #[.agg #[.int .i64 (q : Int), .func (.func 88) #[] #[]], .pointer (some ⟨g, 0, none⟩), lv] w fun e w' => ∃ t, e = .returned t ∧ t = .bool (sayW V q l).2 ∧ ∃ s' n', RowsV w' g (sayW V q l).1.c s' n' ∧ (∀ b, zo 18 s' n' b → zo 18 s n b ∨ w.heap.size ≤ b) ∧ w'.heap[g]? = some (.cells (vltA (sayW V q l).1 s' n') 80 (0, 0)) ∧ w.grownBy w' (some g) := by
  cases hA : anyB zj V q with
  | true => exact pwriteI_t q hq g V s n hv l lv hl hA (ht hA) w hB hBg hr hg
  | false => exact pwriteI_f q hq g V s n hv l lv hl hA w hB hBg hr hg
def ageW (V : VltN) : VltN := (sayW V 16 (zw (ztb V 16 + 1))).1
theorem bt_is {f : FuncId} {args : Array Value} {w : World} {b B : Int} (hB : b = B) (h : Calls Tryz.prog f args w fun e w' => e = .returned (.int .i64 b) ∧ Below w.heap.size w w') : Calls Tryz.prog f args w fun e w' => e = .returned (.int .i64 B) ∧ Below w.heap.size w w' := by
  subst hB; exact h
theorem age_any (g : Nat) (V : VltN) (s n : Nat → Value) (hv : zfa V) (hb : -9223372036854775808 ≤ ztb V 16 ∧ ztb V 16 < 9223372036854775807) (ht : anyB zj V 16 = true → -9223372036854775808 ≤ cntT V 16 ∧ cntT V 16 < 9223372036854775807) (w : World) (hr : RowsV w g V.c s n) (hg : w.heap[g]? = some (.cells (vltA V s n) 80 (0, 0))) :
  Calls Tryz.prog 39 #[.pointer (some ⟨g, 0, none⟩)] w fun e w' => ∃ t, e = .returned t ∧ ∃ s' n', RowsV w' g (ageW V).c s' n' ∧ (∀ b, zo 18 s' n' b → zo 18 s n b ∨ w.heap.size ≤ b) ∧ w'.heap[g]? = some (.cells (vltA (ageW V) s' n') 80 (0, 0)) ∧ w.grownBy w' (some g) := by
 obtain ⟨B, hB⟩ : ∃ x, ztb V 16 = x := ⟨_, rfl⟩
 rw [hB] at hb
 rw [show ageW V = (sayW V 16 (zw (B + 1))).1 by rw [ageW, hB]]
 refine zi (args := [.pointer (some ⟨g, 0, none⟩)]) 11 Tryz.func39 rfl rfl rfl ?_
 intro fa F
 have M := Mx.theG hg 0
 refine zsa F [fun vE => vE = .agg (#[.int .i64 16, .func (.func 88) #[] #[]]), fun vE => vE = .pointer (some ⟨g, 0, none⟩), fun vE => vE = .pointer (some ⟨g, 0, none⟩), fun vE => vE = .pointer (some ⟨g, 0, none⟩), fun vE => vE = .pointer (some ⟨g, 0, none⟩), fun vE => vE = .int .i64 B, fun vE => vE = .int .i64 (B + 1), fun _ => True] (JM (some g) w fun SV pV => [(0, blkR g 80 (vltA V s n)), (1, zya (SV 7) (ownR (zw (B + 1)) (pV 7)))]) 8 rfl (by kernel_rfl) rfl ⟨trivial, trivial, trivial, trivial, trivial, trivial, trivial, trivial, trivial⟩ (fun p => ((M.step (zga _)).triv 1).sub ⟨rfl, rfl, trivial⟩) ⟨?_, ?_, ?_, ?_, ?_, ?_, ?_, ?_, trivial⟩ ?_
 ·intro ua uw SV pV M0 hk hn hd
  have M : Mx (some g) w uw _ := M0
  clear M0
  exact zwa (zb rfl) rfl #[] (args0) (zE Tryz.func58 rfl) (((eras_any uw)).mono fun e w2 h => ⟨_, h.1, rfl, (M.step h.2).sub ⟨rfl, rfl, trivial⟩⟩)
 ·intro ua uw SV pV M0 hk hn hd
  have M : Mx (some g) w uw _ := M0
  clear M0
  have e0 : ua.eval (.tmp 0) = .pointer (some ⟨g, 0, none⟩) := (show ua.eval (.tmp 0) = _ from hd 0 (by decide)).trans (F.get (t := 0) rfl)
  exact zd (zb rfl) (.pointer (some ⟨g, 0, none⟩)) (zaa _ (.inl rfl) e0) rfl (M.sub ⟨rfl, rfl, trivial⟩)
 ·intro ua uw SV pV M0 hk hn hd
  have M : Mx (some g) w uw _ := M0
  clear M0
  obtain ⟨s1, f3, q3⟩ := (show SV 1 = true ∧ ua.eval (.tmp 3) = pV 1 ∧ stE _ 1 (pV 1) from hd 3 (by decide))
  have e3 : ua.eval (.tmp 3) = .pointer (some ⟨g, 0, none⟩) := f3.trans q3
  exact zd (zb rfl) (.pointer (some ⟨g, 0, none⟩)) (by unfold execOp; simp only [e3]; kernel_rfl) rfl (M.sub ⟨rfl, rfl, trivial⟩)
 ·intro ua uw SV pV M0 hk hn hd
  have M : Mx (some g) w uw _ := M0
  clear M0
  obtain ⟨s2, f4, q4⟩ := (show SV 2 = true ∧ ua.eval (.tmp 4) = pV 2 ∧ stE _ 2 (pV 2) from hd 4 (by decide))
  have e4 : ua.eval (.tmp 4) = .pointer (some ⟨g, 0, none⟩) := f4.trans q4
  exact zd (zb rfl) (.pointer (some ⟨g, 0, none⟩)) (y_fa (off := 0) rfl e4 (by kernel_rfl) rfl) rfl (M.sub ⟨rfl, rfl, trivial⟩)
 ·intro ua uw SV pV M0 hk hn hd
  have M : Mx (some g) w uw _ := M0
  clear M0
  have e0 : ua.eval (.tmp 0) = .pointer (some ⟨g, 0, none⟩) := (show ua.eval (.tmp 0) = _ from hd 0 (by decide)).trans (F.get (t := 0) rfl)
  exact zd (zb rfl) (.pointer (some ⟨g, 0, none⟩)) (zaa _ (.inl rfl) e0) rfl (M.sub ⟨rfl, rfl, trivial⟩)
 ·intro ua uw SV pV M0 hk hn hd
  have M : Mx (some g) w uw _ := M0
  clear M0
  obtain ⟨s4, f6, q6⟩ := (show SV 4 = true ∧ ua.eval (.tmp 6) = pV 4 ∧ stE _ 4 (pV 4) from hd 6 (by decide))
  have e6 : ua.eval (.tmp 6) = .pointer (some ⟨g, 0, none⟩) := f6.trans q6
  exact zwa (zb rfl) rfl #[.pointer (some ⟨g, 0, none⟩)] (zx e6) (zE Tryz.func26 rfl) (((bt_is hB (boot_any g V s n hv uw (HasV.of (M.blk (k := 0) rfl) (hr.grow M.grown))))).mono fun e w2 h => ⟨_, h.1, rfl, (M.step h.2).sub ⟨rfl, rfl, trivial⟩⟩)
 ·intro ua uw SV pV M0 hk hn hd
  have M : Mx (some g) w uw _ := M0
  clear M0
  obtain ⟨s5, f7, q7⟩ := (show SV 5 = true ∧ ua.eval (.tmp 7) = pV 5 ∧ stE _ 5 (pV 5) from hd 7 (by decide))
  have e7 : ua.eval (.tmp 7) = .int .i64 B := f7.trans q7
  exact zd (zb rfl) (.int .i64 (B + 1)) (zqa _ _ _ _ rfl e7 rfl rfl (by omega)) rfl (M.sub ⟨rfl, rfl, trivial⟩)
 ·intro ua uw SV pV M0 hk hn hd
  have M : Mx (some g) w uw _ := M0
  clear M0
  obtain ⟨s6, f8, q8⟩ := (show SV 6 = true ∧ ua.eval (.tmp 8) = pV 6 ∧ stE _ 6 (pV 6) from hd 8 (by decide))
  have e8 : ua.eval (.tmp 8) = .int .i64 (B + 1) := f8.trans q8
  exact zwa (zb rfl) rfl #[.int .i64 (B + 1)] (zx e8) (zE Tryz.func67 rfl) (((eightI_any (B + 1) uw)).mono fun e w2 h => (by obtain ⟨u, h1, h2, h3⟩ := h; exact ⟨u, h1, trivial, (M.newO h3 1 h2).sub ⟨rfl, rfl, trivial⟩⟩))
 intro p1 a1 w1 M1 G1 y1
 obtain ⟨q0, -, -, q3, -, -, -, q7, -⟩ := y1
 have r0 : p1 0 = .agg (#[.int .i64 16, .func (.func 88) #[] #[]]) := q0
 have r3 : p1 3 = .pointer (some ⟨g, 0, none⟩) := q3
 replace M1 : Mx _ _ w1 [(0, blkR g 80 (vltA V s n)), (1, zya true (ownR (zw (B + 1)) (p1 7)))] := M1
 simp only [List.take, layV, Nat.zero_add, Nat.reduceAdd, r0, r3] at G1
 obtain ⟨Ap1_1, cp1_1, hp1_1⟩ := (M1.isO (k := 1) rfl).shape
 rw [hp1_1] at M1
 try rw [hp1_1] at G1
 refine zg (zb rfl) rfl G1 rfl rfl (zE Tryz.func66 rfl) #[.agg (#[.int .i64 16, .func (.func 88) #[] #[]]), .pointer (some ⟨g, 0, none⟩), (.slice Ap1_1 ((zw (B + 1))).length cp1_1)] (args3 (G1.get (t := 2) rfl) (G1.get (t := 5) rfl) (G1.get (t := 9) rfl)) (pwriteI_any 16 (by omega) g V s n hv (zw (B + 1)) ((.slice Ap1_1 ((zw (B + 1))).length cp1_1)) (by rw [z4a]; omega) ht w1 (M1.isO (k := 1) rfl) (fun h => M1.dis 0 1 _ _ rfl rfl (by decide) rfl g rfl (zma h)) (hr.grow M1.grown) (M1.blk (k := 0) rfl)) ?_
 rintro _ w2 a2 ⟨rfl, s2, n2, hr2, ht2, hc2, hg2⟩ F2
 refine wpList_nil ?_
 try simp only [Exit.then, Exit.inBlock, Exit.jump]
 exact bodyPost_end (res0 rfl) F2.defers ⟨_, rfl, s2, n2, hr2, fun b hb => (ht2 b hb).imp id (fun hb => Nat.le_trans M1.le hb), hc2, M1.grown.trans hg2⟩
end Go.Proofs.YtmjbnmbobocpdaaGreat
namespace Go.Proofs.YtmjbnmbobocpdaaGreat
open Go.ChangeShapes Go.WideShapes Go.ChangeAt Go.RowKit
def nilS : Nat → Value := fun _ => zN
theorem rows_nil (b : Nat) : ¬ zo 18 nilS nilS b := fun ⟨_, _, h⟩ => by rcases h with h | h <;> exact absurd h (z5a b)
def zeroV : VltN := ⟨fun _ => nilC, false, 0, false⟩
theorem rows0 (w : World) (g : Nat) : RowsV w g (fun _ => nilC) nilS nilS := fun i hi => ⟨⟨zla _, z5a _⟩, zla _, z5a _⟩
theorem good0 (p : Nat) : zpb zj p [] = false := good_short (by simp)
theorem any0 (q : Nat) : anyB zj zeroV q = false := by
  unfold anyB secB
  rw [show zpb zj (q + 1) (zeroV.c (q + 1)).s = false from good0 _, show zpb zj q (zeroV.c q).s = false from good0 _]
  rfl
theorem num0 : ztb zeroV 16 = 0 := if_neg (by rw [any0]; exact Bool.false_ne_true)
theorem short0 : zfa zeroV := fun i hi => ⟨Nat.zero_le _, Nat.zero_le _⟩
theorem vnew_any  (w : World) :
  Calls Tryz.prog 14 #[] w fun e w' => ∃ g, e = .returned (.pointer (some ⟨g, 0, none⟩)) ∧ w.heap.size ≤ g ∧ ∃ s' n', RowsV w' g (ageW zeroV).c s' n' ∧ (∀ b, zo 18 s' n' b → w.heap.size ≤ b) ∧ w'.heap[g]? = some (.cells (vltA (ageW zeroV) s' n') 80 (0, 0)) ∧ Below w.heap.size w w' := by
 refine zi (args := []) 7 Tryz.func14 rfl rfl rfl ?_
 intro fa F
 have M := Mx.start w
 refine zS fun _ hK1 => ?_
 refine zR ?_
 refine rm rfl F fun _ F2 => ?_
 refine hK1 _ _ ?_
 refine zS fun _ hK3 => ?_
 refine zR ?_
 refine zc (w' := w) (zb rfl) rfl F2 rfl (.agg (vltA ⟨(fun _ => nilC), false, 0, false⟩ nilS nilS)) (by unfold execOp; kernel_rfl) fun _ F4 => ?_
 clear F2
 refine zh (zb rfl) rfl F4 rfl M 0 (t := 80) (c := vltA ⟨(fun _ => nilC), false, 0, false⟩ nilS nilS) (by unfold execOp; simp only [(F4.get (t := 2) rfl)]; kernel_rfl) ?_
 intro g5 a5 w5 F5 M5
 clear F4 M
 refine rm rfl F5 fun _ F6 => ?_
 refine hK3 _ _ ?_
 refine zS fun _ hK7 => ?_
 refine zR ?_
 refine rm rfl F6 fun _ F8 => ?_
 refine zg (zb rfl) rfl F8 rfl rfl (zE Tryz.func39 rfl) #[.pointer (some ⟨g5, 0, none⟩)] (zx (F8.get (t := 4) rfl)) (age_any g5 zeroV nilS nilS short0 (by rw [num0]; omega) (fun h => absurd h (by rw [any0]; exact Bool.false_ne_true)) w5 (rows0 _ _) (M5.blk (k := 0) rfl)) ?_
 rintro _ w9 a9 ⟨s2, n2, hr9, ht9, hc9, hg9⟩ F9
 have hle := M5.le
 have M9 := M5.put (k := 0) rfl hg9 hc9
 clear M5 hg9 hc9
 refine hK7 _ _ ?_
 refine zS fun _ hK10 => ?_
 refine zR ?_
 refine rm rfl F9 fun _ F11 => ?_
 refine rm rfl F11 fun _ F12 => ?_
 refine hK10 _ _ ?_
 refine wp_ret ?_
 try simp only [Exit.then, Exit.inBlock, Exit.jump]
 exact bodyPost_ret (res1 rfl (F12.get rfl)) F12.defers ⟨g5, rfl, (M9.own 0 _ rfl rfl g5 rfl).resolve_right (fun e => by cases e), s2, n2, hr9, fun b hb => (ht9 b hb).elim (fun h => absurd h (rows_nil b)) (fun h => Nat.le_trans hle h), M9.blk (k := 0) rfl, M9.below⟩
end Go.Proofs.YtmjbnmbobocpdaaGreat
namespace Go.Proofs.YtmjbnmbobocpdaaGreat
open Go.ChangeShapes Go.WideShapes Go.ChangeAt Go.RowKit Go.Shelf
variable {ds : List Deferred}
def roundEnd3 (D l : Nat) (W2 : World) (R : World → Prop) (S : Code → World → Prop) : Exit → Act → World → Prop
  | .normal, _, W3 => KeepsOthers W2 W3 ∧ ∀ o, R (W3.putObj l o)
  | .ret, _, W3 => KeepsFrom D W2 W3 ∧ ∀ o, S .ret (W3.putObj l o)
  | .exit id, _, W3 => KeepsFrom D W2 W3 ∧ ∀ o, S (.exit id) (W3.putObj l o)
  | _, _, _ => False
def MidOk3 (n : Nat) (P : Program) (D l : Nat) (body : Code) (W : World) (R : World → Prop) (S : Code → World → Prop) (a₁ : Act) (W1 : World) : Prop :=
  KeepsOthers W W1 ∧ ∀ o, z7a W1 l → o.isCells = false → body.wpIn (Fence.wide.inRound l) n P (roundEnd3 D l (W1.putObj l o) R S) a₁ (W1.putObj l o)
def LeftAt (l D : Nat) (S : Code → World → Prop) (W : World) : Prop :=
  ∃ c r, W.heap[l]? = some (.loop r) ∧ r.pending = some c ∧ r.state ≠ .busy ∧ W.heap[D]? = some (.deferred (some [])) ∧ S c W
theorem LeftAt.put {l D : Nat} {S : Code → World → Prop} {W : World} (h : LeftAt l D S W) {l' : Nat} {o : Obj} (h1 : l ≠ l') (h2 : D ≠ l') (hS : ∀ c, S c W → S c (W.putObj l' o)) : LeftAt l D S (W.putObj l' o) := by
  obtain ⟨c, r, k1, k2, k3, k4, k5⟩ := h
  exact ⟨c, r, (World.putObj_heap_other h1).trans k1, k2, k3, (World.putObj_heap_other h2).trans k4, hS c k5⟩
theorem LeftAt.below {l D : Nat} {S : Code → World → Prop} {W W' : World} (h : LeftAt l D S W) (hb : Below W.heap.size W W') (hS : ∀ c, S c W → S c W') : LeftAt l D S W' := by
  obtain ⟨c, r, k1, k2, k3, k4, k5⟩ := h
  exact ⟨c, r, (hb.block l (Array.getElem?_eq_some_iff.1 k1).1).trans k1, k2, k3, (hb.block D (Array.getElem?_eq_some_iff.1 k4).1).trans k4, hS c k5⟩
def YieldsAt (P : Program) (l D : Nat) (o1 o2 : Obj) (args : Array Value) (W : World) (Post Sx : World → Prop) : Prop :=
  YieldAt Fence.wide 1 P l args W fun e W' => (e = .returned (.bool true) ∧ RecAt l D o1 o2 W' ∧ KeepsOthers W W' ∧ Post W') ∨ (e = .returned (.bool false) ∧ KeepsFrom (l + 1) W W' ∧ Sx W')
theorem wpIn_range3 {P : Program} {g : Operand} {ps : Array Tmp} {assign body : Code} {Q : Exit → Act → World → Prop} {a : Act} {w : World}
    {gf : Nat} {lb : Array Value} (hg : a.eval g = .func (.func gf) #[] lb) (eg : ∀ args w, (callFunc gf args).run P w = .ok (.enter gf args) w)
    {α : Type} (encs : α → Array Value) (hps : ∀ x, (encs x).size = ps.size) (Pre : α → World → Prop) (Post : α → World → Prop) (S : Code → World → Prop) (Fin : World → Prop)
    (hround : ∀ (l : Nat) (x : α) (W : World), w.heap.size < l → l < W.heap.size → Pre x W →
      assign.wpIn (Fence.wide.inRound l) 1 P (Exit.then (MidOk3 1 P w.heap.size l body W (Post x) S) (fun _ _ _ => False)) { tmps := (ps.zip (encs x)).foldl (fun t (p, v) => t.setIfInBounds p v) a.tmps, defers := [] } W)
    (hiter : ∀ (l D : Nat) (o1 o2 : Obj) (W1 : World), D = w.heap.size → l = w.heap.size + 1 → W1 = (w.alloc o2).alloc o1 → RecAt l D o1 o2 W1 →
      (∀ x W, Pre x W → RecAt l D o1 o2 W → YieldsAt P l D o1 o2 (encs x) W (Post x) (LeftAt l D S)) →
      CallsIn Fence.wide 2 P gf (#[.func (.yield l) #[] #[]] ++ lb) W1 fun e W' => (∃ v, e = .returned v) ∧ ((RecAt l D o1 o2 W' ∧ Fin W') ∨ LeftAt l D S W'))
    (hdone : ∀ (l D : Nat) (o : Obj) (W : World), D = w.heap.size → l = w.heap.size + 1 → Fin W → l < W.heap.size → z7a W l → (W.putObj l o).heap[D]? = some (.deferred (some [])) →
      Q .normal { a with defers := { target := .collected D, args := #[] } :: a.defers } (W.putObj l o))
    (hleft : ∀ (l D : Nat) (o : Obj) (c : Code) (W : World), D = w.heap.size → l = w.heap.size + 1 → S c W → l < W.heap.size → z7a W l → (W.putObj l o).heap[D]? = some (.deferred (some [])) →
      c.wpIn Fence.wide 3 P Q { a with defers := { target := .collected D, args := #[] } :: a.defers } (W.putObj l o)) :
    (Code.rangeFunc g ps assign body).wpIn Fence.wide 3 P Q a w := by
  refine wpIn_rangeFunc ?_
  intro fn hfn
  show ∃ (l : Nat) (mark : List Deferred) (w₁ : World) (d : Deferred) (w₁' : World) (f : FuncId) (args : Array Value) (w₂ : World), (Instr.enterLoop fn a.tmps ps assign body none).run P w = .ok (l, mark) w₁ ∧ _
  obtain ⟨rec, hrec⟩ : ∃ rec : LoopState → Option Code → Loop, rec = fun st pe => { state := st, pending := pe, fn, tmps := a.tmps, params := ps, assign, body, defers := w.heap.size } := ⟨_, rfl⟩
  obtain ⟨W1, hW1⟩ : ∃ W1, (w.alloc (.deferred (some []))).alloc (.loop (rec .ready none)) = W1 := ⟨_, rfl⟩
  have hL1 : W1.heap[w.heap.size + 1]? = some (.loop (rec .ready none)) := by
    rw [← hW1]; have := World.alloc_heap_new (w.alloc (.deferred (some []))) (.loop (rec .ready none)); rwa [World.size_alloc] at this
  have hK1 : W1.heap[w.heap.size]? = some (.deferred (some [])) := by
    rw [← hW1]; exact (Below.heap_alloc _ _ _ (by simp)).trans (World.alloc_heap_new w _)
  refine ⟨w.heap.size + 1, [{ target := .collected w.heap.size, args := #[] }], W1, { target := .fn (.func gf) lb, args := #[.func (.yield (w.heap.size + 1)) #[] #[]] }, W1, gf,
    #[.func (.yield (w.heap.size + 1)) #[] #[]] ++ lb, W1, ?_, ?_, ?_, ?_, fun _ => by omega, ?_⟩
  · rw [← hW1, hrec]; exact run_enterLoop_outer _ _ _ _ _
  · simp only [resolve, hg]
    simp [go_sem]
  · intro f' hf'; trivial
  · simp [invoke, go_sem, eg]
  · refine (hiter (w.heap.size + 1) w.heap.size (.loop (rec .ready none)) (.deferred (some [])) W1 rfl rfl hW1.symm ⟨hL1, hK1, rfl, rfl⟩ ?_).mono ?_
    · rintro x W hpre ⟨hl, hk, -, -⟩
      have hlt : w.heap.size + 1 < W.heap.size := (Array.getElem?_eq_some_iff.1 hl).1
      have hlW := hl
      have hy := run_yield (P := P) (args := encs x) hl (by rw [hrec]; exact hps x)
      rw [hrec] at hy
      refine ⟨fn, _, assign, body, hy, roundIn_of_wpIn hfn (wpIn_mono (hround (w.heap.size + 1) x W (by omega) hlt hpre) ?_)⟩
      rintro e a1 W2 hp
      cases e with
      | normal =>
        obtain ⟨hk2, hb⟩ := hp
        have hl2 := hk2.same _ _ hl rfl
        have hd2 := hk2.same _ _ hk rfl
        have hlt2 := (Array.getElem?_eq_some_iff.1 hl2).1
        refine ⟨_, run_beginRound hl2 (by rw [hrec]), ?_⟩
        refine wpIn_mono (hb (.loop { rec .ready none with state := .busy }) (fun o' ho' => by rw [hl2] at ho'; cases ho'; rfl) rfl) ?_
        have left : ∀ (c : Code) (W3 : World), KeepsFrom w.heap.size (W2.putObj (w.heap.size + 1) (.loop { rec .ready none with state := .busy })) W3 → (∀ o, S c (W3.putObj (w.heap.size + 1) o)) →
            ∃ v w', (Instr.endRound (w.heap.size + 1) (some c)).run P W3 = .ok v w' ∧ ((Ending.returned v = .returned (.bool true) ∧ RecAt (w.heap.size + 1) w.heap.size (.loop (rec .ready none)) (.deferred (some [])) w' ∧ KeepsOthers W w' ∧ Post x w') ∨ (Ending.returned v = .returned (.bool false) ∧ KeepsFrom (w.heap.size + 1 + 1) W w' ∧ LeftAt (w.heap.size + 1) w.heap.size S w')) := by
          intro c W3 hk3 hS
          have hl3 : W3.heap[w.heap.size + 1]? = some (.loop { rec .ready none with state := .busy }) := hk3.same _ _ (by omega) (World.putObj_heap_same hlt2) rfl
          have hd3 : W3.heap[w.heap.size]? = some (.deferred (some [])) := hk3.same _ _ (Nat.le_refl _) ((World.putObj_heap_other (by omega)).trans hd2) rfl
          have hend := run_endRound (P := P) (some c) hl3
          rw [hrec] at hend
          have hkf : ∀ ob, KeepsFrom (w.heap.size + 1 + 1) W (W3.putObj (w.heap.size + 1) ob) := fun ob => ⟨by
              have h1 := hk2.size
              have h2 := hk3.size
              simp only [World.putObj_size] at h2 ⊢
              omega, fun k o hk0 hko ho => (World.putObj_heap_other (by omega)).trans (hk3.same k o (by omega) ((World.putObj_heap_other (by omega)).trans (hk2.same k o hko ho)) ho)⟩
          refine ⟨_, _, hend, .inr ⟨rfl, hkf _, c, _, World.putObj_heap_same (Array.getElem?_eq_some_iff.1 hl3).1, rfl, by simp, (World.putObj_heap_other (by omega)).trans hd3, hS _⟩⟩
        rintro e3 a3 W3 hp3
        cases e3 with
        | normal =>
          obtain ⟨hk3, hR⟩ := hp3
          have hl3 : W3.heap[w.heap.size + 1]? = some (.loop { rec .ready none with state := .busy }) := hk3.same _ _ (World.putObj_heap_same hlt2) rfl
          have hd3 : W3.heap[w.heap.size]? = some (.deferred (some [])) := hk3.same _ _ ((World.putObj_heap_other (by omega)).trans hd2) rfl
          have hend := run_endRound (P := P) none hl3
          rw [hrec] at hend
          refine ⟨_, _, hend, .inl ⟨rfl, ⟨?_, ?_, rfl, rfl⟩, ⟨?_, ?_⟩, hR _⟩⟩
          rotate_left 2
          · have h1 := hk2.size
            have h2 := hk3.size
            simp only [World.putObj_size] at h2 ⊢
            omega
          · intro k o hko ho
            by_cases hkl : k = w.heap.size + 1
            · subst hkl
              rw [hlW] at hko
              cases hko
              rw [World.putObj_heap_same (Array.getElem?_eq_some_iff.1 hl3).1, hrec]; rfl
            · exact (World.putObj_heap_other hkl).trans (hk3.same k o ((World.putObj_heap_other hkl).trans (hk2.same k o hko ho)) ho)
          · rw [hrec]; exact World.putObj_heap_same (Array.getElem?_eq_some_iff.1 hl3).1
          · exact (World.putObj_heap_other (by omega)).trans hd3
        | ret => exact left .ret W3 hp3.1 hp3.2
        | exit id => exact left (.exit id) W3 hp3.1 hp3.2
        | goto t => exact hp3.elim
        | panic ch => exact hp3.elim
        | outgrown => exact hp3.elim
      | _ => exact hp.elim
    · rintro e W2 ⟨⟨v, rfl⟩, h⟩
      rcases h with ⟨⟨hl, hk, -, -⟩, hf⟩ | ⟨c, r, hl, hp, hb, hk, hS⟩
      · refine ⟨none, _, by have := run_endLoop (P := P) hl (by rw [hrec]; simp); rw [hrec] at this; exact this, ?_⟩
        exact hdone (w.heap.size + 1) w.heap.size _ W2 rfl rfl hf (Array.getElem?_eq_some_iff.1 hl).1 (fun o' ho' => by rw [hl] at ho'; cases ho'; rfl) ((World.putObj_heap_other (by omega)).trans hk)
      · refine ⟨some c, _, by have := run_endLoop (P := P) hl hb; rw [hp] at this; exact this, ?_⟩
        exact hleft (w.heap.size + 1) w.heap.size _ c W2 rfl rfl hS (Array.getElem?_eq_some_iff.1 hl).1 (fun o' ho' => by rw [hl] at ho'; cases ho'; rfl) ((World.putObj_heap_other (by omega)).trans hk)
theorem range_fx4 {n : Nat} {P : Program} {g : Operand} {p1 p2 : Tmp} {assign body : Code} {Q : Exit → Act → World → Prop} {a : Act} {w : World} {V : List (Nat × Value)} (F : Fx n a V ds)
    {gf : Nat} {lb : Array Value} (hg : a.eval g = .func (.func gf) #[] lb) (eg : ∀ args w, (callFunc gf args).run P w = .ok (.enter gf args) w) (b1 : Nat.blt p1 n = true) (b2 : Nat.blt p2 n = true)
    {α : Type} (f1 f2 : α → Value) (Pre : α → World → Prop) (Post : α → World → Prop) (S : Code → World → Prop) (Fin : World → Prop)
    (hiter : ∀ (l D : Nat) (o1 o2 : Obj) (W1 : World), D = w.heap.size → l = w.heap.size + 1 → Below w.heap.size w W1 → RecAt l D o1 o2 W1 →
      (∀ x W, Pre x W → RecAt l D o1 o2 W → YieldsAt P l D o1 o2 #[f1 x, f2 x] W (Post x) (LeftAt l D S)) →
      CallsIn Fence.wide 2 P gf (#[.func (.yield l) #[] #[]] ++ lb) W1 fun e W' => (∃ v, e = .returned v) ∧ ((RecAt l D o1 o2 W' ∧ Fin W') ∨ LeftAt l D S W'))
    (hround : ∀ (l : Nat) (x : α) (W : World) (ra : Act), Fx n ra ((p2, f2 x) :: (p1, f1 x) :: V) [] → w.heap.size < l → l < W.heap.size → Pre x W →
      assign.wpIn (Fence.wide.inRound l) 1 P (Exit.then (MidOk3 1 P w.heap.size l body W (Post x) S) (fun _ _ _ => False)) ra W)
    (hdone : ∀ (l D : Nat) (o : Obj) (W : World) (a' : Act), D = w.heap.size → l = w.heap.size + 1 → Fin W → z7a W l → (W.putObj l o).heap[D]? = some (.deferred (some [])) → Fx n a' V ({ target := .collected D, args := #[] } :: ds) →
      Q .normal a' (W.putObj l o))
    (hleft : ∀ (l D : Nat) (o : Obj) (c : Code) (W : World) (a' : Act), D = w.heap.size → l = w.heap.size + 1 → S c W → z7a W l → (W.putObj l o).heap[D]? = some (.deferred (some [])) → Fx n a' V ({ target := .collected D, args := #[] } :: ds) →
      c.wp P Q a' (W.putObj l o)) :
    (Code.rangeFunc g #[p1, p2] assign body).wp P Q a w := by
  refine (wpIn_wide (n := 3)).1 (wpIn_range3 hg eg (fun x => #[f1 x, f2 x]) (fun _ => rfl) Pre Post S Fin ?_ ?_ ?_ ?_)
  · intro l x W h1 h2 h3
    have e : ({ tmps := (#[p1, p2].zip #[f1 x, f2 x]).foldl (fun t (p, v) => t.setIfInBounds p v) a.tmps, defers := [] } : Act) = (({ a with defers := [] } : Act).put (some p1) (f1 x)).put (some p2) (f2 x) := by simp [Act.put]
    show assign.wpIn _ _ _ _ ({ tmps := (#[p1, p2].zip #[f1 x, f2 x]).foldl (fun t (p, v) => t.setIfInBounds p v) a.tmps, defers := [] } : Act) W
    rw [e]
    exact hround l x W _ (((F.fresh []).put p1 (f1 x) b1).put p2 (f2 x) b2) h1 h2 h3
  · intro l D o1 o2 W1 hD hl hW hr hY
    refine hiter l D o1 o2 W1 hD hl ?_ hr hY
    rw [hW]
    exact ((Below.refl _ _).alloc (Nat.le_refl _) _).alloc (by simp) _
  · intro l D o W hD hl hf hlt hnc hdd
    have F' := F.fresh ({ target := .collected D, args := #[] } :: a.defers)
    rw [F.defers] at F'
    have := hdone l D o W _ hD hl hf hnc hdd F'
    rw [← F.defers] at this
    exact this
  · intro l D o c W hD hl hf hlt hnc hdd
    have F' := F.fresh ({ target := .collected D, args := #[] } :: a.defers)
    rw [F.defers] at F'
    have := hleft l D o c W _ hD hl hf hnc hdd F'
    rw [← F.defers] at this
    exact wpIn_wide.2 this
theorem range_fx3 {n : Nat} {P : Program} {g : Operand} {p1 : Tmp} {assign body : Code} {Q : Exit → Act → World → Prop} {a : Act} {w : World} {V : List (Nat × Value)} (F : Fx n a V ds)
    {gf : Nat} {lb : Array Value} (hg : a.eval g = .func (.func gf) #[] lb) (eg : ∀ args w, (callFunc gf args).run P w = .ok (.enter gf args) w) (b1 : Nat.blt p1 n = true)
    {α : Type} (f1 : α → Value) (Pre : α → World → Prop) (Post : α → World → Prop) (S : Code → World → Prop) (Fin : World → Prop)
    (hiter : ∀ (l D : Nat) (o1 o2 : Obj) (W1 : World), D = w.heap.size → l = w.heap.size + 1 → Below w.heap.size w W1 → RecAt l D o1 o2 W1 →
      (∀ x W, Pre x W → RecAt l D o1 o2 W → YieldsAt P l D o1 o2 #[f1 x] W (Post x) (LeftAt l D S)) →
      CallsIn Fence.wide 2 P gf (#[.func (.yield l) #[] #[]] ++ lb) W1 fun e W' => (∃ v, e = .returned v) ∧ ((RecAt l D o1 o2 W' ∧ Fin W') ∨ LeftAt l D S W'))
    (hround : ∀ (l : Nat) (x : α) (W : World) (ra : Act), Fx n ra ((p1, f1 x) :: V) [] → w.heap.size < l → l < W.heap.size → Pre x W →
      assign.wpIn (Fence.wide.inRound l) 1 P (Exit.then (MidOk3 1 P w.heap.size l body W (Post x) S) (fun _ _ _ => False)) ra W)
    (hdone : ∀ (l D : Nat) (o : Obj) (W : World) (a' : Act), D = w.heap.size → l = w.heap.size + 1 → Fin W → z7a W l → (W.putObj l o).heap[D]? = some (.deferred (some [])) → Fx n a' V ({ target := .collected D, args := #[] } :: ds) →
      Q .normal a' (W.putObj l o))
    (hleft : ∀ (l D : Nat) (o : Obj) (c : Code) (W : World) (a' : Act), D = w.heap.size → l = w.heap.size + 1 → S c W → z7a W l → (W.putObj l o).heap[D]? = some (.deferred (some [])) → Fx n a' V ({ target := .collected D, args := #[] } :: ds) →
      c.wp P Q a' (W.putObj l o)) :
    (Code.rangeFunc g #[p1] assign body).wp P Q a w := by
  refine (wpIn_wide (n := 3)).1 (wpIn_range3 hg eg (fun x => #[f1 x]) (fun _ => rfl) Pre Post S Fin ?_ ?_ ?_ ?_)
  · intro l x W h1 h2 h3
    have e : ({ tmps := (#[p1].zip #[f1 x]).foldl (fun t (p, v) => t.setIfInBounds p v) a.tmps, defers := [] } : Act) = (({ a with defers := [] } : Act).put (some p1) (f1 x)) := by simp [Act.put]
    show assign.wpIn _ _ _ _ ({ tmps := (#[p1].zip #[f1 x]).foldl (fun t (p, v) => t.setIfInBounds p v) a.tmps, defers := [] } : Act) W
    rw [e]
    exact hround l x W _ ((F.fresh []).put p1 (f1 x) b1) h1 h2 h3
  · intro l D o1 o2 W1 hD hl hW hr hY
    refine hiter l D o1 o2 W1 hD hl ?_ hr hY
    rw [hW]
    exact ((Below.refl _ _).alloc (Nat.le_refl _) _).alloc (by simp) _
  · intro l D o W hD hl hf hlt hnc hdd
    have F' := F.fresh ({ target := .collected D, args := #[] } :: a.defers)
    rw [F.defers] at F'
    have := hdone l D o W _ hD hl hf hnc hdd F'
    rw [← F.defers] at this
    exact this
  · intro l D o c W hD hl hf hlt hnc hdd
    have F' := F.fresh ({ target := .collected D, args := #[] } :: a.defers)
    rw [F.defers] at F'
    have := hleft l D o c W _ hD hl hf hnc hdd F'
    rw [← F.defers] at this
    exact wpIn_wide.2 this
section
variable {P : Program} {ops : Array Oper} {Q : Exit → Act → World → Prop} {a : Act} {w w' : World} {rest : List Oper} {o : Oper} {n m : Nat} {V : List (Nat × Value)} {r : Option Nat}
theorem roundIn_lvl {n m : Nat} {l : Nat} {fn : FuncId} {tmps : Array Value} {assign body : Code} {w : World} {R : Ending → World → Prop} (h : RoundIn Fence.wide n P l fn tmps assign body w R) : RoundIn Fence.wide m P l fn tmps assign body w R :=
  ⟨h.1, fun c cs _ => h.2 c cs (fun d hd => by cases hd)⟩
theorem wi_yields (hw : Region.wanted o (yielded ops a.tmps) = true) {d : Nat} (hd : o.dst = some d) (F : Fx n a V ds) (hn : Nat.blt d n = true) {args : Array Operand} {ts : Array TypeId} {t : Tmp} (ho : o.op = .call { callee := .value (.tmp t), args := args, argTypes := ts }) {l D : Nat} {o1 o2 : Obj} (hf : a.eval (.tmp t) = .func (.yield l) #[] #[])
    (vals : Array Value) (hv : args.map a.eval = vals) {Z Sx : World → Prop} (hy : YieldsAt P l D o1 o2 vals w Z Sx)
    (h : ∀ w' a', RecAt l D o1 o2 w' → KeepsOthers w w' → Z w' → Fx n a' ((d, .bool true) :: V) ds → wpListIn (wideR r) m P ops Q rest a' w')
    (h2 : ∀ w' a', KeepsFrom (l + 1) w w' → Sx w' → Fx n a' ((d, .bool false) :: V) ds → wpListIn (wideR r) m P ops Q rest a' w') : wpListIn (wideR r) m P ops Q (o :: rest) a w := by
  subst hv
  obtain ⟨fn, tmps, assign, body, h1, hR⟩ := hy
  unfold wpListIn
  rw [if_pos hw]
  refine ⟨fun _ _ => trivial, ?_⟩
  have e : (o.semAt (wideR r).round a.eval).run P w = .ok (.round l fn tmps assign body) w := by
    rw [Oper.semAt_plain _ _ _ (by rw [ho]; intro c hc'; cases hc')]
    unfold execOp
    simp only [ho, resolve, hf]
    simp [invoke, go_sem, h1]
  rw [e]
  refine ⟨fun e => Bool.noConfusion e, RoundIn.mono (show RoundIn Fence.wide (m - 1) P l fn tmps assign body w _ from roundIn_lvl hR) fun e w' he => ?_⟩
  rcases he with ⟨rfl, hr, hk, hz⟩ | ⟨rfl, hk, hs⟩
  · have := F.put d (.bool true) hn
    rw [← hd] at this
    exact h _ _ hr hk hz this
  · have := F.put d (.bool false) hn
    rw [← hd] at this
    exact h2 _ _ hk hs this
end
end Go.Proofs.YtmjbnmbobocpdaaGreat
namespace Go.Proofs.YtmjbnmbobocpdaaGreat
open Go.ChangeShapes Go.WideShapes Go.ChangeAt Go.RowKit
def z9a (B : Nat) (r : RecN) (v : Value) : Res := ⟨false, fun g => ∃ V, v = .agg (recA r V) ∧ (bfp V.v2 g ∨ bfp V.v5 g), fun w => ∃ V, v = .agg (recA r V) ∧ RecIs w r V ∧ ∀ g, bfp V.v2 g ∨ bfp V.v5 g → B ≤ g⟩
theorem recA_inj {r : RecN} {V V' : RecV} (h : recA r V = recA r V') : V = V' := by
  obtain ⟨a, b⟩ := V
  obtain ⟨c, d⟩ := V'
  have h2 : (recA r ⟨a, b⟩)[2]? = (recA r ⟨c, d⟩)[2]? := by rw [h]
  have h19 : (recA r ⟨a, b⟩)[19]? = (recA r ⟨c, d⟩)[19]? := by rw [h]
  have e2 : a = c := Option.some.inj h2
  have e5 : b = d := Option.some.inj h19
  subst e2 e5; rfl
theorem recv_same {r : RecN} {V : RecV} {u u' : World} {fp : Nat → Prop} (hs : Same fp u u') (hf : ∀ g, bfp V.v2 g ∨ bfp V.v5 g → fp g) (h : RecIs u r V) : RecIs u' r V :=
  ⟨h.h2.same ⟨fun g o hg ho => hs.at_ g o (hf g (.inl hg)) ho, hs.size⟩, h.h5.same ⟨fun g o hg ho => hs.at_ g o (hf g (.inr hg)) ho, hs.size⟩⟩
theorem recv_dep {B : Nat} {r : RecN} {v : Value} : ∀ u u', Same (z9a B r v).fp u u' → (z9a B r v).F u → (z9a B r v).F u' := fun u u' hs ⟨V, e, h, hl⟩ =>
  ⟨V, e, recv_same hs (fun g hg => ⟨V, e, hg⟩) h, hl⟩
theorem recv_lt {w : World} {r : RecN} {V : RecV} (hm : RecIs w r V) {g : Nat} (hg : bfp V.v2 g ∨ bfp V.v5 g) : g < w.heap.size := by
  rcases hg with hg | hg
  · exact hm.h2.lt hg
  · exact hm.h5.lt hg
theorem recv_is {B : Nat} {r : RecN} {V : RecV} {w : World} (h : (z9a B r (.agg (recA r V))).F w) : RecIs w r V := by
  obtain ⟨V', e, h, -⟩ := h
  have e2 : V = V' := recA_inj (by injection e)
  subst e2; exact h
theorem recv_lo {B : Nat} {r : RecN} {V : RecV} {w : World} (h : (z9a B r (.agg (recA r V))).F w) {g : Nat} (hg : bfp V.v2 g ∨ bfp V.v5 g) : B ≤ g := by
  obtain ⟨V', e, -, h⟩ := h
  have e2 : V = V' := recA_inj (by injection e)
  subst e2; exact h g hg
def rectR (B : Nat) (r : RecN) (b : Bool) (v : Value) : Res := ⟨false, fun g => ∃ V, v = .tuple #[.agg (recA r V), .bool b] ∧ (bfp V.v2 g ∨ bfp V.v5 g), fun w => ∃ V, v = .tuple #[.agg (recA r V), .bool b] ∧ RecIs w r V ∧ ∀ g, bfp V.v2 g ∨ bfp V.v5 g → B ≤ g⟩
theorem tupA_inj {r : RecN} {b : Bool} {V V' : RecV} (h : Value.tuple #[.agg (recA r V), .bool b] = .tuple #[.agg (recA r V'), .bool b]) : V = V' := by
  injection h with h
  have h0 : (#[Value.agg (recA r V), .bool b])[0]? = (#[Value.agg (recA r V'), .bool b])[0]? := by rw [h]
  have := Option.some.inj h0
  injection this with this
  exact recA_inj this
theorem rect_dep {B : Nat} {r : RecN} {b : Bool} {v : Value} : ∀ u u', Same (rectR B r b v).fp u u' → (rectR B r b v).F u → (rectR B r b v).F u' := fun u u' hs ⟨V, e, h, hl⟩ =>
  ⟨V, e, recv_same hs (fun g hg => ⟨V, e, hg⟩) h, hl⟩
theorem Mx.newRect {G : Option Nat} {w0 w w' : World} {R : List (Nat × Res)} (M : Mx G w0 w R) (h : Below w.heap.size w w') {r : RecN} {V : RecV} (b : Bool) (hm : RecIs w' r V) (hlo : ∀ q, bfp V.v2 q ∨ bfp V.v5 q → w.heap.size ≤ q) (i : Nat) : Mx G w0 w' ((i, rectR w0.heap.size r b (.tuple #[.agg (recA r V), .bool b])) :: R) :=
  M.fresh h i _ ⟨V, rfl, hm, fun g hg => Nat.le_trans M.le (hlo g hg)⟩ rect_dep fun g ⟨V', e, hg⟩ => by
    have e2 : V = V' := tupA_inj e
    subst e2
    exact ⟨hlo g hg, recv_lt hm hg⟩
theorem Mx.newRecv {G : Option Nat} {w0 w w' : World} {R : List (Nat × Res)} (M : Mx G w0 w R) (h : Below w.heap.size w w') {r : RecN} {V : RecV} (hm : RecIs w' r V) (hlo : ∀ q, bfp V.v2 q ∨ bfp V.v5 q → w.heap.size ≤ q) (i : Nat) : Mx G w0 w' ((i, z9a w0.heap.size r (.agg (recA r V))) :: R) :=
  M.fresh h i _ ⟨V, rfl, hm, fun g hg => Nat.le_trans M.le (hlo g hg)⟩ recv_dep fun g ⟨V', e, hg⟩ => by
    have e2 : V = V' := recA_inj (by injection e)
    subst e2
    exact ⟨hlo g hg, recv_lt hm hg⟩
theorem Mx.rectTo {G : Option Nat} {w0 w : World} {R : List (Nat × Res)} (M : Mx G w0 w R) {k B : Nat} {r : RecN} {b : Bool} {V : RecV} (h : look R k = some (rectR B r b (.tuple #[.agg (recA r V), .bool b]))) : Mx G w0 w ((k, z9a B r (.agg (recA r V))) :: R) := by
  obtain ⟨V', e, hm, hl⟩ := M.at_ k _ h
  have e2 : V = V' := tupA_inj e
  subst e2
  exact M.part k _ ⟨V, rfl, hm, hl⟩ recv_dep rfl h rfl fun g ⟨V2, e3, hg⟩ => by
    have e4 : V = V2 := recA_inj (by injection e3)
    subst e4
    exact ⟨V, rfl, hg⟩
theorem Mx.rectV {G : Option Nat} {w0 w : World} {R : List (Nat × Res)} (M : Mx G w0 w R) {k B : Nat} {r : RecN} {b : Bool} {v : Value} {V : RecV} (h : look R k = some (rectR B r b v)) (e : v = .tuple #[.agg (recA r V), .bool b]) : Mx G w0 w ((k, z9a B r (.agg (recA r V))) :: R) := by
  subst e; exact M.rectTo h
theorem Mx.dup {G : Option Nat} {w0 w : World} {R : List (Nat × Res)} (M : Mx G w0 w R) {k : Nat} {r : Res} (h : look R k = some r) : Mx G w0 w ((k, r) :: R) := M.drop fun j s e => by
  rw [zu] at e
  split at e
  · rename_i he
    cases e; rw [← he]; exact h
  · exact e
theorem z6a {w : World} {B : Nat} {r : RecN} {v : Value} (h : (z9a B r v).F w) : z1b w (z9a B r v) := fun g ⟨V, e, hg⟩ => by
  obtain ⟨V', e', hm, -⟩ := h
  rw [e] at e'
  have e2 : V = V' := recA_inj (by injection e')
  subst e2
  rcases hg with hg | hg
  · exact cells_bytR (l := r.l2) hm.h2 g hg
  · exact cells_bytR (l := r.l5) hm.h5 g hg
theorem others_below {W W' : World} (h : Below W.heap.size W W') : KeepsOthers W W' := ⟨h.size, fun k o hk _ => (h.block k (Array.getElem?_eq_some_iff.1 hk).1).trans hk⟩
theorem RecAt.put {l D : Nat} {o1 o2 : Obj} {W : World} (h : RecAt l D o1 o2 W) {l' : Nat} (o : Obj) (h1 : l ≠ l') (h2 : D ≠ l') : RecAt l D o1 o2 (W.putObj l' o) :=
  ⟨(World.putObj_heap_other h1).trans h.1, (World.putObj_heap_other h2).trans h.2.1, h.2.2⟩
def fstN (p : Nat → Bool) : Nat → Nat → Nat
  | 0, k => k
  | n + 1, k => if p k = true then k else fstN p n (k + 1)
def fst8 (p : Nat → Bool) : Nat := fstN p 8 0
theorem fst_next {p : Nat → Bool} {k : Nat} (hk : k < 8) (hp : p k = false) (h : fst8 p = fstN p (8 - k) k) : fst8 p = fstN p (8 - (k + 1)) (k + 1) := by
  rw [h, show 8 - k = (8 - (k + 1)) + 1 by omega]
  exact if_neg (by rw [hp]; exact Bool.false_ne_true)
theorem fst_here {p : Nat → Bool} {k : Nat} (hk : k < 8) (hp : p k = true) (h : fst8 p = fstN p (8 - k) k) : fst8 p = k := by
  rw [h, show 8 - k = (7 - k) + 1 by omega]
  exact if_pos hp
theorem fstN_spec (p : Nat → Bool) : ∀ n k, (fstN p n k < k + n ∧ p (fstN p n k) = true ∧ k ≤ fstN p n k ∧ ∀ i, k ≤ i → i < fstN p n k → p i = false) ∨ (fstN p n k = k + n ∧ ∀ i, k ≤ i → i < k + n → p i = false)
  | 0, k => .inr ⟨rfl, fun i h1 h2 => by omega⟩
  | n + 1, k => by
    unfold fstN
    by_cases hp : p k = true
    · rw [if_pos hp]
      exact .inl ⟨by omega, hp, Nat.le_refl _, fun i h1 h2 => by omega⟩
    · rw [if_neg hp]
      have hp' : p k = false := by simpa using hp
      rcases fstN_spec p n (k + 1) with ⟨h1, h2, h3, h4⟩ | ⟨h1, h2⟩
      · refine .inl ⟨by omega, h2, by omega, fun i h5 h6 => ?_⟩
        by_cases e : i = k
        · subst e; exact hp'
        · exact h4 i (by omega) h6
      · refine .inr ⟨by omega, fun i h5 h6 => ?_⟩
        by_cases e : i = k
        · subst e; exact hp'
        · exact h2 i (by omega) (by omega)
theorem fst8_spec (p : Nat → Bool) : (fst8 p < 8 ∧ p (fst8 p) = true ∧ ∀ i, i < fst8 p → p i = false) ∨ (fst8 p = 8 ∧ ∀ i, i < 8 → p i = false) := by
  rcases fstN_spec p 8 0 with ⟨h1, h2, h3, h4⟩ | ⟨h1, h2⟩
  · exact .inl ⟨by unfold fst8; omega, h2, fun i hi => h4 i (Nat.zero_le _) hi⟩
  · exact .inr ⟨by unfold fst8; omega, fun i hi => h2 i (Nat.zero_le _) (by omega)⟩
theorem pairs_any  (w : World) :
  Calls Tryz.prog 75 #[] w fun e w' => e = .returned (.func (.func 104) #[] #[]) ∧ Below w.heap.size w w' := by
 refine zi (args := []) 1 Tryz.func75 rfl rfl rfl ?_
 intro fa F
 have M := Mx.start w
 refine zS fun _ hK1 => ?_
 refine zR ?_
 refine rm rfl F fun _ F2 => ?_
 refine hK1 _ _ ?_
 refine zS fun _ hK3 => ?_
 refine zR ?_
 refine zc (w' := w) (zb rfl) rfl F2 rfl (.func (.func 104) #[] #[]) (zaa _ (.inr rfl) rfl) fun _ F4 => ?_
 clear F2
 refine hK3 _ _ ?_
 refine wp_ret ?_
 try simp only [Exit.then, Exit.inBlock, Exit.jump]
 exact bodyPost_ret (res1 rfl (F4.get rfl)) F4.defers ⟨rfl, M.below⟩
theorem pairs1_any (C : Nat → World → Prop) (Sx : World → Prop) (l D : Nat) (o1 o2 : Obj) (w : World)
  (hyield : ∀ (k : Nat) (W : World), k < 8 → C k W → RecAt l D o1 o2 W → YieldsAt Tryz.prog l D o1 o2 #[.agg #[.int .i64 ((2 * k : Nat) : Int), .func (.func 105) #[] #[]]] W (C (k + 1)) Sx)
  (h0 : C 0 w) (hr : RecAt l D o1 o2 w) :
  CallsIn Fence.wide 2 Tryz.prog 104 #[.func (.yield l) #[] #[]] w fun e W' => (∃ v, e = .returned v) ∧ ((RecAt l D o1 o2 W' ∧ C 8 W') ∨ Sx W') := by
 refine callsIn_wide.2 ?_
 refine zi (args := [.func (.yield l) #[] #[]]) 13 Tryz.func104 rfl rfl rfl ?_
 intro fa F
 refine zS fun _ hK1 => ?_
 refine zR ?_
 refine rm rfl F fun _ F2 => ?_
 refine hK1 _ _ ?_
 refine wp_block ?_
 refine wp_loop_ghost (fun k a w => ∃ x : Nat, k = 8 - x ∧ x ≤ 8 ∧ Fx 13 a [(0, .func (.yield l) #[] #[]), (3, .int .i64 (x : Int))] ∧ C x w ∧ RecAt l D o1 o2 w) 8 ⟨0, rfl, by omega, F2.sub ⟨rfl, rfl, trivial⟩, h0, hr⟩ ?_
 clear F2
 rintro kk la lw ⟨x, ek, hx, LF, hc, hre⟩
 replace LF : Fx 13 la [(0, .func (.yield l) #[] #[]), (3, .int .i64 (x : Int))] := LF
 by_cases hlt : x < 8
 ·refine zS fun _ hK3 => ?_
  refine zR ?_
  refine zc (w' := lw) (zb rfl) rfl LF rfl (.bool true) (zgb _ _ _ _ rfl (LF.get (t := 3) rfl) rfl (decide_eq_true (show (x : Int) < 8 by omega))) fun _ F4 => ?_
  clear LF
  refine hK3 _ _ ?_
  refine zS fun _ hK5 => ?_
  refine wp_cond_true (F4.get (t := 4) rfl) ?_
  refine wp_skip ?_
  refine hK5 _ _ ?_
  refine zS fun _ hK6 => ?_
  refine wp_block ?_
  refine zS fun _ hK7 => ?_
  refine zR ?_
  refine rm rfl F4 fun _ F8 => ?_
  refine rm rfl F8 fun _ F9 => ?_
  refine hK7 _ _ ?_
  refine zS fun _ hK10 => ?_
  refine (wpIn_wide (n := 2)).1 (wpIn_region_lit ?_)
  refine wi_run (r := none) (fun c e => by cases e) (w' := lw) (zb rfl) rfl F9 rfl (.func (.yield l) #[] #[]) (zaa _ (.inl rfl) (F9.get (t := 0) rfl)) fun _ F11 => ?_
  clear F9
  refine wi_run (r := none) (fun c e => by cases e) (w' := lw) (zb rfl) rfl F11 rfl (.int .i64 (x : Int)) (zaa _ (.inl rfl) (F11.get (t := 2) rfl)) fun _ F12 => ?_
  clear F11
  refine wi_run (r := none) (fun c e => by cases e) (w' := lw) (zb rfl) rfl F12 rfl (.int .i64 ((2 * x : Nat) : Int)) (y_mulI _ _ _ _ rfl rfl (F12.get (t := 7) rfl) (by omega) (by omega)) fun _ F13 => ?_
  clear F12
  refine wi_run (r := none) (fun c e => by cases e) (w' := lw) (zb rfl) rfl F13 rfl (.agg (#[.int .i64 ((2 * x : Nat) : Int), .func (.func 105) #[] #[]])) (by unfold execOp; simp only [List.map_toArray, List.map_cons, List.map_nil, (F13.get (t := 8) rfl)]; kernel_rfl) fun _ F14 => ?_
  clear F13
  refine wi_yields (r := none) (zb rfl) rfl F14 rfl rfl (F14.get (t := 6) rfl) #[.agg (#[.int .i64 ((2 * x : Nat) : Int), .func (.func 105) #[] #[]])] (zx (F14.get (t := 9) rfl)) (hyield x _ hlt hc hre) ?_ ?_
  ·intro w15 a15 re15 ko15 hc15 F15
   clear F14
   refine wi_run (r := none) (fun c e => by cases e) (w' := w15) (zb rfl) rfl F15 rfl (.bool false) (zub _ _ rfl (F15.get (t := 10) rfl)) fun _ F16 => ?_
   clear F15
   refine hK10 _ _ ?_
   refine wp_cond_false (F16.get (t := 11) rfl) ?_
   refine wp_skip ?_
   refine hK6 _ _ ?_
   refine zR ?_
   refine zc (w' := w15) (zb rfl) rfl F16 rfl (.int .i64 ((x + 1 : Nat) : Int)) (zqa _ _ _ _ rfl (F16.get (t := 3) rfl) rfl (by omega) (by omega)) fun _ F17 => ?_
   clear F16
   refine rm rfl F17 fun _ F18 => ?_
   exact ⟨7 - x, by omega, x + 1, by omega, by omega, F18.sub ⟨rfl, rfl, trivial⟩, hc15, re15⟩
  ·intro w15 a15 kf15 hs15 F15
   clear F14
   refine wi_run (r := none) (fun c e => by cases e) (w' := w15) (zb rfl) rfl F15 rfl (.bool true) (zub _ _ rfl (F15.get (t := 10) rfl)) fun _ F19 => ?_
   clear F15
   refine hK10 _ _ ?_
   refine wp_cond_true (F19.get (t := 11) rfl) ?_
   refine wp_ret ?_
   try simp only [Exit.then, Exit.inBlock, Exit.jump]
   exact bodyPost_ret (res0 rfl) F19.defers ⟨⟨_, rfl⟩, .inr hs15⟩
 ·obtain rfl : x = 8 := by omega
  refine zS fun _ hK20 => ?_
  refine zR ?_
  refine zc (w' := lw) (zb rfl) rfl LF rfl (.bool false) (zgb _ _ _ _ rfl (LF.get (t := 3) rfl) rfl (decide_eq_false (by decide))) fun _ F21 => ?_
  clear LF
  refine hK20 _ _ ?_
  refine zS fun _ hK22 => ?_
  refine wp_cond_false (F21.get (t := 4) rfl) ?_
  refine wp_exit ?_
  simp only [Exit.then, Exit.inBlock, ↓reduceIte, Nat.reduceEqDiff]
  try simp only [Exit.then, Exit.inBlock, Exit.jump]
  exact bodyPost_end (res0 rfl) F21.defers ⟨⟨_, rfl⟩, .inl ⟨hre, hc⟩⟩
theorem accounts_any (g : Nat) (w : World) :
  Calls Tryz.prog 56 #[.pointer (some ⟨g, 0, none⟩)] w fun e w' => ∃ gb, e = .returned (.func (.func 84) #[] #[.pointer (some ⟨gb, 0, none⟩)]) ∧ w.heap.size ≤ gb ∧ w'.heap[gb]? = some (.cells #[.pointer (some ⟨g, 0, none⟩)] 25 (0, 0)) ∧ Below w.heap.size w w' := by
 refine zi (args := [.pointer (some ⟨g, 0, none⟩)]) 4 Tryz.func56 rfl rfl rfl ?_
 intro fa F
 have M := Mx.start w
 refine zS fun _ hK1 => ?_
 refine zR ?_
 refine zh (zb rfl) rfl F rfl M 0 (t := 25) (c := #[.pointer (some ⟨g, 0, none⟩)]) (by unfold execOp; simp only [(F.get (t := 0) rfl)]; kernel_rfl) ?_
 intro g2 a2 w2 F2 M2
 clear F M
 refine rm rfl F2 fun _ F3 => ?_
 refine hK1 _ _ ?_
 refine zS fun _ hK4 => ?_
 refine zR ?_
 refine zc (w' := w2) (zb rfl) rfl F3 rfl (.func (.func 84) #[] #[.pointer (some ⟨g2, 0, none⟩)]) (by unfold execOp; simp only [List.map_toArray, List.map_cons, List.map_nil, (F3.get (t := 1) rfl)]; kernel_rfl) fun _ F5 => ?_
 clear F3
 refine rm rfl F5 fun _ F6 => ?_
 refine hK4 _ _ ?_
 refine wp_ret ?_
 try simp only [Exit.then, Exit.inBlock, Exit.jump]
 exact bodyPost_ret (res1 rfl (F6.get rfl)) F6.defers ⟨g2, rfl, (M2.own 0 _ rfl rfl g2 rfl).resolve_right (fun e => by cases e), M2.blk (k := 0) rfl, M2.below⟩
end Go.Proofs.YtmjbnmbobocpdaaGreat
namespace Go.Proofs.YtmjbnmbobocpdaaGreat
open Go.ChangeShapes Go.WideShapes Go.ChangeAt Go.RowKit
theorem put_cells {W : World} {g lp : Nat} {o : Obj} {c : Array Value} {t : TypeId} (h : W.heap[g]? = some (.cells c t (0, 0))) (hnc : z7a W lp) : (W.putObj lp o).heap[g]? = some (.cells c t (0, 0)) :=
  (World.putObj_heap_other (fun e => by subst e; exact Bool.noConfusion (hnc _ h))).trans h
theorem says_is (q : Nat) (hq : q + 1 < 18) (g : Nat) (V : VltN) (s n : Nat → Value) (hv : zfa V) (b : Bool) (r : RecN) (hb : saidB V q = b) (hr : zja V q = r) (w : World) (h : HasV w g V s n) : Calls Tryz.prog 85 #[.agg #[.int .i64 (q : Int), .func (.func 105) #[] #[]], .pointer (some ⟨g, 0, none⟩)] w fun e w' => ∃ t, e = .returned t ∧ ∃ V', t = .tuple #[.agg (recA r V'), .bool b] ∧ RecIs w' r V' ∧ (∀ b, bfp V'.v2 b ∨ bfp V'.v5 b → w.heap.size ≤ b) ∧ Below w.heap.size w w' := by
  subst hb hr
  exact (saysR q hq g V s n hv w h).mono fun e w' ⟨V', h1, h2, h3, h4⟩ => ⟨_, h1, V', rfl, h2, h3, h4⟩
theorem heap_ltO {w : World} {g : Nat} {o : Obj} (h : w.heap[g]? = some o) : g < w.heap.size := (Array.getElem?_eq_some_iff.1 h).1
theorem accounts1_any (g gb : Nat) (V : VltN) (s n : Nat → Value) (hv : zfa V) (C : Res → Nat → World → Prop) (Sx : World → Prop) (l D : Nat) (o1 o2 : Obj) (w : World)
  (hC : ∀ X k W, C X k W → HasV W g V s n ∧ W.heap[gb]? = some (.cells #[.pointer (some ⟨g, 0, none⟩)] 25 (0, 0)))
  (hCx : ∀ X k W, C X k W → X.F W)
  (hCi : ∀ X k W W', C trivR k W → Below W.heap.size W W' → X.F W' → (∀ u u', Same X.fp u u' → X.F u → X.F u') → (∀ b, X.fp b → W.heap.size ≤ b ∧ b < W'.heap.size) → (∀ W, X.F W → z1b W X) → C X k W')
  (hCb : ∀ X k W W', C X k W → Below W.heap.size W W' → C X k W')
  (hCo : ∀ X k W l' o, w.heap.size ≤ l' → z7a W l' → C X k W → C X k (W.putObj l' o))
  (hSo : ∀ W l' o, w.heap.size ≤ l' → z7a W l' → Sx W → Sx (W.putObj l' o))
  (hskip : ∀ X k W, k < 8 → saidB V (2 * k) = false → C X k W → C X (k + 1) W)
  (hyield : ∀ X k V' W W', k < 8 → saidB V (2 * k) = true → C X k W → Below W.heap.size W W' → RecIs W' (zja V (2 * k)) V' → (∀ b, bfp V'.v2 b ∨ bfp V'.v5 b → W.heap.size ≤ b) → RecAt l D o1 o2 W' → YieldsAt Tryz.prog l D o1 o2 #[.agg #[.int .i64 ((2 * k : Nat) : Int), .func (.func 105) #[] #[]], .agg (recA (zja V (2 * k)) V')] W' (C X (k + 1)) Sx)
  (h0 : C trivR 0 w) (hr : RecAt l D o1 o2 w) :
  CallsIn Fence.wide 2 Tryz.prog 84 #[.func (.yield l) #[] #[], .pointer (some ⟨gb, 0, none⟩)] w fun e W' => (∃ v, e = .returned v) ∧ ((RecAt l D o1 o2 W' ∧ ∃ X, C X 8 W') ∨ Sx W') := by
 refine callsIn_wide.2 ?_
 refine calls_fxM (args := [.func (.yield l) #[] #[], .pointer (some ⟨gb, 0, none⟩)]) 24 Tryz.func84 rfl rfl rfl ?_
 intro fa F
 have M := Mx.start w
 replace M := M.argO 0 (hC _ _ _ h0).2 (fun b e => by cases e)
 refine zS fun _ hK1 => ?_
 refine zR ?_
 refine zh (zb rfl) rfl F rfl M 1 (t := 123) (c := #[.func (.yield l) #[] #[]]) (by unfold execOp; simp only [(F.get (t := 0) rfl)]; kernel_rfl) ?_
 intro g2 a2 w2 F2 M2
 clear F M
 refine hK1 _ _ ?_
 refine zS fun _ hK3 => ?_
 refine zR ?_
 refine zg (zb rfl) rfl F2 rfl rfl (zE Tryz.func75 rfl) #[] (args0) (zda ((pairs_any w2))) ?_
 rintro _ w4 a4 ⟨rfl, b4⟩ F4
 have M4 := M2.step b4
 refine hK3 _ _ ?_
 refine wp_block ?_
 obtain ⟨X, hX⟩ : ∃ x, (blkR g2 123 #[.func (.yield l) #[] #[]]) = x := ⟨_, rfl⟩
 have hXc : ∀ W, X.F W → z1b W X := by rw [← hX]; exact fun W h => ze h
 have hXb : ∀ W, X.F W → W.heap[g2]? = some (.cells #[.func (.yield l) #[] #[]] 123 (0, 0)) := by rw [← hX]; exact fun W h => h
 have hc0 : C X 0 w4 := hCi X 0 w w4 h0 M4.below (by rw [← hX]; exact M4.blk (k := 1) rfl) (by rw [← hX]; exact blkR_dep) (by rw [← hX]; rintro b rfl; exact ⟨(M4.own 1 _ rfl rfl _ rfl).resolve_right (fun e => by cases e), zxa (M4.blk (k := 1) rfl)⟩) hXc
 have hwle := M4.le
 have hlw : l < w.heap.size := heap_ltO hr.1
 have hDw : D < w.heap.size := heap_ltO hr.2.1
 have hre0 : RecAt l D o1 o2 w4 := hr.below M4.below
 refine range_fx3 F4 (gf := 104) (lb := #[]) (F4.get (t := 6) rfl) (zE Tryz.func104 rfl) rfl (α := Nat) (fun k => .agg #[.int .i64 ((2 * k : Nat) : Int), .func (.func 105) #[] #[]]) (fun k W => k < 8 ∧ C X k W ∧ RecAt l D o1 o2 W) (fun k W => C X (k + 1) W ∧ RecAt l D o1 o2 W) (fun c W => c = .ret ∧ Sx W) (fun W => C X 8 W ∧ RecAt l D o1 o2 W) ?_ ?_ ?_ ?_
 ·intro l2 D2 p1 p2 W1 hD2 hL2 bW hrec2 hY
  exact (pairs1_any (fun k W => C X k W ∧ RecAt l D o1 o2 W) _ l2 D2 p1 p2 W1 (fun k W hk h hq => hY k W ⟨hk, h⟩ hq) ⟨hCb X 0 _ _ hc0 bW, hre0.below bW⟩ hrec2)
 ·rintro lp k W ra F5 hlo hlt ⟨hk, hc, hre⟩
  replace F5 : Fx 24 ra _ := F5
  clear F4
  have N0 := Mx.start W
  obtain ⟨bk, hbk⟩ : ∃ x, saidB V (2 * k) = x := ⟨_, rfl⟩
  obtain ⟨rk, hrk⟩ : ∃ x, zja V (2 * k) = x := ⟨_, rfl⟩
  have hyk := hyield X k
  rw [hrk] at hyk
  refine wpIn_lit' (fun ⟨_, _, h⟩ => h) rfl ?_
  refine zh (zb rfl) rfl F5 rfl N0 2 (t := 87) (c := #[.int .i64 0, .nilFunc]) (by unfold execOp; kernel_rfl) ?_
  intro g6 a6 w6 F6 M6
  clear F5 N0
  refine zm (zb rfl) rfl F6 M6 (k := 2) rfl _ _ _ rfl (F6.get (t := 3) rfl) (F6.get (t := 7) rfl) (#[.int .i64 ((2 * k : Nat) : Int), .func (.func 105) #[] #[]]) _ rfl (zL rfl) (by first | rfl | simp [Value.oneCell']) (zn rfl) (by kernel_rfl) ?_
  intro w7 M7
  clear M6
  have b1 := M7.below
  refine ⟨others_below b1, fun o hnc hoc => ?_⟩
  have hWle := M7.le
  have hg3 := put_cells (o := o) (M7.blk (k := 2) rfl) hnc
  have hcp : C X k (w7.putObj lp o) := hCo X k w7 lp o (by omega) hnc (hCb X k W w7 hc b1)
  have hrp := (hre.below b1).put o (show l ≠ lp by omega) (show D ≠ lp by omega)
  have hLo : (w7.putObj lp o).heap[lp]? = some o := World.putObj_heap_same (by omega)
  have hWlp : lp < w7.heap.size := by omega
  clear M7 hnc
  obtain ⟨Wp, hWp⟩ : ∃ x, x = w7.putObj lp o := ⟨_, rfl⟩
  rw [← hWp] at hcp hrp hLo hg3 ⊢
  have hh := hC X k Wp hcp
  have M8 := (((Mx.start Wp).argO 0 hh.2 (fun b e => by cases e)).argO 2 hg3 (fun b e => by cases e)).argO 1 (hXb _ (hCx X k Wp hcp)) (fun b e => by cases e)
  refine wpIn_block ?_
  refine wpIn_seq_k fun K9 hK9 => ?_
  refine region_fxM_in (fun ⟨_, _, h⟩ => h) rfl F6 [fun vE => vE = .agg (#[.int .i64 ((2 * k : Nat) : Int), .func (.func 105) #[] #[]]), fun vE => vE = .pointer (some ⟨g, 0, none⟩), fun vE => vE = .pointer (some ⟨g, 0, none⟩), fun vE => vE = .pointer (some ⟨g, 0, none⟩), fun _ => True, fun vE => ∃ V_, vE = .tuple #[.agg (recA rk V_), .bool bk], fun vE => ∃ V_, vE = .agg (recA rk V_), fun vE => vE = .bool bk, fun vE => ∃ g, vE = .pointer (some ⟨g, 0, none⟩), fun vE => vE = undef] (JQ none Wp (fun SV => SV 6 = true → SV 5 = true) (fun (xJ : Unit) SV pV => [(1, blkO g2 123 (#[.func (.yield l) #[] #[]])), (2, blkO g6 87 (#[.int .i64 ((2 * k : Nat) : Int), .func (.func 105) #[] #[]])), (0, blkO gb 25 (#[.pointer (some ⟨g, 0, none⟩)])), (3, zeb (SV 6) (z9a Wp.heap.size rk (pV 6)) (zeb (SV 5) (rectR Wp.heap.size rk bk (pV 5)) (zya (SV 4) (rectR Wp.heap.size rk bk (pV 4))))), (4, zeb (SV 9) (ptrR 37 (aggC (pV 6)) (pV 8)) (zya (SV 8) (ptrR 37 (recA ⟨0, "".toUTF8, [], 0, 0, [], 0, 0, 0⟩ ⟨zN, zN⟩) (pV 8))))])) 10 rfl (by kernel_rfl) rfl ⟨trivial, trivial, trivial, trivial, trivial, trivial, trivial, trivial, trivial, fun _ => Iff.rfl, trivial⟩ (fun p => JQ.mk (fun h => absurd h (by decide)) () ((((M8.step (zga _)).triv 3).triv 4).sub ⟨rfl, rfl, rfl, rfl, rfl, trivial⟩)) ⟨?_, ?_, ?_, ?_, ?_, ?_, ?_, ?_, ?_, ?_, trivial⟩ ?_
  ·intro ua uw SV pV M0 hk hn hd
   obtain ⟨HP, xJ, M⟩ := M0
   replace M : Mx none Wp uw _ := M
   have e3 : ua.eval (.tmp 3) = .pointer (some ⟨g6, 0, none⟩) := (show ua.eval (.tmp 3) = _ from hd 3 (by decide)).trans (F6.get (t := 3) rfl)
   exact zd (zb rfl) _ (zna _ _ rfl e3 (M.roB (k := 2) rfl) (#[.int .i64 ((2 * k : Nat) : Int), .func (.func 105) #[] #[]]) (zra rfl) Tryz.underlying87 rfl (by kernel_rfl)) rfl ((JQ.mk HP () (M.sub ⟨rfl, rfl, rfl, rfl, rfl, trivial⟩)))
  ·intro ua uw SV pV M0 hk hn hd
   obtain ⟨HP, xJ, M⟩ := M0
   replace M : Mx none Wp uw _ := M
   have e1 : ua.eval (.tmp 1) = .pointer (some ⟨gb, 0, none⟩) := (show ua.eval (.tmp 1) = _ from hd 1 (by decide)).trans (F6.get (t := 1) rfl)
   exact zd (zb rfl) (.pointer (some ⟨g, 0, none⟩)) (zba _ _ rfl e1 (M.roB (k := 0) rfl) rfl Tryz.underlying25 rfl) rfl ((JQ.mk HP () (M.sub ⟨rfl, rfl, rfl, rfl, rfl, trivial⟩)))
  ·intro ua uw SV pV M0 hk hn hd
   obtain ⟨HP, xJ, M⟩ := M0
   replace M : Mx none Wp uw _ := M
   obtain ⟨s1, f10, q10⟩ := (show SV 1 = true ∧ ua.eval (.tmp 10) = pV 1 ∧ stE _ 1 (pV 1) from hd 10 (by decide))
   have e10 : ua.eval (.tmp 10) = .pointer (some ⟨g, 0, none⟩) := f10.trans q10
   exact zd (zb rfl) (.pointer (some ⟨g, 0, none⟩)) (by unfold execOp; simp only [e10]; kernel_rfl) rfl ((JQ.mk HP () (M.sub ⟨rfl, rfl, rfl, rfl, rfl, trivial⟩)))
  ·intro ua uw SV pV M0 hk hn hd
   obtain ⟨HP, xJ, M⟩ := M0
   replace M : Mx none Wp uw _ := M
   obtain ⟨s2, f11, q11⟩ := (show SV 2 = true ∧ ua.eval (.tmp 11) = pV 2 ∧ stE _ 2 (pV 2) from hd 11 (by decide))
   have e11 : ua.eval (.tmp 11) = .pointer (some ⟨g, 0, none⟩) := f11.trans q11
   exact zd (zb rfl) (.pointer (some ⟨g, 0, none⟩)) (y_fa (off := 0) rfl e11 (by kernel_rfl) rfl) rfl ((JQ.mk HP () (M.sub ⟨rfl, rfl, rfl, rfl, rfl, trivial⟩)))
  ·intro ua uw SV pV M0 hk hn hd
   obtain ⟨HP, xJ, M⟩ := M0
   replace M : Mx none Wp uw _ := M
   obtain ⟨s0, f9, q9⟩ := (show SV 0 = true ∧ ua.eval (.tmp 9) = pV 0 ∧ stE _ 0 (pV 0) from hd 9 (by decide))
   have e9 : ua.eval (.tmp 9) = .agg (#[.int .i64 ((2 * k : Nat) : Int), .func (.func 105) #[] #[]]) := f9.trans q9
   obtain ⟨s3, f12, q12⟩ := (show SV 3 = true ∧ ua.eval (.tmp 12) = pV 3 ∧ stE _ 3 (pV 3) from hd 12 (by decide))
   have e12 : ua.eval (.tmp 12) = .pointer (some ⟨g, 0, none⟩) := f12.trans q12
   have hz : SV 6 = false := by cases h : SV 6 with
    | false => rfl
    | true => exact absurd (HP h) (by rw [hn 5 (by kernel_rfl)]; decide)
   exact zwa (zb rfl) rfl #[.agg (#[.int .i64 ((2 * k : Nat) : Int), .func (.func 105) #[] #[]]), .pointer (some ⟨g, 0, none⟩)] (zha e9 e12) (zE Tryz.func85 rfl) ((says_is (2 * k) (by omega) g V s n hv bk rk hbk hrk uw (hh.1.step M.below)).mono fun e w2 h => (by obtain ⟨t, h1, V_, ht, hI, hlo, hb⟩ := h; subst ht; exact ⟨_, h1, trivial, (JQ.mk HP () ((M.newRect hb bk hI hlo 3).sub ⟨rfl, rfl, rfl, (z9b hz (z9b (hn 5 (by kernel_rfl)) rfl)), rfl, trivial⟩))⟩))
  ·intro ua uw SV pV M0 hk hn hd
   obtain ⟨HP, xJ, M⟩ := M0
   replace M : Mx none Wp uw _ := M
   obtain ⟨s4, f13, q13⟩ := (show SV 4 = true ∧ ua.eval (.tmp 13) = pV 4 ∧ stE _ 4 (pV 4) from hd 13 (by decide))
   have e13 : ua.eval (.tmp 13) = (pV 4) := f13
   obtain ⟨V_, eS_, hS_, -⟩ := (show (rectR Wp.heap.size rk bk (pV 4)).F uw from M.at_ 3 _ (z3a s4 (zjb hk (zjb (hn 6 (by kernel_rfl)) rfl))))
   exact zd (zb rfl) ((pV 4)) (zaa _ (.inl rfl) e13) ⟨V_, eS_⟩ ((JQ.mk (fun _ => rfl) () ((M.dup (k := 3) (z3a s4 (zjb hk (zjb (hn 6 (by kernel_rfl)) rfl)))).sub ⟨rfl, rfl, rfl, (z9b (hn 6 (by kernel_rfl)) rfl), rfl, trivial⟩)))
  ·intro ua uw SV pV M0 hk hn hd
   obtain ⟨HP, xJ, M⟩ := M0
   replace M : Mx none Wp uw _ := M
   obtain ⟨s5, f8, q8⟩ := (show SV 5 = true ∧ ua.eval (.tmp 8) = pV 5 ∧ stE _ 5 (pV 5) from hd 8 (by decide))
   have e8 : ua.eval (.tmp 8) = (pV 5) := f8
   obtain ⟨V_, eS_, hS_, -⟩ := (show (rectR Wp.heap.size rk bk (pV 5)).F uw from M.at_ 3 _ (eitherR_l s5 (zjb hk rfl)))
   rw [eS_] at e8
   exact zd (zb rfl) _ (y_ext _ _ rfl e8 rfl) ⟨V_, rfl⟩ ((JQ.mk (fun _ => s5) () ((Mx.rectV M (k := 3) (V := V_) (eitherR_l s5 (zjb hk rfl)) eS_).sub ⟨rfl, rfl, rfl, rfl, (eitherR_off (hn 9 (by kernel_rfl)) rfl), trivial⟩)))
  ·intro ua uw SV pV M0 hk hn hd
   obtain ⟨HP, xJ, M⟩ := M0
   replace M : Mx none Wp uw _ := M
   obtain ⟨s5, f8, q8⟩ := (show SV 5 = true ∧ ua.eval (.tmp 8) = pV 5 ∧ stE _ 5 (pV 5) from hd 8 (by decide))
   have e8 : ua.eval (.tmp 8) = (pV 5) := f8
   obtain ⟨V_, eS_⟩ := (show ∃ V_, (pV 5) = .tuple #[.agg (recA rk V_), .bool bk] from q8)
   exact zd (zb rfl) (.bool bk) (y_ext _ _ rfl (e8.trans eS_) rfl) rfl ((JQ.mk HP () (M.sub ⟨rfl, rfl, rfl, rfl, rfl, trivial⟩)))
  ·intro ua uw SV pV M0 hk hn hd
   obtain ⟨HP, xJ, M⟩ := M0
   replace M : Mx none Wp uw _ := M
   exact zd (zb rfl) _ (by unfold execOp; kernel_rfl) ⟨_, rfl⟩ ((JQ.mk HP () ((M.allocP 4 37 (recA ⟨0, "".toUTF8, [], 0, 0, [], 0, 0, 0⟩ ⟨zN, zN⟩)).sub ⟨rfl, rfl, rfl, rfl, (z9b (hn 9 (by kernel_rfl)) rfl), trivial⟩)))
  ·intro ua uw SV pV M0 hk hn hd
   obtain ⟨HP, xJ, M⟩ := M0
   replace M : Mx none Wp uw _ := M
   obtain ⟨s8, f4, q4⟩ := (show SV 8 = true ∧ ua.eval (.tmp 4) = pV 8 ∧ stE _ 8 (pV 8) from hd 4 (by decide))
   obtain ⟨s6, f14, q14⟩ := (show SV 6 = true ∧ ua.eval (.tmp 14) = pV 6 ∧ stE _ 6 (pV 6) from hd 14 (by decide))
   have e14 : ua.eval (.tmp 14) = (pV 6) := f14
   obtain ⟨V_, eS_, hS_, -⟩ := (show (z9a Wp.heap.size rk (pV 6)).F uw from M.at_ 3 _ (eitherR_l s6 rfl))
   have eA_ : aggC (pV 6) = recA rk V_ := by rw [eS_]; rfl
   obtain ⟨g_, r_⟩ := (show ∃ g, pV 8 = .pointer (some ⟨g, 0, none⟩) from q4)
   have M2 := M.ptrV (k := 4) (g := g_) (z3a s8 (zjb hk rfl)) r_
   exact hopM_doM (zb rfl) rfl (run_st M2 (k := 4) rfl _ _ _ rfl (f4.trans r_) (f14.trans eS_) (recA rk V_) _ rfl (zL rfl) (zta hS_) (zn rfl) (by kernel_rfl)) (fun w2 h2 => (JQ.mk HP () ((h2.toPtr (k := 4) rfl r_ eA_).sub ⟨rfl, rfl, rfl, rfl, rfl, trivial⟩))) rfl
  intro p10 a10 w10 M10 G10 y10
  obtain ⟨-, -, -, -, -, -, q6, q7, q8, -, -⟩ := y10
  obtain ⟨gp8x9, r8⟩ := (show ∃ g, p10 8 = .pointer (some ⟨g, 0, none⟩) from q8)
  obtain ⟨V10, r6⟩ := (show ∃ V_, p10 6 = .agg (recA rk V_) from q6)
  have r7 : p10 7 = .bool bk := q7
  obtain ⟨-, xJ10, M10⟩ := M10
  replace M10 : Mx _ _ w10 [(1, blkO g2 123 (#[.func (.yield l) #[] #[]])), (2, blkO g6 87 (#[.int .i64 ((2 * k : Nat) : Int), .func (.func 105) #[] #[]])), (0, blkO gb 25 (#[.pointer (some ⟨g, 0, none⟩)])), (3, zeb true (z9a Wp.heap.size rk (p10 6)) (zeb true (rectR Wp.heap.size rk bk (p10 5)) (zya true (rectR Wp.heap.size rk bk (p10 4))))), (4, zeb true (ptrR 37 (aggC (p10 6)) (p10 8)) (zya true (ptrR 37 (recA ⟨0, "".toUTF8, [], 0, 0, [], 0, 0, 0⟩ ⟨zN, zN⟩) (p10 8))))] := M10
  simp only [List.take, layV, Nat.zero_add, Nat.reduceAdd, r6, r7, r8] at G10
  rw [r8, r6] at M10
  have M10_4 := M10.ptr (k := 4) (g := gp8x9) rfl
  replace M10_4 := M10_4.toB (k := 4) (c2 := recA rk V10) rfl rfl
  refine rm rfl G10 fun _ F11 => ?_
  refine hK9 _ _ ?_
  refine wpIn_seq_k fun K12 hK12 => ?_
  refine wpIn_region_lit ?_
  refine wi_run (r := lp) (fun c e => by cases e) (w' := w10) (zb rfl) rfl F11 rfl (.bool bk) (zaa _ (.inl rfl) (F11.get (t := 5) rfl)) fun _ F13 => ?_
  clear F11
  refine wi_run (r := lp) (fun c e => by cases e) (w' := w10) (zb rfl) rfl F13 rfl (.bool bk) (zaa _ (.inl rfl) (F13.get (t := 16) rfl)) fun _ F14 => ?_
  clear F13
  cases bk
  ·refine wi_skip (r := lp) (wanted_no rfl rfl rfl (F14.get (t := 17) rfl)) rfl F14 rfl fun _ F15 => ?_
   clear F14
   refine wi_skip (r := lp) (wanted_no rfl rfl rfl (F15.get (t := 17) rfl)) rfl F15 rfl fun _ F16 => ?_
   clear F15
   refine wi_skip (r := lp) (wanted_no rfl rfl rfl (F16.get (t := 17) rfl)) rfl F16 rfl fun _ F17 => ?_
   clear F16
   refine wi_skip (r := lp) (wanted_no rfl rfl rfl (F17.get (t := 17) rfl)) rfl F17 rfl fun _ F18 => ?_
   clear F17
   refine wi_skip (r := lp) (wanted_no rfl rfl rfl (F18.get (t := 17) rfl)) rfl F18 rfl fun _ F19 => ?_
   clear F18
   refine wi_run (r := lp) (fun c e => by cases e) (w' := w10) (zb rfl) rfl F19 rfl (.bool false) (run_pick_f rfl (F19.get (t := 17) rfl) rfl) fun _ F20 => ?_
   clear F19
   refine hK12 _ _ ?_
   refine wpIn_cond_false (F20.get (t := 23) rfl) ?_
   refine wpIn_skip ?_
   have ko := others_below M10_4.below
   have hnc2 : z7a w10 lp := fun o2 ho2 => by rw [ko.same lp o hLo hoc] at ho2; cases ho2; exact hoc
   exact ⟨ko, fun o2 => ⟨hCo X (k + 1) w10 lp o2 (by omega) hnc2 (hskip X k w10 hk hbk (hCb X k Wp w10 hcp M10_4.below)), (hrp.below M10_4.below).put o2 (by omega) (by omega)⟩⟩
  ·refine wi_run (r := lp) (fun c e => by cases e) (w' := w10) (zf rfl rfl rfl (F14.get (t := 17) rfl)) rfl F14 rfl (.func (.yield l) #[] #[]) (zba _ _ rfl (F14.get (t := 2) rfl) (M10_4.roB (k := 1) rfl) rfl Tryz.underlying123 rfl) fun _ F21 => ?_
   clear F14
   refine wi_run (r := lp) (fun c e => by cases e) (w' := w10) (zf rfl rfl rfl (F21.get (t := 17) rfl)) rfl F21 rfl _ (zna _ _ rfl (F21.get (t := 3) rfl) (M10_4.roB (k := 2) rfl) (#[.int .i64 ((2 * k : Nat) : Int), .func (.func 105) #[] #[]]) (zra rfl) Tryz.underlying87 rfl (by kernel_rfl)) fun _ F22 => ?_
   clear F21
   refine wi_run (r := lp) (fun c e => by cases e) (w' := w10) (zf rfl rfl rfl (F22.get (t := 17) rfl)) rfl F22 rfl _ (zna _ _ rfl (F22.get (t := 4) rfl) (M10_4.blk (k := 4) rfl) (recA rk V10) (zra rfl) Tryz.underlying37 rfl (by kernel_rfl)) fun _ F23 => ?_
   clear F22
   refine wi_yields (r := lp) (zf rfl rfl rfl (F23.get (t := 17) rfl)) rfl F23 rfl rfl (F23.get (t := 18) rfl) #[.agg (#[.int .i64 ((2 * k : Nat) : Int), .func (.func 105) #[] #[]]), .agg (recA rk V10)] (zha (F23.get (t := 19) rfl) (F23.get (t := 20) rfl)) (hyk V10 Wp w10 hk hbk hcp M10_4.below (recv_is (M10_4.at_ 3 _ rfl)) (fun b hb => recv_lo (M10_4.at_ 3 _ rfl) hb) (hrp.below M10_4.below)) ?_ ?_
   ·intro w24 a24 re24 ko24 hc24 F24
    clear F23
    refine wi_run (r := lp) (fun c e => by cases e) (w' := w24) (zf rfl rfl rfl (F24.get (t := 17) rfl)) rfl F24 rfl (.bool false) (zub _ _ rfl (F24.get (t := 21) rfl)) fun _ F25 => ?_
    clear F24
    refine wi_run (r := lp) (fun c e => by cases e) (w' := w24) (zb rfl) rfl F25 rfl (.bool false) (zbb rfl (F25.get (t := 17) rfl) (F25.get (t := 22) rfl)) fun _ F26 => ?_
    clear F25
    refine hK12 _ _ ?_
    refine wpIn_cond_false (F26.get (t := 23) rfl) ?_
    refine wpIn_skip ?_
    have ko := (others_below M10_4.below).trans ko24
    have hnc2 : z7a w24 lp := fun o2 ho2 => by rw [ko.same lp o hLo hoc] at ho2; cases ho2; exact hoc
    exact ⟨ko, fun o2 => ⟨hCo X (k + 1) w24 lp o2 (by omega) hnc2 hc24, re24.put o2 (by omega) (by omega)⟩⟩
   ·intro w24 a24 kf24 hs24 F24
    clear F23
    refine wi_run (r := lp) (fun c e => by cases e) (w' := w24) (zf rfl rfl rfl (F24.get (t := 17) rfl)) rfl F24 rfl (.bool true) (zub _ _ rfl (F24.get (t := 21) rfl)) fun _ F27 => ?_
    clear F24
    refine wi_run (r := lp) (fun c e => by cases e) (w' := w24) (zb rfl) rfl F27 rfl (.bool true) (zbb rfl (F27.get (t := 17) rfl) (F27.get (t := 22) rfl)) fun _ F28 => ?_
    clear F27
    refine hK12 _ _ ?_
    refine wpIn_cond_true (F28.get (t := 23) rfl) ?_
    refine wpIn_ret ?_
    simp only [Exit.inBlock]
    have bq := M10_4.below
    have kf : KeepsFrom _ Wp w24 := (KeepsOthers.from (others_below bq) _).trans kf24
    have hnc2 : z7a w24 lp := fun o2 ho2 => by rw [kf.same lp o (by omega) hLo hoc] at ho2; cases ho2; exact hoc
    exact ⟨⟨kf.size, fun k2 o2 h2 h3 h4 => kf.same k2 o2 (by omega) h3 h4⟩, fun o2 => ⟨rfl, hSo w24 lp o2 (by omega) hnc2 hs24⟩⟩
 ·rintro l2 D2 o W a29 hD2 hL2 ⟨hc8, hr8⟩ hnc hdd F29
  have hle : w.heap.size ≤ D2 := by omega
  have hc9 := hCo X 8 W l2 o (by omega) hnc hc8
  have hr9 := hr8.put o (show l ≠ l2 by omega) (show D ≠ l2 by omega)
  have hnd : z7a (W.putObj l2 o) D2 := fun o2 h2 => by rw [hdd] at h2; cases h2; rfl
  try simp only [Exit.then, Exit.inBlock, Exit.jump]
  exact bodyM_end1 F29.defers hdd (res0 rfl) ⟨⟨_, rfl⟩, .inl ⟨hr9.put _ (by omega) (by omega), _, hCo X 8 _ D2 _ hle hnd hc9⟩⟩
 ·rintro l2 D2 o c W a30 hD2 hL2 ⟨rfl, hs8⟩ hnc hdd F30
  have hle : w.heap.size ≤ D2 := by omega
  have hs9 := hSo W l2 o (by omega) hnc hs8
  have hnd : z7a (W.putObj l2 o) D2 := fun o2 h2 => by rw [hdd] at h2; cases h2; rfl
  refine wp_ret ?_
  try simp only [Exit.then, Exit.inBlock, Exit.jump]
  exact zxb F30.defers hdd (res0 rfl) ⟨⟨_, rfl⟩, .inr (hSo _ D2 _ hle hnd hs9)⟩
end Go.Proofs.YtmjbnmbobocpdaaGreat
namespace Go.Proofs.YtmjbnmbobocpdaaGreat
open Go.ChangeShapes Go.WideShapes Go.ChangeAt Go.RowKit
theorem resCC {P : Program} {fn : Func} {p q : Tmp} {ty tz : TypeId} (h : fn.results = #[.cell p ty, .cell q tz]) {a : Act} {w : World} {g g2 : Nat} {t t2 : TypeId} {c : Array Value} {x : Value} {d d2 : TypeDesc}
    (hp : a.eval (.tmp p) = .pointer (some ⟨g, 0, none⟩)) (hg : w.heap[g]? = some (.cells c t (0, 0))) (hq : a.eval (.tmp q) = .pointer (some ⟨g2, 0, none⟩)) (hg2 : w.heap[g2]? = some (.cells #[x] t2 (0, 0))) (hu : P.underlying ty = some d) (hd : yPlain d = false) (hi : (P.info? ty).map (·.size) = some c.size) (hu2 : P.underlying tz = some d2) (hd2 : yPlain d2 = true) : (results fn a.tmps).run P w = .ok (.tuple #[.agg c, x]) w := by
  have hp' : a.tmps[p]?.getD undef = .pointer (some ⟨g, 0, none⟩) := by simpa [Act.eval] using hp
  have hq' : a.tmps[q]?.getD undef = .pointer (some ⟨g2, 0, none⟩) := by simpa [Act.eval] using hq
  have hc := y_cell hg2 (k := 0) (v := x) rfl
  have h1 : (isAgg tz).run P w = .ok false w := by
    unfold isAgg
    simp only [Sem.run_bind, run_underlying hu2, Result.andThen_ok]
    cases d2 <;> first | rfl | cases hd2
  have h2 : (loadVar tz ⟨g2, 0, none⟩).run P w = .ok x w := by
    simp only [loadVar, Sem.run_bind, Result.andThen_ok, h1, Bool.false_eq_true, if_false]
    simp [hc, Result.andThen]
  cases d with
  | struct fs => simp [results, h, hp', hq', asAddr, run_loadVar_row w g t ty c (0, 0) _ hg hu rfl hi, h2]
  | array n e => simp [results, h, hp', hq', asAddr, run_loadVar_row w g t ty c (0, 0) _ hg hu rfl hi, h2]
  | _ => cases hd
noncomputable def zz (V : VltN) (nm : ByteArray) (k : Nat) : Bool := saidB V (2 * k) && decide ((zja V (2 * k)).s.toList = nm.toList)
theorem namedB_no {V : VltN} {nm : ByteArray} {k : Nat} (h : saidB V (2 * k) = false) : zz V nm k = false := by unfold zz; rw [h]; rfl
theorem namedB_is {V : VltN} {nm : ByteArray} {k : Nat} (h : saidB V (2 * k) = true) {b : Bool} (hb : decide ((zja V (2 * k)).s.toList = nm.toList) = b) : zz V nm k = b := by unfold zz; rw [h, hb]; rfl
theorem accounts_ex (g : Nat) (w : World) : Calls Tryz.prog 56 #[.pointer (some ⟨g, 0, none⟩)] w fun e w' => ∃ v, e = .returned v ∧ ∃ gb, v = .func (.func 84) #[] #[.pointer (some ⟨gb, 0, none⟩)] ∧ w.heap.size ≤ gb ∧ w'.heap[gb]? = some (.cells #[.pointer (some ⟨g, 0, none⟩)] 25 (0, 0)) ∧ Below w.heap.size w w' :=
  (accounts_any g w).mono fun e w' ⟨gb, h1, h2, h3, h4⟩ => ⟨_, h1, gb, rfl, h2, h3, h4⟩
theorem find_any (g : Nat) (V : VltN) (s n : Nat → Value) (hv : zfa V) (nm : ByteArray) (w : World) (h : HasV w g V s n) :
  Calls Tryz.prog 49 #[.pointer (some ⟨g, 0, none⟩), .string nm] w fun e w' => ∃ t, e = .returned t ∧ ((∃ k, k < 8 ∧ fst8 (zz V nm) = k ∧ t = .tuple #[.agg #[.int .i64 ((2 * k : Nat) : Int), .func (.func 105) #[] #[]], .bool true]) ∨ (fst8 (zz V nm) = 8 ∧ t = .tuple #[.agg #[.int .i64 0, .nilFunc], .bool false])) ∧ Below w.heap.size w w' := by
 refine calls_fxM (args := [.pointer (some ⟨g, 0, none⟩), .string nm]) 18 Tryz.func49 rfl rfl rfl ?_
 intro fa F
 have M := Mx.start w
 refine zS fun _ hK1 => ?_
 refine zR ?_
 refine zh (zb rfl) rfl F rfl M 0 (t := 9) (c := #[.string nm]) (by unfold execOp; simp only [(F.get (t := 1) rfl)]; kernel_rfl) ?_
 intro g2 a2 w2 F2 M2
 clear F M
 refine zh (zb rfl) rfl F2 rfl M2 1 (t := 87) (c := #[.int .i64 0, .nilFunc]) (by unfold execOp; kernel_rfl) ?_
 intro g3 a3 w3 F3 M3
 clear F2 M2
 refine zh (zb rfl) rfl F3 rfl M3 2 (t := 4) (c := #[.bool false]) (by unfold execOp; kernel_rfl) ?_
 intro g4 a4 w4 F4 M4
 clear F3 M3
 refine hK1 _ _ ?_
 refine zS fun _ hK5 => ?_
 refine zS fun _ hK6 => ?_
 refine zR ?_
 refine rm rfl F4 fun _ F7 => ?_
 refine zg (zb rfl) rfl F7 rfl rfl (zE Tryz.func56 rfl) #[.pointer (some ⟨g, 0, none⟩)] (zx (F7.get (t := 8) rfl)) (accounts_ex g w4) ?_
 rintro _ w8 a8 ⟨g8, rfl, hg8, hc8, b8⟩ F8
 have M8 := M4.newb b8 3 hg8 hc8
 clear M4 hg8 hc8 b8
 refine hK6 _ _ ?_
 refine wp_block ?_
 refine range_fx4 F8 (gf := 84) (lb := #[.pointer (some ⟨g8, 0, none⟩)]) (F8.get (t := 9) rfl) (zE Tryz.func84 rfl) rfl rfl (α := Nat × RecV × Res) (fun x => .agg #[.int .i64 ((2 * x.1 : Nat) : Int), .func (.func 105) #[] #[]]) (fun x => .agg (recA (zja V (2 * x.1)) x.2.1))
  (fun x W => (x.1 < 8 ∧ saidB V (2 * x.1) = true) ∧ (∀ W, Res.F x.2.2 W → z1b W x.2.2) ∧ (fst8 (zz V nm) = fstN (zz V nm) (8 - x.1) x.1) ∧ Mx none w W [(4, z9a w.heap.size (zja V (2 * x.1)) (.agg (recA (zja V (2 * x.1)) x.2.1))), (5, x.2.2), (0, blkR g2 9 (#[.string nm])), (1, blkR g3 87 (#[.int .i64 0, .nilFunc])), (2, blkR g4 4 (#[.bool false])), (3, blkR g8 25 (#[.pointer (some ⟨g, 0, none⟩)]))]) (fun x W => ((∀ W, Res.F x.2.2 W → z1b W x.2.2) ∧ (fst8 (zz V nm) = fstN (zz V nm) (8 - (x.1 + 1)) (x.1 + 1)) ∧ Mx none w W [(5, x.2.2), (0, blkR g2 9 (#[.string nm])), (1, blkR g3 87 (#[.int .i64 0, .nilFunc])), (2, blkR g4 4 (#[.bool false])), (3, blkR g8 25 (#[.pointer (some ⟨g, 0, none⟩)]))])) (fun c W => c = .ret ∧ ∃ k, (k < 8 ∧ (fst8 (zz V nm) = k)) ∧ Mx none w W [(1, blkR g3 87 (#[.int .i64 ((2 * k : Nat) : Int), .func (.func 105) #[] #[]])), (2, blkR g4 4 (#[.bool true]))]) (fun W => ∃ X, ((∀ W, Res.F X W → z1b W X) ∧ (fst8 (zz V nm) = fstN (zz V nm) (8 - 8) 8) ∧ Mx none w W [(5, X), (0, blkR g2 9 (#[.string nm])), (1, blkR g3 87 (#[.int .i64 0, .nilFunc])), (2, blkR g4 4 (#[.bool false])), (3, blkR g8 25 (#[.pointer (some ⟨g, 0, none⟩)]))])) ?_ ?_ ?_ ?_
 ·intro l D o1 o2 W1 hD hL bW hrec hY
  have M1 := M8.step bW
  have hlW := heap_ltO hrec.1
  have hle1 := M1.le
  refine accounts1_any g g8 V s n hv (fun X k W => ((∀ W, Res.F X W → z1b W X) ∧ (fst8 (zz V nm) = fstN (zz V nm) (8 - k) k) ∧ Mx none w W [(5, X), (0, blkR g2 9 (#[.string nm])), (1, blkR g3 87 (#[.int .i64 0, .nilFunc])), (2, blkR g4 4 (#[.bool false])), (3, blkR g8 25 (#[.pointer (some ⟨g, 0, none⟩)]))])) _ l D o1 o2 W1 ?_ ?_ ?_ ?_ ?_ ?_ ?_ ?_ ?_ hrec
  ·rintro X k W ⟨hXc, hi, M⟩
   exact ⟨h.step M.below, M.blk (k := 3) rfl⟩
  ·rintro X k W ⟨hXc, hi, M⟩
   exact M.at_ 5 _ rfl
  ·rintro X k W W' ⟨hXc, hi, M⟩ hb hx hd hf hXc2
   exact ⟨hXc2, hi, (M.fresh hb 5 X hx hd hf).sub ⟨rfl, rfl, rfl, rfl, rfl, trivial⟩⟩
  ·rintro X k W W' ⟨hXc, hi, M⟩ hb
   exact ⟨hXc, hi, M.step hb⟩
  ·rintro X k W l' o hl hnc ⟨hXc, hi, M⟩
   exact ⟨hXc, hi, M.putObj ⟨hXc _ (M.at_ 5 _ rfl), ze (M.at_ 0 _ rfl), ze (M.at_ 1 _ rfl), ze (M.at_ 2 _ rfl), ze (M.at_ 3 _ rfl), trivial⟩ (by omega) hnc o⟩
  ·rintro W l' o hl hnc hS
   refine hS.put (by omega) (by omega) ?_
   rintro c ⟨hc, k, hk, M⟩
   exact ⟨hc, k, hk, M.putObj ⟨ze (M.at_ 1 _ rfl), ze (M.at_ 2 _ rfl), trivial⟩ (by omega) hnc o⟩
  ·rintro X k W hk hs ⟨hXc, hi, M⟩
   exact ⟨hXc, (fst_next hk (namedB_no hs) hi), M.sub ⟨rfl, rfl, rfl, rfl, rfl, trivial⟩⟩
  ·rintro X k V' W W' hk hs ⟨hXc, hi, M⟩ hb hr hlo hre
   exact hY (k, V', X) W' ⟨⟨hk, hs⟩, hXc, hi, M.newRecv hb hr hlo 4⟩ hre
  ·exact ⟨fun W _ g hg => hg.elim, rfl, (M1.triv 5).sub ⟨rfl, rfl, rfl, rfl, rfl, trivial⟩⟩
 ·rintro l ⟨k, V', X⟩ W ra F9 hlo hlt ⟨⟨hk, hs⟩, hXc, hi, M9⟩
  replace F9 : Fx 18 ra _ := F9
  dsimp only at hk hs hi M9 F9 ⊢
  have hwle := M8.le
  obtain ⟨rk, hrk⟩ : ∃ x, zja V (2 * k) = x := ⟨_, rfl⟩
  rw [hrk] at M9 F9
  clear F8 M8
  have CM : CellsA _ _ := (show CellsA W [(4, z9a w.heap.size rk (.agg (recA rk V'))), (5, X), (0, blkR g2 9 (#[.string nm])), (1, blkR g3 87 (#[.int .i64 0, .nilFunc])), (2, blkR g4 4 (#[.bool false])), (3, blkR g8 25 (#[.pointer (some ⟨g, 0, none⟩)]))] from ⟨z6a (M9.at_ 4 _ rfl), hXc _ (M9.at_ 5 _ rfl), ze (M9.at_ 0 _ rfl), ze (M9.at_ 1 _ rfl), ze (M9.at_ 2 _ rfl), ze (M9.at_ 3 _ rfl), trivial⟩)
  replace M9 : Mx none w W [(4, z9a w.heap.size rk (.agg (recA rk V'))), (5, X), (0, blkR g2 9 (#[.string nm])), (1, blkR g3 87 (#[.int .i64 0, .nilFunc])), (2, blkR g4 4 (#[.bool false])), (3, blkR g8 25 (#[.pointer (some ⟨g, 0, none⟩)]))] := M9
  have N9 := M9.oth CM 8
  clear CM M9
  obtain ⟨be, hbe⟩ : ∃ x, decide (rk.s.toList = nm.toList) = x := ⟨_, rfl⟩
  have hpk : zz V nm k = be := namedB_is hs (by rw [hrk]; exact hbe)
  refine wpIn_seq_k fun K10 hK10 => ?_
  refine wpIn_lit' (fun ⟨_, _, h⟩ => h) rfl ?_
  refine zh (zb rfl) rfl F9 rfl N9 9 (t := 87) (c := #[.int .i64 0, .nilFunc]) (by unfold execOp; kernel_rfl) ?_
  intro g11 a11 w11 F11 M11
  clear F9 N9
  refine zm (zb rfl) rfl F11 M11 (k := 9) rfl _ _ _ rfl (F11.get (t := 6) rfl) (F11.get (t := 10) rfl) (#[.int .i64 ((2 * k : Nat) : Int), .func (.func 105) #[] #[]]) _ rfl (zL rfl) (by first | rfl | simp [Value.oneCell']) (zn rfl) (by kernel_rfl) ?_
  intro w12 M12
  clear M11
  refine hK10 _ _ ?_
  refine wpIn_lit' (fun ⟨_, _, h⟩ => h) rfl ?_
  refine zh (zb rfl) rfl F11 rfl M12 10 (t := 37) (c := recA ⟨0, "".toUTF8, [], 0, 0, [], 0, 0, 0⟩ ⟨zN, zN⟩) (by unfold execOp; kernel_rfl) ?_
  intro g13 a13 w13 F13 M13
  clear F11 M12
  refine zm (zb rfl) rfl F13 M13 (k := 10) rfl _ _ _ rfl (F13.get (t := 7) rfl) (F13.get (t := 11) rfl) (recA rk V') _ rfl (zL rfl) (zta (recv_is (M13.at_ 4 _ rfl))) (zn rfl) (by kernel_rfl) ?_
  intro w14 M14
  clear M13
  refine ⟨M14.keeps (i := 8) rfl, fun o hnc hoc => ?_⟩
  have hlz : l < w14.heap.size := Nat.lt_of_lt_of_le hlt (M14.keeps (i := 8) rfl).size
  have M15 : Mx none w w14 [(4, z9a w.heap.size rk (.agg (recA rk V'))), (5, X), (0, blkR g2 9 (#[.string nm])), (1, blkR g3 87 (#[.int .i64 0, .nilFunc])), (2, blkR g4 4 (#[.bool false])), (3, blkR g8 25 (#[.pointer (some ⟨g, 0, none⟩)])), (9, blkR g11 87 (#[.int .i64 ((2 * k : Nat) : Int), .func (.func 105) #[] #[]])), (10, blkR g13 37 (recA rk V'))] := M14.sub ⟨rfl, rfl, rfl, rfl, rfl, rfl, rfl, rfl, trivial⟩
  clear M14
  have CM : CellsA _ _ := (show CellsA w14 [(4, z9a w.heap.size rk (.agg (recA rk V'))), (5, X), (0, blkR g2 9 (#[.string nm])), (1, blkR g3 87 (#[.int .i64 0, .nilFunc])), (2, blkR g4 4 (#[.bool false])), (3, blkR g8 25 (#[.pointer (some ⟨g, 0, none⟩)])), (9, blkR g11 87 (#[.int .i64 ((2 * k : Nat) : Int), .func (.func 105) #[] #[]])), (10, blkR g13 37 (recA rk V'))] from ⟨z6a (M15.at_ 4 _ rfl), hXc _ (M15.at_ 5 _ rfl), ze (M15.at_ 0 _ rfl), ze (M15.at_ 1 _ rfl), ze (M15.at_ 2 _ rfl), ze (M15.at_ 3 _ rfl), ze (M15.at_ 9 _ rfl), ze (M15.at_ 10 _ rfl), trivial⟩)
  have N15 := M15.putObj CM (by omega) hnc o
  have hLo : (w14.putObj l o).heap[l]? = some o := World.putObj_heap_same hlz
  clear CM M15
  obtain ⟨Wp, hWp⟩ : ∃ x, x = w14.putObj l o := ⟨_, rfl⟩
  rw [← hWp] at N15 hLo ⊢
  have CM : CellsA _ _ := (show CellsA Wp [(4, z9a w.heap.size rk (.agg (recA rk V'))), (5, X), (0, blkR g2 9 (#[.string nm])), (1, blkR g3 87 (#[.int .i64 0, .nilFunc])), (2, blkR g4 4 (#[.bool false])), (3, blkR g8 25 (#[.pointer (some ⟨g, 0, none⟩)])), (9, blkR g11 87 (#[.int .i64 ((2 * k : Nat) : Int), .func (.func 105) #[] #[]])), (10, blkR g13 37 (recA rk V'))] from ⟨z6a (N15.at_ 4 _ rfl), hXc _ (N15.at_ 5 _ rfl), ze (N15.at_ 0 _ rfl), ze (N15.at_ 1 _ rfl), ze (N15.at_ 2 _ rfl), ze (N15.at_ 3 _ rfl), ze (N15.at_ 9 _ rfl), ze (N15.at_ 10 _ rfl), trivial⟩)
  have P15 := N15.oth CM 6
  clear CM N15
  refine wpIn_block ?_
  refine wpIn_seq_k fun K16 hK16 => ?_
  refine wpIn_lit' (fun ⟨_, _, h⟩ => h) rfl ?_
  refine zA 3 [(12, .pointer (some ⟨g13, 1, none⟩)), (13, .string rk.s), (14, .string nm)] [0, 1] (zt (P15.blk (k := 10) rfl) (zt (P15.blk (k := 0) rfl) dnil)) [g13, g2] F13 fun _ F17 => ?_
  clear F13
  refine zc (w' := Wp) (zb rfl) rfl F17 rfl (.bool be) (y_eqS _ _ _ rfl (F17.get (t := 13) rfl) (F17.get (t := 14) rfl) hbe) fun _ F18 => ?_
  clear F17
  refine hK16 _ _ ?_
  cases be
  ·refine wpIn_cond_false (F18.get (t := 15) rfl) ?_
   refine wpIn_skip ?_
   have KO := P15.keeps (i := 6) rfl
   have Me : Mx none w Wp [(5, X), (0, blkR g2 9 (#[.string nm])), (1, blkR g3 87 (#[.int .i64 0, .nilFunc])), (2, blkR g4 4 (#[.bool false])), (3, blkR g8 25 (#[.pointer (some ⟨g, 0, none⟩)]))] := P15.sub ⟨rfl, rfl, rfl, rfl, rfl, trivial⟩
   have CM : CellsA _ _ := (show CellsA Wp [(5, X), (0, blkR g2 9 (#[.string nm])), (1, blkR g3 87 (#[.int .i64 0, .nilFunc])), (2, blkR g4 4 (#[.bool false])), (3, blkR g8 25 (#[.pointer (some ⟨g, 0, none⟩)]))] from ⟨hXc _ (Me.at_ 5 _ rfl), ze (Me.at_ 0 _ rfl), ze (Me.at_ 1 _ rfl), ze (Me.at_ 2 _ rfl), ze (Me.at_ 3 _ rfl), trivial⟩)
   exact ⟨KO, fun o2 => ⟨hXc, (fst_next hk hpk hi), Me.putObj CM (by omega) (fun o3 h3 => by rw [KO.same l o hLo hoc] at h3; cases h3; exact hoc) o2⟩⟩
  ·refine wpIn_cond_true (F18.get (t := 15) rfl) ?_
   refine wpIn_seq_k fun K20 hK20 => ?_
   refine wpIn_lit' (fun ⟨_, _, h⟩ => h) rfl ?_
   refine zc (w' := Wp) (zb rfl) rfl F18 rfl _ (zna _ _ rfl (F18.get (t := 6) rfl) (P15.blk (k := 9) rfl) (#[.int .i64 ((2 * k : Nat) : Int), .func (.func 105) #[] #[]]) (zra rfl) Tryz.underlying87 rfl (by kernel_rfl)) fun _ F21 => ?_
   clear F18
   refine zm (zb rfl) rfl F21 P15 (k := 1) rfl _ _ _ rfl (F21.get (t := 4) rfl) (F21.get (t := 16) rfl) (#[.int .i64 ((2 * k : Nat) : Int), .func (.func 105) #[] #[]]) _ rfl (zL rfl) (by first | rfl | simp [Value.oneCell']) (zn rfl) (by kernel_rfl) ?_
   intro w22 M22
   clear P15
   refine zm (zb rfl) rfl F21 M22 (k := 2) rfl _ _ _ rfl (F21.get (t := 5) rfl) rfl (#[.bool true]) _ rfl (zL rfl) (by simp [Value.oneCell']) (zn rfl) (by kernel_rfl) ?_
   intro w23 M23
   clear M22
   refine hK20 _ _ ?_
   refine wpIn_ret ?_
   simp only [Exit.inBlock]
   subst hrk
   have KO := M23.keeps (i := 6) rfl
   have Me : Mx none w w23 [(1, blkR g3 87 (#[.int .i64 ((2 * k : Nat) : Int), .func (.func 105) #[] #[]])), (2, blkR g4 4 (#[.bool true]))] := M23.sub ⟨rfl, rfl, trivial⟩
   have CM : CellsA _ _ := (show CellsA w23 [(1, blkR g3 87 (#[.int .i64 ((2 * k : Nat) : Int), .func (.func 105) #[] #[]])), (2, blkR g4 4 (#[.bool true]))] from ⟨ze (Me.at_ 1 _ rfl), ze (Me.at_ 2 _ rfl), trivial⟩)
   exact ⟨KO.from _, fun o2 => ⟨rfl, k, ⟨hk, (fst_here hk hpk hi)⟩, Me.putObj CM (by omega) (fun o3 h3 => by rw [KO.same l o hLo hoc] at h3; cases h3; exact hoc) o2⟩⟩
 ·rintro l D o W a24 hD hL ⟨X, hXc, hi, M24⟩ hnc hdd F24
  replace M24 : Mx none w W [(0, blkR g2 9 (#[.string nm])), (1, blkR g3 87 (#[.int .i64 0, .nilFunc])), (2, blkR g4 4 (#[.bool false])), (3, blkR g8 25 (#[.pointer (some ⟨g, 0, none⟩)]))] := M24.sub ⟨rfl, rfl, rfl, rfl, trivial⟩
  have hwle := M8.le
  have CM : CellsA W [(0, blkR g2 9 (#[.string nm])), (1, blkR g3 87 (#[.int .i64 0, .nilFunc])), (2, blkR g4 4 (#[.bool false])), (3, blkR g8 25 (#[.pointer (some ⟨g, 0, none⟩)]))] := ⟨ze (M24.at_ 0 _ rfl), ze (M24.at_ 1 _ rfl), ze (M24.at_ 2 _ rfl), ze (M24.at_ 3 _ rfl), trivial⟩
  replace M24 := M24.putObj CM (by omega) hnc o
  clear CM
  have CM : CellsA (W.putObj l o) [(0, blkR g2 9 (#[.string nm])), (1, blkR g3 87 (#[.int .i64 0, .nilFunc])), (2, blkR g4 4 (#[.bool false])), (3, blkR g8 25 (#[.pointer (some ⟨g, 0, none⟩)]))] := ⟨ze (M24.at_ 0 _ rfl), ze (M24.at_ 1 _ rfl), ze (M24.at_ 2 _ rfl), ze (M24.at_ 3 _ rfl), trivial⟩
  replace M24 := M24.obj CM 7 D _ hdd rfl
  clear CM
  have hDge : w.heap.size ≤ D := by omega
  clear hdd hnc hL hD
  obtain ⟨w24, hw24⟩ : ∃ x, x = W.putObj l o := ⟨_, rfl⟩
  rw [← hw24] at M24 ⊢
  clear hw24 F8 M8
  refine hK5 _ _ ?_
  refine zS fun _ hK25 => ?_
  refine zR ?_
  refine zc (w' := w24) (zb rfl) rfl F24 rfl (.agg (#[.int .i64 0, .nilFunc])) (by unfold execOp; kernel_rfl) fun _ F26 => ?_
  clear F24
  refine zm (zb rfl) rfl F26 M24 (k := 1) rfl _ _ _ rfl (F26.get (t := 4) rfl) (F26.get (t := 17) rfl) (#[.int .i64 0, .nilFunc]) _ rfl (zL rfl) (by first | rfl | simp [Value.oneCell']) (zn rfl) (by kernel_rfl) ?_
  intro w27 M27
  clear M24
  refine zm (zb rfl) rfl F26 M27 (k := 2) rfl _ _ _ rfl (F26.get (t := 5) rfl) rfl (#[.bool false]) _ rfl (zL rfl) (by simp [Value.oneCell']) (zn rfl) (by kernel_rfl) ?_
  intro w28 M28
  clear M27
  refine hK25 _ _ ?_
  refine wp_ret ?_
  try simp only [Exit.then, Exit.inBlock, Exit.jump]
  have hDD := M28.anObj (i := 7) rfl
  have M9 : Mx none w w28 [(0, blkR g2 9 (#[.string nm])), (1, blkR g3 87 (#[.int .i64 0, .nilFunc])), (2, blkR g4 4 (#[.bool false])), (3, blkR g8 25 (#[.pointer (some ⟨g, 0, none⟩)]))] := M28.sub ⟨rfl, rfl, rfl, rfl, trivial⟩
  have Mz := M9.putObj (show CellsA w28 [(0, blkR g2 9 (#[.string nm])), (1, blkR g3 87 (#[.int .i64 0, .nilFunc])), (2, blkR g4 4 (#[.bool false])), (3, blkR g8 25 (#[.pointer (some ⟨g, 0, none⟩)]))] from ⟨ze (M9.at_ 0 _ rfl), ze (M9.at_ 1 _ rfl), ze (M9.at_ 2 _ rfl), ze (M9.at_ 3 _ rfl), trivial⟩) hDge (fun o3 h3 => by rw [hDD] at h3; cases h3; rfl) (.deferred none)
  exact zxb F26.defers hDD (resCC rfl (F26.get (t := 4) rfl) (Mz.blk (k := 1) rfl) (F26.get (t := 5) rfl) (Mz.blk (k := 2) rfl) Tryz.underlying87 rfl (by kernel_rfl) Tryz.underlying4 rfl) ⟨_, rfl, .inr ⟨hi, rfl⟩, Mz.below⟩
 ·rintro l D o c W a29 hD hL ⟨rfl, k, ⟨hk, hi⟩, M29⟩ hnc hdd F29
  have hwle := M8.le
  have CM : CellsA W [(1, blkR g3 87 (#[.int .i64 ((2 * k : Nat) : Int), .func (.func 105) #[] #[]])), (2, blkR g4 4 (#[.bool true]))] := ⟨ze (M29.at_ 1 _ rfl), ze (M29.at_ 2 _ rfl), trivial⟩
  replace M29 := M29.putObj CM (by omega) hnc o
  clear CM
  have CM : CellsA (W.putObj l o) [(1, blkR g3 87 (#[.int .i64 ((2 * k : Nat) : Int), .func (.func 105) #[] #[]])), (2, blkR g4 4 (#[.bool true]))] := ⟨ze (M29.at_ 1 _ rfl), ze (M29.at_ 2 _ rfl), trivial⟩
  replace M29 := M29.obj CM 7 D _ hdd rfl
  clear CM
  have hDge : w.heap.size ≤ D := by omega
  clear hdd hnc hL hD
  obtain ⟨w29, hw29⟩ : ∃ x, x = W.putObj l o := ⟨_, rfl⟩
  rw [← hw29] at M29 ⊢
  clear hw29 F8 M8
  refine wp_ret ?_
  try simp only [Exit.then, Exit.inBlock, Exit.jump]
  have hDD := M29.anObj (i := 7) rfl
  have M9 : Mx none w w29 [(1, blkR g3 87 (#[.int .i64 ((2 * k : Nat) : Int), .func (.func 105) #[] #[]])), (2, blkR g4 4 (#[.bool true]))] := M29.sub ⟨rfl, rfl, trivial⟩
  have Mz := M9.putObj (show CellsA w29 [(1, blkR g3 87 (#[.int .i64 ((2 * k : Nat) : Int), .func (.func 105) #[] #[]])), (2, blkR g4 4 (#[.bool true]))] from ⟨ze (M9.at_ 1 _ rfl), ze (M9.at_ 2 _ rfl), trivial⟩) hDge (fun o3 h3 => by rw [hDD] at h3; cases h3; rfl) (.deferred none)
  exact zxb F29.defers hDD (resCC rfl (F29.get (t := 4) rfl) (Mz.blk (k := 1) rfl) (F29.get (t := 5) rfl) (Mz.blk (k := 2) rfl) Tryz.underlying87 rfl (by kernel_rfl) Tryz.underlying4 rfl) ⟨_, rfl, .inl ⟨k, hk, hi, rfl⟩, Mz.below⟩
end Go.Proofs.YtmjbnmbobocpdaaGreat
