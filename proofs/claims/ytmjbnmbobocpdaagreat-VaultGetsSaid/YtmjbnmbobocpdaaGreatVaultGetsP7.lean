/- What VaultGets stands on, part 7. -/
import Derived.Deep.CutRange
import Derived.Deep.AppendSrc
import Derived.Test.YtmjbnmbobocpdaaGreatVaultGetsP1
import Derived.Test.YtmjbnmbobocpdaaGreatVaultGetsP2
import Derived.Test.YtmjbnmbobocpdaaGreatVaultGetsP3
import Derived.Test.YtmjbnmbobocpdaaGreatVaultGetsP4
import Derived.Test.YtmjbnmbobocpdaaGreatVaultGetsP5
import Derived.Test.YtmjbnmbobocpdaaGreatVaultGetsP6
set_option maxRecDepth 100000
set_option maxHeartbeats 8000000
set_option linter.unusedVariables false
set_option linter.unusedSimpArgs false
namespace Go.Proofs.YtmjbnmbobocpdaaGreat
open Go.ChangeShapes Go.WideShapes Go.ChangeAt Go.RowKit
def aggC : Value → Array Value
  | .agg c => c
  | _ => #[]
theorem Mx.ptrV {G : Option Nat} {w0 w : World} {R : List (Nat × Res)} (M : Mx G w0 w R) {k g : Nat} {t : TypeId} {c : Array Value} {v : Value} (hk : look R k = some (ptrR t c v)) (hv : v = .pointer (some ⟨g, 0, none⟩)) : Mx G w0 w ((k, blkR g t c) :: R) := by
  subst hv; exact M.ptr hk
theorem Mx.toPtr {G : Option Nat} {w0 w : World} {R : List (Nat × Res)} (M : Mx G w0 w R) {k g : Nat} {t : TypeId} {c c' : Array Value} {v : Value} (hk : look R k = some (blkR g t c)) (hv : v = .pointer (some ⟨g, 0, none⟩)) (hc : c' = c) : Mx G w0 w ((k, ptrR t c' v) :: R) := by
  subst hv hc
  have h := M.at_ k _ hk
  exact M.cons k _ ⟨g, rfl, h⟩ ptrR_dep (fun b hb => by cases hb; exact zxa h) (fun _ b hb => M.own k _ hk rfl b (by cases hb; rfl)) fun j s e hj _ b hb => M.dis k j _ s hk e hj rfl b (by cases hb; rfl)
theorem Mx.toB {G : Option Nat} {w0 w : World} {R : List (Nat × Res)} (M : Mx G w0 w R) {k g : Nat} {t : TypeId} {c c2 : Array Value} (hk : look R k = some (blkR g t c)) (hc : c2 = c) : Mx G w0 w ((k, blkR g t c2) :: R) := by
  subst hc
  have h := M.at_ k _ hk
  exact M.cons k _ h blkR_dep (fun b hb => by cases hb; exact zxa h) (fun _ b hb => M.own k _ hk rfl b hb) fun j s e hj _ b hb => M.dis k j _ s hk e hj rfl b hb
theorem good_ge {p : Nat} {b : List UInt8} (h : zpb zj p b = true) : 25 ≤ b.length := by
  unfold zpb at h
  simp only [Bool.and_eq_true, decide_eq_true_eq] at h
  exact h.1
theorem sec_eq {V : VltN} {q : Nat} {b1 b2 : Bool} (h1 : zpb zj q (V.c q).s = b1) (h2 : zpb zj (q + 1) (V.c (q + 1)).s = b2) : secB zj V q = (b2 && (!b1 || decide (entT (V.c q).s < entT (V.c (q + 1)).s))) := by
  unfold secB
  rw [h1, h2]
  cases b2 with
  | false => rfl
  | true =>
    cases b1 with
    | false => rfl
    | true => rw [show entT (V.c q).s = turnL (V.c q).s from if_pos (good_ge h1), show entT (V.c (q + 1)).s = turnL (V.c (q + 1)).s from if_pos (good_ge h2)]
def cntP (V : VltN) (q : Nat) : Nat := if secB zj V q = true then entP (q + 1) (V.c (q + 1)).s else entP q (V.c q).s
def cntT (V : VltN) (q : Nat) : Int := if secB zj V q = true then entT (V.c (q + 1)).s else entT (V.c q).s
def cntS (V : VltN) (q : Nat) : List UInt8 := if secB zj V q = true then entS (V.c (q + 1)).s else entS (V.c q).s
theorem countsR (q : Nat) (hq : q + 1 < 18) (g : Nat) (V : VltN) (s n : Nat → Value) (hv : zfa V) (w : World) (h : HasV w g V s n) :
  Calls Tryz.prog 106 #[.agg #[.int .i64 (q : Int), .func (.func 105) #[] #[]], .pointer (some ⟨g, 0, none⟩)] w fun e w' => ∃ S, e = .returned (.tuple #[.agg #[.int .i64 (cntP V q : Int), .int .i64 (cntT V q), S], .bool (anyB zj V q)]) ∧ IsB w (cntS V q) S ∧ (∀ b, bfp S b → bfp (s q) b ∨ bfp (s (q + 1)) b) ∧ Below w.heap.size w w' := by
 obtain ⟨b1, hb1⟩ : ∃ x, zpb zj q (V.c q).s = x := ⟨_, rfl⟩
 obtain ⟨b2, hb2⟩ : ∃ x, zpb zj (q + 1) (V.c (q + 1)).s = x := ⟨_, rfl⟩
 have hs1 := h.hs q (by omega)
 have hs2 := h.hs (q + 1) hq
 refine zi (args := [.agg (#[.int .i64 (q : Int), .func (.func 105) #[] #[]]), .pointer (some ⟨g, 0, none⟩)]) 55 Tryz.func106 rfl rfl rfl ?_
 intro fa F
 have M := Mx.start w
 replace M := M.argO 0 h.blk (fun b e => by cases e)
 refine zS fun _ hK1 => ?_
 refine zR ?_
 refine zh (zb rfl) rfl F rfl M 1 (t := 87) (c := #[.int .i64 (q : Int), .func (.func 105) #[] #[]]) (by unfold execOp; simp only [(F.get (t := 0) rfl)]; kernel_rfl) ?_
 intro g2 a2 w2 F2 M2
 clear F M
 refine zh (zb rfl) rfl F2 rfl M2 2 (t := 128) (c := #[.int .i64 0, .int .i64 0, zN]) (by unfold execOp; kernel_rfl) ?_
 intro g3 a3 w3 F3 M3
 clear F2 M2
 refine rm rfl F3 fun _ F4 => ?_
 refine hK1 _ _ ?_
 refine zS fun _ hK5 => ?_
 refine zsa F4 [fun vE => vE = .pointer (some ⟨g2, 0, none⟩), fun vE => vE = .int .i64 (q : Int), fun vE => vE = .pointer (some ⟨g, 0, none⟩), fun vE => vE = .pointer (some ⟨g2, 0, none⟩), fun vE => vE = .int .i64 (q : Int), fun vE => vE = .pointer (some ⟨g, 0, none⟩), fun vE => vE = .pointer (some ⟨g, 0, none⟩), fun vE => vE = .pointer (some ⟨g, 3 * q, none⟩), fun vE => vE = .pointer (some ⟨g, 3 * q, none⟩), fun vE => vE = (s q), fun vE => ∃ S_, vE = .tuple #[.agg #[.int .i64 (entP q ((V.c q).s) : Int), .int .i64 (entT ((V.c q).s)), S_], .bool b1] ∧ IsB w (entS ((V.c q).s)) S_ ∧ ∀ g, bfp S_ g → bfp (s q) g, fun vE => ∃ S_, vE = .tuple #[.agg #[.int .i64 (entP q ((V.c q).s) : Int), .int .i64 (entT ((V.c q).s)), S_], .bool b1] ∧ IsB w (entS ((V.c q).s)) S_ ∧ ∀ g, bfp S_ g → bfp (s q) g, fun vE => ∃ S_, vE = .agg #[.int .i64 (entP q ((V.c q).s) : Int), .int .i64 (entT ((V.c q).s)), S_] ∧ IsB w (entS ((V.c q).s)) S_ ∧ ∀ g, bfp S_ g → bfp (s q) g, fun vE => vE = .bool b1, fun vE => ∃ g, vE = .pointer (some ⟨g, 0, none⟩), fun vE => vE = undef] (JM none w fun SV pV => [(0, blkO g 80 (vltA V s n)), (1, blkR g2 87 (#[.int .i64 (q : Int), .func (.func 105) #[] #[]])), (2, blkR g3 128 (#[.int .i64 0, .int .i64 0, zN])), (3, zeb (SV 15) (ptrR 128 (aggC (pV 12)) (pV 14)) (zya (SV 14) (ptrR 128 (#[.int .i64 0, .int .i64 0, zN]) (pV 14))))]) 16 rfl (by kernel_rfl) rfl ⟨trivial, trivial, trivial, trivial, trivial, trivial, trivial, trivial, trivial, trivial, trivial, trivial, trivial, trivial, trivial, fun _ => Iff.rfl, trivial⟩ (fun p => ((M3.step (zga _)).triv 3).sub ⟨rfl, rfl, rfl, rfl, trivial⟩) ⟨?_, ?_, ?_, ?_, ?_, ?_, ?_, ?_, ?_, ?_, ?_, ?_, ?_, ?_, ?_, ?_, trivial⟩ ?_
 ·intro ua uw SV pV M0 hk hn hd
  have M : Mx none w uw _ := M0
  clear M0
  have e2 : ua.eval (.tmp 2) = .pointer (some ⟨g2, 0, none⟩) := (show ua.eval (.tmp 2) = _ from hd 2 (by decide)).trans (F4.get (t := 2) rfl)
  exact zd (zb rfl) (.pointer (some ⟨g2, 0, none⟩)) (y_fa (off := 0) rfl e2 (by kernel_rfl) rfl) rfl (M.sub ⟨rfl, rfl, rfl, rfl, trivial⟩)
 ·intro ua uw SV pV M0 hk hn hd
  have M : Mx none w uw _ := M0
  clear M0
  obtain ⟨s0, f11, q11⟩ := (show SV 0 = true ∧ ua.eval (.tmp 11) = pV 0 ∧ stE _ 0 (pV 0) from hd 11 (by decide))
  have e11 : ua.eval (.tmp 11) = .pointer (some ⟨g2, 0, none⟩) := f11.trans q11
  exact zd (zb rfl) (.int .i64 (q : Int)) (zba _ _ rfl e11 (M.blk (k := 1) rfl) rfl Tryz.underlying3 rfl) rfl (M.sub ⟨rfl, rfl, rfl, rfl, trivial⟩)
 ·intro ua uw SV pV M0 hk hn hd
  have M : Mx none w uw _ := M0
  clear M0
  have e1 : ua.eval (.tmp 1) = .pointer (some ⟨g, 0, none⟩) := (show ua.eval (.tmp 1) = _ from hd 1 (by decide)).trans (F4.get (t := 1) rfl)
  exact zd (zb rfl) (.pointer (some ⟨g, 0, none⟩)) (zaa _ (.inl rfl) e1) rfl (M.sub ⟨rfl, rfl, rfl, rfl, trivial⟩)
 ·intro ua uw SV pV M0 hk hn hd
  have M : Mx none w uw _ := M0
  clear M0
  have e2 : ua.eval (.tmp 2) = .pointer (some ⟨g2, 0, none⟩) := (show ua.eval (.tmp 2) = _ from hd 2 (by decide)).trans (F4.get (t := 2) rfl)
  exact zd (zb rfl) (.pointer (some ⟨g2, 0, none⟩)) (y_fa (off := 0) rfl e2 (by kernel_rfl) rfl) rfl (M.sub ⟨rfl, rfl, rfl, rfl, trivial⟩)
 ·intro ua uw SV pV M0 hk hn hd
  have M : Mx none w uw _ := M0
  clear M0
  obtain ⟨s3, f14, q14⟩ := (show SV 3 = true ∧ ua.eval (.tmp 14) = pV 3 ∧ stE _ 3 (pV 3) from hd 14 (by decide))
  have e14 : ua.eval (.tmp 14) = .pointer (some ⟨g2, 0, none⟩) := f14.trans q14
  exact zd (zb rfl) (.int .i64 (q : Int)) (zba _ _ rfl e14 (M.blk (k := 1) rfl) rfl Tryz.underlying3 rfl) rfl (M.sub ⟨rfl, rfl, rfl, rfl, trivial⟩)
 ·intro ua uw SV pV M0 hk hn hd
  have M : Mx none w uw _ := M0
  clear M0
  obtain ⟨s2, f13, q13⟩ := (show SV 2 = true ∧ ua.eval (.tmp 13) = pV 2 ∧ stE _ 2 (pV 2) from hd 13 (by decide))
  have e13 : ua.eval (.tmp 13) = .pointer (some ⟨g, 0, none⟩) := f13.trans q13
  exact zd (zb rfl) (.pointer (some ⟨g, 0, none⟩)) (by unfold execOp; simp only [e13]; kernel_rfl) rfl (M.sub ⟨rfl, rfl, rfl, rfl, trivial⟩)
 ·intro ua uw SV pV M0 hk hn hd
  have M : Mx none w uw _ := M0
  clear M0
  obtain ⟨s5, f16, q16⟩ := (show SV 5 = true ∧ ua.eval (.tmp 16) = pV 5 ∧ stE _ 5 (pV 5) from hd 16 (by decide))
  have e16 : ua.eval (.tmp 16) = .pointer (some ⟨g, 0, none⟩) := f16.trans q16
  exact zd (zb rfl) (.pointer (some ⟨g, 0, none⟩)) (y_fa (off := 0) rfl e16 (by kernel_rfl) rfl) rfl (M.sub ⟨rfl, rfl, rfl, rfl, trivial⟩)
 ·intro ua uw SV pV M0 hk hn hd
  have M : Mx none w uw _ := M0
  clear M0
  obtain ⟨s6, f17, q17⟩ := (show SV 6 = true ∧ ua.eval (.tmp 17) = pV 6 ∧ stE _ 6 (pV 6) from hd 17 (by decide))
  have e17 : ua.eval (.tmp 17) = .pointer (some ⟨g, 0, none⟩) := f17.trans q17
  obtain ⟨s4, f15, q15⟩ := (show SV 4 = true ∧ ua.eval (.tmp 15) = pV 4 ∧ stE _ 4 (pV 4) from hd 15 (by decide))
  have e15 : ua.eval (.tmp 15) = .int .i64 (q : Int) := f15.trans q15
  exact zd (zb rfl) (.pointer (some ⟨g, 3 * q, none⟩)) (y_ixC3 (N := 18) 76 (by kernel_rfl) (by kernel_rfl) (by kernel_rfl) rfl e17 e15 rfl (by omega)) rfl (M.sub ⟨rfl, rfl, rfl, rfl, trivial⟩)
 ·intro ua uw SV pV M0 hk hn hd
  have M : Mx none w uw _ := M0
  clear M0
  obtain ⟨s7, f18, q18⟩ := (show SV 7 = true ∧ ua.eval (.tmp 18) = pV 7 ∧ stE _ 7 (pV 7) from hd 18 (by decide))
  have e18 : ua.eval (.tmp 18) = .pointer (some ⟨g, 3 * q, none⟩) := f18.trans q18
  exact zd (zb rfl) (.pointer (some ⟨g, 3 * q, none⟩)) (y_fa (off := 0) rfl e18 (by kernel_rfl) rfl) rfl (M.sub ⟨rfl, rfl, rfl, rfl, trivial⟩)
 ·intro ua uw SV pV M0 hk hn hd
  have M : Mx none w uw _ := M0
  clear M0
  obtain ⟨s8, f19, q19⟩ := (show SV 8 = true ∧ ua.eval (.tmp 19) = pV 8 ∧ stE _ 8 (pV 8) from hd 19 (by decide))
  have e19 : ua.eval (.tmp 19) = .pointer (some ⟨g, 3 * q, none⟩) := f19.trans q19
  exact zd (zb rfl) ((s q)) (zba _ _ rfl e19 (M.roB (k := 0) rfl) (vlt_s V s n (by omega)) Tryz.underlying23 rfl) rfl (M.sub ⟨rfl, rfl, rfl, rfl, trivial⟩)
 ·intro ua uw SV pV M0 hk hn hd
  have M : Mx none w uw _ := M0
  clear M0
  obtain ⟨s1, f12, q12⟩ := (show SV 1 = true ∧ ua.eval (.tmp 12) = pV 1 ∧ stE _ 1 (pV 1) from hd 12 (by decide))
  have e12 : ua.eval (.tmp 12) = .int .i64 (q : Int) := f12.trans q12
  obtain ⟨s9, f20, q20⟩ := (show SV 9 = true ∧ ua.eval (.tmp 20) = pV 9 ∧ stE _ 9 (pV 9) from hd 20 (by decide))
  have e20 : ua.eval (.tmp 20) = (s q) := f20.trans q20
  exact zwa (zb rfl) rfl #[.int .i64 (q : Int), (s q)] (zha e12 e20) (zE Tryz.func120 rfl) ((hb1 ▸ vgood_any q ((V.c q).s) (s q) (hv q (by omega)).1 uw (hs1.step M.below)).mono fun e w2 h => (by obtain ⟨S_, h1, h2, h4, h3⟩ := h; exact ⟨_, h1, ⟨S_, rfl, h2.back M.below (fun g hg => hs1.lt (h4 g hg)), h4⟩, (M.step h3).sub ⟨rfl, rfl, rfl, rfl, trivial⟩⟩))
 ·intro ua uw SV pV M0 hk hn hd
  have M : Mx none w uw _ := M0
  clear M0
  obtain ⟨s10, f21, q21⟩ := (show SV 10 = true ∧ ua.eval (.tmp 21) = pV 10 ∧ stE _ 10 (pV 10) from hd 21 (by decide))
  have e21 : ua.eval (.tmp 21) = (pV 10) := f21
  obtain ⟨S_, eS_, hS_⟩ := (show ∃ S_, (pV 10) = .tuple #[.agg #[.int .i64 (entP q ((V.c q).s) : Int), .int .i64 (entT ((V.c q).s)), S_], .bool b1] ∧ IsB w (entS ((V.c q).s)) S_ ∧ ∀ g, bfp S_ g → bfp (s q) g from q21)
  exact zd (zb rfl) ((pV 10)) (zaa _ (.inl rfl) e21) ⟨S_, eS_, hS_⟩ (M.sub ⟨rfl, rfl, rfl, rfl, trivial⟩)
 ·intro ua uw SV pV M0 hk hn hd
  have M : Mx none w uw _ := M0
  clear M0
  obtain ⟨s11, f10, q10⟩ := (show SV 11 = true ∧ ua.eval (.tmp 10) = pV 11 ∧ stE _ 11 (pV 11) from hd 10 (by decide))
  have e10 : ua.eval (.tmp 10) = (pV 11) := f10
  obtain ⟨S_, eS_, hS_⟩ := (show ∃ S_, (pV 11) = .tuple #[.agg #[.int .i64 (entP q ((V.c q).s) : Int), .int .i64 (entT ((V.c q).s)), S_], .bool b1] ∧ IsB w (entS ((V.c q).s)) S_ ∧ ∀ g, bfp S_ g → bfp (s q) g from q10)
  exact zd (zb rfl) _ (y_ext _ _ rfl (e10.trans eS_) rfl) ⟨S_, rfl, hS_⟩ (M.sub ⟨rfl, rfl, rfl, (eitherR_off (hn 15 (by kernel_rfl)) rfl), trivial⟩)
 ·intro ua uw SV pV M0 hk hn hd
  have M : Mx none w uw _ := M0
  clear M0
  obtain ⟨s11, f10, q10⟩ := (show SV 11 = true ∧ ua.eval (.tmp 10) = pV 11 ∧ stE _ 11 (pV 11) from hd 10 (by decide))
  have e10 : ua.eval (.tmp 10) = (pV 11) := f10
  obtain ⟨S_, eS_, hS_⟩ := (show ∃ S_, (pV 11) = .tuple #[.agg #[.int .i64 (entP q ((V.c q).s) : Int), .int .i64 (entT ((V.c q).s)), S_], .bool b1] ∧ IsB w (entS ((V.c q).s)) S_ ∧ ∀ g, bfp S_ g → bfp (s q) g from q10)
  exact zd (zb rfl) (.bool b1) (y_ext _ _ rfl (e10.trans eS_) rfl) rfl (M.sub ⟨rfl, rfl, rfl, rfl, trivial⟩)
 ·intro ua uw SV pV M0 hk hn hd
  have M : Mx none w uw _ := M0
  clear M0
  exact zd (zb rfl) _ (by unfold execOp; kernel_rfl) ⟨_, rfl⟩ ((M.allocP 3 128 (#[.int .i64 0, .int .i64 0, zN])).sub ⟨rfl, rfl, rfl, (z9b (hn 15 (by kernel_rfl)) rfl), trivial⟩)
 ·intro ua uw SV pV M0 hk hn hd
  have M : Mx none w uw _ := M0
  clear M0
  obtain ⟨s14, f6, q6⟩ := (show SV 14 = true ∧ ua.eval (.tmp 6) = pV 14 ∧ stE _ 14 (pV 14) from hd 6 (by decide))
  obtain ⟨s12, f22, q22⟩ := (show SV 12 = true ∧ ua.eval (.tmp 22) = pV 12 ∧ stE _ 12 (pV 12) from hd 22 (by decide))
  have e22 : ua.eval (.tmp 22) = (pV 12) := f22
  obtain ⟨S_, eS_, hS_⟩ := (show ∃ S_, pV 12 = .agg #[.int .i64 (entP q ((V.c q).s) : Int), .int .i64 (entT ((V.c q).s)), S_] ∧ IsB w (entS ((V.c q).s)) S_ ∧ ∀ g, bfp S_ g → bfp (s q) g from q22)
  have eA_ : aggC (pV 12) = #[.int .i64 (entP q ((V.c q).s) : Int), .int .i64 (entT ((V.c q).s)), S_] := by rw [eS_]; rfl
  obtain ⟨g_, r_⟩ := (show ∃ g, pV 14 = .pointer (some ⟨g, 0, none⟩) from q6)
  have M2 := M.ptrV (k := 3) (g := g_) (z3a s14 (zjb hk rfl)) r_
  exact hopM_doM (zb rfl) rfl (run_st M2 (k := 3) rfl _ _ _ rfl (f6.trans r_) (f22.trans eS_) (#[.int .i64 (entP q ((V.c q).s) : Int), .int .i64 (entT ((V.c q).s)), S_]) _ rfl (zL rfl) (z0a hS_.1) (zn rfl) (by kernel_rfl)) (fun w2 h2 => (h2.toPtr (k := 3) rfl r_ eA_).sub ⟨rfl, rfl, rfl, rfl, trivial⟩) rfl
 intro p6 a6 w6 M6 G6 y6
 obtain ⟨-, -, -, -, -, -, -, -, -, -, -, -, q12, q13, q14, -, -⟩ := y6
 obtain ⟨gp14x5, r14⟩ := (show ∃ g, p6 14 = .pointer (some ⟨g, 0, none⟩) from q14)
 obtain ⟨S6, r12, hS6⟩ := (show ∃ S_, p6 12 = .agg #[.int .i64 (entP q ((V.c q).s) : Int), .int .i64 (entT ((V.c q).s)), S_] ∧ IsB w (entS ((V.c q).s)) S_ ∧ ∀ g, bfp S_ g → bfp (s q) g from q12)
 have r13 : p6 13 = .bool b1 := q13
 replace M6 : Mx _ _ w6 [(0, blkO g 80 (vltA V s n)), (1, blkR g2 87 (#[.int .i64 (q : Int), .func (.func 105) #[] #[]])), (2, blkR g3 128 (#[.int .i64 0, .int .i64 0, zN])), (3, zeb true (ptrR 128 (aggC (p6 12)) (p6 14)) (zya true (ptrR 128 (#[.int .i64 0, .int .i64 0, zN]) (p6 14))))] := M6
 simp only [List.take, layV, Nat.zero_add, Nat.reduceAdd, r12, r13, r14] at G6
 rw [r14, r12] at M6
 have M6_3 := M6.ptr (k := 3) (g := gp14x5) rfl
 replace M6_3 := M6_3.toB (k := 3) (c2 := #[.int .i64 (entP q ((V.c q).s) : Int), .int .i64 (entT ((V.c q).s)), S6]) rfl rfl
 refine rm rfl G6 fun _ F7 => ?_
 refine hK5 _ _ ?_
 refine zS fun _ hK8 => ?_
 refine zsa F7 [fun vE => vE = .pointer (some ⟨g2, 0, none⟩), fun vE => vE = .int .i64 (q : Int), fun vE => vE = .int .i64 ((q + 1 : Nat) : Int), fun vE => vE = .pointer (some ⟨g, 0, none⟩), fun vE => vE = .pointer (some ⟨g2, 0, none⟩), fun vE => vE = .int .i64 (q : Int), fun vE => vE = .int .i64 ((q + 1 : Nat) : Int), fun vE => vE = .pointer (some ⟨g, 0, none⟩), fun vE => vE = .pointer (some ⟨g, 0, none⟩), fun vE => vE = .pointer (some ⟨g, 3 * (q + 1), none⟩), fun vE => vE = .pointer (some ⟨g, 3 * (q + 1), none⟩), fun vE => vE = (s (q + 1)), fun vE => ∃ S_, vE = .tuple #[.agg #[.int .i64 (entP (q + 1) ((V.c (q + 1)).s) : Int), .int .i64 (entT ((V.c (q + 1)).s)), S_], .bool b2] ∧ IsB w (entS ((V.c (q + 1)).s)) S_ ∧ ∀ g, bfp S_ g → bfp (s (q + 1)) g, fun vE => ∃ S_, vE = .tuple #[.agg #[.int .i64 (entP (q + 1) ((V.c (q + 1)).s) : Int), .int .i64 (entT ((V.c (q + 1)).s)), S_], .bool b2] ∧ IsB w (entS ((V.c (q + 1)).s)) S_ ∧ ∀ g, bfp S_ g → bfp (s (q + 1)) g, fun vE => ∃ S_, vE = .agg #[.int .i64 (entP (q + 1) ((V.c (q + 1)).s) : Int), .int .i64 (entT ((V.c (q + 1)).s)), S_] ∧ IsB w (entS ((V.c (q + 1)).s)) S_ ∧ ∀ g, bfp S_ g → bfp (s (q + 1)) g, fun vE => vE = .bool b2, fun vE => ∃ g, vE = .pointer (some ⟨g, 0, none⟩), fun vE => vE = undef] (JM none w fun SV pV => [(0, blkO g 80 (vltA V s n)), (1, blkR g2 87 (#[.int .i64 (q : Int), .func (.func 105) #[] #[]])), (2, blkR g3 128 (#[.int .i64 0, .int .i64 0, zN])), (3, blkR gp14x5 128 (#[.int .i64 (entP q ((V.c q).s) : Int), .int .i64 (entT ((V.c q).s)), S6])), (4, zeb (SV 17) (ptrR 128 (aggC (pV 14)) (pV 16)) (zya (SV 16) (ptrR 128 (#[.int .i64 0, .int .i64 0, zN]) (pV 16))))]) 18 rfl (by kernel_rfl) rfl ⟨trivial, trivial, trivial, trivial, trivial, trivial, trivial, trivial, trivial, trivial, trivial, trivial, trivial, trivial, trivial, trivial, trivial, fun _ => Iff.rfl, trivial⟩ (fun p => ((M6_3.step (zga _)).triv 4).sub ⟨rfl, rfl, rfl, rfl, rfl, trivial⟩) ⟨?_, ?_, ?_, ?_, ?_, ?_, ?_, ?_, ?_, ?_, ?_, ?_, ?_, ?_, ?_, ?_, ?_, ?_, trivial⟩ ?_
 ·intro ua uw SV pV M0 hk hn hd
  have M : Mx none w uw _ := M0
  clear M0
  have e2 : ua.eval (.tmp 2) = .pointer (some ⟨g2, 0, none⟩) := (show ua.eval (.tmp 2) = _ from hd 2 (by decide)).trans (F7.get (t := 2) rfl)
  exact zd (zb rfl) (.pointer (some ⟨g2, 0, none⟩)) (y_fa (off := 0) rfl e2 (by kernel_rfl) rfl) rfl (M.sub ⟨rfl, rfl, rfl, rfl, rfl, trivial⟩)
 ·intro ua uw SV pV M0 hk hn hd
  have M : Mx none w uw _ := M0
  clear M0
  obtain ⟨s0, f25, q25⟩ := (show SV 0 = true ∧ ua.eval (.tmp 25) = pV 0 ∧ stE _ 0 (pV 0) from hd 25 (by decide))
  have e25 : ua.eval (.tmp 25) = .pointer (some ⟨g2, 0, none⟩) := f25.trans q25
  exact zd (zb rfl) (.int .i64 (q : Int)) (zba _ _ rfl e25 (M.blk (k := 1) rfl) rfl Tryz.underlying3 rfl) rfl (M.sub ⟨rfl, rfl, rfl, rfl, rfl, trivial⟩)
 ·intro ua uw SV pV M0 hk hn hd
  have M : Mx none w uw _ := M0
  clear M0
  obtain ⟨s1, f26, q26⟩ := (show SV 1 = true ∧ ua.eval (.tmp 26) = pV 1 ∧ stE _ 1 (pV 1) from hd 26 (by decide))
  have e26 : ua.eval (.tmp 26) = .int .i64 (q : Int) := f26.trans q26
  exact zd (zb rfl) (.int .i64 ((q + 1 : Nat) : Int)) (zqa _ _ _ _ rfl e26 rfl (by omega) (by omega)) rfl (M.sub ⟨rfl, rfl, rfl, rfl, rfl, trivial⟩)
 ·intro ua uw SV pV M0 hk hn hd
  have M : Mx none w uw _ := M0
  clear M0
  have e1 : ua.eval (.tmp 1) = .pointer (some ⟨g, 0, none⟩) := (show ua.eval (.tmp 1) = _ from hd 1 (by decide)).trans (F7.get (t := 1) rfl)
  exact zd (zb rfl) (.pointer (some ⟨g, 0, none⟩)) (zaa _ (.inl rfl) e1) rfl (M.sub ⟨rfl, rfl, rfl, rfl, rfl, trivial⟩)
 ·intro ua uw SV pV M0 hk hn hd
  have M : Mx none w uw _ := M0
  clear M0
  have e2 : ua.eval (.tmp 2) = .pointer (some ⟨g2, 0, none⟩) := (show ua.eval (.tmp 2) = _ from hd 2 (by decide)).trans (F7.get (t := 2) rfl)
  exact zd (zb rfl) (.pointer (some ⟨g2, 0, none⟩)) (y_fa (off := 0) rfl e2 (by kernel_rfl) rfl) rfl (M.sub ⟨rfl, rfl, rfl, rfl, rfl, trivial⟩)
 ·intro ua uw SV pV M0 hk hn hd
  have M : Mx none w uw _ := M0
  clear M0
  obtain ⟨s4, f29, q29⟩ := (show SV 4 = true ∧ ua.eval (.tmp 29) = pV 4 ∧ stE _ 4 (pV 4) from hd 29 (by decide))
  have e29 : ua.eval (.tmp 29) = .pointer (some ⟨g2, 0, none⟩) := f29.trans q29
  exact zd (zb rfl) (.int .i64 (q : Int)) (zba _ _ rfl e29 (M.blk (k := 1) rfl) rfl Tryz.underlying3 rfl) rfl (M.sub ⟨rfl, rfl, rfl, rfl, rfl, trivial⟩)
 ·intro ua uw SV pV M0 hk hn hd
  have M : Mx none w uw _ := M0
  clear M0
  obtain ⟨s5, f30, q30⟩ := (show SV 5 = true ∧ ua.eval (.tmp 30) = pV 5 ∧ stE _ 5 (pV 5) from hd 30 (by decide))
  have e30 : ua.eval (.tmp 30) = .int .i64 (q : Int) := f30.trans q30
  exact zd (zb rfl) (.int .i64 ((q + 1 : Nat) : Int)) (zqa _ _ _ _ rfl e30 rfl (by omega) (by omega)) rfl (M.sub ⟨rfl, rfl, rfl, rfl, rfl, trivial⟩)
 ·intro ua uw SV pV M0 hk hn hd
  have M : Mx none w uw _ := M0
  clear M0
  obtain ⟨s3, f28, q28⟩ := (show SV 3 = true ∧ ua.eval (.tmp 28) = pV 3 ∧ stE _ 3 (pV 3) from hd 28 (by decide))
  have e28 : ua.eval (.tmp 28) = .pointer (some ⟨g, 0, none⟩) := f28.trans q28
  exact zd (zb rfl) (.pointer (some ⟨g, 0, none⟩)) (by unfold execOp; simp only [e28]; kernel_rfl) rfl (M.sub ⟨rfl, rfl, rfl, rfl, rfl, trivial⟩)
 ·intro ua uw SV pV M0 hk hn hd
  have M : Mx none w uw _ := M0
  clear M0
  obtain ⟨s7, f32, q32⟩ := (show SV 7 = true ∧ ua.eval (.tmp 32) = pV 7 ∧ stE _ 7 (pV 7) from hd 32 (by decide))
  have e32 : ua.eval (.tmp 32) = .pointer (some ⟨g, 0, none⟩) := f32.trans q32
  exact zd (zb rfl) (.pointer (some ⟨g, 0, none⟩)) (y_fa (off := 0) rfl e32 (by kernel_rfl) rfl) rfl (M.sub ⟨rfl, rfl, rfl, rfl, rfl, trivial⟩)
 ·intro ua uw SV pV M0 hk hn hd
  have M : Mx none w uw _ := M0
  clear M0
  obtain ⟨s8, f33, q33⟩ := (show SV 8 = true ∧ ua.eval (.tmp 33) = pV 8 ∧ stE _ 8 (pV 8) from hd 33 (by decide))
  have e33 : ua.eval (.tmp 33) = .pointer (some ⟨g, 0, none⟩) := f33.trans q33
  obtain ⟨s6, f31, q31⟩ := (show SV 6 = true ∧ ua.eval (.tmp 31) = pV 6 ∧ stE _ 6 (pV 6) from hd 31 (by decide))
  have e31 : ua.eval (.tmp 31) = .int .i64 ((q + 1 : Nat) : Int) := f31.trans q31
  exact zd (zb rfl) (.pointer (some ⟨g, 3 * (q + 1), none⟩)) (y_ixC3 (N := 18) 76 (by kernel_rfl) (by kernel_rfl) (by kernel_rfl) rfl e33 e31 rfl hq) rfl (M.sub ⟨rfl, rfl, rfl, rfl, rfl, trivial⟩)
 ·intro ua uw SV pV M0 hk hn hd
  have M : Mx none w uw _ := M0
  clear M0
  obtain ⟨s9, f34, q34⟩ := (show SV 9 = true ∧ ua.eval (.tmp 34) = pV 9 ∧ stE _ 9 (pV 9) from hd 34 (by decide))
  have e34 : ua.eval (.tmp 34) = .pointer (some ⟨g, 3 * (q + 1), none⟩) := f34.trans q34
  exact zd (zb rfl) (.pointer (some ⟨g, 3 * (q + 1), none⟩)) (y_fa (off := 0) rfl e34 (by kernel_rfl) rfl) rfl (M.sub ⟨rfl, rfl, rfl, rfl, rfl, trivial⟩)
 ·intro ua uw SV pV M0 hk hn hd
  have M : Mx none w uw _ := M0
  clear M0
  obtain ⟨s10, f35, q35⟩ := (show SV 10 = true ∧ ua.eval (.tmp 35) = pV 10 ∧ stE _ 10 (pV 10) from hd 35 (by decide))
  have e35 : ua.eval (.tmp 35) = .pointer (some ⟨g, 3 * (q + 1), none⟩) := f35.trans q35
  exact zd (zb rfl) ((s (q + 1))) (zba _ _ rfl e35 (M.roB (k := 0) rfl) (vlt_s V s n hq) Tryz.underlying23 rfl) rfl (M.sub ⟨rfl, rfl, rfl, rfl, rfl, trivial⟩)
 ·intro ua uw SV pV M0 hk hn hd
  have M : Mx none w uw _ := M0
  clear M0
  obtain ⟨s2, f27, q27⟩ := (show SV 2 = true ∧ ua.eval (.tmp 27) = pV 2 ∧ stE _ 2 (pV 2) from hd 27 (by decide))
  have e27 : ua.eval (.tmp 27) = .int .i64 ((q + 1 : Nat) : Int) := f27.trans q27
  obtain ⟨s11, f36, q36⟩ := (show SV 11 = true ∧ ua.eval (.tmp 36) = pV 11 ∧ stE _ 11 (pV 11) from hd 36 (by decide))
  have e36 : ua.eval (.tmp 36) = (s (q + 1)) := f36.trans q36
  exact zwa (zb rfl) rfl #[.int .i64 ((q + 1 : Nat) : Int), (s (q + 1))] (zha e27 e36) (zE Tryz.func120 rfl) ((hb2 ▸ vgood_any (q + 1) ((V.c (q + 1)).s) (s (q + 1)) (hv (q + 1) hq).1 uw (hs2.step M.below)).mono fun e w2 h => (by obtain ⟨S_, h1, h2, h4, h3⟩ := h; exact ⟨_, h1, ⟨S_, rfl, h2.back M.below (fun g hg => hs2.lt (h4 g hg)), h4⟩, (M.step h3).sub ⟨rfl, rfl, rfl, rfl, rfl, trivial⟩⟩))
 ·intro ua uw SV pV M0 hk hn hd
  have M : Mx none w uw _ := M0
  clear M0
  obtain ⟨s12, f37, q37⟩ := (show SV 12 = true ∧ ua.eval (.tmp 37) = pV 12 ∧ stE _ 12 (pV 12) from hd 37 (by decide))
  have e37 : ua.eval (.tmp 37) = (pV 12) := f37
  obtain ⟨S_, eS_, hS_⟩ := (show ∃ S_, (pV 12) = .tuple #[.agg #[.int .i64 (entP (q + 1) ((V.c (q + 1)).s) : Int), .int .i64 (entT ((V.c (q + 1)).s)), S_], .bool b2] ∧ IsB w (entS ((V.c (q + 1)).s)) S_ ∧ ∀ g, bfp S_ g → bfp (s (q + 1)) g from q37)
  exact zd (zb rfl) ((pV 12)) (zaa _ (.inl rfl) e37) ⟨S_, eS_, hS_⟩ (M.sub ⟨rfl, rfl, rfl, rfl, rfl, trivial⟩)
 ·intro ua uw SV pV M0 hk hn hd
  have M : Mx none w uw _ := M0
  clear M0
  obtain ⟨s13, f24, q24⟩ := (show SV 13 = true ∧ ua.eval (.tmp 24) = pV 13 ∧ stE _ 13 (pV 13) from hd 24 (by decide))
  have e24 : ua.eval (.tmp 24) = (pV 13) := f24
  obtain ⟨S_, eS_, hS_⟩ := (show ∃ S_, (pV 13) = .tuple #[.agg #[.int .i64 (entP (q + 1) ((V.c (q + 1)).s) : Int), .int .i64 (entT ((V.c (q + 1)).s)), S_], .bool b2] ∧ IsB w (entS ((V.c (q + 1)).s)) S_ ∧ ∀ g, bfp S_ g → bfp (s (q + 1)) g from q24)
  exact zd (zb rfl) _ (y_ext _ _ rfl (e24.trans eS_) rfl) ⟨S_, rfl, hS_⟩ (M.sub ⟨rfl, rfl, rfl, rfl, (eitherR_off (hn 17 (by kernel_rfl)) rfl), trivial⟩)
 ·intro ua uw SV pV M0 hk hn hd
  have M : Mx none w uw _ := M0
  clear M0
  obtain ⟨s13, f24, q24⟩ := (show SV 13 = true ∧ ua.eval (.tmp 24) = pV 13 ∧ stE _ 13 (pV 13) from hd 24 (by decide))
  have e24 : ua.eval (.tmp 24) = (pV 13) := f24
  obtain ⟨S_, eS_, hS_⟩ := (show ∃ S_, (pV 13) = .tuple #[.agg #[.int .i64 (entP (q + 1) ((V.c (q + 1)).s) : Int), .int .i64 (entT ((V.c (q + 1)).s)), S_], .bool b2] ∧ IsB w (entS ((V.c (q + 1)).s)) S_ ∧ ∀ g, bfp S_ g → bfp (s (q + 1)) g from q24)
  exact zd (zb rfl) (.bool b2) (y_ext _ _ rfl (e24.trans eS_) rfl) rfl (M.sub ⟨rfl, rfl, rfl, rfl, rfl, trivial⟩)
 ·intro ua uw SV pV M0 hk hn hd
  have M : Mx none w uw _ := M0
  clear M0
  exact zd (zb rfl) _ (by unfold execOp; kernel_rfl) ⟨_, rfl⟩ ((M.allocP 4 128 (#[.int .i64 0, .int .i64 0, zN])).sub ⟨rfl, rfl, rfl, rfl, (z9b (hn 17 (by kernel_rfl)) rfl), trivial⟩)
 ·intro ua uw SV pV M0 hk hn hd
  have M : Mx none w uw _ := M0
  clear M0
  obtain ⟨s16, f8, q8⟩ := (show SV 16 = true ∧ ua.eval (.tmp 8) = pV 16 ∧ stE _ 16 (pV 16) from hd 8 (by decide))
  obtain ⟨s14, f38, q38⟩ := (show SV 14 = true ∧ ua.eval (.tmp 38) = pV 14 ∧ stE _ 14 (pV 14) from hd 38 (by decide))
  have e38 : ua.eval (.tmp 38) = (pV 14) := f38
  obtain ⟨S_, eS_, hS_⟩ := (show ∃ S_, pV 14 = .agg #[.int .i64 (entP (q + 1) ((V.c (q + 1)).s) : Int), .int .i64 (entT ((V.c (q + 1)).s)), S_] ∧ IsB w (entS ((V.c (q + 1)).s)) S_ ∧ ∀ g, bfp S_ g → bfp (s (q + 1)) g from q38)
  have eA_ : aggC (pV 14) = #[.int .i64 (entP (q + 1) ((V.c (q + 1)).s) : Int), .int .i64 (entT ((V.c (q + 1)).s)), S_] := by rw [eS_]; rfl
  obtain ⟨g_, r_⟩ := (show ∃ g, pV 16 = .pointer (some ⟨g, 0, none⟩) from q8)
  have M2 := M.ptrV (k := 4) (g := g_) (z3a s16 (zjb hk rfl)) r_
  exact hopM_doM (zb rfl) rfl (run_st M2 (k := 4) rfl _ _ _ rfl (f8.trans r_) (f38.trans eS_) (#[.int .i64 (entP (q + 1) ((V.c (q + 1)).s) : Int), .int .i64 (entT ((V.c (q + 1)).s)), S_]) _ rfl (zL rfl) (z0a hS_.1) (zn rfl) (by kernel_rfl)) (fun w2 h2 => (h2.toPtr (k := 4) rfl r_ eA_).sub ⟨rfl, rfl, rfl, rfl, rfl, trivial⟩) rfl
 intro p9 a9 w9 M9 G9 y9
 obtain ⟨-, -, -, -, -, -, -, -, -, -, -, -, -, -, q14, q15, q16, -, -⟩ := y9
 obtain ⟨gp16x8, r16⟩ := (show ∃ g, p9 16 = .pointer (some ⟨g, 0, none⟩) from q16)
 obtain ⟨S9, r14, hS9⟩ := (show ∃ S_, p9 14 = .agg #[.int .i64 (entP (q + 1) ((V.c (q + 1)).s) : Int), .int .i64 (entT ((V.c (q + 1)).s)), S_] ∧ IsB w (entS ((V.c (q + 1)).s)) S_ ∧ ∀ g, bfp S_ g → bfp (s (q + 1)) g from q14)
 have r15 : p9 15 = .bool b2 := q15
 replace M9 : Mx _ _ w9 [(0, blkO g 80 (vltA V s n)), (1, blkR g2 87 (#[.int .i64 (q : Int), .func (.func 105) #[] #[]])), (2, blkR g3 128 (#[.int .i64 0, .int .i64 0, zN])), (3, blkR gp14x5 128 (#[.int .i64 (entP q ((V.c q).s) : Int), .int .i64 (entT ((V.c q).s)), S6])), (4, zeb true (ptrR 128 (aggC (p9 14)) (p9 16)) (zya true (ptrR 128 (#[.int .i64 0, .int .i64 0, zN]) (p9 16))))] := M9
 simp only [List.take, layV, Nat.zero_add, Nat.reduceAdd, r14, r15, r16] at G9
 rw [r16, r14] at M9
 have M9_4 := M9.ptr (k := 4) (g := gp16x8) rfl
 replace M9_4 := M9_4.toB (k := 4) (c2 := #[.int .i64 (entP (q + 1) ((V.c (q + 1)).s) : Int), .int .i64 (entT ((V.c (q + 1)).s)), S9]) rfl rfl
 refine rm rfl G9 fun _ F10 => ?_
 refine hK8 _ _ ?_
 refine zS fun _ hK11 => ?_
 refine zS fun _ hK12 => ?_
 refine zR ?_
 refine rm rfl F10 fun _ F13 => ?_
 refine rm rfl F13 fun _ F14 => ?_
 cases b2
 ·refine zB 10 [(4, .pointer (some ⟨g3, 0, none⟩)), (5, .bool false), (6, .pointer (some ⟨gp14x5, 0, none⟩)), (7, .bool b1), (8, .pointer (some ⟨gp16x8, 0, none⟩)), (51, .bool false)] [] dnil [] F14 fun _ F15 => ?_
  clear F14
  refine hK12 _ _ ?_
  refine wp_cond_false (F15.get (t := 51) rfl) ?_
  refine wp_skip ?_
  refine hK11 _ _ ?_
  refine zS fun _ hK16 => ?_
  refine zR ?_
  refine zc (w' := w9) (zb rfl) rfl F15 rfl _ (zna _ _ rfl (F15.get (t := 6) rfl) (M9_4.blk (k := 3) rfl) (#[.int .i64 (entP q ((V.c q).s) : Int), .int .i64 (entT ((V.c q).s)), S6]) (zra rfl) Tryz.underlying128 rfl (by kernel_rfl)) fun _ F17 => ?_
  clear F15
  refine rm rfl F17 fun _ F18 => ?_
  refine zm (zb rfl) rfl F18 M9_4 (k := 2) rfl _ _ _ rfl (F18.get (t := 4) rfl) (F18.get (t := 53) rfl) (#[.int .i64 (entP q ((V.c q).s) : Int), .int .i64 (entT ((V.c q).s)), S6]) _ rfl (zL rfl) (z0a (hS6.1.step M9_4.below)) (zn rfl) (by kernel_rfl) ?_
  intro w19 M19
  clear M9_4
  refine rm rfl F18 fun _ F20 => ?_
  refine hK16 _ _ ?_
  refine wp_ret ?_
  try simp only [Exit.then, Exit.inBlock, Exit.jump]
  have hsec : secB zj V q = false := by rw [sec_eq hb1 hb2]; simp
  exact bodyPost_ret (resCT rfl (F20.get rfl) (M19.blk (k := 2) rfl) (F20.get rfl) Tryz.underlying128 rfl (by kernel_rfl)) F20.defers ⟨S6, (by rw [show cntP V q = _ from if_neg (by rw [hsec]; exact Bool.false_ne_true), show cntT V q = _ from if_neg (by rw [hsec]; exact Bool.false_ne_true), show anyB zj V q = b1 by rw [anyB, hsec, hb1]; rfl]), (by rw [show cntS V q = _ from if_neg (by rw [hsec]; exact Bool.false_ne_true)]; exact hS6.1), (fun g hg => .inl (hS6.2 g hg)), M19.below⟩
 ·refine rm rfl F14 fun _ F21 => ?_
  cases b1
  ·refine zB 9 [(4, .pointer (some ⟨g3, 0, none⟩)), (5, .bool false), (6, .pointer (some ⟨gp14x5, 0, none⟩)), (7, .bool false), (8, .pointer (some ⟨gp16x8, 0, none⟩)), (51, .bool true)] [] dnil [] F21 fun _ F22 => ?_
   clear F21
   refine hK12 _ _ ?_
   refine wp_cond_true (F22.get (t := 51) rfl) ?_
   refine zS fun _ hK23 => ?_
   refine zR ?_
   refine zc (w' := w9) (zb rfl) rfl F22 rfl _ (zna _ _ rfl (F22.get (t := 8) rfl) (M9_4.blk (k := 4) rfl) (#[.int .i64 (entP (q + 1) ((V.c (q + 1)).s) : Int), .int .i64 (entT ((V.c (q + 1)).s)), S9]) (zra rfl) Tryz.underlying128 rfl (by kernel_rfl)) fun _ F24 => ?_
   clear F22
   refine zm (zb rfl) rfl F24 M9_4 (k := 2) rfl _ _ _ rfl (F24.get (t := 4) rfl) (F24.get (t := 52) rfl) (#[.int .i64 (entP (q + 1) ((V.c (q + 1)).s) : Int), .int .i64 (entT ((V.c (q + 1)).s)), S9]) _ rfl (zL rfl) (z0a (hS9.1.step M9_4.below)) (zn rfl) (by kernel_rfl) ?_
   intro w25 M25
   clear M9_4
   refine rm rfl F24 fun _ F26 => ?_
   refine hK23 _ _ ?_
   refine wp_ret ?_
   try simp only [Exit.then, Exit.inBlock, Exit.jump]
   have hsec : secB zj V q = true := by rw [sec_eq hb1 hb2]; simp
   exact bodyPost_ret (resCT rfl (F26.get rfl) (M25.blk (k := 2) rfl) (F26.get rfl) Tryz.underlying128 rfl (by kernel_rfl)) F26.defers ⟨S9, (by rw [show cntP V q = _ from if_pos hsec, show cntT V q = _ from if_pos hsec, show anyB zj V q = true by rw [anyB, hsec, hb1]; rfl]), (by rw [show cntS V q = _ from if_pos hsec]; exact hS9.1), (fun g hg => .inr (hS9.2 g hg)), M25.below⟩
  ·refine zA 6 [(43, .bool false), (44, .bool false), (45, .pointer (some ⟨gp16x8, 1, none⟩)), (46, .int .i64 (entT ((V.c (q + 1)).s))), (47, .pointer (some ⟨gp14x5, 1, none⟩)), (48, .int .i64 (entT ((V.c q).s)))] [0, 1] (zt (M9_4.blk (k := 4) rfl) (zt (M9_4.blk (k := 3) rfl) dnil)) [gp16x8, gp14x5] F21 fun _ F27 => ?_
   clear F21
   by_cases h28 : (entT ((V.c q).s)) < (entT ((V.c (q + 1)).s))
   ·refine zc (w' := w9) (zf rfl rfl rfl (F27.get (t := 44) rfl)) rfl F27 rfl (.bool true) (y_gtr _ _ _ _ rfl (F27.get (t := 46) rfl) (F27.get (t := 48) rfl) (decide_eq_true h28)) fun _ F29 => ?_
    clear F27
    refine zA 2 [(50, .bool true), (51, .bool true)] [] dnil [] F29 fun _ F30 => ?_
    clear F29
    refine hK12 _ _ ?_
    refine wp_cond_true (F30.get (t := 51) rfl) ?_
    refine zS fun _ hK31 => ?_
    refine zR ?_
    refine zc (w' := w9) (zb rfl) rfl F30 rfl _ (zna _ _ rfl (F30.get (t := 8) rfl) (M9_4.blk (k := 4) rfl) (#[.int .i64 (entP (q + 1) ((V.c (q + 1)).s) : Int), .int .i64 (entT ((V.c (q + 1)).s)), S9]) (zra rfl) Tryz.underlying128 rfl (by kernel_rfl)) fun _ F32 => ?_
    clear F30
    refine zm (zb rfl) rfl F32 M9_4 (k := 2) rfl _ _ _ rfl (F32.get (t := 4) rfl) (F32.get (t := 52) rfl) (#[.int .i64 (entP (q + 1) ((V.c (q + 1)).s) : Int), .int .i64 (entT ((V.c (q + 1)).s)), S9]) _ rfl (zL rfl) (z0a (hS9.1.step M9_4.below)) (zn rfl) (by kernel_rfl) ?_
    intro w33 M33
    clear M9_4
    refine rm rfl F32 fun _ F34 => ?_
    refine hK31 _ _ ?_
    refine wp_ret ?_
    try simp only [Exit.then, Exit.inBlock, Exit.jump]
    have hsec : secB zj V q = true := by rw [sec_eq hb1 hb2]; simp [h28]
    exact bodyPost_ret (resCT rfl (F34.get rfl) (M33.blk (k := 2) rfl) (F34.get rfl) Tryz.underlying128 rfl (by kernel_rfl)) F34.defers ⟨S9, (by rw [show cntP V q = _ from if_pos hsec, show cntT V q = _ from if_pos hsec, show anyB zj V q = true by rw [anyB, hsec, hb1]; rfl]), (by rw [show cntS V q = _ from if_pos hsec]; exact hS9.1), (fun g hg => .inr (hS9.2 g hg)), M33.below⟩
   ·refine zc (w' := w9) (zf rfl rfl rfl (F27.get (t := 44) rfl)) rfl F27 rfl (.bool false) (y_gtr _ _ _ _ rfl (F27.get (t := 46) rfl) (F27.get (t := 48) rfl) (decide_eq_false h28)) fun _ F35 => ?_
    clear F27
    refine zA 2 [(50, .bool false), (51, .bool false)] [] dnil [] F35 fun _ F36 => ?_
    clear F35
    refine hK12 _ _ ?_
    refine wp_cond_false (F36.get (t := 51) rfl) ?_
    refine wp_skip ?_
    refine hK11 _ _ ?_
    refine zS fun _ hK37 => ?_
    refine zR ?_
    refine zc (w' := w9) (zb rfl) rfl F36 rfl _ (zna _ _ rfl (F36.get (t := 6) rfl) (M9_4.blk (k := 3) rfl) (#[.int .i64 (entP q ((V.c q).s) : Int), .int .i64 (entT ((V.c q).s)), S6]) (zra rfl) Tryz.underlying128 rfl (by kernel_rfl)) fun _ F38 => ?_
    clear F36
    refine rm rfl F38 fun _ F39 => ?_
    refine zm (zb rfl) rfl F39 M9_4 (k := 2) rfl _ _ _ rfl (F39.get (t := 4) rfl) (F39.get (t := 53) rfl) (#[.int .i64 (entP q ((V.c q).s) : Int), .int .i64 (entT ((V.c q).s)), S6]) _ rfl (zL rfl) (z0a (hS6.1.step M9_4.below)) (zn rfl) (by kernel_rfl) ?_
    intro w40 M40
    clear M9_4
    refine rm rfl F39 fun _ F41 => ?_
    refine hK37 _ _ ?_
    refine wp_ret ?_
    try simp only [Exit.then, Exit.inBlock, Exit.jump]
    have hsec : secB zj V q = false := by rw [sec_eq hb1 hb2]; simp [h28]
    exact bodyPost_ret (resCT rfl (F41.get rfl) (M40.blk (k := 2) rfl) (F41.get rfl) Tryz.underlying128 rfl (by kernel_rfl)) F41.defers ⟨S6, (by rw [show cntP V q = _ from if_neg (by rw [hsec]; exact Bool.false_ne_true), show cntT V q = _ from if_neg (by rw [hsec]; exact Bool.false_ne_true), show anyB zj V q = true by rw [anyB, hsec, hb1]; rfl]), (by rw [show cntS V q = _ from if_neg (by rw [hsec]; exact Bool.false_ne_true)]; exact hS6.1), (fun g hg => .inl (hS6.2 g hg)), M40.below⟩
theorem countsI (q : Nat) (hq : q + 1 < 18) (g : Nat) (V : VltN) (s n : Nat → Value) (hv : zfa V) (w : World) (h : HasV w g V s n) :
  Calls Tryz.prog 89 #[.agg #[.int .i64 (q : Int), .func (.func 88) #[] #[]], .pointer (some ⟨g, 0, none⟩)] w fun e w' => ∃ S, e = .returned (.tuple #[.agg #[.int .i64 (cntP V q : Int), .int .i64 (cntT V q), S], .bool (anyB zj V q)]) ∧ IsB w (cntS V q) S ∧ (∀ b, bfp S b → bfp (s q) b ∨ bfp (s (q + 1)) b) ∧ Below w.heap.size w w' := by
 obtain ⟨b1, hb1⟩ : ∃ x, zpb zj q (V.c q).s = x := ⟨_, rfl⟩
 obtain ⟨b2, hb2⟩ : ∃ x, zpb zj (q + 1) (V.c (q + 1)).s = x := ⟨_, rfl⟩
 have hs1 := h.hs q (by omega)
 have hs2 := h.hs (q + 1) hq
 refine zi (args := [.agg (#[.int .i64 (q : Int), .func (.func 88) #[] #[]]), .pointer (some ⟨g, 0, none⟩)]) 55 Tryz.func89 rfl rfl rfl ?_
 intro fa F
 have M := Mx.start w
 replace M := M.argO 0 h.blk (fun b e => by cases e)
 refine zS fun _ hK1 => ?_
 refine zR ?_
 refine zh (zb rfl) rfl F rfl M 1 (t := 100) (c := #[.int .i64 (q : Int), .func (.func 88) #[] #[]]) (by unfold execOp; simp only [(F.get (t := 0) rfl)]; kernel_rfl) ?_
 intro g2 a2 w2 F2 M2
 clear F M
 refine zh (zb rfl) rfl F2 rfl M2 2 (t := 128) (c := #[.int .i64 0, .int .i64 0, zN]) (by unfold execOp; kernel_rfl) ?_
 intro g3 a3 w3 F3 M3
 clear F2 M2
 refine rm rfl F3 fun _ F4 => ?_
 refine hK1 _ _ ?_
 refine zS fun _ hK5 => ?_
 refine zsa F4 [fun vE => vE = .pointer (some ⟨g2, 0, none⟩), fun vE => vE = .int .i64 (q : Int), fun vE => vE = .pointer (some ⟨g, 0, none⟩), fun vE => vE = .pointer (some ⟨g2, 0, none⟩), fun vE => vE = .int .i64 (q : Int), fun vE => vE = .pointer (some ⟨g, 0, none⟩), fun vE => vE = .pointer (some ⟨g, 0, none⟩), fun vE => vE = .pointer (some ⟨g, 3 * q, none⟩), fun vE => vE = .pointer (some ⟨g, 3 * q, none⟩), fun vE => vE = (s q), fun vE => ∃ S_, vE = .tuple #[.agg #[.int .i64 (entP q ((V.c q).s) : Int), .int .i64 (entT ((V.c q).s)), S_], .bool b1] ∧ IsB w (entS ((V.c q).s)) S_ ∧ ∀ g, bfp S_ g → bfp (s q) g, fun vE => ∃ S_, vE = .tuple #[.agg #[.int .i64 (entP q ((V.c q).s) : Int), .int .i64 (entT ((V.c q).s)), S_], .bool b1] ∧ IsB w (entS ((V.c q).s)) S_ ∧ ∀ g, bfp S_ g → bfp (s q) g, fun vE => ∃ S_, vE = .agg #[.int .i64 (entP q ((V.c q).s) : Int), .int .i64 (entT ((V.c q).s)), S_] ∧ IsB w (entS ((V.c q).s)) S_ ∧ ∀ g, bfp S_ g → bfp (s q) g, fun vE => vE = .bool b1, fun vE => ∃ g, vE = .pointer (some ⟨g, 0, none⟩), fun vE => vE = undef] (JM none w fun SV pV => [(0, blkO g 80 (vltA V s n)), (1, blkR g2 100 (#[.int .i64 (q : Int), .func (.func 88) #[] #[]])), (2, blkR g3 128 (#[.int .i64 0, .int .i64 0, zN])), (3, zeb (SV 15) (ptrR 128 (aggC (pV 12)) (pV 14)) (zya (SV 14) (ptrR 128 (#[.int .i64 0, .int .i64 0, zN]) (pV 14))))]) 16 rfl (by kernel_rfl) rfl ⟨trivial, trivial, trivial, trivial, trivial, trivial, trivial, trivial, trivial, trivial, trivial, trivial, trivial, trivial, trivial, fun _ => Iff.rfl, trivial⟩ (fun p => ((M3.step (zga _)).triv 3).sub ⟨rfl, rfl, rfl, rfl, trivial⟩) ⟨?_, ?_, ?_, ?_, ?_, ?_, ?_, ?_, ?_, ?_, ?_, ?_, ?_, ?_, ?_, ?_, trivial⟩ ?_
 ·intro ua uw SV pV M0 hk hn hd
  have M : Mx none w uw _ := M0
  clear M0
  have e2 : ua.eval (.tmp 2) = .pointer (some ⟨g2, 0, none⟩) := (show ua.eval (.tmp 2) = _ from hd 2 (by decide)).trans (F4.get (t := 2) rfl)
  exact zd (zb rfl) (.pointer (some ⟨g2, 0, none⟩)) (y_fa (off := 0) rfl e2 (by kernel_rfl) rfl) rfl (M.sub ⟨rfl, rfl, rfl, rfl, trivial⟩)
 ·intro ua uw SV pV M0 hk hn hd
  have M : Mx none w uw _ := M0
  clear M0
  obtain ⟨s0, f11, q11⟩ := (show SV 0 = true ∧ ua.eval (.tmp 11) = pV 0 ∧ stE _ 0 (pV 0) from hd 11 (by decide))
  have e11 : ua.eval (.tmp 11) = .pointer (some ⟨g2, 0, none⟩) := f11.trans q11
  exact zd (zb rfl) (.int .i64 (q : Int)) (zba _ _ rfl e11 (M.blk (k := 1) rfl) rfl Tryz.underlying3 rfl) rfl (M.sub ⟨rfl, rfl, rfl, rfl, trivial⟩)
 ·intro ua uw SV pV M0 hk hn hd
  have M : Mx none w uw _ := M0
  clear M0
  have e1 : ua.eval (.tmp 1) = .pointer (some ⟨g, 0, none⟩) := (show ua.eval (.tmp 1) = _ from hd 1 (by decide)).trans (F4.get (t := 1) rfl)
  exact zd (zb rfl) (.pointer (some ⟨g, 0, none⟩)) (zaa _ (.inl rfl) e1) rfl (M.sub ⟨rfl, rfl, rfl, rfl, trivial⟩)
 ·intro ua uw SV pV M0 hk hn hd
  have M : Mx none w uw _ := M0
  clear M0
  have e2 : ua.eval (.tmp 2) = .pointer (some ⟨g2, 0, none⟩) := (show ua.eval (.tmp 2) = _ from hd 2 (by decide)).trans (F4.get (t := 2) rfl)
  exact zd (zb rfl) (.pointer (some ⟨g2, 0, none⟩)) (y_fa (off := 0) rfl e2 (by kernel_rfl) rfl) rfl (M.sub ⟨rfl, rfl, rfl, rfl, trivial⟩)
 ·intro ua uw SV pV M0 hk hn hd
  have M : Mx none w uw _ := M0
  clear M0
  obtain ⟨s3, f14, q14⟩ := (show SV 3 = true ∧ ua.eval (.tmp 14) = pV 3 ∧ stE _ 3 (pV 3) from hd 14 (by decide))
  have e14 : ua.eval (.tmp 14) = .pointer (some ⟨g2, 0, none⟩) := f14.trans q14
  exact zd (zb rfl) (.int .i64 (q : Int)) (zba _ _ rfl e14 (M.blk (k := 1) rfl) rfl Tryz.underlying3 rfl) rfl (M.sub ⟨rfl, rfl, rfl, rfl, trivial⟩)
 ·intro ua uw SV pV M0 hk hn hd
  have M : Mx none w uw _ := M0
  clear M0
  obtain ⟨s2, f13, q13⟩ := (show SV 2 = true ∧ ua.eval (.tmp 13) = pV 2 ∧ stE _ 2 (pV 2) from hd 13 (by decide))
  have e13 : ua.eval (.tmp 13) = .pointer (some ⟨g, 0, none⟩) := f13.trans q13
  exact zd (zb rfl) (.pointer (some ⟨g, 0, none⟩)) (by unfold execOp; simp only [e13]; kernel_rfl) rfl (M.sub ⟨rfl, rfl, rfl, rfl, trivial⟩)
 ·intro ua uw SV pV M0 hk hn hd
  have M : Mx none w uw _ := M0
  clear M0
  obtain ⟨s5, f16, q16⟩ := (show SV 5 = true ∧ ua.eval (.tmp 16) = pV 5 ∧ stE _ 5 (pV 5) from hd 16 (by decide))
  have e16 : ua.eval (.tmp 16) = .pointer (some ⟨g, 0, none⟩) := f16.trans q16
  exact zd (zb rfl) (.pointer (some ⟨g, 0, none⟩)) (y_fa (off := 0) rfl e16 (by kernel_rfl) rfl) rfl (M.sub ⟨rfl, rfl, rfl, rfl, trivial⟩)
 ·intro ua uw SV pV M0 hk hn hd
  have M : Mx none w uw _ := M0
  clear M0
  obtain ⟨s6, f17, q17⟩ := (show SV 6 = true ∧ ua.eval (.tmp 17) = pV 6 ∧ stE _ 6 (pV 6) from hd 17 (by decide))
  have e17 : ua.eval (.tmp 17) = .pointer (some ⟨g, 0, none⟩) := f17.trans q17
  obtain ⟨s4, f15, q15⟩ := (show SV 4 = true ∧ ua.eval (.tmp 15) = pV 4 ∧ stE _ 4 (pV 4) from hd 15 (by decide))
  have e15 : ua.eval (.tmp 15) = .int .i64 (q : Int) := f15.trans q15
  exact zd (zb rfl) (.pointer (some ⟨g, 3 * q, none⟩)) (y_ixC3 (N := 18) 76 (by kernel_rfl) (by kernel_rfl) (by kernel_rfl) rfl e17 e15 rfl (by omega)) rfl (M.sub ⟨rfl, rfl, rfl, rfl, trivial⟩)
 ·intro ua uw SV pV M0 hk hn hd
  have M : Mx none w uw _ := M0
  clear M0
  obtain ⟨s7, f18, q18⟩ := (show SV 7 = true ∧ ua.eval (.tmp 18) = pV 7 ∧ stE _ 7 (pV 7) from hd 18 (by decide))
  have e18 : ua.eval (.tmp 18) = .pointer (some ⟨g, 3 * q, none⟩) := f18.trans q18
  exact zd (zb rfl) (.pointer (some ⟨g, 3 * q, none⟩)) (y_fa (off := 0) rfl e18 (by kernel_rfl) rfl) rfl (M.sub ⟨rfl, rfl, rfl, rfl, trivial⟩)
 ·intro ua uw SV pV M0 hk hn hd
  have M : Mx none w uw _ := M0
  clear M0
  obtain ⟨s8, f19, q19⟩ := (show SV 8 = true ∧ ua.eval (.tmp 19) = pV 8 ∧ stE _ 8 (pV 8) from hd 19 (by decide))
  have e19 : ua.eval (.tmp 19) = .pointer (some ⟨g, 3 * q, none⟩) := f19.trans q19
  exact zd (zb rfl) ((s q)) (zba _ _ rfl e19 (M.roB (k := 0) rfl) (vlt_s V s n (by omega)) Tryz.underlying23 rfl) rfl (M.sub ⟨rfl, rfl, rfl, rfl, trivial⟩)
 ·intro ua uw SV pV M0 hk hn hd
  have M : Mx none w uw _ := M0
  clear M0
  obtain ⟨s1, f12, q12⟩ := (show SV 1 = true ∧ ua.eval (.tmp 12) = pV 1 ∧ stE _ 1 (pV 1) from hd 12 (by decide))
  have e12 : ua.eval (.tmp 12) = .int .i64 (q : Int) := f12.trans q12
  obtain ⟨s9, f20, q20⟩ := (show SV 9 = true ∧ ua.eval (.tmp 20) = pV 9 ∧ stE _ 9 (pV 9) from hd 20 (by decide))
  have e20 : ua.eval (.tmp 20) = (s q) := f20.trans q20
  exact zwa (zb rfl) rfl #[.int .i64 (q : Int), (s q)] (zha e12 e20) (zE Tryz.func120 rfl) ((hb1 ▸ vgood_any q ((V.c q).s) (s q) (hv q (by omega)).1 uw (hs1.step M.below)).mono fun e w2 h => (by obtain ⟨S_, h1, h2, h4, h3⟩ := h; exact ⟨_, h1, ⟨S_, rfl, h2.back M.below (fun g hg => hs1.lt (h4 g hg)), h4⟩, (M.step h3).sub ⟨rfl, rfl, rfl, rfl, trivial⟩⟩))
 ·intro ua uw SV pV M0 hk hn hd
  have M : Mx none w uw _ := M0
  clear M0
  obtain ⟨s10, f21, q21⟩ := (show SV 10 = true ∧ ua.eval (.tmp 21) = pV 10 ∧ stE _ 10 (pV 10) from hd 21 (by decide))
  have e21 : ua.eval (.tmp 21) = (pV 10) := f21
  obtain ⟨S_, eS_, hS_⟩ := (show ∃ S_, (pV 10) = .tuple #[.agg #[.int .i64 (entP q ((V.c q).s) : Int), .int .i64 (entT ((V.c q).s)), S_], .bool b1] ∧ IsB w (entS ((V.c q).s)) S_ ∧ ∀ g, bfp S_ g → bfp (s q) g from q21)
  exact zd (zb rfl) ((pV 10)) (zaa _ (.inl rfl) e21) ⟨S_, eS_, hS_⟩ (M.sub ⟨rfl, rfl, rfl, rfl, trivial⟩)
 ·intro ua uw SV pV M0 hk hn hd
  have M : Mx none w uw _ := M0
  clear M0
  obtain ⟨s11, f10, q10⟩ := (show SV 11 = true ∧ ua.eval (.tmp 10) = pV 11 ∧ stE _ 11 (pV 11) from hd 10 (by decide))
  have e10 : ua.eval (.tmp 10) = (pV 11) := f10
  obtain ⟨S_, eS_, hS_⟩ := (show ∃ S_, (pV 11) = .tuple #[.agg #[.int .i64 (entP q ((V.c q).s) : Int), .int .i64 (entT ((V.c q).s)), S_], .bool b1] ∧ IsB w (entS ((V.c q).s)) S_ ∧ ∀ g, bfp S_ g → bfp (s q) g from q10)
  exact zd (zb rfl) _ (y_ext _ _ rfl (e10.trans eS_) rfl) ⟨S_, rfl, hS_⟩ (M.sub ⟨rfl, rfl, rfl, (eitherR_off (hn 15 (by kernel_rfl)) rfl), trivial⟩)
 ·intro ua uw SV pV M0 hk hn hd
  have M : Mx none w uw _ := M0
  clear M0
  obtain ⟨s11, f10, q10⟩ := (show SV 11 = true ∧ ua.eval (.tmp 10) = pV 11 ∧ stE _ 11 (pV 11) from hd 10 (by decide))
  have e10 : ua.eval (.tmp 10) = (pV 11) := f10
  obtain ⟨S_, eS_, hS_⟩ := (show ∃ S_, (pV 11) = .tuple #[.agg #[.int .i64 (entP q ((V.c q).s) : Int), .int .i64 (entT ((V.c q).s)), S_], .bool b1] ∧ IsB w (entS ((V.c q).s)) S_ ∧ ∀ g, bfp S_ g → bfp (s q) g from q10)
  exact zd (zb rfl) (.bool b1) (y_ext _ _ rfl (e10.trans eS_) rfl) rfl (M.sub ⟨rfl, rfl, rfl, rfl, trivial⟩)
 ·intro ua uw SV pV M0 hk hn hd
  have M : Mx none w uw _ := M0
  clear M0
  exact zd (zb rfl) _ (by unfold execOp; kernel_rfl) ⟨_, rfl⟩ ((M.allocP 3 128 (#[.int .i64 0, .int .i64 0, zN])).sub ⟨rfl, rfl, rfl, (z9b (hn 15 (by kernel_rfl)) rfl), trivial⟩)
 ·intro ua uw SV pV M0 hk hn hd
  have M : Mx none w uw _ := M0
  clear M0
  obtain ⟨s14, f6, q6⟩ := (show SV 14 = true ∧ ua.eval (.tmp 6) = pV 14 ∧ stE _ 14 (pV 14) from hd 6 (by decide))
  obtain ⟨s12, f22, q22⟩ := (show SV 12 = true ∧ ua.eval (.tmp 22) = pV 12 ∧ stE _ 12 (pV 12) from hd 22 (by decide))
  have e22 : ua.eval (.tmp 22) = (pV 12) := f22
  obtain ⟨S_, eS_, hS_⟩ := (show ∃ S_, pV 12 = .agg #[.int .i64 (entP q ((V.c q).s) : Int), .int .i64 (entT ((V.c q).s)), S_] ∧ IsB w (entS ((V.c q).s)) S_ ∧ ∀ g, bfp S_ g → bfp (s q) g from q22)
  have eA_ : aggC (pV 12) = #[.int .i64 (entP q ((V.c q).s) : Int), .int .i64 (entT ((V.c q).s)), S_] := by rw [eS_]; rfl
  obtain ⟨g_, r_⟩ := (show ∃ g, pV 14 = .pointer (some ⟨g, 0, none⟩) from q6)
  have M2 := M.ptrV (k := 3) (g := g_) (z3a s14 (zjb hk rfl)) r_
  exact hopM_doM (zb rfl) rfl (run_st M2 (k := 3) rfl _ _ _ rfl (f6.trans r_) (f22.trans eS_) (#[.int .i64 (entP q ((V.c q).s) : Int), .int .i64 (entT ((V.c q).s)), S_]) _ rfl (zL rfl) (z0a hS_.1) (zn rfl) (by kernel_rfl)) (fun w2 h2 => (h2.toPtr (k := 3) rfl r_ eA_).sub ⟨rfl, rfl, rfl, rfl, trivial⟩) rfl
 intro p6 a6 w6 M6 G6 y6
 obtain ⟨-, -, -, -, -, -, -, -, -, -, -, -, q12, q13, q14, -, -⟩ := y6
 obtain ⟨gp14x5, r14⟩ := (show ∃ g, p6 14 = .pointer (some ⟨g, 0, none⟩) from q14)
 obtain ⟨S6, r12, hS6⟩ := (show ∃ S_, p6 12 = .agg #[.int .i64 (entP q ((V.c q).s) : Int), .int .i64 (entT ((V.c q).s)), S_] ∧ IsB w (entS ((V.c q).s)) S_ ∧ ∀ g, bfp S_ g → bfp (s q) g from q12)
 have r13 : p6 13 = .bool b1 := q13
 replace M6 : Mx _ _ w6 [(0, blkO g 80 (vltA V s n)), (1, blkR g2 100 (#[.int .i64 (q : Int), .func (.func 88) #[] #[]])), (2, blkR g3 128 (#[.int .i64 0, .int .i64 0, zN])), (3, zeb true (ptrR 128 (aggC (p6 12)) (p6 14)) (zya true (ptrR 128 (#[.int .i64 0, .int .i64 0, zN]) (p6 14))))] := M6
 simp only [List.take, layV, Nat.zero_add, Nat.reduceAdd, r12, r13, r14] at G6
 rw [r14, r12] at M6
 have M6_3 := M6.ptr (k := 3) (g := gp14x5) rfl
 replace M6_3 := M6_3.toB (k := 3) (c2 := #[.int .i64 (entP q ((V.c q).s) : Int), .int .i64 (entT ((V.c q).s)), S6]) rfl rfl
 refine rm rfl G6 fun _ F7 => ?_
 refine hK5 _ _ ?_
 refine zS fun _ hK8 => ?_
 refine zsa F7 [fun vE => vE = .pointer (some ⟨g2, 0, none⟩), fun vE => vE = .int .i64 (q : Int), fun vE => vE = .int .i64 ((q + 1 : Nat) : Int), fun vE => vE = .pointer (some ⟨g, 0, none⟩), fun vE => vE = .pointer (some ⟨g2, 0, none⟩), fun vE => vE = .int .i64 (q : Int), fun vE => vE = .int .i64 ((q + 1 : Nat) : Int), fun vE => vE = .pointer (some ⟨g, 0, none⟩), fun vE => vE = .pointer (some ⟨g, 0, none⟩), fun vE => vE = .pointer (some ⟨g, 3 * (q + 1), none⟩), fun vE => vE = .pointer (some ⟨g, 3 * (q + 1), none⟩), fun vE => vE = (s (q + 1)), fun vE => ∃ S_, vE = .tuple #[.agg #[.int .i64 (entP (q + 1) ((V.c (q + 1)).s) : Int), .int .i64 (entT ((V.c (q + 1)).s)), S_], .bool b2] ∧ IsB w (entS ((V.c (q + 1)).s)) S_ ∧ ∀ g, bfp S_ g → bfp (s (q + 1)) g, fun vE => ∃ S_, vE = .tuple #[.agg #[.int .i64 (entP (q + 1) ((V.c (q + 1)).s) : Int), .int .i64 (entT ((V.c (q + 1)).s)), S_], .bool b2] ∧ IsB w (entS ((V.c (q + 1)).s)) S_ ∧ ∀ g, bfp S_ g → bfp (s (q + 1)) g, fun vE => ∃ S_, vE = .agg #[.int .i64 (entP (q + 1) ((V.c (q + 1)).s) : Int), .int .i64 (entT ((V.c (q + 1)).s)), S_] ∧ IsB w (entS ((V.c (q + 1)).s)) S_ ∧ ∀ g, bfp S_ g → bfp (s (q + 1)) g, fun vE => vE = .bool b2, fun vE => ∃ g, vE = .pointer (some ⟨g, 0, none⟩), fun vE => vE = undef] (JM none w fun SV pV => [(0, blkO g 80 (vltA V s n)), (1, blkR g2 100 (#[.int .i64 (q : Int), .func (.func 88) #[] #[]])), (2, blkR g3 128 (#[.int .i64 0, .int .i64 0, zN])), (3, blkR gp14x5 128 (#[.int .i64 (entP q ((V.c q).s) : Int), .int .i64 (entT ((V.c q).s)), S6])), (4, zeb (SV 17) (ptrR 128 (aggC (pV 14)) (pV 16)) (zya (SV 16) (ptrR 128 (#[.int .i64 0, .int .i64 0, zN]) (pV 16))))]) 18 rfl (by kernel_rfl) rfl ⟨trivial, trivial, trivial, trivial, trivial, trivial, trivial, trivial, trivial, trivial, trivial, trivial, trivial, trivial, trivial, trivial, trivial, fun _ => Iff.rfl, trivial⟩ (fun p => ((M6_3.step (zga _)).triv 4).sub ⟨rfl, rfl, rfl, rfl, rfl, trivial⟩) ⟨?_, ?_, ?_, ?_, ?_, ?_, ?_, ?_, ?_, ?_, ?_, ?_, ?_, ?_, ?_, ?_, ?_, ?_, trivial⟩ ?_
 ·intro ua uw SV pV M0 hk hn hd
  have M : Mx none w uw _ := M0
  clear M0
  have e2 : ua.eval (.tmp 2) = .pointer (some ⟨g2, 0, none⟩) := (show ua.eval (.tmp 2) = _ from hd 2 (by decide)).trans (F7.get (t := 2) rfl)
  exact zd (zb rfl) (.pointer (some ⟨g2, 0, none⟩)) (y_fa (off := 0) rfl e2 (by kernel_rfl) rfl) rfl (M.sub ⟨rfl, rfl, rfl, rfl, rfl, trivial⟩)
 ·intro ua uw SV pV M0 hk hn hd
  have M : Mx none w uw _ := M0
  clear M0
  obtain ⟨s0, f25, q25⟩ := (show SV 0 = true ∧ ua.eval (.tmp 25) = pV 0 ∧ stE _ 0 (pV 0) from hd 25 (by decide))
  have e25 : ua.eval (.tmp 25) = .pointer (some ⟨g2, 0, none⟩) := f25.trans q25
  exact zd (zb rfl) (.int .i64 (q : Int)) (zba _ _ rfl e25 (M.blk (k := 1) rfl) rfl Tryz.underlying3 rfl) rfl (M.sub ⟨rfl, rfl, rfl, rfl, rfl, trivial⟩)
 ·intro ua uw SV pV M0 hk hn hd
  have M : Mx none w uw _ := M0
  clear M0
  obtain ⟨s1, f26, q26⟩ := (show SV 1 = true ∧ ua.eval (.tmp 26) = pV 1 ∧ stE _ 1 (pV 1) from hd 26 (by decide))
  have e26 : ua.eval (.tmp 26) = .int .i64 (q : Int) := f26.trans q26
  exact zd (zb rfl) (.int .i64 ((q + 1 : Nat) : Int)) (zqa _ _ _ _ rfl e26 rfl (by omega) (by omega)) rfl (M.sub ⟨rfl, rfl, rfl, rfl, rfl, trivial⟩)
 ·intro ua uw SV pV M0 hk hn hd
  have M : Mx none w uw _ := M0
  clear M0
  have e1 : ua.eval (.tmp 1) = .pointer (some ⟨g, 0, none⟩) := (show ua.eval (.tmp 1) = _ from hd 1 (by decide)).trans (F7.get (t := 1) rfl)
  exact zd (zb rfl) (.pointer (some ⟨g, 0, none⟩)) (zaa _ (.inl rfl) e1) rfl (M.sub ⟨rfl, rfl, rfl, rfl, rfl, trivial⟩)
 ·intro ua uw SV pV M0 hk hn hd
  have M : Mx none w uw _ := M0
  clear M0
  have e2 : ua.eval (.tmp 2) = .pointer (some ⟨g2, 0, none⟩) := (show ua.eval (.tmp 2) = _ from hd 2 (by decide)).trans (F7.get (t := 2) rfl)
  exact zd (zb rfl) (.pointer (some ⟨g2, 0, none⟩)) (y_fa (off := 0) rfl e2 (by kernel_rfl) rfl) rfl (M.sub ⟨rfl, rfl, rfl, rfl, rfl, trivial⟩)
 ·intro ua uw SV pV M0 hk hn hd
  have M : Mx none w uw _ := M0
  clear M0
  obtain ⟨s4, f29, q29⟩ := (show SV 4 = true ∧ ua.eval (.tmp 29) = pV 4 ∧ stE _ 4 (pV 4) from hd 29 (by decide))
  have e29 : ua.eval (.tmp 29) = .pointer (some ⟨g2, 0, none⟩) := f29.trans q29
  exact zd (zb rfl) (.int .i64 (q : Int)) (zba _ _ rfl e29 (M.blk (k := 1) rfl) rfl Tryz.underlying3 rfl) rfl (M.sub ⟨rfl, rfl, rfl, rfl, rfl, trivial⟩)
 ·intro ua uw SV pV M0 hk hn hd
  have M : Mx none w uw _ := M0
  clear M0
  obtain ⟨s5, f30, q30⟩ := (show SV 5 = true ∧ ua.eval (.tmp 30) = pV 5 ∧ stE _ 5 (pV 5) from hd 30 (by decide))
  have e30 : ua.eval (.tmp 30) = .int .i64 (q : Int) := f30.trans q30
  exact zd (zb rfl) (.int .i64 ((q + 1 : Nat) : Int)) (zqa _ _ _ _ rfl e30 rfl (by omega) (by omega)) rfl (M.sub ⟨rfl, rfl, rfl, rfl, rfl, trivial⟩)
 ·intro ua uw SV pV M0 hk hn hd
  have M : Mx none w uw _ := M0
  clear M0
  obtain ⟨s3, f28, q28⟩ := (show SV 3 = true ∧ ua.eval (.tmp 28) = pV 3 ∧ stE _ 3 (pV 3) from hd 28 (by decide))
  have e28 : ua.eval (.tmp 28) = .pointer (some ⟨g, 0, none⟩) := f28.trans q28
  exact zd (zb rfl) (.pointer (some ⟨g, 0, none⟩)) (by unfold execOp; simp only [e28]; kernel_rfl) rfl (M.sub ⟨rfl, rfl, rfl, rfl, rfl, trivial⟩)
 ·intro ua uw SV pV M0 hk hn hd
  have M : Mx none w uw _ := M0
  clear M0
  obtain ⟨s7, f32, q32⟩ := (show SV 7 = true ∧ ua.eval (.tmp 32) = pV 7 ∧ stE _ 7 (pV 7) from hd 32 (by decide))
  have e32 : ua.eval (.tmp 32) = .pointer (some ⟨g, 0, none⟩) := f32.trans q32
  exact zd (zb rfl) (.pointer (some ⟨g, 0, none⟩)) (y_fa (off := 0) rfl e32 (by kernel_rfl) rfl) rfl (M.sub ⟨rfl, rfl, rfl, rfl, rfl, trivial⟩)
 ·intro ua uw SV pV M0 hk hn hd
  have M : Mx none w uw _ := M0
  clear M0
  obtain ⟨s8, f33, q33⟩ := (show SV 8 = true ∧ ua.eval (.tmp 33) = pV 8 ∧ stE _ 8 (pV 8) from hd 33 (by decide))
  have e33 : ua.eval (.tmp 33) = .pointer (some ⟨g, 0, none⟩) := f33.trans q33
  obtain ⟨s6, f31, q31⟩ := (show SV 6 = true ∧ ua.eval (.tmp 31) = pV 6 ∧ stE _ 6 (pV 6) from hd 31 (by decide))
  have e31 : ua.eval (.tmp 31) = .int .i64 ((q + 1 : Nat) : Int) := f31.trans q31
  exact zd (zb rfl) (.pointer (some ⟨g, 3 * (q + 1), none⟩)) (y_ixC3 (N := 18) 76 (by kernel_rfl) (by kernel_rfl) (by kernel_rfl) rfl e33 e31 rfl hq) rfl (M.sub ⟨rfl, rfl, rfl, rfl, rfl, trivial⟩)
 ·intro ua uw SV pV M0 hk hn hd
  have M : Mx none w uw _ := M0
  clear M0
  obtain ⟨s9, f34, q34⟩ := (show SV 9 = true ∧ ua.eval (.tmp 34) = pV 9 ∧ stE _ 9 (pV 9) from hd 34 (by decide))
  have e34 : ua.eval (.tmp 34) = .pointer (some ⟨g, 3 * (q + 1), none⟩) := f34.trans q34
  exact zd (zb rfl) (.pointer (some ⟨g, 3 * (q + 1), none⟩)) (y_fa (off := 0) rfl e34 (by kernel_rfl) rfl) rfl (M.sub ⟨rfl, rfl, rfl, rfl, rfl, trivial⟩)
 ·intro ua uw SV pV M0 hk hn hd
  have M : Mx none w uw _ := M0
  clear M0
  obtain ⟨s10, f35, q35⟩ := (show SV 10 = true ∧ ua.eval (.tmp 35) = pV 10 ∧ stE _ 10 (pV 10) from hd 35 (by decide))
  have e35 : ua.eval (.tmp 35) = .pointer (some ⟨g, 3 * (q + 1), none⟩) := f35.trans q35
  exact zd (zb rfl) ((s (q + 1))) (zba _ _ rfl e35 (M.roB (k := 0) rfl) (vlt_s V s n hq) Tryz.underlying23 rfl) rfl (M.sub ⟨rfl, rfl, rfl, rfl, rfl, trivial⟩)
 ·intro ua uw SV pV M0 hk hn hd
  have M : Mx none w uw _ := M0
  clear M0
  obtain ⟨s2, f27, q27⟩ := (show SV 2 = true ∧ ua.eval (.tmp 27) = pV 2 ∧ stE _ 2 (pV 2) from hd 27 (by decide))
  have e27 : ua.eval (.tmp 27) = .int .i64 ((q + 1 : Nat) : Int) := f27.trans q27
  obtain ⟨s11, f36, q36⟩ := (show SV 11 = true ∧ ua.eval (.tmp 36) = pV 11 ∧ stE _ 11 (pV 11) from hd 36 (by decide))
  have e36 : ua.eval (.tmp 36) = (s (q + 1)) := f36.trans q36
  exact zwa (zb rfl) rfl #[.int .i64 ((q + 1 : Nat) : Int), (s (q + 1))] (zha e27 e36) (zE Tryz.func120 rfl) ((hb2 ▸ vgood_any (q + 1) ((V.c (q + 1)).s) (s (q + 1)) (hv (q + 1) hq).1 uw (hs2.step M.below)).mono fun e w2 h => (by obtain ⟨S_, h1, h2, h4, h3⟩ := h; exact ⟨_, h1, ⟨S_, rfl, h2.back M.below (fun g hg => hs2.lt (h4 g hg)), h4⟩, (M.step h3).sub ⟨rfl, rfl, rfl, rfl, rfl, trivial⟩⟩))
 ·intro ua uw SV pV M0 hk hn hd
  have M : Mx none w uw _ := M0
  clear M0
  obtain ⟨s12, f37, q37⟩ := (show SV 12 = true ∧ ua.eval (.tmp 37) = pV 12 ∧ stE _ 12 (pV 12) from hd 37 (by decide))
  have e37 : ua.eval (.tmp 37) = (pV 12) := f37
  obtain ⟨S_, eS_, hS_⟩ := (show ∃ S_, (pV 12) = .tuple #[.agg #[.int .i64 (entP (q + 1) ((V.c (q + 1)).s) : Int), .int .i64 (entT ((V.c (q + 1)).s)), S_], .bool b2] ∧ IsB w (entS ((V.c (q + 1)).s)) S_ ∧ ∀ g, bfp S_ g → bfp (s (q + 1)) g from q37)
  exact zd (zb rfl) ((pV 12)) (zaa _ (.inl rfl) e37) ⟨S_, eS_, hS_⟩ (M.sub ⟨rfl, rfl, rfl, rfl, rfl, trivial⟩)
 ·intro ua uw SV pV M0 hk hn hd
  have M : Mx none w uw _ := M0
  clear M0
  obtain ⟨s13, f24, q24⟩ := (show SV 13 = true ∧ ua.eval (.tmp 24) = pV 13 ∧ stE _ 13 (pV 13) from hd 24 (by decide))
  have e24 : ua.eval (.tmp 24) = (pV 13) := f24
  obtain ⟨S_, eS_, hS_⟩ := (show ∃ S_, (pV 13) = .tuple #[.agg #[.int .i64 (entP (q + 1) ((V.c (q + 1)).s) : Int), .int .i64 (entT ((V.c (q + 1)).s)), S_], .bool b2] ∧ IsB w (entS ((V.c (q + 1)).s)) S_ ∧ ∀ g, bfp S_ g → bfp (s (q + 1)) g from q24)
  exact zd (zb rfl) _ (y_ext _ _ rfl (e24.trans eS_) rfl) ⟨S_, rfl, hS_⟩ (M.sub ⟨rfl, rfl, rfl, rfl, (eitherR_off (hn 17 (by kernel_rfl)) rfl), trivial⟩)
 ·intro ua uw SV pV M0 hk hn hd
  have M : Mx none w uw _ := M0
  clear M0
  obtain ⟨s13, f24, q24⟩ := (show SV 13 = true ∧ ua.eval (.tmp 24) = pV 13 ∧ stE _ 13 (pV 13) from hd 24 (by decide))
  have e24 : ua.eval (.tmp 24) = (pV 13) := f24
  obtain ⟨S_, eS_, hS_⟩ := (show ∃ S_, (pV 13) = .tuple #[.agg #[.int .i64 (entP (q + 1) ((V.c (q + 1)).s) : Int), .int .i64 (entT ((V.c (q + 1)).s)), S_], .bool b2] ∧ IsB w (entS ((V.c (q + 1)).s)) S_ ∧ ∀ g, bfp S_ g → bfp (s (q + 1)) g from q24)
  exact zd (zb rfl) (.bool b2) (y_ext _ _ rfl (e24.trans eS_) rfl) rfl (M.sub ⟨rfl, rfl, rfl, rfl, rfl, trivial⟩)
 ·intro ua uw SV pV M0 hk hn hd
  have M : Mx none w uw _ := M0
  clear M0
  exact zd (zb rfl) _ (by unfold execOp; kernel_rfl) ⟨_, rfl⟩ ((M.allocP 4 128 (#[.int .i64 0, .int .i64 0, zN])).sub ⟨rfl, rfl, rfl, rfl, (z9b (hn 17 (by kernel_rfl)) rfl), trivial⟩)
 ·intro ua uw SV pV M0 hk hn hd
  have M : Mx none w uw _ := M0
  clear M0
  obtain ⟨s16, f8, q8⟩ := (show SV 16 = true ∧ ua.eval (.tmp 8) = pV 16 ∧ stE _ 16 (pV 16) from hd 8 (by decide))
  obtain ⟨s14, f38, q38⟩ := (show SV 14 = true ∧ ua.eval (.tmp 38) = pV 14 ∧ stE _ 14 (pV 14) from hd 38 (by decide))
  have e38 : ua.eval (.tmp 38) = (pV 14) := f38
  obtain ⟨S_, eS_, hS_⟩ := (show ∃ S_, pV 14 = .agg #[.int .i64 (entP (q + 1) ((V.c (q + 1)).s) : Int), .int .i64 (entT ((V.c (q + 1)).s)), S_] ∧ IsB w (entS ((V.c (q + 1)).s)) S_ ∧ ∀ g, bfp S_ g → bfp (s (q + 1)) g from q38)
  have eA_ : aggC (pV 14) = #[.int .i64 (entP (q + 1) ((V.c (q + 1)).s) : Int), .int .i64 (entT ((V.c (q + 1)).s)), S_] := by rw [eS_]; rfl
  obtain ⟨g_, r_⟩ := (show ∃ g, pV 16 = .pointer (some ⟨g, 0, none⟩) from q8)
  have M2 := M.ptrV (k := 4) (g := g_) (z3a s16 (zjb hk rfl)) r_
  exact hopM_doM (zb rfl) rfl (run_st M2 (k := 4) rfl _ _ _ rfl (f8.trans r_) (f38.trans eS_) (#[.int .i64 (entP (q + 1) ((V.c (q + 1)).s) : Int), .int .i64 (entT ((V.c (q + 1)).s)), S_]) _ rfl (zL rfl) (z0a hS_.1) (zn rfl) (by kernel_rfl)) (fun w2 h2 => (h2.toPtr (k := 4) rfl r_ eA_).sub ⟨rfl, rfl, rfl, rfl, rfl, trivial⟩) rfl
 intro p9 a9 w9 M9 G9 y9
 obtain ⟨-, -, -, -, -, -, -, -, -, -, -, -, -, -, q14, q15, q16, -, -⟩ := y9
 obtain ⟨gp16x8, r16⟩ := (show ∃ g, p9 16 = .pointer (some ⟨g, 0, none⟩) from q16)
 obtain ⟨S9, r14, hS9⟩ := (show ∃ S_, p9 14 = .agg #[.int .i64 (entP (q + 1) ((V.c (q + 1)).s) : Int), .int .i64 (entT ((V.c (q + 1)).s)), S_] ∧ IsB w (entS ((V.c (q + 1)).s)) S_ ∧ ∀ g, bfp S_ g → bfp (s (q + 1)) g from q14)
 have r15 : p9 15 = .bool b2 := q15
 replace M9 : Mx _ _ w9 [(0, blkO g 80 (vltA V s n)), (1, blkR g2 100 (#[.int .i64 (q : Int), .func (.func 88) #[] #[]])), (2, blkR g3 128 (#[.int .i64 0, .int .i64 0, zN])), (3, blkR gp14x5 128 (#[.int .i64 (entP q ((V.c q).s) : Int), .int .i64 (entT ((V.c q).s)), S6])), (4, zeb true (ptrR 128 (aggC (p9 14)) (p9 16)) (zya true (ptrR 128 (#[.int .i64 0, .int .i64 0, zN]) (p9 16))))] := M9
 simp only [List.take, layV, Nat.zero_add, Nat.reduceAdd, r14, r15, r16] at G9
 rw [r16, r14] at M9
 have M9_4 := M9.ptr (k := 4) (g := gp16x8) rfl
 replace M9_4 := M9_4.toB (k := 4) (c2 := #[.int .i64 (entP (q + 1) ((V.c (q + 1)).s) : Int), .int .i64 (entT ((V.c (q + 1)).s)), S9]) rfl rfl
 refine rm rfl G9 fun _ F10 => ?_
 refine hK8 _ _ ?_
 refine zS fun _ hK11 => ?_
 refine zS fun _ hK12 => ?_
 refine zR ?_
 refine rm rfl F10 fun _ F13 => ?_
 refine rm rfl F13 fun _ F14 => ?_
 cases b2
 ·refine zB 10 [(4, .pointer (some ⟨g3, 0, none⟩)), (5, .bool false), (6, .pointer (some ⟨gp14x5, 0, none⟩)), (7, .bool b1), (8, .pointer (some ⟨gp16x8, 0, none⟩)), (51, .bool false)] [] dnil [] F14 fun _ F15 => ?_
  clear F14
  refine hK12 _ _ ?_
  refine wp_cond_false (F15.get (t := 51) rfl) ?_
  refine wp_skip ?_
  refine hK11 _ _ ?_
  refine zS fun _ hK16 => ?_
  refine zR ?_
  refine zc (w' := w9) (zb rfl) rfl F15 rfl _ (zna _ _ rfl (F15.get (t := 6) rfl) (M9_4.blk (k := 3) rfl) (#[.int .i64 (entP q ((V.c q).s) : Int), .int .i64 (entT ((V.c q).s)), S6]) (zra rfl) Tryz.underlying128 rfl (by kernel_rfl)) fun _ F17 => ?_
  clear F15
  refine rm rfl F17 fun _ F18 => ?_
  refine zm (zb rfl) rfl F18 M9_4 (k := 2) rfl _ _ _ rfl (F18.get (t := 4) rfl) (F18.get (t := 53) rfl) (#[.int .i64 (entP q ((V.c q).s) : Int), .int .i64 (entT ((V.c q).s)), S6]) _ rfl (zL rfl) (z0a (hS6.1.step M9_4.below)) (zn rfl) (by kernel_rfl) ?_
  intro w19 M19
  clear M9_4
  refine rm rfl F18 fun _ F20 => ?_
  refine hK16 _ _ ?_
  refine wp_ret ?_
  try simp only [Exit.then, Exit.inBlock, Exit.jump]
  have hsec : secB zj V q = false := by rw [sec_eq hb1 hb2]; simp
  exact bodyPost_ret (resCT rfl (F20.get rfl) (M19.blk (k := 2) rfl) (F20.get rfl) Tryz.underlying128 rfl (by kernel_rfl)) F20.defers ⟨S6, (by rw [show cntP V q = _ from if_neg (by rw [hsec]; exact Bool.false_ne_true), show cntT V q = _ from if_neg (by rw [hsec]; exact Bool.false_ne_true), show anyB zj V q = b1 by rw [anyB, hsec, hb1]; rfl]), (by rw [show cntS V q = _ from if_neg (by rw [hsec]; exact Bool.false_ne_true)]; exact hS6.1), (fun g hg => .inl (hS6.2 g hg)), M19.below⟩
 ·refine rm rfl F14 fun _ F21 => ?_
  cases b1
  ·refine zB 9 [(4, .pointer (some ⟨g3, 0, none⟩)), (5, .bool false), (6, .pointer (some ⟨gp14x5, 0, none⟩)), (7, .bool false), (8, .pointer (some ⟨gp16x8, 0, none⟩)), (51, .bool true)] [] dnil [] F21 fun _ F22 => ?_
   clear F21
   refine hK12 _ _ ?_
   refine wp_cond_true (F22.get (t := 51) rfl) ?_
   refine zS fun _ hK23 => ?_
   refine zR ?_
   refine zc (w' := w9) (zb rfl) rfl F22 rfl _ (zna _ _ rfl (F22.get (t := 8) rfl) (M9_4.blk (k := 4) rfl) (#[.int .i64 (entP (q + 1) ((V.c (q + 1)).s) : Int), .int .i64 (entT ((V.c (q + 1)).s)), S9]) (zra rfl) Tryz.underlying128 rfl (by kernel_rfl)) fun _ F24 => ?_
   clear F22
   refine zm (zb rfl) rfl F24 M9_4 (k := 2) rfl _ _ _ rfl (F24.get (t := 4) rfl) (F24.get (t := 52) rfl) (#[.int .i64 (entP (q + 1) ((V.c (q + 1)).s) : Int), .int .i64 (entT ((V.c (q + 1)).s)), S9]) _ rfl (zL rfl) (z0a (hS9.1.step M9_4.below)) (zn rfl) (by kernel_rfl) ?_
   intro w25 M25
   clear M9_4
   refine rm rfl F24 fun _ F26 => ?_
   refine hK23 _ _ ?_
   refine wp_ret ?_
   try simp only [Exit.then, Exit.inBlock, Exit.jump]
   have hsec : secB zj V q = true := by rw [sec_eq hb1 hb2]; simp
   exact bodyPost_ret (resCT rfl (F26.get rfl) (M25.blk (k := 2) rfl) (F26.get rfl) Tryz.underlying128 rfl (by kernel_rfl)) F26.defers ⟨S9, (by rw [show cntP V q = _ from if_pos hsec, show cntT V q = _ from if_pos hsec, show anyB zj V q = true by rw [anyB, hsec, hb1]; rfl]), (by rw [show cntS V q = _ from if_pos hsec]; exact hS9.1), (fun g hg => .inr (hS9.2 g hg)), M25.below⟩
  ·refine zA 6 [(43, .bool false), (44, .bool false), (45, .pointer (some ⟨gp16x8, 1, none⟩)), (46, .int .i64 (entT ((V.c (q + 1)).s))), (47, .pointer (some ⟨gp14x5, 1, none⟩)), (48, .int .i64 (entT ((V.c q).s)))] [0, 1] (zt (M9_4.blk (k := 4) rfl) (zt (M9_4.blk (k := 3) rfl) dnil)) [gp16x8, gp14x5] F21 fun _ F27 => ?_
   clear F21
   by_cases h28 : (entT ((V.c q).s)) < (entT ((V.c (q + 1)).s))
   ·refine zc (w' := w9) (zf rfl rfl rfl (F27.get (t := 44) rfl)) rfl F27 rfl (.bool true) (y_gtr _ _ _ _ rfl (F27.get (t := 46) rfl) (F27.get (t := 48) rfl) (decide_eq_true h28)) fun _ F29 => ?_
    clear F27
    refine zA 2 [(50, .bool true), (51, .bool true)] [] dnil [] F29 fun _ F30 => ?_
    clear F29
    refine hK12 _ _ ?_
    refine wp_cond_true (F30.get (t := 51) rfl) ?_
    refine zS fun _ hK31 => ?_
    refine zR ?_
    refine zc (w' := w9) (zb rfl) rfl F30 rfl _ (zna _ _ rfl (F30.get (t := 8) rfl) (M9_4.blk (k := 4) rfl) (#[.int .i64 (entP (q + 1) ((V.c (q + 1)).s) : Int), .int .i64 (entT ((V.c (q + 1)).s)), S9]) (zra rfl) Tryz.underlying128 rfl (by kernel_rfl)) fun _ F32 => ?_
    clear F30
    refine zm (zb rfl) rfl F32 M9_4 (k := 2) rfl _ _ _ rfl (F32.get (t := 4) rfl) (F32.get (t := 52) rfl) (#[.int .i64 (entP (q + 1) ((V.c (q + 1)).s) : Int), .int .i64 (entT ((V.c (q + 1)).s)), S9]) _ rfl (zL rfl) (z0a (hS9.1.step M9_4.below)) (zn rfl) (by kernel_rfl) ?_
    intro w33 M33
    clear M9_4
    refine rm rfl F32 fun _ F34 => ?_
    refine hK31 _ _ ?_
    refine wp_ret ?_
    try simp only [Exit.then, Exit.inBlock, Exit.jump]
    have hsec : secB zj V q = true := by rw [sec_eq hb1 hb2]; simp [h28]
    exact bodyPost_ret (resCT rfl (F34.get rfl) (M33.blk (k := 2) rfl) (F34.get rfl) Tryz.underlying128 rfl (by kernel_rfl)) F34.defers ⟨S9, (by rw [show cntP V q = _ from if_pos hsec, show cntT V q = _ from if_pos hsec, show anyB zj V q = true by rw [anyB, hsec, hb1]; rfl]), (by rw [show cntS V q = _ from if_pos hsec]; exact hS9.1), (fun g hg => .inr (hS9.2 g hg)), M33.below⟩
   ·refine zc (w' := w9) (zf rfl rfl rfl (F27.get (t := 44) rfl)) rfl F27 rfl (.bool false) (y_gtr _ _ _ _ rfl (F27.get (t := 46) rfl) (F27.get (t := 48) rfl) (decide_eq_false h28)) fun _ F35 => ?_
    clear F27
    refine zA 2 [(50, .bool false), (51, .bool false)] [] dnil [] F35 fun _ F36 => ?_
    clear F35
    refine hK12 _ _ ?_
    refine wp_cond_false (F36.get (t := 51) rfl) ?_
    refine wp_skip ?_
    refine hK11 _ _ ?_
    refine zS fun _ hK37 => ?_
    refine zR ?_
    refine zc (w' := w9) (zb rfl) rfl F36 rfl _ (zna _ _ rfl (F36.get (t := 6) rfl) (M9_4.blk (k := 3) rfl) (#[.int .i64 (entP q ((V.c q).s) : Int), .int .i64 (entT ((V.c q).s)), S6]) (zra rfl) Tryz.underlying128 rfl (by kernel_rfl)) fun _ F38 => ?_
    clear F36
    refine rm rfl F38 fun _ F39 => ?_
    refine zm (zb rfl) rfl F39 M9_4 (k := 2) rfl _ _ _ rfl (F39.get (t := 4) rfl) (F39.get (t := 53) rfl) (#[.int .i64 (entP q ((V.c q).s) : Int), .int .i64 (entT ((V.c q).s)), S6]) _ rfl (zL rfl) (z0a (hS6.1.step M9_4.below)) (zn rfl) (by kernel_rfl) ?_
    intro w40 M40
    clear M9_4
    refine rm rfl F39 fun _ F41 => ?_
    refine hK37 _ _ ?_
    refine wp_ret ?_
    try simp only [Exit.then, Exit.inBlock, Exit.jump]
    have hsec : secB zj V q = false := by rw [sec_eq hb1 hb2]; simp [h28]
    exact bodyPost_ret (resCT rfl (F41.get rfl) (M40.blk (k := 2) rfl) (F41.get rfl) Tryz.underlying128 rfl (by kernel_rfl)) F41.defers ⟨S6, (by rw [show cntP V q = _ from if_neg (by rw [hsec]; exact Bool.false_ne_true), show cntT V q = _ from if_neg (by rw [hsec]; exact Bool.false_ne_true), show anyB zj V q = true by rw [anyB, hsec, hb1]; rfl]), (by rw [show cntS V q = _ from if_neg (by rw [hsec]; exact Bool.false_ne_true)]; exact hS6.1), (fun g hg => .inl (hS6.2 g hg)), M40.below⟩
end Go.Proofs.YtmjbnmbobocpdaaGreat
namespace Go.Proofs.YtmjbnmbobocpdaaGreat
open Go.ChangeShapes Go.WideShapes Go.ChangeAt Go.RowKit Go.Shelf
theorem setCell_heap {w : World} {g o : Nat} {v : Value} {c : Array Value} {t : TypeId} {fr : Nat × Nat} (h : w.heap[g]? = some (.cells c t fr)) : (w.setCell ⟨g, o, none⟩ v).heap[g]? = some (.cells (c.setIfInBounds o v) t fr) := by
  obtain ⟨hlt, e⟩ := Array.getElem?_eq_some_iff.1 h
  unfold World.setCell
  simp [hlt]
  rw [Array.getElem_modify_self, e]
theorem grown_setCells (g : Nat) : ∀ (vs : List Value) (o : Nat) (w : World), w.grownBy (w.setCells g o vs) (some g)
  | [], _, w => World.grownBy.refl _ _
  | v :: r, o, w => by
    have h := grown_setCells g r (o + 1) (w.setCell ⟨g, o, none⟩ v)
    refine World.grownBy.trans ?_ h
    exact ⟨rfl, rfl, rfl, by simp [World.setCell], fun k hk hn => Below.heap_setCell w ⟨g, o, none⟩ v k (fun e => hn (by rw [e]))⟩
theorem heap_setCells (g : Nat) : ∀ (vs : List Value) (o : Nat) (w : World) (c : Array Value) (t : TypeId) (fr : Nat × Nat), w.heap[g]? = some (.cells c t fr) → ∃ c', (w.setCells g o vs).heap[g]? = some (.cells c' t fr) ∧ c'.size = c.size ∧
    (∀ j, j < vs.length → o + j < c.size → c'[o + j]? = vs[j]?) ∧ ∀ k, (k < o ∨ o + vs.length ≤ k) → c'[k]? = c[k]?
  | [], o, w, c, t, fr, h => ⟨c, h, rfl, fun j hj => absurd hj (Nat.not_lt_zero _), fun _ _ => rfl⟩
  | v :: r, o, w, c, t, fr, h => by
    obtain ⟨c', h1, h2, h3, h4⟩ := heap_setCells g r (o + 1) (w.setCell ⟨g, o, none⟩ v) _ t fr (setCell_heap h)
    refine ⟨c', h1, by rw [h2]; simp, fun j hj hlt => ?_, fun k hk => ?_⟩
    · cases j with
      | zero =>
        rw [Nat.add_zero, h4 o (.inl (by omega)), Array.getElem?_setIfInBounds_self]
        simp at hlt
        simp [hlt]
      | succ j =>
        have := h3 j (by simpa using hj) (by simp; omega)
        rw [show o + (j + 1) = o + 1 + j by omega, this]
        simp
    · rw [h4 k (by simp at hk; omega), Array.getElem?_setIfInBounds_ne (by simp at hk; omega)]
def Tl (w : World) (v : Value) (l : List UInt8) : Prop := (v = zN ∧ l = []) ∨
  ∃ g o c cur, v = .slice (some ⟨g, o, none⟩) l.length c ∧ w.heap[g]? = some (.cells cur 5 (0, 0)) ∧ l.length ≤ c ∧ c ≤ maxLen ∧ o + c ≤ cur.size ∧ ∀ j b, l[j]? = some b → cur[o + j]? = some (bv b)
theorem Tl.same {l : List UInt8} {v : Value} {u u' : World} (hs : Same (ofp v) u u') (h : Tl u v l) : Tl u' v l := by
  rcases h with h | ⟨g, o, c, cur, e, h1, h2⟩
  · exact .inl h
  · exact .inr ⟨g, o, c, cur, e, hs g _ (by rw [ofp, e]; rfl) h1, h2⟩
theorem Tl.isb {w : World} {v : Value} {l : List UInt8} (h : Tl w v l) : IsB w l v := by
  rcases h with ⟨rfl, rfl⟩ | ⟨g, o, c, cur, rfl, h1, h2, h3, h4, h5⟩
  · exact zla w
  · refine ⟨_, _, rfl, h2, h3, fun e => (by cases e), fun _ => ⟨_, rfl, (Array.getElem?_eq_some_iff.1 h1).1, fun j b hb => ?_⟩⟩
    rw [zca]
    exact y_cell h1 (h5 j b hb)
theorem Tl.lt {w : World} {v : Value} {l : List UInt8} (h : Tl w v l) : ∀ g, ofp v g → g < w.heap.size := fun g hg => by
  rcases h with ⟨rfl, _⟩ | ⟨g', o, c, cur, rfl, h1, _⟩
  · cases hg
  · cases hg; exact (Array.getElem?_eq_some_iff.1 h1).1
section
variable {G : Option Nat} {w0 w : World} {R : List (Nat × Res)} {a : Act} {o : Oper}
end
end Go.Proofs.YtmjbnmbobocpdaaGreat
namespace Go.Proofs.YtmjbnmbobocpdaaGreat
open Go.ChangeShapes Go.WideShapes Go.ChangeAt Go.RowKit
def wrLt (R : List (Nat × Res)) (N : Nat) : Prop := ∀ k s, look R k = some s → s.wr = true → ∀ g, s.fp g → g < N
theorem Mx.roB2 {G : Option Nat} {w0 w : World} {R : List (Nat × Res)} {N : Nat} (M : Mx G w0 w R) (hN : wrLt R N) (i : Nat) {l : List UInt8} {v : Value} (hv : IsB w l v) (hlo : ∀ g, bfp v g → N ≤ g) : Mx G w0 w ((i, bytR l v) :: R) ∧ wrLt ((i, bytR l v) :: R) N :=
  ⟨M.cons i _ hv z0b (fun g hg => hv.lt hg) (fun e => by cases e) fun k s e _ hh g hg hs => by
    rcases hh with hh | hh
    · cases hh
    · have h1 := hN k s e hh g hs
      have h2 := hlo g hg
      omega, fun k s e hw g hg => by
    rw [zu] at e; split at e
    · cases e; cases hw
    · exact hN k s e hw g hg⟩
end Go.Proofs.YtmjbnmbobocpdaaGreat
namespace Go.Proofs.YtmjbnmbobocpdaaGreat
open Go.ChangeShapes Go.WideShapes Go.ChangeAt Go.RowKit
theorem zvb (a n : Int) (hn : 0 < n) (hn' : n < 9223372036854775808) (ha : -9223372036854775808 ≤ a) (ha' : a < 9223372036854775808) (w : World) :
    Calls Tryz.prog 69 #[.int .i64 a, .int .i64 n] w fun e w' => e = .returned (.int .i64 (a % n)) ∧ w = w' := by
  obtain ⟨h1, h2, h3, h4⟩ := tmod_case a n hn
  have hz : (n == 0) = false := by simp; omega
  by_cases h : a.tmod n < 0
  · have H := hid (h2 h)
    clear h1 h2
    go_enter Tryz.func69, Tryz.ntmps69
    go_wp2
    go_ret
    exact ⟨congrArg (fun x => Ending.returned (.int .i64 x)) H.out, rfl⟩
  · have H := hid (h1 (by omega))
    clear h1 h2
    go_enter Tryz.func69, Tryz.ntmps69
    go_wp2
    go_ret
    exact ⟨congrArg (fun x => Ending.returned (.int .i64 x)) H.out, rfl⟩
end Go.Proofs.YtmjbnmbobocpdaaGreat
namespace Go.Proofs.YtmjbnmbobocpdaaGreat
open Go.ChangeShapes Go.WideShapes Go.ChangeAt Go.RowKit Go.Shelf
def Oz (w : World) (v : Value) (l : List UInt8) : Prop :=
  ∃ g c cur lo hi, v = .slice (some ⟨g, 0, none⟩) l.length c ∧ w.heap[g]? = some (.cells cur 5 (lo, hi)) ∧ l.length ≤ lo ∧ l.length ≤ c ∧ c ≤ maxLen ∧ ∀ (j : Nat) (b : UInt8), l[j]? = some b → cur[j]? = some (bv b)
def ozR (l : List UInt8) (v : Value) : Res := ⟨true, ofp v, fun w => Oz w v l⟩
theorem Oz.same {l : List UInt8} {v : Value} {u u' : World} (hs : Same (ofp v) u u') (h : Oz u v l) : Oz u' v l := by
  obtain ⟨g, c, cur, lo, hi, rfl, hg, h1, h2, h3, h4⟩ := h
  exact ⟨g, c, cur, lo, hi, rfl, hs g _ (by simp [ofp, Value.ownBlock]) hg, h1, h2, h3, h4⟩
theorem ozR_dep {l : List UInt8} {v : Value} : ∀ u u', Same (ozR l v).fp u u' → (ozR l v).F u → (ozR l v).F u' := fun _ _ hs h => Oz.same hs h
theorem Oz.isb {w : World} {v : Value} {l : List UInt8} (h : Oz w v l) : IsB w l v := by
  obtain ⟨g, c, cur, lo, hi, rfl, hg, h1, h2, h3, h4⟩ := h
  refine ⟨_, _, rfl, h2, h3, (fun e => by cases e), fun _ => ⟨_, rfl, zxa hg, fun j b hj => ?_⟩⟩
  rw [zca, Nat.zero_add]
  simp [World.cell?, hg, h4 j b hj]
theorem Oz.lt {w : World} {v : Value} {l : List UInt8} (h : Oz w v l) : ∀ g, ofp v g → g < w.heap.size := fun q hq => by
  obtain ⟨g, c, cur, lo, hi, rfl, hg, h1, h2, h3, h4⟩ := h
  obtain rfl : g = q := by simpa [ofp, Value.ownBlock] using hq
  exact zxa hg
section
variable {G : Option Nat} {w0 w w' : World} {R : List (Nat × Res)} {l : List UInt8} {v : Value} {a : Act} {o : Oper}
theorem Mx.isZ (M : Mx G w0 w R) {k : Nat} (h : look R k = some (ozR l v)) : IsB w l v := Oz.isb (M.at_ k _ h)
theorem Mx.tameZ (M : Mx G w0 w R) {k : Nat} (hk : look R k = some (ozR l v)) : Mx G w0 w ((k, bytR l v) :: R) :=
  M.cons k _ (M.isZ hk) z0b (fun g hg => M.lt k _ hk g (zma hg)) (fun e => by cases e) fun j s e hj _ g hg hs => M.dis k j _ s hk e hj rfl g (zma hg) hs
theorem run_cvZ (M : Mx G w0 w R) (i : Nat) (x : Operand) (ho : o.op = .convert 9 23 x) {s : ByteArray} (hx : a.eval x = .string s) (hs : s.size ≤ 1000000) :
    ∃ v w', (execOp a.eval o).run Tryz.prog w = .ok (.value v) w' ∧ Mx G w0 w' ((i, ozR (sBy s) v) :: R) := by
  have hc := grownCap_ge w s.size 0 5
  have hm := grownCap_le_maxLen w s.size 0 5 (by unfold maxLen; omega)
  obtain ⟨w', hw'⟩ : ∃ w', w' = w.drew.alloc (.cells (bytesRow s (grownCap w s.size 0 5)) 5 ((bytesRow s (grownCap w s.size 0 5)).size, (bytesRow s (grownCap w s.size 0 5)).size + 1)) := ⟨_, rfl⟩
  have hh : w'.heap[w.heap.size]? = some (.cells (bytesRow s (grownCap w s.size 0 5)) 5 ((bytesRow s (grownCap w s.size 0 5)).size, (bytesRow s (grownCap w s.size 0 5)).size + 1)) := by
    rw [hw']; exact heap_alloc_new w.drew _
  have hcell : ∀ j b, (sBy s)[j]? = some b → (bytesRow s (grownCap w s.size 0 5))[j]? = some (bv b) := fun j b hj => by
    have hl := (List.getElem?_eq_some_iff.1 hj).1
    rw [sBy_len] at hl
    unfold bytesRow sBy at *
    rw [Array.getElem?_append]
    rw [if_pos (by simpa using hl)]
    rw [Array.getElem?_toList] at hj
    simp [hj, bv]
  have hlo : (sBy s).length ≤ (bytesRow s (grownCap w s.size 0 5)).size := by
    rw [sBy_len]; unfold bytesRow; simp
  refine ⟨.slice (some ⟨w.heap.size, 0, none⟩) s.size (grownCap w s.size 0 5), w', ?_, M.fresh (by rw [hw']; exact (zga w).trans (zpa w.drew _)) i _ ⟨_, _, _, _, _, by rw [sBy_len], hh, hlo, by rw [sBy_len]; exact hc, hm, hcell⟩ ozR_dep fun g hg => ?_⟩
  · have h := run_bytes_of_string w 9 23 5 s Tryz.underlying9 Tryz.underlying23 Tryz.underlying5
    rw [hw']
    exact run_cv' _ _ x ho hx h
  · obtain rfl : w.heap.size = g := by simpa [ozR, ofp, Value.ownBlock] using hg
    exact ⟨Nat.le_refl _, zxa hh⟩
theorem run_setZ (M : Mx G w0 w R) {k : Nat} (hk : look R k = some (ozR l v)) (x y : Operand) (ho : o.op = .store 5 x y) {j : Nat} (hx : a.eval x = ixV v j) {z : Int} (b : UInt8) (hy : a.eval y = .int .u8 z) (hz : z = (b.toNat : Int)) (hj : j < l.length) :
    ∃ w', (execOp a.eval o).run Tryz.prog w = .ok .skip w' ∧ Mx G w0 w' ((k, ozR (l.set j b) v) :: R) := by
  subst hz
  have hown : Oz w v l := M.at_ k _ hk
  obtain ⟨g, c, cur, lo, hi, rfl, hg, h1, h2, h3, h4⟩ := hown
  have hi1 : (Tryz.prog.info? 5).map (·.size) = some 1 := by kernel_rfl
  have hold := h4 j l[j] (List.getElem?_eq_getElem hj)
  have hrun := run_storeCells_cells (P := Tryz.prog) g j [bv b] 0 w (fun q hq => by
      obtain rfl : q = 0 := by simpa using hq
      simp [World.cell?, hg, hold]) (fun q hq => by
      obtain rfl : q = 0 := by simpa using hq
      simp only [Nat.add_zero, World.frozen?, hg]
      simp; omega) (fun u hu => by
      obtain rfl : u = bv b := by simpa using hu
      simp [bv, Value.oneCell'])
  obtain ⟨cur', k1, k2, k3, k4⟩ := heap_setCells g [bv b] j w cur 5 (lo, hi) hg
  have hjc : j < cur.size := (Array.getElem?_eq_some_iff.1 hold).1
  refine ⟨w.setCells g j [bv b], ?_, M.write hk rfl (grown_setCells g _ _ _) (fun q e => by cases e; simp [ozR, ofp, Value.ownBlock]) _ ⟨g, c, cur', lo, hi, by rw [List.length_set], k1, by rw [List.length_set]; exact h1, by rw [List.length_set]; exact h2, h3, fun q u hq => ?_⟩ ozR_dep fun q hq => ?_⟩
  · have hrun2 : (Instr.storeAt 5 (.pointer (some ⟨g, j, none⟩)) (.int .u8 (b.toNat : Int))).run Tryz.prog w = .ok () (w.setCells g j [bv b]) := by
      simp only [Instr.storeAt, Instr.sureAddr, Sem.run_bind, Sem.run_pure, Result.andThen_ok]
      simp only [Nat.add_zero] at hrun
      cases hq : Tryz.prog.info? 5 with
      | none => simp [hq] at hi1
      | some i =>
        have hz : i.size = 1 := by simpa [hq] using hi1
        simp [storeVar, Sem.run_bind, sizeOf, typeInfo, hq, hz, Value.cells]
        simpa [bv] using hrun
    have hx' : a.eval x = .pointer (some ⟨g, j, none⟩) := by rw [hx]; simp [ixV, zca]
    unfold execOp
    simp only [ho, hx', hy, Sem.run_bind, hrun2, Result.andThen_ok, Sem.run_pure]
  · rw [List.getElem?_set] at hq
    by_cases e : j = q
    · subst e
      rw [if_pos rfl, if_pos hj] at hq
      obtain rfl := Option.some.inj hq
      have := k3 0 (by simp) (by simpa using hjc)
      simpa using this
    · rw [if_neg e] at hq
      rw [k4 q (by simp; omega)]
      exact h4 q u hq
  · have e : g = q := by simpa [ozR, ofp, Value.ownBlock] using hq
    subst e
    refine ⟨zxa k1, .inl (by simp [ozR, ofp, Value.ownBlock])⟩
end
end Go.Proofs.YtmjbnmbobocpdaaGreat
namespace Go.Proofs.YtmjbnmbobocpdaaGreat
open Go.ChangeShapes Go.WideShapes Go.ChangeAt Go.RowKit
def nmC (x : UInt8) : UInt8 := zy (33 + ((x.toNat : Nat) : Int) % 94)
def nmL (l : List UInt8) : List UInt8 := l.map nmC
theorem nmL_len (l : List UInt8) : (nmL l).length = l.length := by simp [nmL]
def nmP (l : List UInt8) (j : Nat) : List UInt8 := (l.take j).map nmC ++ l.drop j
theorem nmP_len (l : List UInt8) (j : Nat) : (nmP l j).length = l.length := by simp [nmP]; omega
theorem nmP_zero (l : List UInt8) : nmP l 0 = l := by simp [nmP]
theorem nmP_all (l : List UInt8) : nmP l l.length = nmL l := by simp [nmP, nmL]
theorem nmP_at {l : List UInt8} {j : Nat} {x : UInt8} (h : l[j]? = some x) : (nmP l j)[j]? = some x := by
  have hl := (List.getElem?_eq_some_iff.1 h).1
  unfold nmP
  rw [List.getElem?_append_right (by simp; omega)]
  simp [Nat.min_eq_left (Nat.le_of_lt hl), h]
theorem nmP_set {l : List UInt8} {j : Nat} {x : UInt8} (h : l[j]? = some x) : (nmP l j).set j (zy (33 + ((x.toNat : Nat) : Int) % 94)) = nmP l (j + 1) := by
  have hl := (List.getElem?_eq_some_iff.1 h).1
  unfold nmP
  rw [List.set_append_right _ _ (by simp; omega), List.take_add_one, h, List.map_append, List.append_assoc]
  congr 1
  rw [List.length_map, List.length_take, Nat.min_eq_left (Nat.le_of_lt hl), Nat.sub_self, List.drop_eq_getElem_cons hl]
  simp [nmC, (List.getElem?_eq_some_iff.1 h).2]
def nmB (s : ByteArray) : ByteArray := if (sBy s).length = 0 then ⟨#[117]⟩ else ⟨((nmL (sBy s)).take (min (sBy s).length 16)).toArray⟩
theorem nmB_nil {s : ByteArray} (h : (sBy s).length = 0) : nmB s = ⟨#[117]⟩ := if_pos h
theorem nmB_some {s : ByteArray} (h : ¬ (sBy s).length = 0) : nmB s = ⟨((nmL (sBy s)).take (min (sBy s).length 16)).toArray⟩ := if_neg h
theorem nmC_in (x : UInt8) : 33 ≤ (nmC x).toNat ∧ (nmC x).toNat ≤ 126 := by
  have h := byteI_val (33 + ((x.toNat : Nat) : Int) % 94)
  have h1 := Int.emod_nonneg ((x.toNat : Nat) : Int) (show (94 : Int) ≠ 0 by decide)
  have h2 := Int.emod_lt_of_pos ((x.toNat : Nat) : Int) (show (0 : Int) < 94 by decide)
  show 33 ≤ (zy _).toNat ∧ (zy _).toNat ≤ 126
  omega
theorem lname_any (s : ByteArray) (hs : s.size ≤ 40) (w : World) :
  Calls Tryz.prog 70 #[.string s] w fun e w' => e = .returned (.string (nmB s)) ∧ Below w.heap.size w w' := by
 have hsl : (sBy s).length ≤ 40 := by rw [sBy_len]; exact hs
 refine zi (args := [.string s]) 33 Tryz.func70 rfl rfl rfl ?_
 intro fa F
 have M := Mx.start w
 refine zT fun _ hK1 => ?_
 refine rm rfl F fun _ F2 => ?_
 refine hK1 _ _ (zS fun _ hK3 => ?_)
 refine zR ?_
 refine rm rfl F2 fun _ F4 => ?_
 refine zdb (zb rfl) rfl F4 rfl (run_cvZ M 0 _ rfl (F4.get rfl) (Nat.le_trans hs (by omega))) ?_
 intro v5 a5 w5 F5 M5
 clear F4 M
 obtain ⟨A5, c5, rfl⟩ := (M5.isZ (k := 0) rfl).shape
 refine rm rfl F5 fun _ F6 => ?_
 refine hK3 _ _ (zS fun _ hK7 => ?_)
 refine zT fun _ hK8 => ?_
 refine rm rfl F6 fun _ F9 => ?_
 refine hK8 _ _ (wp_block ?_)
 have hz := nmP_zero (sBy s)
 refine zyb (α := Nat) (n := 33) (G := none) (w0 := w) (fun x => [(0, .string s), (2, .string ({ data := #[] })), (5, .string s), (6, .slice A5 ((sBy s)).length c5), (3, .slice A5 ((sBy s)).length c5), (4, .int .i64 (x : Int))]) (fun x => [(0, ozR (nmP (sBy s) x) (.slice A5 ((sBy s)).length c5))]) (fun k x => k = (sBy s).length - x ∧ (x ≤ (sBy s).length)) _ 0 ⟨rfl, (Nat.zero_le _)⟩ (F9.sub ⟨rfl, rfl, rfl, rfl, rfl, rfl, trivial⟩) (M5.sub ⟨(by rw [hz]; rfl), trivial⟩) ?_
 clear F9 M5
 rintro k10 jn a10 w10 K10 ⟨ek10, I10⟩ F10 M10 hK10
 replace F10 : Fx 33 a10 [(0, .string s), (2, .string ({ data := #[] })), (5, .string s), (6, .slice A5 ((sBy s)).length c5), (3, .slice A5 ((sBy s)).length c5), (4, .int .i64 (jn : Int))] := F10
 replace M10 : Mx _ _ w10 [(0, ozR (nmP (sBy s) jn) (.slice A5 ((sBy s)).length c5))] := M10
 replace I10 : jn ≤ (sBy s).length := I10
 replace ek10 : k10 = (sBy s).length - jn := ek10
 by_cases hlt : jn < (sBy s).length
 rotate_left
 ·obtain rfl : jn = (sBy s).length := by omega
  have hal := nmP_all (sBy s)
  rw [hal] at M10
  refine zS fun _ hK33 => zS fun _ hK34 => ?_
  refine zR ?_
  refine rm rfl F10 fun _ F35 => ?_
  refine rm rfl F35 fun _ F36 => ?_
  refine rn rfl rfl F36 rfl (.int .i64 ((sBy s).length : Int)) (zob _ rfl (F36.get rfl) (M10.isZ (k := 0) rfl) (by rw [nmL_len])) fun _ F37 => ?_
  refine rn rfl rfl F37 rfl (.bool false) (zgb _ _ _ _ rfl (F37.get rfl) (F37.get rfl) (decide_eq_false (Int.lt_irrefl _))) fun _ F38 => ?_
  refine hK34 _ _ (wp_cond_false (F38.get rfl) ?_)
  refine wp_exit ?_
  simp only [Exit.then, Exit.inBlock, ↓reduceIte, Nat.reduceEqDiff]
  refine hK7 _ _ (zS fun _ hK39 => ?_)
  refine zT fun _ hK40 => ?_
  refine rm rfl F38 fun _ F41 => ?_
  refine rn rfl rfl F41 rfl (.int .i64 ((sBy s).length : Int)) (zob _ rfl (F41.get rfl) (M10.isZ (k := 0) rfl) (by rw [nmL_len])) fun _ F42 => ?_
  by_cases h43 : ((sBy s).length : Int) = 0
  ·refine rn rfl rfl F42 rfl (.bool true) (zsb _ _ _ _ rfl (F42.get rfl) rfl Tryz.underlying3 (y_beqT h43)) fun _ F44 => ?_
   refine hK40 _ _ (wp_cond_true (F44.get rfl) ?_)
   refine zT fun _ hK45 => ?_
   refine rm rfl F44 fun _ F46 => ?_
   refine hK45 _ _ (wp_ret ?_)
   try simp only [Exit.then, Exit.inBlock, Exit.jump]
   exact bodyPost_ret (res1 rfl (F46.get rfl)) F46.defers ⟨by rw [nmB_nil (by omega)], M10.below⟩
  refine rn rfl rfl F42 rfl (.bool false) (zsb _ _ _ _ rfl (F42.get rfl) rfl Tryz.underlying3 (y_beqF h43)) fun _ F47 => ?_
  refine hK40 _ _ (wp_cond_false (F47.get rfl) ?_)
  refine wp_skip ?_
  refine hK39 _ _ (zS fun _ hK48 => ?_)
  refine zR ?_
  refine rm rfl F47 fun _ F49 => ?_
  refine rm rfl F49 fun _ F50 => ?_
  refine rn rfl rfl F50 rfl (.int .i64 ((sBy s).length : Int)) (zob _ rfl (F50.get rfl) (M10.isZ (k := 0) rfl) (by rw [nmL_len])) fun _ F51 => ?_
  refine rn rfl rfl F51 rfl (.int .i64 ((min ((sBy s).length) 16 : Nat) : Int)) (y_min _ _ rfl (F51.get rfl) rfl (by split <;> omega)) fun _ F52 => ?_
  refine wl_runE (zb rfl) rfl F52 rfl (y_slTo _ _ rfl (F52.get rfl) (M10.isZ (k := 0) rfl) (F52.get rfl) (j := (min (sBy s).length 16)) rfl (by rw [nmL_len]; omega)) ?_
  intro v53 a53 h53 F53
  have M54 := M10.tameZ (k := 0) rfl
  clear M10
  have M53 := M54.partB 1 (k := 0) rfl h53.1 h53.2
  clear M54
  obtain ⟨A53, c53, rfl⟩ := (M53.isb (k := 1) rfl).shape
  refine rn rfl rfl F53 rfl (.string (⟨(((nmL (sBy s)).take (min (sBy s).length 16))).toArray⟩)) (y_str _ rfl (F53.get rfl) (M53.isb (k := 1) rfl)) fun _ F55 => ?_
  refine rm rfl F55 fun _ F56 => ?_
  refine hK48 _ _ (wp_ret ?_)
  try simp only [Exit.then, Exit.inBlock, Exit.jump]
  exact bodyPost_ret (res1 rfl (F56.get rfl)) F56.defers ⟨by rw [nmB_some (by omega)], M53.below⟩
 obtain ⟨x, hx⟩ : ∃ x, (sBy s)[jn]? = some x := ⟨_, List.getElem?_eq_getElem hlt⟩
 have hxl := x.toNat_lt
 have hpx := nmP_at hx
 have hps := nmP_set hx
 have hpl := nmP_len (sBy s) jn
 refine zS fun _ hK11 => zS fun _ hK12 => ?_
 refine zR ?_
 refine rm rfl F10 fun _ F13 => ?_
 refine rm rfl F13 fun _ F14 => ?_
 refine rn rfl rfl F14 rfl (.int .i64 ((sBy s).length : Int)) (zob _ rfl (F14.get rfl) (M10.isZ (k := 0) rfl) (by rw [nmP_len])) fun _ F15 => ?_
 refine rn rfl rfl F15 rfl (.bool true) (zgb _ _ _ _ rfl (F15.get rfl) (F15.get rfl) (decide_eq_true (show (jn : Int) < ((sBy s).length : Int) by omega))) fun _ F16 => ?_
 refine hK12 _ _ (wp_cond_true (F16.get rfl) ?_)
 refine wp_skip ?_
 refine hK11 _ _ (zS fun _ hK17 => ?_)
 refine wp_block ?_
 refine zR ?_
 refine rm rfl F16 fun _ F18 => ?_
 refine rm rfl F18 fun _ F19 => ?_
 refine rm rfl F19 fun _ F20 => ?_
 refine rm rfl F20 fun _ F21 => ?_
 refine rn rfl rfl F21 rfl ((ixV (.slice A5 ((sBy s)).length c5) jn)) (y_ixB _ _ rfl (F21.get rfl) (M10.isZ (k := 0) rfl) (F21.get rfl) rfl (by rw [nmP_len]; omega)) fun _ F22 => ?_
 refine rn rfl rfl F22 rfl (.int .u8 ((x.toNat : Nat) : Int)) (y_ldB _ rfl (F22.get rfl) (M10.isZ (k := 0) rfl) hpx rfl) fun _ F23 => ?_
 refine rn rfl rfl F23 rfl (.int .i64 ((x.toNat : Nat) : Int)) (y_cvI _ _ _ rfl (F23.get rfl) Tryz.underlying5 Tryz.underlying3 (byte_i64 _)) fun _ F24 => ?_
 refine zg (zb rfl) rfl F24 rfl rfl (zE Tryz.func69 rfl) #[.int .i64 ((x.toNat : Nat) : Int), .int .i64 94] (zha (F24.get rfl) rfl) (zda ((zvb ((x.toNat : Nat) : Int) 94 (by omega) (by omega) (by omega) (by omega) w10))) ?_
 rintro _ w25 a25 ⟨rfl, rfl⟩ F25
 refine rn rfl rfl F25 rfl (.int .i64 (33 + (((x.toNat : Nat) : Int) % 94))) (zqa _ _ _ _ rfl rfl (F25.get rfl) rfl (by omega)) fun _ F26 => ?_
 refine rn rfl rfl F26 rfl (.int .u8 (((zy (33 + (((x.toNat : Nat) : Int) % 94))).toNat : Nat) : Int)) (y_cvI _ _ _ rfl (F26.get rfl) Tryz.underlying3 Tryz.underlying5 (byteI_wrap _)) fun _ F27 => ?_
 refine rn rfl rfl F27 rfl ((ixV (.slice A5 ((sBy s)).length c5) jn)) (y_ixB _ _ rfl (F27.get rfl) (M10.isZ (k := 0) rfl) (F27.get rfl) rfl (by rw [nmP_len]; omega)) fun _ F28 => ?_
 refine wl_doM (zb rfl) rfl F28 (run_setZ M10 (k := 0) rfl _ _ rfl (F28.get rfl) (zy (33 + (((x.toNat : Nat) : Int) % 94))) (F28.get rfl) rfl (by rw [nmP_len]; omega)) ?_
 intro w29 M29
 clear M10
 refine hK17 _ _ (zR ?_)
 refine rm rfl F28 fun _ F30 => ?_
 refine rn rfl rfl F30 rfl (.int .i64 ((jn + 1 : Nat) : Int)) (zqa _ _ _ _ rfl (F30.get rfl) rfl (by omega) (by omega)) fun _ F31 => ?_
 refine rm rfl F31 fun _ F32 => ?_
 subst ek10
 exact hK10 _ (jn + 1) _ _ (by omega) ⟨rfl, (by omega)⟩ (F32.sub ⟨rfl, rfl, rfl, rfl, rfl, rfl, trivial⟩) (M29.sub ⟨(by rw [← hps]; rfl), trivial⟩)
end Go.Proofs.YtmjbnmbobocpdaaGreat
namespace Go.Proofs.YtmjbnmbobocpdaaGreat
open Go.ChangeShapes Go.WideShapes Go.ChangeAt Go.RowKit
theorem z2b {p q : Int} (hp : -9223372036854775808 ≤ p ∧ p < 9223372036854775808) (hq : 0 < q) : -9223372036854775808 ≤ p.tdiv q ∧ p.tdiv q < 9223372036854775808 :=
  ⟨(tdiv_in hp hq).1, Int.lt_of_le_of_lt (tdiv_in hp hq).2 (by decide)⟩
end Go.Proofs.YtmjbnmbobocpdaaGreat
namespace Go.Proofs.YtmjbnmbobocpdaaGreat
open Go.ChangeShapes Go.WideShapes Go.ChangeAt Go.RowKit
def mkR (n : Int) (s : ByteArray) (b : List UInt8) : RecN :=
  ⟨1 + n % 2, nmB s, b.take (n % ((min b.length 16 + 1 : Nat) : Int)).toNat, ((n.tdiv 2) % 4294967296).toNat, ((n.tdiv 7) % 4294967296).toNat, b.take ((n.tdiv 3) % ((min b.length 48 + 1 : Nat) : Int)).toNat, (n.tdiv 11) % 6, (n.tdiv 13) % 1000, (n.tdiv 17) % 1099511627776⟩
theorem make_rec (n : Int) (s : ByteArray) (b : List UInt8) (v : Value) (hN : -9223372036854775808 ≤ n ∧ n < 9223372036854775808) (hs : s.size ≤ 40) (hbl : b.length ≤ 1000) (w : World) (hv : IsB w b v) :
  Calls Tryz.prog 47 #[.int .i64 n, .string s, v] w fun e w' => ∃ t, e = .returned t ∧ ∃ V, t = .agg (recA (mkR n s b) V) ∧ RecIs w' (mkR n s b) V ∧ (∀ g, bfp V.v2 g ∨ bfp V.v5 g → w.heap.size ≤ g) ∧ Below w.heap.size w w' := by
 obtain ⟨K2, hK2⟩ : ∃ K : Nat, n % ((min b.length 16 + 1 : Nat) : Int) = (K : Int) := ⟨(n % ((min b.length 16 + 1 : Nat) : Int)).toNat, (Int.toNat_of_nonneg (Int.emod_nonneg _ (by omega))).symm⟩
 obtain ⟨K5, hK5⟩ : ∃ K : Nat, (n.tdiv 3) % ((min b.length 48 + 1 : Nat) : Int) = (K : Int) := ⟨((n.tdiv 3) % ((min b.length 48 + 1 : Nat) : Int)).toNat, (Int.toNat_of_nonneg (Int.emod_nonneg _ (by omega))).symm⟩
 have hK2l := Int.emod_lt_of_pos n (show 0 < ((min b.length 16 + 1 : Nat) : Int) by omega)
 have hK5l := Int.emod_lt_of_pos (n.tdiv 3) (show 0 < ((min b.length 48 + 1 : Nat) : Int) by omega)
 have hK2b : K2 ≤ b.length := by omega
 have hK5b : K5 ≤ b.length := by omega
 refine zi (args := [.int .i64 n, .string s, v]) 57 Tryz.func47 rfl rfl rfl ?_
 intro fa F
 have M := Mx.start w
 replace M := M.argB 0 hv (fun g e => by cases e)
 refine zT fun _ hK1 => ?_
 refine zh (zb rfl) rfl F rfl M 1 (t := 37) (c := recA ⟨0, "".toUTF8, [], 0, 0, [], 0, 0, 0⟩ ⟨zN, zN⟩) (by unfold execOp; kernel_rfl) ?_
 intro g2 a2 w2 F2 M2
 clear F M
 refine hK1 _ _ (zS fun _ hK3 => ?_)
 refine zR ?_
 refine rm rfl F2 fun _ F4 => ?_
 refine zg (zb rfl) rfl F4 rfl rfl (zE Tryz.func69 rfl) #[.int .i64 n, .int .i64 2] (zha (F4.get rfl) rfl) (zda ((zvb n 2 (by omega) (by omega) hN.1 hN.2 w2))) ?_
 rintro _ w5 a5 ⟨rfl, rfl⟩ F5
 refine rn rfl rfl F5 rfl (.int .i64 (1 + (n % 2))) (zqa _ _ _ _ rfl rfl (F5.get rfl) rfl (by omega)) fun _ F6 => ?_
 refine rm rfl F6 fun _ F7 => ?_
 refine zg (zb rfl) rfl F7 rfl rfl (zE Tryz.func70 rfl) #[.string s] (zx (F7.get rfl)) (zda ((lname_any s hs w2))) ?_
 rintro _ w8 a8 ⟨rfl, b8⟩ F8
 have M8 := M2.step b8
 refine rm rfl F8 fun _ F9 => ?_
 refine rn rfl rfl F9 rfl (.int .i64 (n.tdiv 2)) (y_quoT _ _ _ _ rfl (F9.get rfl) rfl hN (by decide) rfl) fun _ F10 => ?_
 refine zg (zb rfl) rfl F10 rfl rfl (zE Tryz.func69 rfl) #[.int .i64 (n.tdiv 2), .int .i64 4294967296] (zha (F10.get rfl) rfl) (zda ((zvb (n.tdiv 2) 4294967296 (by omega) (by omega) (z2b hN (show (0 : Int) < 2 by decide)).1 (z2b hN (show (0 : Int) < 2 by decide)).2 w8))) ?_
 rintro _ w11 a11 ⟨rfl, rfl⟩ F11
 refine zg (zb rfl) rfl F11 rfl rfl (zE Tryz.func71 rfl) #[.int .i64 ((n.tdiv 2) % 4294967296)] (zx (F11.get rfl)) (zda ((from_ref ((n.tdiv 2) % 4294967296) (by omega) (by omega) w8))) ?_
 rintro _ w12 a12 ⟨rfl, b12⟩ F12
 have M12 := M8.step b12
 refine rm rfl F12 fun _ F13 => ?_
 refine rn rfl rfl F13 rfl (.int .i64 (n.tdiv 7)) (y_quoT _ _ _ _ rfl (F13.get rfl) rfl hN (by decide) rfl) fun _ F14 => ?_
 refine zg (zb rfl) rfl F14 rfl rfl (zE Tryz.func69 rfl) #[.int .i64 (n.tdiv 7), .int .i64 4294967296] (zha (F14.get rfl) rfl) (zda ((zvb (n.tdiv 7) 4294967296 (by omega) (by omega) (z2b hN (show (0 : Int) < 7 by decide)).1 (z2b hN (show (0 : Int) < 7 by decide)).2 w12))) ?_
 rintro _ w15 a15 ⟨rfl, rfl⟩ F15
 refine zg (zb rfl) rfl F15 rfl rfl (zE Tryz.func71 rfl) #[.int .i64 ((n.tdiv 7) % 4294967296)] (zx (F15.get rfl)) (zda ((from_ref ((n.tdiv 7) % 4294967296) (by omega) (by omega) w12))) ?_
 rintro _ w16 a16 ⟨rfl, b16⟩ F16
 have M16 := M12.step b16
 refine rm rfl F16 fun _ F17 => ?_
 refine rn rfl rfl F17 rfl (.int .i64 (n.tdiv 11)) (y_quoT _ _ _ _ rfl (F17.get rfl) rfl hN (by decide) rfl) fun _ F18 => ?_
 refine zg (zb rfl) rfl F18 rfl rfl (zE Tryz.func69 rfl) #[.int .i64 (n.tdiv 11), .int .i64 6] (zha (F18.get rfl) rfl) (zda ((zvb (n.tdiv 11) 6 (by omega) (by omega) (z2b hN (show (0 : Int) < 11 by decide)).1 (z2b hN (show (0 : Int) < 11 by decide)).2 w16))) ?_
 rintro _ w19 a19 ⟨rfl, rfl⟩ F19
 refine rm rfl F19 fun _ F20 => ?_
 refine rn rfl rfl F20 rfl (.int .i64 (n.tdiv 13)) (y_quoT _ _ _ _ rfl (F20.get rfl) rfl hN (by decide) rfl) fun _ F21 => ?_
 refine zg (zb rfl) rfl F21 rfl rfl (zE Tryz.func69 rfl) #[.int .i64 (n.tdiv 13), .int .i64 1000] (zha (F21.get rfl) rfl) (zda ((zvb (n.tdiv 13) 1000 (by omega) (by omega) (z2b hN (show (0 : Int) < 13 by decide)).1 (z2b hN (show (0 : Int) < 13 by decide)).2 w16))) ?_
 rintro _ w22 a22 ⟨rfl, rfl⟩ F22
 refine rm rfl F22 fun _ F23 => ?_
 refine rn rfl rfl F23 rfl (.int .i64 (n.tdiv 17)) (y_quoT _ _ _ _ rfl (F23.get rfl) rfl hN (by decide) rfl) fun _ F24 => ?_
 refine zg (zb rfl) rfl F24 rfl rfl (zE Tryz.func69 rfl) #[.int .i64 (n.tdiv 17), .int .i64 1099511627776] (zha (F24.get rfl) rfl) (zda ((zvb (n.tdiv 17) 1099511627776 (by omega) (by omega) (z2b hN (show (0 : Int) < 17 by decide)).1 (z2b hN (show (0 : Int) < 17 by decide)).2 w16))) ?_
 rintro _ w25 a25 ⟨rfl, rfl⟩ F25
 refine rn rfl rfl F25 rfl (.agg (recA ⟨1 + (n % 2), (nmB s), [], (((n.tdiv 2) % 4294967296)).toNat, (((n.tdiv 7) % 4294967296)).toNat, [], ((n.tdiv 11) % 6), ((n.tdiv 13) % 1000), ((n.tdiv 17) % 1099511627776)⟩ ⟨zN, zN⟩)) (by unfold execOp; simp only [List.map_toArray, List.map_cons, List.map_nil, (F25.get (t := 10) rfl), (F25.get (t := 12) rfl), (F25.get (t := 16) rfl), (F25.get (t := 20) rfl), (F25.get (t := 23) rfl), (F25.get (t := 26) rfl), (F25.get (t := 29) rfl)]; kernel_rfl) fun _ F26 => ?_
 refine zh (zb rfl) rfl F26 rfl M16 2 (t := 37) (c := recA ⟨0, "".toUTF8, [], 0, 0, [], 0, 0, 0⟩ ⟨zN, zN⟩) (by unfold execOp; kernel_rfl) ?_
 intro g27 a27 w27 F27 M27
 clear F26 M16
 refine zm (zb rfl) rfl F27 M27 (k := 2) rfl _ _ _ rfl (F27.get rfl) (F27.get rfl) (recA ⟨1 + (n % 2), (nmB s), [], (((n.tdiv 2) % 4294967296)).toNat, (((n.tdiv 7) % 4294967296)).toNat, [], ((n.tdiv 11) % 6), ((n.tdiv 13) % 1000), ((n.tdiv 17) % 1099511627776)⟩ ⟨zN, zN⟩) _ rfl (zL rfl) (zta (w := w27) ⟨(zla _), (zla _)⟩) (zn rfl) (by kernel_rfl) ?_
 intro w28 M28
 clear M27
 refine hK3 _ _ (zS fun _ hK29 => ?_)
 refine zsa F27 [fun vE => vE = .pointer (some ⟨g27, 2, none⟩), fun vE => vE = zN, fun vE => vE = v, fun vE => vE = .int .i64 n, fun vE => vE = v, fun vE => vE = .int .i64 (b.length : Int), fun vE => vE = .int .i64 ((min b.length 16 : Nat) : Int), fun vE => vE = .int .i64 ((min b.length 16 + 1 : Nat) : Int), fun vE => vE = .int .i64 (K2 : Int), fun _ => True] (JM none w fun SV pV => [(0, bytR b v), (1, blkR g2 37 (recA ⟨0, "".toUTF8, [], 0, 0, [], 0, 0, 0⟩ ⟨zN, zN⟩)), (2, blkR g27 37 (recA ⟨1 + (n % 2), (nmB s), [], (((n.tdiv 2) % 4294967296)).toNat, (((n.tdiv 7) % 4294967296)).toNat, [], ((n.tdiv 11) % 6), ((n.tdiv 13) % 1000), ((n.tdiv 17) % 1099511627776)⟩ ⟨zN, zN⟩)), (3, zya (SV 9) (bytR (b.take K2) (pV 9)))]) 10 rfl (by kernel_rfl) rfl ⟨trivial, trivial, trivial, trivial, trivial, trivial, trivial, trivial, trivial, trivial, trivial⟩ (fun p => ((M28.step (zga _)).triv 3).sub ⟨rfl, rfl, rfl, rfl, trivial⟩) ⟨?_, ?_, ?_, ?_, ?_, ?_, ?_, ?_, ?_, ?_, trivial⟩ ?_
 ·intro ua uw SV pV M0 hk hn hd
  have M : Mx none w uw _ := M0
  clear M0
  have e7 : ua.eval (.tmp 7) = .pointer (some ⟨g27, 0, none⟩) := (show ua.eval (.tmp 7) = _ from hd 7 (by decide)).trans (F27.get (t := 7) rfl)
  exact zd (zb rfl) (.pointer (some ⟨g27, 2, none⟩)) (y_fa (off := 2) rfl e7 (by kernel_rfl) rfl) rfl (M.sub ⟨rfl, rfl, rfl, rfl, trivial⟩)
 ·intro ua uw SV pV M0 hk hn hd
  have M : Mx none w uw _ := M0
  clear M0
  obtain ⟨s0, f31, q31⟩ := (show SV 0 = true ∧ ua.eval (.tmp 31) = pV 0 ∧ stE _ 0 (pV 0) from hd 31 (by decide))
  have e31 : ua.eval (.tmp 31) = .pointer (some ⟨g27, 2, none⟩) := f31.trans q31
  exact zd (zb rfl) (zN) (zba _ _ rfl e31 (M.blk (k := 2) rfl) rfl Tryz.underlying23 rfl) rfl (M.sub ⟨rfl, rfl, rfl, rfl, trivial⟩)
 ·intro ua uw SV pV M0 hk hn hd
  have M : Mx none w uw _ := M0
  clear M0
  have e2 : ua.eval (.tmp 2) = v := (show ua.eval (.tmp 2) = _ from hd 2 (by decide)).trans (F27.get (t := 2) rfl)
  exact zd (zb rfl) (v) (zaa _ (.inl rfl) e2) rfl (M.sub ⟨rfl, rfl, rfl, rfl, trivial⟩)
 ·intro ua uw SV pV M0 hk hn hd
  have M : Mx none w uw _ := M0
  clear M0
  have e0 : ua.eval (.tmp 0) = .int .i64 n := (show ua.eval (.tmp 0) = _ from hd 0 (by decide)).trans (F27.get (t := 0) rfl)
  exact zd (zb rfl) (.int .i64 n) (zaa _ (.inl rfl) e0) rfl (M.sub ⟨rfl, rfl, rfl, rfl, trivial⟩)
 ·intro ua uw SV pV M0 hk hn hd
  have M : Mx none w uw _ := M0
  clear M0
  have e2 : ua.eval (.tmp 2) = v := (show ua.eval (.tmp 2) = _ from hd 2 (by decide)).trans (F27.get (t := 2) rfl)
  exact zd (zb rfl) (v) (zaa _ (.inl rfl) e2) rfl (M.sub ⟨rfl, rfl, rfl, rfl, trivial⟩)
 ·intro ua uw SV pV M0 hk hn hd
  have M : Mx none w uw _ := M0
  clear M0
  obtain ⟨s4, f35, q35⟩ := (show SV 4 = true ∧ ua.eval (.tmp 35) = pV 4 ∧ stE _ 4 (pV 4) from hd 35 (by decide))
  have e35 : ua.eval (.tmp 35) = v := f35.trans q35
  exact zd (zb rfl) (.int .i64 (b.length : Int)) (zob _ rfl e35 (M.isb (k := 0) rfl) rfl) rfl (M.sub ⟨rfl, rfl, rfl, rfl, trivial⟩)
 ·intro ua uw SV pV M0 hk hn hd
  have M : Mx none w uw _ := M0
  clear M0
  obtain ⟨s5, f36, q36⟩ := (show SV 5 = true ∧ ua.eval (.tmp 36) = pV 5 ∧ stE _ 5 (pV 5) from hd 36 (by decide))
  have e36 : ua.eval (.tmp 36) = .int .i64 (b.length : Int) := f36.trans q36
  exact zd (zb rfl) (.int .i64 ((min b.length 16 : Nat) : Int)) (y_min _ _ rfl e36 rfl (by split <;> omega)) rfl (M.sub ⟨rfl, rfl, rfl, rfl, trivial⟩)
 ·intro ua uw SV pV M0 hk hn hd
  have M : Mx none w uw _ := M0
  clear M0
  obtain ⟨s6, f37, q37⟩ := (show SV 6 = true ∧ ua.eval (.tmp 37) = pV 6 ∧ stE _ 6 (pV 6) from hd 37 (by decide))
  have e37 : ua.eval (.tmp 37) = .int .i64 ((min b.length 16 : Nat) : Int) := f37.trans q37
  exact zd (zb rfl) (.int .i64 ((min b.length 16 + 1 : Nat) : Int)) (zqa _ _ _ _ rfl e37 rfl (by omega) (by omega)) rfl (M.sub ⟨rfl, rfl, rfl, rfl, trivial⟩)
 ·intro ua uw SV pV M0 hk hn hd
  have M : Mx none w uw _ := M0
  clear M0
  obtain ⟨s3, f34, q34⟩ := (show SV 3 = true ∧ ua.eval (.tmp 34) = pV 3 ∧ stE _ 3 (pV 3) from hd 34 (by decide))
  have e34 : ua.eval (.tmp 34) = .int .i64 n := f34.trans q34
  obtain ⟨s7, f38, q38⟩ := (show SV 7 = true ∧ ua.eval (.tmp 38) = pV 7 ∧ stE _ 7 (pV 7) from hd 38 (by decide))
  have e38 : ua.eval (.tmp 38) = .int .i64 ((min b.length 16 + 1 : Nat) : Int) := f38.trans q38
  exact zwa (zb rfl) rfl #[.int .i64 n, .int .i64 ((min b.length 16 + 1 : Nat) : Int)] (zha e34 e38) (zE Tryz.func69 rfl) (((same_eq ((hK2 ▸ zvb n ((min b.length 16 + 1 : Nat) : Int) (by omega) (by omega) hN.1 hN.2 uw)))).mono fun e w2 h => ⟨_, h.1, rfl, (M.step h.2).sub ⟨rfl, rfl, rfl, rfl, trivial⟩⟩)
 ·intro ua uw SV pV M0 hk hn hd
  have M : Mx none w uw _ := M0
  clear M0
  obtain ⟨s2, f33, q33⟩ := (show SV 2 = true ∧ ua.eval (.tmp 33) = pV 2 ∧ stE _ 2 (pV 2) from hd 33 (by decide))
  have e33 : ua.eval (.tmp 33) = v := f33.trans q33
  obtain ⟨s8, f39, q39⟩ := (show SV 8 = true ∧ ua.eval (.tmp 39) = pV 8 ∧ stE _ 8 (pV 8) from hd 39 (by decide))
  have e39 : ua.eval (.tmp 39) = .int .i64 (K2 : Int) := f39.trans q39
  exact hopM_exE (zb rfl) (y_slTo _ _ rfl e33 (M.isb (k := 0) rfl) e39 (j := K2) rfl hK2b) fun v h => ⟨trivial, (M.partB 3 (k := 0) rfl h.1 h.2).sub ⟨rfl, rfl, rfl, rfl, trivial⟩⟩
 intro p30 a30 w30 M30 G30 y30
 obtain ⟨-, q1, -, -, -, -, -, -, -, q9, -⟩ := y30
 have r1 : p30 1 = zN := q1
 replace M30 : Mx _ _ w30 [(0, bytR b v), (1, blkR g2 37 (recA ⟨0, "".toUTF8, [], 0, 0, [], 0, 0, 0⟩ ⟨zN, zN⟩)), (2, blkR g27 37 (recA ⟨1 + (n % 2), (nmB s), [], (((n.tdiv 2) % 4294967296)).toNat, (((n.tdiv 7) % 4294967296)).toNat, [], ((n.tdiv 11) % 6), ((n.tdiv 13) % 1000), ((n.tdiv 17) % 1099511627776)⟩ ⟨zN, zN⟩)), (3, zya true (bytR (b.take K2) (p30 9)))] := M30
 simp only [List.take, layV, Nat.zero_add, Nat.reduceAdd, r1] at G30
 obtain ⟨Ap30_3, cp30_3, hp30_3⟩ := (M30.isb (k := 3) rfl).shape
 rw [hp30_3] at M30
 try rw [hp30_3] at G30
 have M31 := M30.nilO 4
 clear M30
 refine zdb (zb rfl) rfl G30 rfl (run_app M31 (k := 4) rfl _ _ rfl (G30.get rfl) (G30.get rfl) (M31.isb (k := 3) rfl) (by simp only [List.length_nil, List.length_take]; omega)) ?_
 intro v32 a32 w32 F32 M32
 clear G30 M31
 obtain ⟨A32, c32, rfl⟩ := (M32.isO (k := 4) rfl).shape
 refine rn rfl rfl F32 rfl (.pointer (some ⟨g27, 2, none⟩)) (y_fa (off := 2) rfl (F32.get rfl) (by kernel_rfl) rfl) fun _ F33 => ?_
 refine zm (zb rfl) rfl F33 M32 (k := 2) rfl _ _ _ rfl (F33.get rfl) (F33.get rfl) (#[.slice A32 (([] ++ (b.take K2))).length c32]) (recA ⟨1 + (n % 2), (nmB s), ([] ++ (b.take K2)), (((n.tdiv 2) % 4294967296)).toNat, (((n.tdiv 7) % 4294967296)).toNat, [], ((n.tdiv 11) % 6), ((n.tdiv 13) % 1000), ((n.tdiv 17) % 1099511627776)⟩ ⟨.slice A32 (([] ++ (b.take K2))).length c32, zN⟩) rfl (zL rfl) (one_slcB (M32.isO (k := 4) rfl)) (by kernel_rfl) (by kernel_rfl) ?_
 intro w34 M34
 clear M32
 refine hK29 _ _ (zS fun _ hK35 => ?_)
 refine zsa F33 [fun vE => vE = .pointer (some ⟨g27, 19, none⟩), fun vE => vE = zN, fun vE => vE = v, fun vE => vE = .int .i64 n, fun vE => vE = .int .i64 (n.tdiv 3), fun vE => vE = v, fun vE => vE = .int .i64 (b.length : Int), fun vE => vE = .int .i64 ((min b.length 48 : Nat) : Int), fun vE => vE = .int .i64 ((min b.length 48 + 1 : Nat) : Int), fun vE => vE = .int .i64 (K5 : Int), fun _ => True] (JM none w fun SV pV => [(0, bytR b v), (1, blkR g2 37 (recA ⟨0, "".toUTF8, [], 0, 0, [], 0, 0, 0⟩ ⟨zN, zN⟩)), (2, blkR g27 37 (recA ⟨1 + (n % 2), (nmB s), ([] ++ (b.take K2)), (((n.tdiv 2) % 4294967296)).toNat, (((n.tdiv 7) % 4294967296)).toNat, [], ((n.tdiv 11) % 6), ((n.tdiv 13) % 1000), ((n.tdiv 17) % 1099511627776)⟩ ⟨.slice A32 (([] ++ (b.take K2))).length c32, zN⟩)), (3, bytR (b.take K2) (.slice Ap30_3 ((b.take K2)).length cp30_3)), (4, ownR ([] ++ (b.take K2)) (.slice A32 (([] ++ (b.take K2))).length c32)), (5, zya (SV 10) (bytR (b.take K5) (pV 10)))]) 11 rfl (by kernel_rfl) rfl ⟨trivial, trivial, trivial, trivial, trivial, trivial, trivial, trivial, trivial, trivial, trivial, trivial⟩ (fun p => ((M34.step (zga _)).triv 5).sub ⟨rfl, rfl, rfl, rfl, rfl, rfl, trivial⟩) ⟨?_, ?_, ?_, ?_, ?_, ?_, ?_, ?_, ?_, ?_, ?_, trivial⟩ ?_
 ·intro ua uw SV pV M0 hk hn hd
  have M : Mx none w uw _ := M0
  clear M0
  have e7 : ua.eval (.tmp 7) = .pointer (some ⟨g27, 0, none⟩) := (show ua.eval (.tmp 7) = _ from hd 7 (by decide)).trans (F33.get (t := 7) rfl)
  exact zd (zb rfl) (.pointer (some ⟨g27, 19, none⟩)) (y_fa (off := 19) rfl e7 (by kernel_rfl) rfl) rfl (M.sub ⟨rfl, rfl, rfl, rfl, rfl, rfl, trivial⟩)
 ·intro ua uw SV pV M0 hk hn hd
  have M : Mx none w uw _ := M0
  clear M0
  obtain ⟨s0, f43, q43⟩ := (show SV 0 = true ∧ ua.eval (.tmp 43) = pV 0 ∧ stE _ 0 (pV 0) from hd 43 (by decide))
  have e43 : ua.eval (.tmp 43) = .pointer (some ⟨g27, 19, none⟩) := f43.trans q43
  exact zd (zb rfl) (zN) (zba _ _ rfl e43 (M.blk (k := 2) rfl) rfl Tryz.underlying23 rfl) rfl (M.sub ⟨rfl, rfl, rfl, rfl, rfl, rfl, trivial⟩)
 ·intro ua uw SV pV M0 hk hn hd
  have M : Mx none w uw _ := M0
  clear M0
  have e2 : ua.eval (.tmp 2) = v := (show ua.eval (.tmp 2) = _ from hd 2 (by decide)).trans (F33.get (t := 2) rfl)
  exact zd (zb rfl) (v) (zaa _ (.inl rfl) e2) rfl (M.sub ⟨rfl, rfl, rfl, rfl, rfl, rfl, trivial⟩)
 ·intro ua uw SV pV M0 hk hn hd
  have M : Mx none w uw _ := M0
  clear M0
  have e0 : ua.eval (.tmp 0) = .int .i64 n := (show ua.eval (.tmp 0) = _ from hd 0 (by decide)).trans (F33.get (t := 0) rfl)
  exact zd (zb rfl) (.int .i64 n) (zaa _ (.inl rfl) e0) rfl (M.sub ⟨rfl, rfl, rfl, rfl, rfl, rfl, trivial⟩)
 ·intro ua uw SV pV M0 hk hn hd
  have M : Mx none w uw _ := M0
  clear M0
  obtain ⟨s3, f46, q46⟩ := (show SV 3 = true ∧ ua.eval (.tmp 46) = pV 3 ∧ stE _ 3 (pV 3) from hd 46 (by decide))
  have e46 : ua.eval (.tmp 46) = .int .i64 n := f46.trans q46
  exact zd (zb rfl) (.int .i64 (n.tdiv 3)) (y_quoT _ _ _ _ rfl e46 rfl hN (by decide) rfl) rfl (M.sub ⟨rfl, rfl, rfl, rfl, rfl, rfl, trivial⟩)
 ·intro ua uw SV pV M0 hk hn hd
  have M : Mx none w uw _ := M0
  clear M0
  have e2 : ua.eval (.tmp 2) = v := (show ua.eval (.tmp 2) = _ from hd 2 (by decide)).trans (F33.get (t := 2) rfl)
  exact zd (zb rfl) (v) (zaa _ (.inl rfl) e2) rfl (M.sub ⟨rfl, rfl, rfl, rfl, rfl, rfl, trivial⟩)
 ·intro ua uw SV pV M0 hk hn hd
  have M : Mx none w uw _ := M0
  clear M0
  obtain ⟨s5, f48, q48⟩ := (show SV 5 = true ∧ ua.eval (.tmp 48) = pV 5 ∧ stE _ 5 (pV 5) from hd 48 (by decide))
  have e48 : ua.eval (.tmp 48) = v := f48.trans q48
  exact zd (zb rfl) (.int .i64 (b.length : Int)) (zob _ rfl e48 (M.isb (k := 0) rfl) rfl) rfl (M.sub ⟨rfl, rfl, rfl, rfl, rfl, rfl, trivial⟩)
 ·intro ua uw SV pV M0 hk hn hd
  have M : Mx none w uw _ := M0
  clear M0
  obtain ⟨s6, f49, q49⟩ := (show SV 6 = true ∧ ua.eval (.tmp 49) = pV 6 ∧ stE _ 6 (pV 6) from hd 49 (by decide))
  have e49 : ua.eval (.tmp 49) = .int .i64 (b.length : Int) := f49.trans q49
  exact zd (zb rfl) (.int .i64 ((min b.length 48 : Nat) : Int)) (y_min _ _ rfl e49 rfl (by split <;> omega)) rfl (M.sub ⟨rfl, rfl, rfl, rfl, rfl, rfl, trivial⟩)
 ·intro ua uw SV pV M0 hk hn hd
  have M : Mx none w uw _ := M0
  clear M0
  obtain ⟨s7, f50, q50⟩ := (show SV 7 = true ∧ ua.eval (.tmp 50) = pV 7 ∧ stE _ 7 (pV 7) from hd 50 (by decide))
  have e50 : ua.eval (.tmp 50) = .int .i64 ((min b.length 48 : Nat) : Int) := f50.trans q50
  exact zd (zb rfl) (.int .i64 ((min b.length 48 + 1 : Nat) : Int)) (zqa _ _ _ _ rfl e50 rfl (by omega) (by omega)) rfl (M.sub ⟨rfl, rfl, rfl, rfl, rfl, rfl, trivial⟩)
 ·intro ua uw SV pV M0 hk hn hd
  have M : Mx none w uw _ := M0
  clear M0
  obtain ⟨s4, f47, q47⟩ := (show SV 4 = true ∧ ua.eval (.tmp 47) = pV 4 ∧ stE _ 4 (pV 4) from hd 47 (by decide))
  have e47 : ua.eval (.tmp 47) = .int .i64 (n.tdiv 3) := f47.trans q47
  obtain ⟨s8, f51, q51⟩ := (show SV 8 = true ∧ ua.eval (.tmp 51) = pV 8 ∧ stE _ 8 (pV 8) from hd 51 (by decide))
  have e51 : ua.eval (.tmp 51) = .int .i64 ((min b.length 48 + 1 : Nat) : Int) := f51.trans q51
  exact zwa (zb rfl) rfl #[.int .i64 (n.tdiv 3), .int .i64 ((min b.length 48 + 1 : Nat) : Int)] (zha e47 e51) (zE Tryz.func69 rfl) (((same_eq ((hK5 ▸ zvb (n.tdiv 3) ((min b.length 48 + 1 : Nat) : Int) (by omega) (by omega) (z2b hN (show (0 : Int) < 3 by decide)).1 (z2b hN (show (0 : Int) < 3 by decide)).2 uw)))).mono fun e w2 h => ⟨_, h.1, rfl, (M.step h.2).sub ⟨rfl, rfl, rfl, rfl, rfl, rfl, trivial⟩⟩)
 ·intro ua uw SV pV M0 hk hn hd
  have M : Mx none w uw _ := M0
  clear M0
  obtain ⟨s2, f45, q45⟩ := (show SV 2 = true ∧ ua.eval (.tmp 45) = pV 2 ∧ stE _ 2 (pV 2) from hd 45 (by decide))
  have e45 : ua.eval (.tmp 45) = v := f45.trans q45
  obtain ⟨s9, f52, q52⟩ := (show SV 9 = true ∧ ua.eval (.tmp 52) = pV 9 ∧ stE _ 9 (pV 9) from hd 52 (by decide))
  have e52 : ua.eval (.tmp 52) = .int .i64 (K5 : Int) := f52.trans q52
  exact hopM_exE (zb rfl) (y_slTo _ _ rfl e45 (M.isb (k := 0) rfl) e52 (j := K5) rfl hK5b) fun v h => ⟨trivial, (M.partB 5 (k := 0) rfl h.1 h.2).sub ⟨rfl, rfl, rfl, rfl, rfl, rfl, trivial⟩⟩
 intro p36 a36 w36 M36 G36 y36
 obtain ⟨-, q1, -, -, -, -, -, -, -, -, q10, -⟩ := y36
 have r1 : p36 1 = zN := q1
 replace M36 : Mx _ _ w36 [(0, bytR b v), (1, blkR g2 37 (recA ⟨0, "".toUTF8, [], 0, 0, [], 0, 0, 0⟩ ⟨zN, zN⟩)), (2, blkR g27 37 (recA ⟨1 + (n % 2), (nmB s), ([] ++ (b.take K2)), (((n.tdiv 2) % 4294967296)).toNat, (((n.tdiv 7) % 4294967296)).toNat, [], ((n.tdiv 11) % 6), ((n.tdiv 13) % 1000), ((n.tdiv 17) % 1099511627776)⟩ ⟨.slice A32 (([] ++ (b.take K2))).length c32, zN⟩)), (3, bytR (b.take K2) (.slice Ap30_3 ((b.take K2)).length cp30_3)), (4, ownR ([] ++ (b.take K2)) (.slice A32 (([] ++ (b.take K2))).length c32)), (5, zya true (bytR (b.take K5) (p36 10)))] := M36
 simp only [List.take, layV, Nat.zero_add, Nat.reduceAdd, r1] at G36
 obtain ⟨Ap36_5, cp36_5, hp36_5⟩ := (M36.isb (k := 5) rfl).shape
 rw [hp36_5] at M36
 try rw [hp36_5] at G36
 have M37 := M36.nilO 6
 clear M36
 refine zdb (zb rfl) rfl G36 rfl (run_app M37 (k := 6) rfl _ _ rfl (G36.get rfl) (G36.get rfl) (M37.isb (k := 5) rfl) (by simp only [List.length_nil, List.length_take]; omega)) ?_
 intro v38 a38 w38 F38 M38
 clear G36 M37
 obtain ⟨A38, c38, rfl⟩ := (M38.isO (k := 6) rfl).shape
 refine rn rfl rfl F38 rfl (.pointer (some ⟨g27, 19, none⟩)) (y_fa (off := 19) rfl (F38.get rfl) (by kernel_rfl) rfl) fun _ F39 => ?_
 refine zm (zb rfl) rfl F39 M38 (k := 2) rfl _ _ _ rfl (F39.get rfl) (F39.get rfl) (#[.slice A38 (([] ++ (b.take K5))).length c38]) (recA ⟨1 + (n % 2), (nmB s), ([] ++ (b.take K2)), (((n.tdiv 2) % 4294967296)).toNat, (((n.tdiv 7) % 4294967296)).toNat, ([] ++ (b.take K5)), ((n.tdiv 11) % 6), ((n.tdiv 13) % 1000), ((n.tdiv 17) % 1099511627776)⟩ ⟨.slice A32 (([] ++ (b.take K2))).length c32, .slice A38 (([] ++ (b.take K5))).length c38⟩) rfl (zL rfl) (one_slcB (M38.isO (k := 6) rfl)) (by kernel_rfl) (by kernel_rfl) ?_
 intro w40 M40
 clear M38
 refine hK35 _ _ (zS fun _ hK41 => ?_)
 refine zR ?_
 refine rn rfl rfl F39 rfl _ (zna _ _ rfl (F39.get rfl) (M40.blk (k := 2) rfl) (recA ⟨1 + (n % 2), (nmB s), ([] ++ (b.take K2)), (((n.tdiv 2) % 4294967296)).toNat, (((n.tdiv 7) % 4294967296)).toNat, ([] ++ (b.take K5)), ((n.tdiv 11) % 6), ((n.tdiv 13) % 1000), ((n.tdiv 17) % 1099511627776)⟩ ⟨.slice A32 (([] ++ (b.take K2))).length c32, .slice A38 (([] ++ (b.take K5))).length c38⟩) (zra rfl) Tryz.underlying37 rfl (by kernel_rfl)) fun _ F42 => ?_
 refine zm (zb rfl) rfl F42 M40 (k := 1) rfl _ _ _ rfl (F42.get rfl) (F42.get rfl) (recA ⟨1 + (n % 2), (nmB s), ([] ++ (b.take K2)), (((n.tdiv 2) % 4294967296)).toNat, (((n.tdiv 7) % 4294967296)).toNat, ([] ++ (b.take K5)), ((n.tdiv 11) % 6), ((n.tdiv 13) % 1000), ((n.tdiv 17) % 1099511627776)⟩ ⟨.slice A32 (([] ++ (b.take K2))).length c32, .slice A38 (([] ++ (b.take K5))).length c38⟩) _ rfl (zL rfl) (zta (w := w40) ⟨(M40.isO (k := 4) rfl), (M40.isO (k := 6) rfl)⟩) (zn rfl) (by kernel_rfl) ?_
 intro w43 M43
 clear M40
 refine hK41 _ _ (wp_ret ?_)
 try simp only [Exit.then, Exit.inBlock, Exit.jump]
 exact bodyPost_ret (results_cell_row rfl _ _ _ _ _ (0, 0) _ (F42.get rfl) (M43.blk (k := 1) rfl) Tryz.underlying37 rfl (by kernel_rfl)) F42.defers ⟨_, rfl, ⟨.slice A32 (([] ++ (b.take K2))).length c32, .slice A38 (([] ++ (b.take K5))).length c38⟩, (by rw [(show mkR n s b = (⟨1 + (n % 2), (nmB s), ((b.take K2)), (((n.tdiv 2) % 4294967296)).toNat, (((n.tdiv 7) % 4294967296)).toNat, ((b.take K5)), ((n.tdiv 11) % 6), ((n.tdiv 13) % 1000), ((n.tdiv 17) % 1099511627776)⟩ : RecN) from by unfold mkR; rw [hK2, hK5]; rfl)]; rfl), (by rw [(show mkR n s b = (⟨1 + (n % 2), (nmB s), ((b.take K2)), (((n.tdiv 2) % 4294967296)).toNat, (((n.tdiv 7) % 4294967296)).toNat, ((b.take K5)), ((n.tdiv 11) % 6), ((n.tdiv 13) % 1000), ((n.tdiv 17) % 1099511627776)⟩ : RecN) from by unfold mkR; rw [hK2, hK5]; rfl)]; exact ⟨M43.isO (k := 4) rfl, M43.isO (k := 6) rfl⟩), (fun g h => h.elim (fun h => M43.owns (k := 4) rfl g (zma h)) (fun h => M43.owns (k := 6) rfl g (zma h))), M43.below⟩
end Go.Proofs.YtmjbnmbobocpdaaGreat
