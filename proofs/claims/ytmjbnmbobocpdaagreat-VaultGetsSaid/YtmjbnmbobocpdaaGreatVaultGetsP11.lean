/- What VaultGets stands on, part 11. -/
import Derived.Deep.CutRange
import Derived.Test.YtmjbnmbobocpdaaGreatVaultGetsP1
import Derived.Test.YtmjbnmbobocpdaaGreatVaultGetsP2
import Derived.Test.YtmjbnmbobocpdaaGreatVaultGetsP3
import Derived.Test.YtmjbnmbobocpdaaGreatVaultGetsP4
import Derived.Test.YtmjbnmbobocpdaaGreatVaultGetsP5
import Derived.Test.YtmjbnmbobocpdaaGreatVaultGetsP6
import Derived.Test.YtmjbnmbobocpdaaGreatVaultGetsP7
import Derived.Test.YtmjbnmbobocpdaaGreatVaultGetsP8
import Derived.Test.YtmjbnmbobocpdaaGreatVaultGetsP9
import Derived.Test.YtmjbnmbobocpdaaGreatVaultGetsP10
set_option maxRecDepth 100000
set_option maxHeartbeats 8000000
set_option linter.unusedVariables false
set_option linter.unusedSimpArgs false
namespace Go.Proofs.YtmjbnmbobocpdaaGreat
open Go.ChangeShapes Go.WideShapes Go.ChangeAt Go.RowKit
theorem settle_any (g : Nat) (c : Nat → CelN) (fl : Bool) (lf : Int) (dd : Bool) (s n : Nat → Value) (A0 : Option Addr) (m c0 : Nat) (tx : Nat → Int) (hmc : m ≤ c0) (hv : zfa ⟨c, fl, lf, dd⟩) (w : World) (hT : RdI w A0 m tx) (hTg : ¬ ifp A0 m g) (hr : RowsV w g c s n) (hg : w.heap[g]? = some (.cells (vltA ⟨c, fl, lf, dd⟩ s n) 80 (0, 0))) :
  Calls Tryz.prog 61 #[.pointer (some ⟨g, 0, none⟩), .slice A0 m c0] w fun e w' => ∃ t, e = .returned t ∧ ∃ s' n', RowsV w' g (setC c tx m 18) s' n' ∧ (∀ b, zo 18 s' n' b → zo 18 s n b ∨ w.heap.size ≤ b) ∧ w'.heap[g]? = some (.cells (vltA ⟨setC c tx m 18, false, -1, false⟩ s' n') 80 (0, 0)) ∧ w.grownBy w' (some g) := by
 have hlen : ∀ i, i < 18 → (c i).s.length ≤ 1000 ∧ (c i).n.length ≤ 1000 := hv
 refine zi (args := [.pointer (some ⟨g, 0, none⟩), .slice A0 m c0]) 66 Tryz.func61 rfl rfl rfl ?_
 intro fa F
 have M := Mx.rowsG hr hg 1
 refine zS fun _ hK1 => ?_
 refine zS fun _ hK2 => ?_
 refine zR ?_
 refine rm rfl F fun _ F3 => ?_
 refine hK2 _ _ ?_
 refine wp_block ?_
 refine zyb (α := Nat × Option Addr × Nat × Nat × (Nat → Int) × (Nat → Value) × (Nat → Value)) (n := 66) (G := (some g)) (w0 := w) (fun x => [(0, .pointer (some ⟨g, 0, none⟩)), (8, .int .i64 (x.1 : Int)), (1, .slice x.2.1 x.2.2.1 x.2.2.2.1)]) (fun x => [(1, z1a 0 18 (setC c tx m x.1) x.2.2.2.2.2.1 x.2.2.2.2.2.2), (0, blkR g 80 (vltA ⟨(setC c tx m x.1), fl, lf, dd⟩ x.2.2.2.2.2.1 x.2.2.2.2.2.2))]) (fun k x => k = (18 - x.1) ∧ (x.1 ≤ 18 ∧ (∀ b, zo 18 x.2.2.2.2.2.1 x.2.2.2.2.2.2 b → zo 18 s n b ∨ w.heap.size ≤ b) ∧ RdI w x.2.1 x.2.2.1 x.2.2.2.2.1 ∧ (¬ ifp x.2.1 x.2.2.1 g) ∧ x.2.2.1 ≤ x.2.2.2.1 ∧ x.2.2.1 + setK c m x.1 = m ∧ ∀ i, i < x.2.2.1 → x.2.2.2.2.1 i = tx (setK c m x.1 + i))) _ ⟨0, A0, m, c0, tx, s, n⟩ ⟨rfl, ⟨Nat.zero_le _, fun b hb => .inl hb, hT, hTg, hmc, rfl, fun i _ => by rw [show setK c m 0 = 0 from rfl, Nat.zero_add]⟩⟩ (F3.sub ⟨rfl, rfl, rfl, trivial⟩) (M.sub ⟨rfl, rfl, trivial⟩) ?_
 clear F3 M
 rintro k4 ⟨jn, At, qt, ct, yt, sq, nq⟩ a4 w4 K4 ⟨ek4, I4⟩ F4 M4 hK4
 replace F4 : Fx 66 a4 [(0, .pointer (some ⟨g, 0, none⟩)), (8, .int .i64 (jn : Int)), (1, .slice At qt ct)] := F4
 replace M4 : Mx _ _ w4 [(1, z1a 0 18 (setC c tx m jn) sq nq), (0, blkR g 80 (vltA ⟨(setC c tx m jn), fl, lf, dd⟩ sq nq))] := M4
 replace I4 : jn ≤ 18 ∧ (∀ b, zo 18 sq nq b → zo 18 s n b ∨ w.heap.size ≤ b) ∧ RdI w At qt yt ∧ (¬ ifp At qt g) ∧ qt ≤ ct ∧ qt + setK c m jn = m ∧ ∀ i, i < qt → yt i = tx (setK c m jn + i) := I4
 replace ek4 : k4 = (18 - jn) := ek4
 obtain ⟨hj, hfp, hT1, hTg1, hqc, hqm, hyx⟩ := I4
 by_cases hlt : jn < 18
 ·have hcj : setC c tx m jn jn = c jn := setC_ge c tx m jn jn (Nat.le_refl _)
  obtain ⟨fj, hfj⟩ : ∃ b, (c jn).f = b := ⟨_, rfl⟩
  refine zS fun _ hK5 => ?_
  refine zR ?_
  refine zc (w' := w4) (zb rfl) rfl F4 rfl (.bool true) (zgb _ _ _ _ rfl (F4.get (t := 8) rfl) rfl (decide_eq_true (show (jn : Int) < 18 by omega))) fun _ F6 => ?_
  clear F4
  refine hK5 _ _ ?_
  refine zS fun _ hK7 => ?_
  refine wp_cond_true (F6.get (t := 9) rfl) ?_
  refine wp_skip ?_
  refine hK7 _ _ ?_
  refine zS fun _ hK8 => ?_
  refine wp_block ?_
  refine zS fun _ hK9 => ?_
  refine zR ?_
  refine rm rfl F6 fun _ F10 => ?_
  refine rm rfl F10 fun _ F11 => ?_
  refine hK9 _ _ ?_
  refine zS fun _ hK12 => ?_
  refine zR ?_
  refine zB 4 [(0, .pointer (some ⟨g, 0, none⟩)), (8, .int .i64 (jn : Int)), (1, .slice At qt ct), (12, .int .i64 (jn : Int)), (14, .pointer (some ⟨g, 0, none⟩))] [] dnil [] F11 fun _ F13 => ?_
  clear F11
  refine zc (w' := w4) (zb rfl) rfl F13 rfl (.pointer (some ⟨g, 3 * jn, none⟩)) (y_ixC3 (N := 18) 76 (by kernel_rfl) (by kernel_rfl) (by kernel_rfl) rfl (F13.get (t := 14) rfl) (F13.get (t := 12) rfl) rfl hlt) fun _ F14 => ?_
  clear F13
  refine rm rfl F14 fun _ F15 => ?_
  refine hK12 _ _ ?_
  refine zS fun _ hK16 => ?_
  refine zS fun _ hK17 => ?_
  refine zR ?_
  refine rm rfl F15 fun _ F18 => ?_
  refine zc (w' := w4) (zb rfl) rfl F18 rfl (.pointer (some ⟨g, 3 * jn, none⟩)) (by unfold execOp; simp only [(F18.get (t := 16) rfl)]; kernel_rfl) fun _ F19 => ?_
  clear F18
  refine zc (w' := w4) (zb rfl) rfl F19 rfl (.pointer (some ⟨g, 3 * jn + 2, none⟩)) (y_fa (off := 2) rfl (F19.get (t := 17) rfl) (by kernel_rfl) rfl) fun _ F20 => ?_
  clear F19
  refine zc (w' := w4) (zb rfl) rfl F20 rfl (.bool fj) (zba _ _ rfl (F20.get (t := 18) rfl) (M4.blk (k := 0) rfl) ((vlt_f ⟨(setC c tx m jn), fl, lf, dd⟩ sq nq hlt).trans (show some (Value.bool ((setC c tx m jn) jn).f) = _ by rw [hcj, hfj])) Tryz.underlying4 rfl) fun _ F21 => ?_
  clear F20
  cases fj
  ·refine zc (w' := w4) (zb rfl) rfl F21 rfl (.bool true) (zub _ _ rfl (F21.get (t := 19) rfl)) fun _ F22 => ?_
   clear F21
   refine hK17 _ _ ?_
   refine wp_cond_true (F22.get (t := 20) rfl) ?_
   refine wp_exit ?_
   simp only [Exit.then, Exit.inBlock, ↓reduceIte, Nat.reduceEqDiff]
   refine hK8 _ _ ?_
   refine zR ?_
   refine zc (w' := w4) (zb rfl) rfl F22 rfl (.int .i64 ((jn + 1 : Nat) : Int)) (zqa _ _ _ _ rfl (F22.get (t := 8) rfl) rfl (by omega) (by omega)) fun _ F23 => ?_
   clear F22
   refine rm rfl F23 fun _ F24 => ?_
   have hsC : setC c tx m (jn + 1) = (setC c tx m jn) := setC_no hfj
   have hsK : setK c m (jn + 1) = setK c m jn := setK_no hfj
   subst ek4
   exact hK4 _ ⟨(jn + 1), At, qt, ct, yt, sq, nq⟩ _ _ (by omega) ⟨rfl, ⟨by omega, hfp, hT1, hTg1, hqc, by rw [hsK]; exact hqm, by rw [hsK]; exact hyx⟩⟩ (F24.sub ⟨rfl, rfl, rfl, trivial⟩) (M4.sub ⟨(by rw [hsC]; rfl), (by rw [hsC]; rfl), trivial⟩)
  ·have hf : (c jn).f = true := hfj
   obtain ⟨nl, hnl⟩ : ∃ l, (c jn).n = l := ⟨_, rfl⟩
   obtain ⟨sl, hsl⟩ : ∃ l, (c jn).s = l := ⟨_, rfl⟩
   have hln := hlen jn hlt
   rw [hnl, hsl] at hln
   have hNl : IsB w4 nl (nq jn) := by rw [← hnl, ← hcj]; exact M4.rowsN (i := 1) rfl hlt
   have hSl : IsB w4 sl (sq jn) := by rw [← hsl, ← hcj]; exact M4.rowsS (i := 1) rfl hlt
   have M25 := (M4.part 50 (bytR nl (nq jn)) hNl z0b rfl (k := 1) rfl rfl (fun b hb => ⟨jn, hlt, .inr hb⟩)).part 51 (bytR sl (sq jn)) hSl z0b rfl (k := 1) rfl rfl (fun b hb => ⟨jn, hlt, .inl hb⟩)
   clear M4
   refine zc (w' := w4) (zb rfl) rfl F21 rfl (.bool false) (zub _ _ rfl (F21.get (t := 19) rfl)) fun _ F26 => ?_
   clear F21
   refine hK17 _ _ ?_
   refine wp_cond_false (F26.get (t := 20) rfl) ?_
   refine wp_skip ?_
   refine hK16 _ _ ?_
   refine zS fun _ hK27 => ?_
   refine zR ?_
   refine rm rfl F26 fun _ F28 => ?_
   refine hK27 _ _ ?_
   refine zS fun _ hK29 => ?_
   refine zS fun _ hK30 => ?_
   refine zR ?_
   refine rm rfl F28 fun _ F31 => ?_
   refine zc (w' := w4) (zb rfl) rfl F31 rfl (.int .i64 (qt : Int)) (y_lnG 22 Tryz.underlying22 _ rfl (F31.get (t := 21) rfl) rfl) fun _ F32 => ?_
   clear F31
   by_cases h33 : 0 < (qt : Int)
   ·have hq : 0 < qt := by omega
    obtain ⟨tn, htn⟩ : ∃ t, tornN (yt 0) nl.length = t := ⟨_, rfl⟩
    have htl : tn ≤ nl.length := by rw [← htn]; exact tornN_le _ _
    obtain ⟨km, hkm⟩ : ∃ k, min tn sl.length = k := ⟨_, rfl⟩
    have hks : km ≤ sl.length := by omega
    refine zc (w' := w4) (zb rfl) rfl F32 rfl (.bool true) (y_gtr _ _ _ _ rfl (F32.get (t := 22) rfl) rfl (decide_eq_true h33)) fun _ F34 => ?_
    clear F32
    refine hK30 _ _ ?_
    refine wp_cond_true (F34.get (t := 23) rfl) ?_
    refine zS fun _ hK35 => ?_
    refine z3b F34 (SK [.inl (.slice At qt ct), .inl ((ixV (.slice At qt ct) 0)), .inl (.int .i64 (yt 0)), .inl (.int .i64 (max (yt 0) 0)), .inl (.pointer (some ⟨g, 3 * jn, none⟩)), .inl (.pointer (some ⟨g, 3 * jn, none⟩)), .inl (.pointer (some ⟨g, 3 * jn + 1, none⟩)), .inl ((nq jn)), .inl (.int .i64 (nl.length : Int)), .inl (.int .i64 (tn : Int)), .inl (.int .i64 (tn : Int))]) 11 rfl (by kernel_rfl) ⟨hop0 F34 (by kernel_rfl), ?_, ?_, ?_, hop0 F34 (by kernel_rfl), hop0 F34 (by kernel_rfl), ?_, ?_, ?_, ?_, hop0 F34 (by kernel_rfl), trivial⟩ ?_
    ·intro ua uw hb hd
     have e24 : ua.eval (.tmp 24) = .slice At qt ct := hd 24 (by decide)
     exact zr (F := (StK.eq ((ixV (.slice At qt ct) 0))).F) (zb rfl) ((ixV (.slice At qt ct) 0)) (y_ixJ _ _ rfl e24 (hT1.grow (M25.step hb).grown hTg1) rfl rfl hq) rfl
    ·intro ua uw hb hd
     have e25 : ua.eval (.tmp 25) = (ixV (.slice At qt ct) 0) := hd 25 (by decide)
     exact zr (F := (StK.eq (.int .i64 (yt 0))).F) (zb rfl) (.int .i64 (yt 0)) (y_ldJ _ rfl e25 (hT1.grow (M25.step hb).grown hTg1) hq) rfl
    ·intro ua uw hb hd
     have e26 : ua.eval (.tmp 26) = .int .i64 (yt 0) := hd 26 (by decide)
     exact zr (F := (StK.eq (.int .i64 (max (yt 0) 0))).F) (zb rfl) (.int .i64 (max (yt 0) 0)) (y_maxI _ _ rfl e26 rfl rfl) rfl
    ·intro ua uw hb hd
     have e29 : ua.eval (.tmp 29) = .pointer (some ⟨g, 3 * jn, none⟩) := hd 29 (by decide)
     exact zr (F := (StK.eq (.pointer (some ⟨g, 3 * jn + 1, none⟩))).F) (zb rfl) (.pointer (some ⟨g, 3 * jn + 1, none⟩)) (y_fa (off := 1) rfl e29 (by kernel_rfl) rfl) rfl
    ·intro ua uw hb hd
     have e30 : ua.eval (.tmp 30) = .pointer (some ⟨g, 3 * jn + 1, none⟩) := hd 30 (by decide)
     exact zr (F := (StK.eq ((nq jn))).F) (zb rfl) ((nq jn)) (zba _ _ rfl e30 ((M25.step hb).blk (k := 0) rfl) (vlt_n ⟨(setC c tx m jn), fl, lf, dd⟩ sq nq hlt) Tryz.underlying23 rfl) rfl
    ·intro ua uw hb hd
     have e31 : ua.eval (.tmp 31) = (nq jn) := hd 31 (by decide)
     exact zr (F := (StK.eq (.int .i64 (nl.length : Int))).F) (zb rfl) (.int .i64 (nl.length : Int)) (zob _ rfl e31 ((M25.step hb).isb (k := 50) rfl) rfl) rfl
    ·intro ua uw hb hd
     have e27 : ua.eval (.tmp 27) = .int .i64 (max (yt 0) 0) := hd 27 (by decide)
     have e32 : ua.eval (.tmp 32) = .int .i64 (nl.length : Int) := hd 32 (by decide)
     exact zr (F := (StK.eq (.int .i64 (tn : Int))).F) (zb rfl) (.int .i64 (tn : Int)) (y_min _ _ rfl e27 e32 (by rw [← htn, tornN_int]; split <;> omega)) rfl
    intro p37 a37 w37 b37 G37 y37
    obtain ⟨-, -, -, -, -, -, -, -, -, -, q10, -⟩ := y37
    have r10 : p37 10 = .int .i64 (tn : Int) := q10 (by decide)
    simp only [List.take, layV, Nat.zero_add, Nat.reduceAdd, r10] at G37
    have M37 := M25.kc b37
    clear F34 M25 r10 q10
    refine hK35 _ _ ?_
    refine zR ?_
    refine rm rfl G37 fun _ F38 => ?_
    refine zc (w' := w37) (zb rfl) rfl F38 rfl (.slice (tlA At ct) (qt - 1) (ct - 1)) (y_slI1 _ _ rfl (F38.get (t := 34) rfl) rfl hq hqc) fun _ F39 => ?_
    clear F38
    refine rm rfl F39 fun _ F40 => ?_
    refine hK29 _ _ ?_
    refine zS fun _ hK41 => ?_
    refine zsa F40 [fun vE => vE = .pointer (some ⟨g, 3 * jn, none⟩), fun vE => vE = .pointer (some ⟨g, 3 * jn, none⟩), fun vE => vE = .pointer (some ⟨g, 3 * jn, none⟩), fun vE => vE = (sq jn), fun vE => vE = .int .i64 (tn : Int), fun vE => vE = .pointer (some ⟨g, 3 * jn, none⟩), fun vE => vE = .pointer (some ⟨g, 3 * jn, none⟩), fun vE => vE = .pointer (some ⟨g, 3 * jn, none⟩), fun vE => vE = (sq jn), fun vE => vE = .int .i64 (sl.length : Int), fun vE => vE = .int .i64 (km : Int)] (JM (some g) w fun SV pV => [(51, bytR sl (sq jn)), (50, bytR nl (nq jn)), (1, z1a 0 18 (setC c tx m jn) sq nq), (0, blkR g 80 (vltA ⟨(setC c tx m jn), fl, lf, dd⟩ sq nq))]) 11 rfl (by kernel_rfl) rfl ⟨trivial, trivial, trivial, trivial, trivial, trivial, trivial, trivial, trivial, trivial, trivial, trivial⟩ (fun p => (M37.step (zga _)).sub ⟨rfl, rfl, rfl, rfl, trivial⟩) ⟨?_, ?_, ?_, ?_, ?_, ?_, ?_, ?_, ?_, ?_, ?_, trivial⟩ ?_
    ·intro ua uw SV pV M0 hk hn hd
     have M : Mx (some g) w uw _ := M0
     clear M0
     have e5 : ua.eval (.tmp 5) = .pointer (some ⟨g, 3 * jn, none⟩) := (show ua.eval (.tmp 5) = _ from hd 5 (by decide)).trans (F40.get (t := 5) rfl)
     exact zd (zb rfl) (.pointer (some ⟨g, 3 * jn, none⟩)) (zaa _ (.inl rfl) e5) rfl (M.sub ⟨rfl, rfl, rfl, rfl, trivial⟩)
    ·intro ua uw SV pV M0 hk hn hd
     have M : Mx (some g) w uw _ := M0
     clear M0
     obtain ⟨s0, f36, q36⟩ := (show SV 0 = true ∧ ua.eval (.tmp 36) = pV 0 ∧ stE _ 0 (pV 0) from hd 36 (by decide))
     have e36 : ua.eval (.tmp 36) = .pointer (some ⟨g, 3 * jn, none⟩) := f36.trans q36
     exact zd (zb rfl) (.pointer (some ⟨g, 3 * jn, none⟩)) (by unfold execOp; simp only [e36]; kernel_rfl) rfl (M.sub ⟨rfl, rfl, rfl, rfl, trivial⟩)
    ·intro ua uw SV pV M0 hk hn hd
     have M : Mx (some g) w uw _ := M0
     clear M0
     obtain ⟨s1, f37, q37⟩ := (show SV 1 = true ∧ ua.eval (.tmp 37) = pV 1 ∧ stE _ 1 (pV 1) from hd 37 (by decide))
     have e37 : ua.eval (.tmp 37) = .pointer (some ⟨g, 3 * jn, none⟩) := f37.trans q37
     exact zd (zb rfl) (.pointer (some ⟨g, 3 * jn, none⟩)) (y_fa (off := 0) rfl e37 (by kernel_rfl) rfl) rfl (M.sub ⟨rfl, rfl, rfl, rfl, trivial⟩)
    ·intro ua uw SV pV M0 hk hn hd
     have M : Mx (some g) w uw _ := M0
     clear M0
     obtain ⟨s2, f38, q38⟩ := (show SV 2 = true ∧ ua.eval (.tmp 38) = pV 2 ∧ stE _ 2 (pV 2) from hd 38 (by decide))
     have e38 : ua.eval (.tmp 38) = .pointer (some ⟨g, 3 * jn, none⟩) := f38.trans q38
     exact zd (zb rfl) ((sq jn)) (zba _ _ rfl e38 (M.blk (k := 0) rfl) (vlt_s ⟨(setC c tx m jn), fl, lf, dd⟩ sq nq hlt) Tryz.underlying23 rfl) rfl (M.sub ⟨rfl, rfl, rfl, rfl, trivial⟩)
    ·intro ua uw SV pV M0 hk hn hd
     have M : Mx (some g) w uw _ := M0
     clear M0
     have e6 : ua.eval (.tmp 6) = .int .i64 (tn : Int) := (show ua.eval (.tmp 6) = _ from hd 6 (by decide)).trans (F40.get (t := 6) rfl)
     exact zd (zb rfl) (.int .i64 (tn : Int)) (zaa _ (.inl rfl) e6) rfl (M.sub ⟨rfl, rfl, rfl, rfl, trivial⟩)
    ·intro ua uw SV pV M0 hk hn hd
     have M : Mx (some g) w uw _ := M0
     clear M0
     have e5 : ua.eval (.tmp 5) = .pointer (some ⟨g, 3 * jn, none⟩) := (show ua.eval (.tmp 5) = _ from hd 5 (by decide)).trans (F40.get (t := 5) rfl)
     exact zd (zb rfl) (.pointer (some ⟨g, 3 * jn, none⟩)) (zaa _ (.inl rfl) e5) rfl (M.sub ⟨rfl, rfl, rfl, rfl, trivial⟩)
    ·intro ua uw SV pV M0 hk hn hd
     have M : Mx (some g) w uw _ := M0
     clear M0
     obtain ⟨s5, f41, q41⟩ := (show SV 5 = true ∧ ua.eval (.tmp 41) = pV 5 ∧ stE _ 5 (pV 5) from hd 41 (by decide))
     have e41 : ua.eval (.tmp 41) = .pointer (some ⟨g, 3 * jn, none⟩) := f41.trans q41
     exact zd (zb rfl) (.pointer (some ⟨g, 3 * jn, none⟩)) (by unfold execOp; simp only [e41]; kernel_rfl) rfl (M.sub ⟨rfl, rfl, rfl, rfl, trivial⟩)
    ·intro ua uw SV pV M0 hk hn hd
     have M : Mx (some g) w uw _ := M0
     clear M0
     obtain ⟨s6, f42, q42⟩ := (show SV 6 = true ∧ ua.eval (.tmp 42) = pV 6 ∧ stE _ 6 (pV 6) from hd 42 (by decide))
     have e42 : ua.eval (.tmp 42) = .pointer (some ⟨g, 3 * jn, none⟩) := f42.trans q42
     exact zd (zb rfl) (.pointer (some ⟨g, 3 * jn, none⟩)) (y_fa (off := 0) rfl e42 (by kernel_rfl) rfl) rfl (M.sub ⟨rfl, rfl, rfl, rfl, trivial⟩)
    ·intro ua uw SV pV M0 hk hn hd
     have M : Mx (some g) w uw _ := M0
     clear M0
     obtain ⟨s7, f43, q43⟩ := (show SV 7 = true ∧ ua.eval (.tmp 43) = pV 7 ∧ stE _ 7 (pV 7) from hd 43 (by decide))
     have e43 : ua.eval (.tmp 43) = .pointer (some ⟨g, 3 * jn, none⟩) := f43.trans q43
     exact zd (zb rfl) ((sq jn)) (zba _ _ rfl e43 (M.blk (k := 0) rfl) (vlt_s ⟨(setC c tx m jn), fl, lf, dd⟩ sq nq hlt) Tryz.underlying23 rfl) rfl (M.sub ⟨rfl, rfl, rfl, rfl, trivial⟩)
    ·intro ua uw SV pV M0 hk hn hd
     have M : Mx (some g) w uw _ := M0
     clear M0
     obtain ⟨s8, f44, q44⟩ := (show SV 8 = true ∧ ua.eval (.tmp 44) = pV 8 ∧ stE _ 8 (pV 8) from hd 44 (by decide))
     have e44 : ua.eval (.tmp 44) = (sq jn) := f44.trans q44
     exact zd (zb rfl) (.int .i64 (sl.length : Int)) (zob _ rfl e44 (M.isb (k := 51) rfl) rfl) rfl (M.sub ⟨rfl, rfl, rfl, rfl, trivial⟩)
    ·intro ua uw SV pV M0 hk hn hd
     have M : Mx (some g) w uw _ := M0
     clear M0
     obtain ⟨s4, f40, q40⟩ := (show SV 4 = true ∧ ua.eval (.tmp 40) = pV 4 ∧ stE _ 4 (pV 4) from hd 40 (by decide))
     have e40 : ua.eval (.tmp 40) = .int .i64 (tn : Int) := f40.trans q40
     obtain ⟨s9, f45, q45⟩ := (show SV 9 = true ∧ ua.eval (.tmp 45) = pV 9 ∧ stE _ 9 (pV 9) from hd 45 (by decide))
     have e45 : ua.eval (.tmp 45) = .int .i64 (sl.length : Int) := f45.trans q45
     exact zd (zb rfl) (.int .i64 (km : Int)) (y_min _ _ rfl e40 e45 (by rw [← hkm]; split <;> omega)) rfl (M.sub ⟨rfl, rfl, rfl, rfl, trivial⟩)
    intro p42 a42 w42 M42 G42 y42
    obtain ⟨-, -, -, q3, -, -, -, -, -, -, q10, -⟩ := y42
    have r3 : p42 3 = (sq jn) := q3
    have r10 : p42 10 = .int .i64 (km : Int) := q10
    replace M42 : Mx _ _ w42 [(51, bytR sl (sq jn)), (50, bytR nl (nq jn)), (1, z1a 0 18 (setC c tx m jn) sq nq), (0, blkR g 80 (vltA ⟨(setC c tx m jn), fl, lf, dd⟩ sq nq))] := M42
    simp only [List.take, layV, Nat.zero_add, Nat.reduceAdd, r3, r10] at G42
    refine wl_runE (zb rfl) rfl G42 rfl (y_slFrom _ _ rfl (G42.get (t := 39) rfl) (M42.isb (k := 51) rfl) (G42.get (t := 46) rfl) (i := km) rfl (by omega)) ?_
    intro v43 a43 h43 F43
    clear G42
    have M43 := M42.partB 60 (k := 51) rfl h43.1 h43.2
    clear M42
    obtain ⟨A43, c43, rfl⟩ := (M43.isb (k := 60) rfl).shape
    refine rm rfl F43 fun _ F44 => ?_
    refine hK41 _ _ ?_
    refine zR ?_
    refine rm rfl F44 fun _ F45 => ?_
    refine rm rfl F45 fun _ F46 => ?_
    refine zc (w' := w42) (zb rfl) rfl F46 rfl (.pointer (some ⟨g, 3 * jn, none⟩)) (by unfold execOp; simp only [(F46.get (t := 49) rfl)]; kernel_rfl) fun _ F47 => ?_
    clear F46
    refine zc (w' := w42) (zb rfl) rfl F47 rfl (.pointer (some ⟨g, 3 * jn + 1, none⟩)) (y_fa (off := 1) rfl (F47.get (t := 50) rfl) (by kernel_rfl) rfl) fun _ F48 => ?_
    clear F47
    refine zc (w' := w42) (zb rfl) rfl F48 rfl ((nq jn)) (zba _ _ rfl (F48.get (t := 51) rfl) (M43.blk (k := 0) rfl) (vlt_n ⟨(setC c tx m jn), fl, lf, dd⟩ sq nq hlt) Tryz.underlying23 rfl) fun _ F49 => ?_
    clear F48
    refine rm rfl F49 fun _ F50 => ?_
    refine wl_runE (zb rfl) rfl F50 rfl (y_slTo _ _ rfl (F50.get (t := 52) rfl) (M43.isb (k := 50) rfl) (F50.get (t := 53) rfl) (j := tn) rfl (by omega)) ?_
    intro v51 a51 h51 F51
    clear F50
    have M51 := M43.partB 61 (k := 50) rfl h51.1 h51.2
    clear M43
    obtain ⟨A51, c51, rfl⟩ := (M51.isb (k := 61) rfl).shape
    refine rm rfl F51 fun _ F52 => ?_
    refine wl_allocS (zb rfl) rfl F52 rfl M51 62 (t := 23) (c := #[.slice A51 ((nl.take tn)).length c51, .slice A43 ((sl.drop km)).length c43]) (k := 2) (m := 2) (y_litG 68 23 (s := 1) (zv := zN) Tryz.underlying68 (by kernel_rfl) (by kernel_rfl) rfl (#[.slice A51 ((nl.take tn)).length c51, .slice A43 ((sl.drop km)).length c43]) (by decide) (by decide) (by simp only [List.map_toArray, List.map_cons, List.map_nil, (F52.get (t := 54) rfl), (F52.get (t := 55) rfl)]; kernel_rfl)) ?_
    intro g53 a53 w53 F53 M53
    clear F52 M51
    refine zg (zb rfl) rfl F53 rfl rfl (zE Tryz.func91 rfl) #[.slice (some ⟨g53, 0, none⟩) 2 2] (zx (F53.get (t := 56) rfl)) ((concat2 (nl.take tn) (sl.drop km) (.slice (some ⟨g53, 0, none⟩) 2 2) (by rw [List.length_take, List.length_drop]; omega) w53 (isP2 ⟨_, rfl, M53.blk (k := 62) rfl⟩ (M53.isb (k := 61) rfl) (M53.isb (k := 60) rfl)))) ?_
    rintro v54 w54 a54 h54 F54
    have M54 := M53.newO h54.2 63 h54.1
    clear M53 h54
    obtain ⟨A54, c54, rfl⟩ := (M54.isO (k := 63) rfl).shape
    refine zc (w' := w54) (zb rfl) rfl F54 rfl (.agg (#[.slice A54 (((nl.take tn) ++ (sl.drop km))).length c54, zN, .bool false])) (by unfold execOp; simp only [List.map_toArray, List.map_cons, List.map_nil, (F54.get (t := 57) rfl)]; kernel_rfl) fun _ F55 => ?_
    clear F54
    refine zc (w' := w54) (zb rfl) rfl F55 rfl (.pointer (some ⟨g, 3 * jn, none⟩)) (by unfold execOp; simp only [(F55.get (t := 48) rfl)]; kernel_rfl) fun _ F56 => ?_
    clear F55
    refine zm (zb rfl) rfl F56 M54 (k := 0) rfl _ _ _ rfl (F56.get (t := 59) rfl) (F56.get (t := 58) rfl) (#[.slice A54 (((nl.take tn) ++ (sl.drop km))).length c54, zN, .bool false]) (vltA ⟨(putC (setC c tx m jn) jn ⟨((nl.take tn) ++ (sl.drop km)), [], false⟩), fl, lf, dd⟩ (putN sq jn (.slice A54 (((nl.take tn) ++ (sl.drop km))).length c54)) (putN nq jn (zN))) rfl (show 3 * jn + 3 ≤ 57 by omega) (by simp [Value.oneCell']) (put_c (setC c tx m jn) fl lf dd sq nq (.slice A54 (((nl.take tn) ++ (sl.drop km))).length c54) (zN) ((nl.take tn) ++ (sl.drop km)) [] false hlt) (by kernel_rfl) ?_
    intro w57 M57
    clear M54
    refine hK8 _ _ ?_
    refine zR ?_
    refine zc (w' := w57) (zb rfl) rfl F56 rfl (.int .i64 ((jn + 1 : Nat) : Int)) (zqa _ _ _ _ rfl (F56.get (t := 8) rfl) rfl (by omega) (by omega)) fun _ F58 => ?_
    clear F56
    refine rm rfl F58 fun _ F59 => ?_
    have hown : ∀ b, bfp (.slice A54 (((nl.take tn) ++ (sl.drop km))).length c54) b → w.heap.size ≤ b := fun b hb => (M57.own 63 _ rfl rfl b (zma hb)).resolve_right (fun e => M57.dis 0 63 _ _ rfl rfl (by decide) rfl b (Option.some.inj e).symm (zma hb))
    have M60 := M57.rowsPut (i := 1) (k := 63) rfl rfl (fun b _ => Nat.zero_le _) jn rfl
    clear M57
    have hk : setK c m jn < m := by omega
    have hy0 : yt 0 = tx (setK c m jn) := hyx 0 hq
    have hsC : setC c tx m (jn + 1) = putC (setC c tx m jn) jn ⟨((nl.take tn) ++ (sl.drop km)), [], false⟩ := by
     rw [setC_in hf hk, ← hy0, hnl, htn, tornC, hnl, hsl, ← hkm, drop_min]
    have hsK : setK c m (jn + 1) = setK c m jn + 1 := setK_in hf hk
    subst ek4
    exact hK4 _ ⟨(jn + 1), (tlA At ct), (qt - 1), (ct - 1), (fun i => yt (i + 1)), (putN sq jn (.slice A54 (((nl.take tn) ++ (sl.drop km))).length c54)), (putN nq jn (zN))⟩ _ _ (by omega) ⟨rfl, ⟨by omega, fun b hb => (rowsfp_put hb).elim (fun h => hfp b h) (fun h => .inr (hown b h)), rdI_tl hT1 hq hqc, fun h => hTg1 (ifp_tl hT1 hq hqc h), by dsimp only; omega, by dsimp only; rw [hsK]; omega, fun i hi => by dsimp only at hi ⊢; rw [hsK, show setK c m jn + 1 + i = setK c m jn + (i + 1) by omega]; exact hyx (i + 1) (by omega)⟩⟩ (F59.sub ⟨rfl, rfl, rfl, trivial⟩) (M60.sub ⟨(by rw [hsC]; rfl), (by rw [hsC]; rfl), trivial⟩)
   ·have hq : qt = 0 := by omega
    refine zc (w' := w4) (zb rfl) rfl F32 rfl (.bool false) (y_gtr _ _ _ _ rfl (F32.get (t := 22) rfl) rfl (decide_eq_false h33)) fun _ F61 => ?_
    clear F32
    refine hK30 _ _ ?_
    refine wp_cond_false (F61.get (t := 23) rfl) ?_
    refine wp_skip ?_
    refine hK29 _ _ ?_
    refine zS fun _ hK62 => ?_
    refine zsa F61 [fun vE => vE = .pointer (some ⟨g, 3 * jn, none⟩), fun vE => vE = .pointer (some ⟨g, 3 * jn, none⟩), fun vE => vE = .pointer (some ⟨g, 3 * jn, none⟩), fun vE => vE = (sq jn), fun vE => vE = .int .i64 0, fun vE => vE = .pointer (some ⟨g, 3 * jn, none⟩), fun vE => vE = .pointer (some ⟨g, 3 * jn, none⟩), fun vE => vE = .pointer (some ⟨g, 3 * jn, none⟩), fun vE => vE = (sq jn), fun vE => vE = .int .i64 (sl.length : Int), fun vE => vE = .int .i64 0] (JM (some g) w fun SV pV => [(51, bytR sl (sq jn)), (50, bytR nl (nq jn)), (1, z1a 0 18 (setC c tx m jn) sq nq), (0, blkR g 80 (vltA ⟨(setC c tx m jn), fl, lf, dd⟩ sq nq))]) 11 rfl (by kernel_rfl) rfl ⟨trivial, trivial, trivial, trivial, trivial, trivial, trivial, trivial, trivial, trivial, trivial, trivial⟩ (fun p => (M25.step (zga _)).sub ⟨rfl, rfl, rfl, rfl, trivial⟩) ⟨?_, ?_, ?_, ?_, ?_, ?_, ?_, ?_, ?_, ?_, ?_, trivial⟩ ?_
    ·intro ua uw SV pV M0 hk hn hd
     have M : Mx (some g) w uw _ := M0
     clear M0
     have e5 : ua.eval (.tmp 5) = .pointer (some ⟨g, 3 * jn, none⟩) := (show ua.eval (.tmp 5) = _ from hd 5 (by decide)).trans (F61.get (t := 5) rfl)
     exact zd (zb rfl) (.pointer (some ⟨g, 3 * jn, none⟩)) (zaa _ (.inl rfl) e5) rfl (M.sub ⟨rfl, rfl, rfl, rfl, trivial⟩)
    ·intro ua uw SV pV M0 hk hn hd
     have M : Mx (some g) w uw _ := M0
     clear M0
     obtain ⟨s0, f36, q36⟩ := (show SV 0 = true ∧ ua.eval (.tmp 36) = pV 0 ∧ stE _ 0 (pV 0) from hd 36 (by decide))
     have e36 : ua.eval (.tmp 36) = .pointer (some ⟨g, 3 * jn, none⟩) := f36.trans q36
     exact zd (zb rfl) (.pointer (some ⟨g, 3 * jn, none⟩)) (by unfold execOp; simp only [e36]; kernel_rfl) rfl (M.sub ⟨rfl, rfl, rfl, rfl, trivial⟩)
    ·intro ua uw SV pV M0 hk hn hd
     have M : Mx (some g) w uw _ := M0
     clear M0
     obtain ⟨s1, f37, q37⟩ := (show SV 1 = true ∧ ua.eval (.tmp 37) = pV 1 ∧ stE _ 1 (pV 1) from hd 37 (by decide))
     have e37 : ua.eval (.tmp 37) = .pointer (some ⟨g, 3 * jn, none⟩) := f37.trans q37
     exact zd (zb rfl) (.pointer (some ⟨g, 3 * jn, none⟩)) (y_fa (off := 0) rfl e37 (by kernel_rfl) rfl) rfl (M.sub ⟨rfl, rfl, rfl, rfl, trivial⟩)
    ·intro ua uw SV pV M0 hk hn hd
     have M : Mx (some g) w uw _ := M0
     clear M0
     obtain ⟨s2, f38, q38⟩ := (show SV 2 = true ∧ ua.eval (.tmp 38) = pV 2 ∧ stE _ 2 (pV 2) from hd 38 (by decide))
     have e38 : ua.eval (.tmp 38) = .pointer (some ⟨g, 3 * jn, none⟩) := f38.trans q38
     exact zd (zb rfl) ((sq jn)) (zba _ _ rfl e38 (M.blk (k := 0) rfl) (vlt_s ⟨(setC c tx m jn), fl, lf, dd⟩ sq nq hlt) Tryz.underlying23 rfl) rfl (M.sub ⟨rfl, rfl, rfl, rfl, trivial⟩)
    ·intro ua uw SV pV M0 hk hn hd
     have M : Mx (some g) w uw _ := M0
     clear M0
     have e6 : ua.eval (.tmp 6) = .int .i64 0 := (show ua.eval (.tmp 6) = _ from hd 6 (by decide)).trans (F61.get (t := 6) rfl)
     exact zd (zb rfl) (.int .i64 0) (zaa _ (.inl rfl) e6) rfl (M.sub ⟨rfl, rfl, rfl, rfl, trivial⟩)
    ·intro ua uw SV pV M0 hk hn hd
     have M : Mx (some g) w uw _ := M0
     clear M0
     have e5 : ua.eval (.tmp 5) = .pointer (some ⟨g, 3 * jn, none⟩) := (show ua.eval (.tmp 5) = _ from hd 5 (by decide)).trans (F61.get (t := 5) rfl)
     exact zd (zb rfl) (.pointer (some ⟨g, 3 * jn, none⟩)) (zaa _ (.inl rfl) e5) rfl (M.sub ⟨rfl, rfl, rfl, rfl, trivial⟩)
    ·intro ua uw SV pV M0 hk hn hd
     have M : Mx (some g) w uw _ := M0
     clear M0
     obtain ⟨s5, f41, q41⟩ := (show SV 5 = true ∧ ua.eval (.tmp 41) = pV 5 ∧ stE _ 5 (pV 5) from hd 41 (by decide))
     have e41 : ua.eval (.tmp 41) = .pointer (some ⟨g, 3 * jn, none⟩) := f41.trans q41
     exact zd (zb rfl) (.pointer (some ⟨g, 3 * jn, none⟩)) (by unfold execOp; simp only [e41]; kernel_rfl) rfl (M.sub ⟨rfl, rfl, rfl, rfl, trivial⟩)
    ·intro ua uw SV pV M0 hk hn hd
     have M : Mx (some g) w uw _ := M0
     clear M0
     obtain ⟨s6, f42, q42⟩ := (show SV 6 = true ∧ ua.eval (.tmp 42) = pV 6 ∧ stE _ 6 (pV 6) from hd 42 (by decide))
     have e42 : ua.eval (.tmp 42) = .pointer (some ⟨g, 3 * jn, none⟩) := f42.trans q42
     exact zd (zb rfl) (.pointer (some ⟨g, 3 * jn, none⟩)) (y_fa (off := 0) rfl e42 (by kernel_rfl) rfl) rfl (M.sub ⟨rfl, rfl, rfl, rfl, trivial⟩)
    ·intro ua uw SV pV M0 hk hn hd
     have M : Mx (some g) w uw _ := M0
     clear M0
     obtain ⟨s7, f43, q43⟩ := (show SV 7 = true ∧ ua.eval (.tmp 43) = pV 7 ∧ stE _ 7 (pV 7) from hd 43 (by decide))
     have e43 : ua.eval (.tmp 43) = .pointer (some ⟨g, 3 * jn, none⟩) := f43.trans q43
     exact zd (zb rfl) ((sq jn)) (zba _ _ rfl e43 (M.blk (k := 0) rfl) (vlt_s ⟨(setC c tx m jn), fl, lf, dd⟩ sq nq hlt) Tryz.underlying23 rfl) rfl (M.sub ⟨rfl, rfl, rfl, rfl, trivial⟩)
    ·intro ua uw SV pV M0 hk hn hd
     have M : Mx (some g) w uw _ := M0
     clear M0
     obtain ⟨s8, f44, q44⟩ := (show SV 8 = true ∧ ua.eval (.tmp 44) = pV 8 ∧ stE _ 8 (pV 8) from hd 44 (by decide))
     have e44 : ua.eval (.tmp 44) = (sq jn) := f44.trans q44
     exact zd (zb rfl) (.int .i64 (sl.length : Int)) (zob _ rfl e44 (M.isb (k := 51) rfl) rfl) rfl (M.sub ⟨rfl, rfl, rfl, rfl, trivial⟩)
    ·intro ua uw SV pV M0 hk hn hd
     have M : Mx (some g) w uw _ := M0
     clear M0
     obtain ⟨s4, f40, q40⟩ := (show SV 4 = true ∧ ua.eval (.tmp 40) = pV 4 ∧ stE _ 4 (pV 4) from hd 40 (by decide))
     have e40 : ua.eval (.tmp 40) = .int .i64 0 := f40.trans q40
     obtain ⟨s9, f45, q45⟩ := (show SV 9 = true ∧ ua.eval (.tmp 45) = pV 9 ∧ stE _ 9 (pV 9) from hd 45 (by decide))
     have e45 : ua.eval (.tmp 45) = .int .i64 (sl.length : Int) := f45.trans q45
     exact zd (zb rfl) (.int .i64 0) (y_min _ _ rfl e40 e45 (by split <;> omega)) rfl (M.sub ⟨rfl, rfl, rfl, rfl, trivial⟩)
    intro p63 a63 w63 M63 G63 y63
    obtain ⟨-, -, -, q3, -, -, -, -, -, -, q10, -⟩ := y63
    have r3 : p63 3 = (sq jn) := q3
    have r10 : p63 10 = .int .i64 0 := q10
    replace M63 : Mx _ _ w63 [(51, bytR sl (sq jn)), (50, bytR nl (nq jn)), (1, z1a 0 18 (setC c tx m jn) sq nq), (0, blkR g 80 (vltA ⟨(setC c tx m jn), fl, lf, dd⟩ sq nq))] := M63
    simp only [List.take, layV, Nat.zero_add, Nat.reduceAdd, r3, r10] at G63
    refine wl_runE (zb rfl) rfl G63 rfl (y_slFrom _ _ rfl (G63.get (t := 39) rfl) (M63.isb (k := 51) rfl) (G63.get (t := 46) rfl) (i := 0) rfl (Nat.zero_le _)) ?_
    intro v64 a64 h64 F64
    clear G63
    have M64 := M63.partB 60 (k := 51) rfl h64.1 h64.2
    clear M63
    obtain ⟨A64, c64, rfl⟩ := (M64.isb (k := 60) rfl).shape
    refine rm rfl F64 fun _ F65 => ?_
    refine hK62 _ _ ?_
    refine zR ?_
    refine rm rfl F65 fun _ F66 => ?_
    refine rm rfl F66 fun _ F67 => ?_
    refine zc (w' := w63) (zb rfl) rfl F67 rfl (.pointer (some ⟨g, 3 * jn, none⟩)) (by unfold execOp; simp only [(F67.get (t := 49) rfl)]; kernel_rfl) fun _ F68 => ?_
    clear F67
    refine zc (w' := w63) (zb rfl) rfl F68 rfl (.pointer (some ⟨g, 3 * jn + 1, none⟩)) (y_fa (off := 1) rfl (F68.get (t := 50) rfl) (by kernel_rfl) rfl) fun _ F69 => ?_
    clear F68
    refine zc (w' := w63) (zb rfl) rfl F69 rfl ((nq jn)) (zba _ _ rfl (F69.get (t := 51) rfl) (M64.blk (k := 0) rfl) (vlt_n ⟨(setC c tx m jn), fl, lf, dd⟩ sq nq hlt) Tryz.underlying23 rfl) fun _ F70 => ?_
    clear F69
    refine rm rfl F70 fun _ F71 => ?_
    refine wl_runE (zb rfl) rfl F71 rfl (y_slTo _ _ rfl (F71.get (t := 52) rfl) (M64.isb (k := 50) rfl) (F71.get (t := 53) rfl) (j := 0) rfl (Nat.zero_le _)) ?_
    intro v72 a72 h72 F72
    clear F71
    have M72 := M64.partB 61 (k := 50) rfl h72.1 h72.2
    clear M64
    obtain ⟨A72, c72, rfl⟩ := (M72.isb (k := 61) rfl).shape
    refine rm rfl F72 fun _ F73 => ?_
    refine wl_allocS (zb rfl) rfl F73 rfl M72 62 (t := 23) (c := #[.slice A72 ((nl.take 0)).length c72, .slice A64 ((sl.drop 0)).length c64]) (k := 2) (m := 2) (y_litG 68 23 (s := 1) (zv := zN) Tryz.underlying68 (by kernel_rfl) (by kernel_rfl) rfl (#[.slice A72 ((nl.take 0)).length c72, .slice A64 ((sl.drop 0)).length c64]) (by decide) (by decide) (by simp only [List.map_toArray, List.map_cons, List.map_nil, (F73.get (t := 54) rfl), (F73.get (t := 55) rfl)]; kernel_rfl)) ?_
    intro g74 a74 w74 F74 M74
    clear F73 M72
    refine zg (zb rfl) rfl F74 rfl rfl (zE Tryz.func91 rfl) #[.slice (some ⟨g74, 0, none⟩) 2 2] (zx (F74.get (t := 56) rfl)) ((concat2 (nl.take 0) (sl.drop 0) (.slice (some ⟨g74, 0, none⟩) 2 2) (by rw [List.length_take, List.length_drop]; omega) w74 (isP2 ⟨_, rfl, M74.blk (k := 62) rfl⟩ (M74.isb (k := 61) rfl) (M74.isb (k := 60) rfl)))) ?_
    rintro v75 w75 a75 h75 F75
    have M75 := M74.newO h75.2 63 h75.1
    clear M74 h75
    obtain ⟨A75, c75, rfl⟩ := (M75.isO (k := 63) rfl).shape
    refine zc (w' := w75) (zb rfl) rfl F75 rfl (.agg (#[.slice A75 (((nl.take 0) ++ (sl.drop 0))).length c75, zN, .bool false])) (by unfold execOp; simp only [List.map_toArray, List.map_cons, List.map_nil, (F75.get (t := 57) rfl)]; kernel_rfl) fun _ F76 => ?_
    clear F75
    refine zc (w' := w75) (zb rfl) rfl F76 rfl (.pointer (some ⟨g, 3 * jn, none⟩)) (by unfold execOp; simp only [(F76.get (t := 48) rfl)]; kernel_rfl) fun _ F77 => ?_
    clear F76
    refine zm (zb rfl) rfl F77 M75 (k := 0) rfl _ _ _ rfl (F77.get (t := 59) rfl) (F77.get (t := 58) rfl) (#[.slice A75 (((nl.take 0) ++ (sl.drop 0))).length c75, zN, .bool false]) (vltA ⟨(putC (setC c tx m jn) jn ⟨((nl.take 0) ++ (sl.drop 0)), [], false⟩), fl, lf, dd⟩ (putN sq jn (.slice A75 (((nl.take 0) ++ (sl.drop 0))).length c75)) (putN nq jn (zN))) rfl (show 3 * jn + 3 ≤ 57 by omega) (by simp [Value.oneCell']) (put_c (setC c tx m jn) fl lf dd sq nq (.slice A75 (((nl.take 0) ++ (sl.drop 0))).length c75) (zN) ((nl.take 0) ++ (sl.drop 0)) [] false hlt) (by kernel_rfl) ?_
    intro w78 M78
    clear M75
    refine hK8 _ _ ?_
    refine zR ?_
    refine zc (w' := w78) (zb rfl) rfl F77 rfl (.int .i64 ((jn + 1 : Nat) : Int)) (zqa _ _ _ _ rfl (F77.get (t := 8) rfl) rfl (by omega) (by omega)) fun _ F79 => ?_
    clear F77
    refine rm rfl F79 fun _ F80 => ?_
    have hown : ∀ b, bfp (.slice A75 (((nl.take 0) ++ (sl.drop 0))).length c75) b → w.heap.size ≤ b := fun b hb => (M78.own 63 _ rfl rfl b (zma hb)).resolve_right (fun e => M78.dis 0 63 _ _ rfl rfl (by decide) rfl b (Option.some.inj e).symm (zma hb))
    have M81 := M78.rowsPut (i := 1) (k := 63) rfl rfl (fun b _ => Nat.zero_le _) jn rfl
    clear M78
    have hk : ¬ setK c m jn < m := by omega
    have hsC : setC c tx m (jn + 1) = putC (setC c tx m jn) jn ⟨((nl.take 0) ++ (sl.drop 0)), [], false⟩ := by
     rw [setC_out hf hk, tornC, hnl, hsl]
    have hsK : setK c m (jn + 1) = setK c m jn := setK_out hk
    subst ek4
    exact hK4 _ ⟨(jn + 1), At, qt, ct, yt, (putN sq jn (.slice A75 (((nl.take 0) ++ (sl.drop 0))).length c75)), (putN nq jn (zN))⟩ _ _ (by omega) ⟨rfl, ⟨by omega, fun b hb => (rowsfp_put hb).elim (fun h => hfp b h) (fun h => .inr (hown b h)), hT1, hTg1, hqc, by rw [hsK]; exact hqm, by rw [hsK]; exact hyx⟩⟩ (F80.sub ⟨rfl, rfl, rfl, trivial⟩) (M81.sub ⟨(by rw [hsC]; rfl), (by rw [hsC]; rfl), trivial⟩)
 ·obtain rfl : jn = 18 := by omega
  refine zS fun _ hK82 => ?_
  refine zR ?_
  refine zc (w' := w4) (zb rfl) rfl F4 rfl (.bool false) (zgb _ _ _ _ rfl (F4.get (t := 8) rfl) rfl (decide_eq_false (by decide))) fun _ F83 => ?_
  clear F4
  refine hK82 _ _ ?_
  refine zS fun _ hK84 => ?_
  refine wp_cond_false (F83.get (t := 9) rfl) ?_
  refine wp_exit ?_
  simp only [Exit.then, Exit.inBlock, ↓reduceIte, Nat.reduceEqDiff]
  refine hK1 _ _ ?_
  refine zS fun _ hK85 => ?_
  refine zR ?_
  refine rm rfl F83 fun _ F86 => ?_
  refine zg (zb rfl) rfl F86 rfl rfl (zE Tryz.func46 rfl) #[.pointer (some ⟨g, 0, none⟩), .int .i64 (-1)] (zha (F86.get (t := 61) rfl) rfl) (dfail_any g (setC c tx m 18) fl lf dd sq nq (-1) w4 (M4.blk (k := 0) rfl)) ?_
  rintro _ w87 a87 ⟨hc87, hg87⟩ F87
  have M87 := M4.put (k := 0) rfl hg87 (show _ = some (Obj.cells (vltA ⟨(setC c tx m 18), false, -1, dd⟩ sq nq) 80 (0, 0)) from hc87)
  clear M4 hg87 hc87
  refine hK85 _ _ ?_
  refine zR ?_
  refine zB 3 [(0, .pointer (some ⟨g, 0, none⟩)), (8, .int .i64 ((18 : Nat) : Int)), (1, .slice At qt ct), (65, .pointer (some ⟨g, 56, none⟩))] [] dnil [] F87 fun _ F88 => ?_
  clear F87
  refine zm (zb rfl) rfl F88 M87 (k := 0) rfl _ _ _ rfl (F88.get (t := 65) rfl) rfl (#[.bool false]) (vltA ⟨(setC c tx m 18), false, (-1), false⟩ sq nq) rfl (zL rfl) (by simp [Value.oneCell']) (by kernel_rfl) (by kernel_rfl) ?_
  intro w89 M89
  clear M87
  refine wpList_nil ?_
  try simp only [Exit.then, Exit.inBlock, Exit.jump]
  exact bodyPost_end (res0 rfl) F88.defers ⟨_, rfl, sq, nq, M89.rowsV (i := 1) (k := 0) rfl rfl (by decide), hfp, M89.blk (k := 0) rfl, M89.grown⟩
end Go.Proofs.YtmjbnmbobocpdaaGreat
namespace Go.Proofs.YtmjbnmbobocpdaaGreat
open Go.ChangeShapes Go.WideShapes Go.ChangeAt Go.RowKit
def setlV (V : VltN) (x : Nat → Int) (m : Nat) : VltN := ⟨setC V.c x m 18, false, -1, false⟩
theorem tornC_short {c : CelN} {k : Nat} (hk : k ≤ c.n.length) (h : c.s.length ≤ 1000 ∧ c.n.length ≤ 1000) : (tornC c k).s.length ≤ 1000 ∧ (tornC c k).n.length ≤ 1000 := by
  refine ⟨?_, Nat.zero_le _⟩
  show (c.n.take k ++ c.s.drop k).length ≤ 1000
  rw [List.length_append, List.length_take, List.length_drop]
  omega
theorem setC_all {c : Nat → CelN} {x : Nat → Int} {m : Nat} {p : Nat → CelN → Prop} (h : ∀ i, p i (c i)) (ht : ∀ i k, (c i).f = true → k ≤ (c i).n.length → p i (tornC (c i) k)) : ∀ j i, p i (setC c x m j i)
  | 0, i => h i
  | j + 1, i => by
    unfold setC
    split
    · rename_i hf
      by_cases e : i = j
      · subst e
        rw [z6b]
        split
        · exact ht i _ hf (tornN_le _ _)
        · exact ht i _ hf (Nat.zero_le _)
      · rw [putC_ne _ _ e]
        exact setC_all h ht j i
    · exact setC_all h ht j i
theorem setlV_short {V : VltN} (h : zfa V) (x : Nat → Int) (m : Nat) : zfa (setlV V x m) := fun i hi =>
  setC_all (p := fun i c => i < 18 → c.s.length ≤ 1000 ∧ c.n.length ≤ 1000) (fun i hi => h i hi) (fun i k _ hk hi => tornC_short hk (h i hi)) 18 i hi
theorem settle_is (g : Nat) (V : VltN) (s n : Nat → Value) (A0 : Option Addr) (m c0 : Nat) (tx : Nat → Int) (hmc : m ≤ c0) (hv : zfa V) (w : World) (hT : RdI w A0 m tx) (hTg : ¬ ifp A0 m g) (hr : RowsV w g V.c s n) (hg : w.heap[g]? = some (.cells (vltA V s n) 80 (0, 0))) :
    Calls Tryz.prog 61 #[.pointer (some ⟨g, 0, none⟩), .slice A0 m c0] w fun e w' => ∃ t, e = .returned t ∧ ∃ s' n', RowsV w' g (setlV V tx m).c s' n' ∧ (∀ b, zo 18 s' n' b → zo 18 s n b ∨ w.heap.size ≤ b) ∧ w'.heap[g]? = some (.cells (vltA (setlV V tx m) s' n') 80 (0, 0)) ∧ w.grownBy w' (some g) := by
  obtain ⟨c, fl, lf, dd⟩ := V
  exact settle_any g c fl lf dd s n A0 m c0 tx hmc hv w hT hTg hr hg
theorem vagain_any (g : Nat) (V : VltN) (s n : Nat → Value) (hv : zfa V) (A0 : Option Addr) (m c0 : Nat) (tx : Nat → Int) (hmc : m ≤ c0) (hb : -9223372036854775808 ≤ ztb (setlV V tx m) 16 ∧ ztb (setlV V tx m) 16 < 9223372036854775807) (ht : anyB zj (setlV V tx m) 16 = true → -9223372036854775808 ≤ cntT (setlV V tx m) 16 ∧ cntT (setlV V tx m) 16 < 9223372036854775807) (w : World) (hT : RdI w A0 m tx) (hTg : ¬ ifp A0 m g) (hr : RowsV w g V.c s n) (hg : w.heap[g]? = some (.cells (vltA V s n) 80 (0, 0))) :
  Calls Tryz.prog 30 #[.pointer (some ⟨g, 0, none⟩), .slice A0 m c0] w fun e w' => ∃ t, e = .returned t ∧ ∃ s' n', RowsV w' g (ageW (setlV V tx m)).c s' n' ∧ (∀ b, zo 18 s' n' b → zo 18 s n b ∨ w.heap.size ≤ b) ∧ w'.heap[g]? = some (.cells (vltA (ageW (setlV V tx m)) s' n') 80 (0, 0)) ∧ w.grownBy w' (some g) := by
 obtain ⟨VS, hVS⟩ : ∃ x, setlV V tx m = x := ⟨_, rfl⟩
 have hvs : zfa VS := by rw [← hVS]; exact setlV_short hv tx m
 rw [hVS] at hb ht ⊢
 refine zi (args := [.pointer (some ⟨g, 0, none⟩), .slice A0 m c0]) 11 Tryz.func30 rfl rfl rfl ?_
 intro fa F
 have M := Mx.theG hg 0
 refine zS fun _ hK1 => ?_
 refine zR ?_
 refine zB 4 [(0, .pointer (some ⟨g, 0, none⟩)), (6, .pointer (some ⟨g, 0, none⟩)), (7, .slice A0 m c0)] [] dnil [] F fun _ F2 => ?_
 clear F
 refine zg (zb rfl) rfl F2 rfl rfl (zE Tryz.func61 rfl) #[.pointer (some ⟨g, 0, none⟩), .slice A0 m c0] (zha (F2.get (t := 6) rfl) (F2.get (t := 7) rfl)) (settle_is g V s n A0 m c0 tx hmc hv w (hT.grow M.grown hTg) hTg (hr.grow M.grown) (M.blk (k := 0) rfl)) ?_
 rintro _ w3 a3 ⟨s3, n3, hr3, ht3, hc3, hg3⟩ F3
 rw [hVS] at hr3 hc3
 have M3 := M.put (k := 0) rfl hg3 hc3
 refine hK1 _ _ ?_
 refine zR ?_
 refine rm rfl F3 fun _ F4 => ?_
 refine zg (zb rfl) rfl F4 rfl rfl (zE Tryz.func39 rfl) #[.pointer (some ⟨g, 0, none⟩)] (zx (F4.get (t := 9) rfl)) (age_any g VS s3 n3 hvs hb ht w3 hr3 (M3.blk (k := 0) rfl)) ?_
 rintro _ w5 a5 ⟨s5, n5, hr5, ht5, hc5, hg5⟩ F5
 have M5 := M3.put (k := 0) rfl hg5 hc5
 refine wpList_nil ?_
 try simp only [Exit.then, Exit.inBlock, Exit.jump]
 exact bodyPost_end (res0 rfl) F5.defers ⟨_, rfl, s5, n5, hr5, (fun b hb => (ht5 b hb).elim (fun h => (ht3 b h).imp id (fun h => Nat.le_trans M.le h)) (fun h => .inr (Nat.le_trans M3.le h))), hc5, M3.grown.trans hg5⟩
end Go.Proofs.YtmjbnmbobocpdaaGreat
namespace Go.Proofs.YtmjbnmbobocpdaaGreat
open Go.ChangeShapes Go.WideShapes Go.ChangeAt Go.RowKit
theorem find_yes (g : Nat) (V : VltN) (s n : Nat → Value) (hv : zfa V) (nm : ByteArray) (k : Nat) (hk : fst8 (zz V nm) = k) (h8 : k < 8) (w : World) (h : HasV w g V s n) : Calls Tryz.prog 49 #[.pointer (some ⟨g, 0, none⟩), .string nm] w fun e w' => e = .returned (.tuple #[.agg #[.int .i64 ((2 * k : Nat) : Int), .func (.func 105) #[] #[]], .bool true]) ∧ Below w.heap.size w w' :=
  (find_any g V s n hv nm w h).mono fun e w' ⟨t, h1, h2, h3⟩ => ⟨by
    rcases h2 with ⟨k', q1, q2, q3⟩ | ⟨q1, q2⟩
    · rw [hk] at q2; subst q2; rw [h1, q3]
    · omega, h3⟩
theorem find_not (g : Nat) (V : VltN) (s n : Nat → Value) (hv : zfa V) (nm : ByteArray) (hk : fst8 (zz V nm) = 8) (w : World) (h : HasV w g V s n) : Calls Tryz.prog 49 #[.pointer (some ⟨g, 0, none⟩), .string nm] w fun e w' => e = .returned (.tuple #[.agg #[.int .i64 0, .nilFunc], .bool false]) ∧ Below w.heap.size w w' :=
  (find_any g V s n hv nm w h).mono fun e w' ⟨t, h1, h2, h3⟩ => ⟨by
    rcases h2 with ⟨k', q1, q2, q3⟩ | ⟨q1, q2⟩
    · omega
    · rw [h1, q2], h3⟩
theorem free_yes (g : Nat) (V : VltN) (s n : Nat → Value) (hv : zfa V) (k : Nat) (hk : fst8 (fun i => zua V (2 * i)) = k) (h8 : k < 8) (w : World) (h : HasV w g V s n) : Calls Tryz.prog 50 #[.pointer (some ⟨g, 0, none⟩)] w fun e w' => e = .returned (.tuple #[.agg #[.int .i64 ((2 * k : Nat) : Int), .func (.func 105) #[] #[]], .bool true]) ∧ Below w.heap.size w w' :=
  (free_any g V s n hv w h).mono fun e w' ⟨t, h1, h2, h3⟩ => ⟨by
    rcases h2 with ⟨k', q1, q2, q3⟩ | ⟨q1, q2⟩
    · rw [hk] at q2; subst q2; rw [h1, q3]
    · omega, h3⟩
theorem free_not (g : Nat) (V : VltN) (s n : Nat → Value) (hv : zfa V) (hk : fst8 (fun i => zua V (2 * i)) = 8) (w : World) (h : HasV w g V s n) : Calls Tryz.prog 50 #[.pointer (some ⟨g, 0, none⟩)] w fun e w' => e = .returned (.tuple #[.agg #[.int .i64 0, .nilFunc], .bool false]) ∧ Below w.heap.size w w' :=
  (free_any g V s n hv w h).mono fun e w' ⟨t, h1, h2, h3⟩ => ⟨by
    rcases h2 with ⟨k', q1, q2, q3⟩ | ⟨q1, q2⟩
    · omega
    · rw [h1, q2], h3⟩
theorem gone_dead (g : Nat) (V : VltN) (s n : Nat → Value) (hv : zfa V) (nm : ByteArray) (hd : V.dd = true) (w : World) (hr : RowsV w g V.c s n) (hg : w.heap[g]? = some (.cells (vltA V s n) 80 (0, 0))) :
  Calls Tryz.prog 27 #[.pointer (some ⟨g, 0, none⟩), .string nm] w fun e w' => ∃ t, e = .returned t ∧ t = .int .i64 10 ∧ ∃ s' n', RowsV w' g (V).c s' n' ∧ (∀ b, zo 18 s' n' b → zo 18 s n b ∨ w.heap.size ≤ b) ∧ w'.heap[g]? = some (.cells (vltA (V) s' n') 80 (0, 0)) ∧ w.grownBy w' (some g) := by
 refine zi (args := [.pointer (some ⟨g, 0, none⟩), .string nm]) 23 Tryz.func27 rfl rfl rfl ?_
 intro fa F
 have M := Mx.theG hg 0
 refine zS fun _ hK1 => ?_
 refine zR ?_
 refine rm rfl F fun _ F2 => ?_
 refine hK1 _ _ ?_
 refine zS fun _ hK3 => ?_
 refine zS fun _ hK4 => ?_
 refine zR ?_
 refine zB 4 [(0, .pointer (some ⟨g, 0, none⟩)), (1, .string nm), (4, .int .i64 0), (10, .pointer (some ⟨g, 56, none⟩))] [] dnil [] F2 fun _ F5 => ?_
 clear F2
 refine zc (w' := w) (zb rfl) rfl F5 rfl (.bool true) (zba _ _ rfl (F5.get (t := 10) rfl) (M.blk (k := 0) rfl) (show _ = some (Value.bool _) from by rw [← hd]; rfl) Tryz.underlying4 rfl) fun _ F6 => ?_
 clear F5
 refine hK4 _ _ ?_
 refine wp_cond_true (F6.get (t := 11) rfl) ?_
 refine zS fun _ hK7 => ?_
 refine zR ?_
 refine rm rfl F6 fun _ F8 => ?_
 refine hK7 _ _ ?_
 refine wp_ret ?_
 try simp only [Exit.then, Exit.inBlock, Exit.jump]
 exact bodyPost_ret (res1 rfl (F8.get rfl)) F8.defers ⟨_, rfl, rfl, s, n, hr.grow M.grown, fun b h => .inl h, M.blk (k := 0) rfl, M.grown⟩
theorem gone_not (g : Nat) (V : VltN) (s n : Nat → Value) (hv : zfa V) (nm : ByteArray) (hd : V.dd = false) (hk : fst8 (zz V nm) = 8) (w : World) (hr : RowsV w g V.c s n) (hg : w.heap[g]? = some (.cells (vltA V s n) 80 (0, 0))) :
  Calls Tryz.prog 27 #[.pointer (some ⟨g, 0, none⟩), .string nm] w fun e w' => ∃ t, e = .returned t ∧ t = .int .i64 3 ∧ ∃ s' n', RowsV w' g (V).c s' n' ∧ (∀ b, zo 18 s' n' b → zo 18 s n b ∨ w.heap.size ≤ b) ∧ w'.heap[g]? = some (.cells (vltA (V) s' n') 80 (0, 0)) ∧ w.grownBy w' (some g) := by
 refine zi (args := [.pointer (some ⟨g, 0, none⟩), .string nm]) 23 Tryz.func27 rfl rfl rfl ?_
 intro fa F
 have M := Mx.theG hg 0
 refine zS fun _ hK1 => ?_
 refine zR ?_
 refine rm rfl F fun _ F2 => ?_
 refine hK1 _ _ ?_
 refine zS fun _ hK3 => ?_
 refine zS fun _ hK4 => ?_
 refine zR ?_
 refine zB 4 [(0, .pointer (some ⟨g, 0, none⟩)), (1, .string nm), (4, .int .i64 0), (10, .pointer (some ⟨g, 56, none⟩))] [] dnil [] F2 fun _ F5 => ?_
 clear F2
 refine zc (w' := w) (zb rfl) rfl F5 rfl (.bool false) (zba _ _ rfl (F5.get (t := 10) rfl) (M.blk (k := 0) rfl) (show _ = some (Value.bool _) from by rw [← hd]; rfl) Tryz.underlying4 rfl) fun _ F6 => ?_
 clear F5
 refine hK4 _ _ ?_
 refine wp_cond_false (F6.get (t := 11) rfl) ?_
 refine wp_skip ?_
 refine hK3 _ _ ?_
 refine zS fun _ hK7 => ?_
 refine zR ?_
 refine rm rfl F6 fun _ F8 => ?_
 refine rm rfl F8 fun _ F9 => ?_
 refine zg (zb rfl) rfl F9 rfl rfl (zE Tryz.func49 rfl) #[.pointer (some ⟨g, 0, none⟩), .string nm] (zha (F9.get (t := 13) rfl) (F9.get (t := 14) rfl)) (zda ((find_not g V s n hv nm hk w (HasV.of (M.blk (k := 0) rfl) (hr.grow M.grown))))) ?_
 rintro _ w10 a10 ⟨rfl, b10⟩ F10
 have M10 := M.step b10
 refine zB 3 [(0, .pointer (some ⟨g, 0, none⟩)), (4, .int .i64 0), (16, .agg (#[.int .i64 0, .nilFunc])), (17, .bool false)] [] dnil [] F10 fun _ F11 => ?_
 clear F10
 refine zh (zb rfl) rfl F11 rfl M10 1 (t := 87) (c := #[.int .i64 0, .nilFunc]) (by unfold execOp; kernel_rfl) ?_
 intro g12 a12 w12 F12 M12
 clear F11 M10
 refine zm (zb rfl) rfl F12 M12 (k := 1) rfl _ _ _ rfl (F12.get (t := 5) rfl) (F12.get (t := 16) rfl) (#[.int .i64 0, .nilFunc]) _ rfl (zL rfl) (by first | rfl | simp [Value.oneCell']) (zn rfl) (by kernel_rfl) ?_
 intro w13 M13
 clear M12
 refine rm rfl F12 fun _ F14 => ?_
 refine hK7 _ _ ?_
 refine zS fun _ hK15 => ?_
 refine zS fun _ hK16 => ?_
 refine zR ?_
 refine zA 2 [(18, .bool false), (19, .bool true)] [] dnil [] F14 fun _ F17 => ?_
 clear F14
 refine hK16 _ _ ?_
 refine wp_cond_true (F17.get (t := 19) rfl) ?_
 refine zS fun _ hK18 => ?_
 refine zR ?_
 refine rm rfl F17 fun _ F19 => ?_
 refine hK18 _ _ ?_
 refine wp_ret ?_
 try simp only [Exit.then, Exit.inBlock, Exit.jump]
 exact bodyPost_ret (res1 rfl (F19.get rfl)) F19.defers ⟨_, rfl, rfl, s, n, hr.grow M13.grown, fun b h => .inl h, M13.blk (k := 0) rfl, M13.grown⟩
theorem gone_yes (g : Nat) (V : VltN) (s n : Nat → Value) (hv : zfa V) (nm : ByteArray) (hd : V.dd = false) (k : Nat) (hk : fst8 (zz V nm) = k) (h8 : k < 8) (ht : anyB zj V (2 * k) = true → -9223372036854775808 ≤ cntT V (2 * k) ∧ cntT V (2 * k) < 9223372036854775807) (w : World) (hr : RowsV w g V.c s n) (hg : w.heap[g]? = some (.cells (vltA V s n) 80 (0, 0))) :
  Calls Tryz.prog 27 #[.pointer (some ⟨g, 0, none⟩), .string nm] w fun e w' => ∃ t, e = .returned t ∧ t = .int .i64 (if (sayW V (2 * k) []).2 = true then 0 else 10) ∧ ∃ s' n', RowsV w' g ((sayW V (2 * k) []).1).c s' n' ∧ (∀ b, zo 18 s' n' b → zo 18 s n b ∨ w.heap.size ≤ b) ∧ w'.heap[g]? = some (.cells (vltA ((sayW V (2 * k) []).1) s' n') 80 (0, 0)) ∧ w.grownBy w' (some g) := by
 refine zi (args := [.pointer (some ⟨g, 0, none⟩), .string nm]) 23 Tryz.func27 rfl rfl rfl ?_
 intro fa F
 have M := Mx.theG hg 0
 refine zS fun _ hK1 => ?_
 refine zR ?_
 refine rm rfl F fun _ F2 => ?_
 refine hK1 _ _ ?_
 refine zS fun _ hK3 => ?_
 refine zS fun _ hK4 => ?_
 refine zR ?_
 refine zB 4 [(0, .pointer (some ⟨g, 0, none⟩)), (1, .string nm), (4, .int .i64 0), (10, .pointer (some ⟨g, 56, none⟩))] [] dnil [] F2 fun _ F5 => ?_
 clear F2
 refine zc (w' := w) (zb rfl) rfl F5 rfl (.bool false) (zba _ _ rfl (F5.get (t := 10) rfl) (M.blk (k := 0) rfl) (show _ = some (Value.bool _) from by rw [← hd]; rfl) Tryz.underlying4 rfl) fun _ F6 => ?_
 clear F5
 refine hK4 _ _ ?_
 refine wp_cond_false (F6.get (t := 11) rfl) ?_
 refine wp_skip ?_
 refine hK3 _ _ ?_
 refine zS fun _ hK7 => ?_
 refine zR ?_
 refine rm rfl F6 fun _ F8 => ?_
 refine rm rfl F8 fun _ F9 => ?_
 refine zg (zb rfl) rfl F9 rfl rfl (zE Tryz.func49 rfl) #[.pointer (some ⟨g, 0, none⟩), .string nm] (zha (F9.get (t := 13) rfl) (F9.get (t := 14) rfl)) (zda ((find_yes g V s n hv nm k hk h8 w (HasV.of (M.blk (k := 0) rfl) (hr.grow M.grown))))) ?_
 rintro _ w10 a10 ⟨rfl, b10⟩ F10
 have M10 := M.step b10
 refine zB 3 [(0, .pointer (some ⟨g, 0, none⟩)), (4, .int .i64 0), (16, .agg (#[.int .i64 ((2 * k : Nat) : Int), .func (.func 105) #[] #[]])), (17, .bool true)] [] dnil [] F10 fun _ F11 => ?_
 clear F10
 refine zh (zb rfl) rfl F11 rfl M10 1 (t := 87) (c := #[.int .i64 0, .nilFunc]) (by unfold execOp; kernel_rfl) ?_
 intro g12 a12 w12 F12 M12
 clear F11 M10
 refine zm (zb rfl) rfl F12 M12 (k := 1) rfl _ _ _ rfl (F12.get (t := 5) rfl) (F12.get (t := 16) rfl) (#[.int .i64 ((2 * k : Nat) : Int), .func (.func 105) #[] #[]]) _ rfl (zL rfl) (by first | rfl | simp [Value.oneCell']) (zn rfl) (by kernel_rfl) ?_
 intro w13 M13
 clear M12
 refine rm rfl F12 fun _ F14 => ?_
 refine hK7 _ _ ?_
 refine zS fun _ hK15 => ?_
 refine zS fun _ hK16 => ?_
 refine zR ?_
 refine zA 2 [(18, .bool true), (19, .bool false)] [] dnil [] F14 fun _ F17 => ?_
 clear F14
 refine hK16 _ _ ?_
 refine wp_cond_false (F17.get (t := 19) rfl) ?_
 refine wp_skip ?_
 refine hK15 _ _ ?_
 refine zS fun _ hK18 => ?_
 refine zR ?_
 refine rm rfl F17 fun _ F19 => ?_
 refine zc (w' := w13) (zb rfl) rfl F19 rfl _ (zna _ _ rfl (F19.get (t := 5) rfl) (M13.blk (k := 1) rfl) (#[.int .i64 ((2 * k : Nat) : Int), .func (.func 105) #[] #[]]) (zra rfl) Tryz.underlying87 rfl (by kernel_rfl)) fun _ F20 => ?_
 clear F19
 refine zg (zb rfl) rfl F20 rfl rfl (zE Tryz.func51 rfl) #[.pointer (some ⟨g, 0, none⟩), .agg (#[.int .i64 ((2 * k : Nat) : Int), .func (.func 105) #[] #[]]), zN] (args3 (F20.get (t := 20) rfl) (F20.get (t := 21) rfl) rfl) (vwrite_any g V s n hv k h8 [] (zN) (Nat.zero_le _) ht w13 (zla _) (z5a _) (hr.grow M13.grown) (M13.blk (k := 0) rfl)) ?_
 rintro _ w21 a21 ⟨rfl, s21, n21, hr21, ht21, hc21, hg21⟩ F21
 have M21 := M13.put (k := 0) rfl hg21 hc21
 refine rm rfl F21 fun _ F22 => ?_
 refine hK18 _ _ ?_
 refine wp_ret ?_
 try simp only [Exit.then, Exit.inBlock, Exit.jump]
 exact bodyPost_ret (res1 rfl (F22.get rfl)) F22.defers ⟨_, rfl, rfl, s21, n21, hr21, (fun b hb => (ht21 b hb).imp id (fun hb => Nat.le_trans M13.le hb)), hc21, M13.grown.trans hg21⟩
end Go.Proofs.YtmjbnmbobocpdaaGreat
namespace Go.Proofs.YtmjbnmbobocpdaaGreat
open Go.ChangeShapes Go.WideShapes Go.ChangeAt Go.RowKit
theorem put_dead (g : Nat) (V : VltN) (s n : Nat → Value) (hv : zfa V) (r : RecN) (Vr : RecV) (hd : V.dd = true) (w : World) (hR : RecIs w r Vr) (hRg : ¬ bfp Vr.v2 g ∧ ¬ bfp Vr.v5 g) (hr : RowsV w g V.c s n) (hg : w.heap[g]? = some (.cells (vltA V s n) 80 (0, 0))) :
  Calls Tryz.prog 22 #[.pointer (some ⟨g, 0, none⟩), .agg (recA r Vr)] w fun e w' => ∃ t, e = .returned t ∧ t = .int .i64 10 ∧ ∃ s' n', RowsV w' g (V).c s' n' ∧ (∀ b, zo 18 s' n' b → zo 18 s n b ∨ w.heap.size ≤ b) ∧ w'.heap[g]? = some (.cells (vltA (V) s' n') 80 (0, 0)) ∧ w.grownBy w' (some g) := by
 skip
 refine zi (args := [.pointer (some ⟨g, 0, none⟩), .agg (recA r Vr)]) 40 Tryz.func22 rfl rfl rfl ?_
 intro fa F
 have M := Mx.theG hg 0
 refine zS fun _ hK1 => ?_
 refine zR ?_
 refine zh (zb rfl) rfl F rfl M 1 (t := 37) (c := recA r Vr) (by unfold execOp; simp only [(F.get (t := 1) rfl)]; kernel_rfl) ?_
 intro g2 a2 w2 F2 M2
 clear F M
 refine rm rfl F2 fun _ F3 => ?_
 refine hK1 _ _ ?_
 refine zS fun _ hK4 => ?_
 refine zS fun _ hK5 => ?_
 refine zR ?_
 refine zB 4 [(0, .pointer (some ⟨g, 0, none⟩)), (3, .pointer (some ⟨g2, 0, none⟩)), (4, .int .i64 0), (11, .pointer (some ⟨g, 56, none⟩))] [] dnil [] F3 fun _ F6 => ?_
 clear F3
 refine zc (w' := w2) (zb rfl) rfl F6 rfl (.bool true) (zba _ _ rfl (F6.get (t := 11) rfl) (M2.blk (k := 0) rfl) (show _ = some (Value.bool _) from by rw [← hd]; rfl) Tryz.underlying4 rfl) fun _ F7 => ?_
 clear F6
 refine hK5 _ _ ?_
 refine wp_cond_true (F7.get (t := 12) rfl) ?_
 refine zS fun _ hK8 => ?_
 refine zR ?_
 refine rm rfl F7 fun _ F9 => ?_
 refine hK8 _ _ ?_
 refine wp_ret ?_
 try simp only [Exit.then, Exit.inBlock, Exit.jump]
 exact bodyPost_ret (res1 rfl (F9.get rfl)) F9.defers ⟨_, rfl, rfl, s, n, hr.grow M2.grown, fun b h => .inl h, M2.blk (k := 0) rfl, M2.grown⟩
theorem put_range (g : Nat) (V : VltN) (s n : Nat → Value) (hv : zfa V) (r : RecN) (Vr : RecV) (ho : RecOk r) (hd : V.dd = false) (l : List UInt8) (hrl : recE r = l) (hkeep : zka r = false) (w : World) (hR : RecIs w r Vr) (hRg : ¬ bfp Vr.v2 g ∧ ¬ bfp Vr.v5 g) (hr : RowsV w g V.c s n) (hg : w.heap[g]? = some (.cells (vltA V s n) 80 (0, 0))) :
  Calls Tryz.prog 22 #[.pointer (some ⟨g, 0, none⟩), .agg (recA r Vr)] w fun e w' => ∃ t, e = .returned t ∧ t = .int .i64 11 ∧ ∃ s' n', RowsV w' g (V).c s' n' ∧ (∀ b, zo 18 s' n' b → zo 18 s n b ∨ w.heap.size ≤ b) ∧ w'.heap[g]? = some (.cells (vltA (V) s' n') 80 (0, 0)) ∧ w.grownBy w' (some g) := by
 skip
 refine zi (args := [.pointer (some ⟨g, 0, none⟩), .agg (recA r Vr)]) 40 Tryz.func22 rfl rfl rfl ?_
 intro fa F
 have M := Mx.theG hg 0
 have hkp : zka r = false := hkeep
 refine zS fun _ hK1 => ?_
 refine zR ?_
 refine zh (zb rfl) rfl F rfl M 1 (t := 37) (c := recA r Vr) (by unfold execOp; simp only [(F.get (t := 1) rfl)]; kernel_rfl) ?_
 intro g2 a2 w2 F2 M2
 clear F M
 refine rm rfl F2 fun _ F3 => ?_
 refine hK1 _ _ ?_
 refine zS fun _ hK4 => ?_
 refine zS fun _ hK5 => ?_
 refine zR ?_
 refine zB 4 [(0, .pointer (some ⟨g, 0, none⟩)), (3, .pointer (some ⟨g2, 0, none⟩)), (4, .int .i64 0), (11, .pointer (some ⟨g, 56, none⟩))] [] dnil [] F3 fun _ F6 => ?_
 clear F3
 refine zc (w' := w2) (zb rfl) rfl F6 rfl (.bool false) (zba _ _ rfl (F6.get (t := 11) rfl) (M2.blk (k := 0) rfl) (show _ = some (Value.bool _) from by rw [← hd]; rfl) Tryz.underlying4 rfl) fun _ F7 => ?_
 clear F6
 refine hK5 _ _ ?_
 refine wp_cond_false (F7.get (t := 12) rfl) ?_
 refine wp_skip ?_
 refine hK4 _ _ ?_
 refine zS fun _ hK8 => ?_
 refine zR ?_
 refine zc (w' := w2) (zb rfl) rfl F7 rfl _ (zna _ _ rfl (F7.get (t := 3) rfl) (M2.blk (k := 1) rfl) (recA r Vr) (zra rfl) Tryz.underlying37 rfl (by kernel_rfl)) fun _ F9 => ?_
 clear F7
 refine zg (zb rfl) rfl F9 rfl rfl (zE Tryz.func48 rfl) #[.agg (recA r Vr)] (zx (F9.get (t := 14) rfl)) (rec_is r Vr ho false l hkp hrl w2 ⟨hR.h2.grow M2.grown hRg.1, hR.h5.grow M2.grown hRg.2⟩) ?_
 rintro _ w10 a10 ⟨v10, rfl, hv10, b10⟩ F10
 have M10 := M2.newO b10 2 hv10
 clear M2 b10 hv10
 obtain ⟨A10, c10, rfl⟩ := (M10.isO (k := 2) rfl).shape
 refine zB 5 [(0, .pointer (some ⟨g, 0, none⟩)), (3, .pointer (some ⟨g2, 0, none⟩)), (4, .int .i64 0), (5, .slice A10 (l).length c10), (6, .bool false)] [] dnil [] F10 fun _ F11 => ?_
 clear F10
 refine hK8 _ _ ?_
 refine zS fun _ hK12 => ?_
 refine zS fun _ hK13 => ?_
 refine zR ?_
 refine zA 2 [(18, .bool false), (19, .bool true)] [] dnil [] F11 fun _ F14 => ?_
 clear F11
 refine hK13 _ _ ?_
 refine wp_cond_true (F14.get (t := 19) rfl) ?_
 refine zS fun _ hK15 => ?_
 refine zR ?_
 refine rm rfl F14 fun _ F16 => ?_
 refine hK15 _ _ ?_
 refine wp_ret ?_
 try simp only [Exit.then, Exit.inBlock, Exit.jump]
 exact bodyPost_ret (res1 rfl (F16.get rfl)) F16.defers ⟨_, rfl, rfl, s, n, hr.grow M10.grown, fun b h => .inl h, M10.blk (k := 0) rfl, M10.grown⟩
theorem put_found (g : Nat) (V : VltN) (s n : Nat → Value) (hv : zfa V) (r : RecN) (Vr : RecV) (ho : RecOk r) (hd : V.dd = false) (l : List UInt8) (hrl : recE r = l) (hkeep : zka r = true) (hll : l.length ≤ 1000) (k : Nat) (hk : fst8 (zz V r.s) = k) (h8 : k < 8) (ht : anyB zj V (2 * k) = true → -9223372036854775808 ≤ cntT V (2 * k) ∧ cntT V (2 * k) < 9223372036854775807) (w : World) (hR : RecIs w r Vr) (hRg : ¬ bfp Vr.v2 g ∧ ¬ bfp Vr.v5 g) (hr : RowsV w g V.c s n) (hg : w.heap[g]? = some (.cells (vltA V s n) 80 (0, 0))) :
  Calls Tryz.prog 22 #[.pointer (some ⟨g, 0, none⟩), .agg (recA r Vr)] w fun e w' => ∃ t, e = .returned t ∧ t = .int .i64 (if (sayW V (2 * k) l).2 = true then 0 else 10) ∧ ∃ s' n', RowsV w' g ((sayW V (2 * k) l).1).c s' n' ∧ (∀ b, zo 18 s' n' b → zo 18 s n b ∨ w.heap.size ≤ b) ∧ w'.heap[g]? = some (.cells (vltA ((sayW V (2 * k) l).1) s' n') 80 (0, 0)) ∧ w.grownBy w' (some g) := by
 skip
 refine zi (args := [.pointer (some ⟨g, 0, none⟩), .agg (recA r Vr)]) 40 Tryz.func22 rfl rfl rfl ?_
 intro fa F
 have M := Mx.theG hg 0
 have hkp : zka r = true := hkeep
 refine zS fun _ hK1 => ?_
 refine zR ?_
 refine zh (zb rfl) rfl F rfl M 1 (t := 37) (c := recA r Vr) (by unfold execOp; simp only [(F.get (t := 1) rfl)]; kernel_rfl) ?_
 intro g2 a2 w2 F2 M2
 clear F M
 refine rm rfl F2 fun _ F3 => ?_
 refine hK1 _ _ ?_
 refine zS fun _ hK4 => ?_
 refine zS fun _ hK5 => ?_
 refine zR ?_
 refine zB 4 [(0, .pointer (some ⟨g, 0, none⟩)), (3, .pointer (some ⟨g2, 0, none⟩)), (4, .int .i64 0), (11, .pointer (some ⟨g, 56, none⟩))] [] dnil [] F3 fun _ F6 => ?_
 clear F3
 refine zc (w' := w2) (zb rfl) rfl F6 rfl (.bool false) (zba _ _ rfl (F6.get (t := 11) rfl) (M2.blk (k := 0) rfl) (show _ = some (Value.bool _) from by rw [← hd]; rfl) Tryz.underlying4 rfl) fun _ F7 => ?_
 clear F6
 refine hK5 _ _ ?_
 refine wp_cond_false (F7.get (t := 12) rfl) ?_
 refine wp_skip ?_
 refine hK4 _ _ ?_
 refine zS fun _ hK8 => ?_
 refine zR ?_
 refine zc (w' := w2) (zb rfl) rfl F7 rfl _ (zna _ _ rfl (F7.get (t := 3) rfl) (M2.blk (k := 1) rfl) (recA r Vr) (zra rfl) Tryz.underlying37 rfl (by kernel_rfl)) fun _ F9 => ?_
 clear F7
 refine zg (zb rfl) rfl F9 rfl rfl (zE Tryz.func48 rfl) #[.agg (recA r Vr)] (zx (F9.get (t := 14) rfl)) (rec_is r Vr ho true l hkp hrl w2 ⟨hR.h2.grow M2.grown hRg.1, hR.h5.grow M2.grown hRg.2⟩) ?_
 rintro _ w10 a10 ⟨v10, rfl, hv10, b10⟩ F10
 have M10 := M2.newO b10 2 hv10
 clear M2 b10 hv10
 obtain ⟨A10, c10, rfl⟩ := (M10.isO (k := 2) rfl).shape
 refine zB 5 [(0, .pointer (some ⟨g, 0, none⟩)), (3, .pointer (some ⟨g2, 0, none⟩)), (4, .int .i64 0), (5, .slice A10 (l).length c10), (6, .bool true)] [] dnil [] F10 fun _ F11 => ?_
 clear F10
 refine hK8 _ _ ?_
 refine zS fun _ hK12 => ?_
 refine zS fun _ hK13 => ?_
 refine zR ?_
 refine zA 2 [(18, .bool true), (19, .bool false)] [] dnil [] F11 fun _ F14 => ?_
 clear F11
 refine hK13 _ _ ?_
 refine wp_cond_false (F14.get (t := 19) rfl) ?_
 refine wp_skip ?_
 refine hK12 _ _ ?_
 refine zS fun _ hK15 => ?_
 refine zR ?_
 refine zA 3 [(21, .pointer (some ⟨g, 0, none⟩)), (22, .pointer (some ⟨g2, 1, none⟩)), (23, .string r.s)] [0] (zt (M10.blk (k := 1) rfl) dnil) [g2] F14 fun _ F16 => ?_
 clear F14
 refine zg (zb rfl) rfl F16 rfl rfl (zE Tryz.func49 rfl) #[.pointer (some ⟨g, 0, none⟩), .string r.s] (zha (F16.get (t := 21) rfl) (F16.get (t := 23) rfl)) (zda ((find_yes g V s n hv r.s k hk h8 w10 (HasV.of (M10.blk (k := 0) rfl) (hr.grow M10.grown))))) ?_
 rintro _ w17 a17 ⟨rfl, b17⟩ F17
 have M17 := M10.step b17
 refine rm rfl F17 fun _ F18 => ?_
 refine zA 2 [(25, .agg (#[.int .i64 ((2 * k : Nat) : Int), .func (.func 105) #[] #[]])), (26, .bool true)] [] dnil [] F18 fun _ F19 => ?_
 clear F18
 refine zh (zb rfl) rfl F19 rfl M17 3 (t := 87) (c := #[.int .i64 0, .nilFunc]) (by unfold execOp; kernel_rfl) ?_
 intro g20 a20 w20 F20 M20
 clear F19 M17
 refine zm (zb rfl) rfl F20 M20 (k := 3) rfl _ _ _ rfl (F20.get (t := 7) rfl) (F20.get (t := 25) rfl) (#[.int .i64 ((2 * k : Nat) : Int), .func (.func 105) #[] #[]]) _ rfl (zL rfl) (by first | rfl | simp [Value.oneCell']) (zn rfl) (by kernel_rfl) ?_
 intro w21 M21
 clear M20
 refine rm rfl F20 fun _ F22 => ?_
 refine hK15 _ _ ?_
 refine zS fun _ hK23 => ?_
 refine zS fun _ hK24 => ?_
 refine zR ?_
 refine zA 2 [(27, .bool true), (28, .bool false)] [] dnil [] F22 fun _ F25 => ?_
 clear F22
 refine hK24 _ _ ?_
 refine wp_cond_false (F25.get (t := 28) rfl) ?_
 refine wp_skip ?_
 refine hK23 _ _ ?_
 refine zS fun _ hK26 => ?_
 refine zS fun _ hK27 => ?_
 refine zR ?_
 refine zA 2 [(34, .bool true), (35, .bool false)] [] dnil [] F25 fun _ F28 => ?_
 clear F25
 refine hK27 _ _ ?_
 refine wp_cond_false (F28.get (t := 35) rfl) ?_
 refine wp_skip ?_
 refine hK26 _ _ ?_
 refine zS fun _ hK29 => ?_
 refine zR ?_
 refine rm rfl F28 fun _ F30 => ?_
 refine zc (w' := w21) (zb rfl) rfl F30 rfl _ (zna _ _ rfl (F30.get (t := 7) rfl) (M21.blk (k := 3) rfl) (#[.int .i64 ((2 * k : Nat) : Int), .func (.func 105) #[] #[]]) (zra rfl) Tryz.underlying87 rfl (by kernel_rfl)) fun _ F31 => ?_
 clear F30
 refine rm rfl F31 fun _ F32 => ?_
 refine zg (zb rfl) rfl F32 rfl rfl (zE Tryz.func51 rfl) #[.pointer (some ⟨g, 0, none⟩), .agg (#[.int .i64 ((2 * k : Nat) : Int), .func (.func 105) #[] #[]]), .slice A10 (l).length c10] (args3 (F32.get (t := 36) rfl) (F32.get (t := 37) rfl) (F32.get (t := 38) rfl)) (vwrite_any g V s n hv k h8 l (.slice A10 (l).length c10) hll ht w21 (M21.isO (k := 2) rfl) (fun h => M21.dis 0 2 _ _ rfl rfl (by decide) rfl g rfl (zma h)) (hr.grow M21.grown) (M21.blk (k := 0) rfl)) ?_
 rintro _ w33 a33 ⟨rfl, s33, n33, hr33, ht33, hc33, hg33⟩ F33
 have M33 := M21.put (k := 0) rfl hg33 hc33
 refine rm rfl F33 fun _ F34 => ?_
 refine hK29 _ _ ?_
 refine wp_ret ?_
 try simp only [Exit.then, Exit.inBlock, Exit.jump]
 exact bodyPost_ret (res1 rfl (F34.get rfl)) F34.defers ⟨_, rfl, rfl, s33, n33, hr33, (fun b hb => (ht33 b hb).imp id (fun hb => Nat.le_trans M21.le hb)), hc33, M21.grown.trans hg33⟩
theorem put_none (g : Nat) (V : VltN) (s n : Nat → Value) (hv : zfa V) (r : RecN) (Vr : RecV) (ho : RecOk r) (hd : V.dd = false) (l : List UInt8) (hrl : recE r = l) (hkeep : zka r = true) (hk : fst8 (zz V r.s) = 8) (hf : fst8 (fun i => zua V (2 * i)) = 8) (w : World) (hR : RecIs w r Vr) (hRg : ¬ bfp Vr.v2 g ∧ ¬ bfp Vr.v5 g) (hr : RowsV w g V.c s n) (hg : w.heap[g]? = some (.cells (vltA V s n) 80 (0, 0))) :
  Calls Tryz.prog 22 #[.pointer (some ⟨g, 0, none⟩), .agg (recA r Vr)] w fun e w' => ∃ t, e = .returned t ∧ t = .int .i64 7 ∧ ∃ s' n', RowsV w' g (V).c s' n' ∧ (∀ b, zo 18 s' n' b → zo 18 s n b ∨ w.heap.size ≤ b) ∧ w'.heap[g]? = some (.cells (vltA (V) s' n') 80 (0, 0)) ∧ w.grownBy w' (some g) := by
 skip
 refine zi (args := [.pointer (some ⟨g, 0, none⟩), .agg (recA r Vr)]) 40 Tryz.func22 rfl rfl rfl ?_
 intro fa F
 have M := Mx.theG hg 0
 have hkp : zka r = true := hkeep
 refine zS fun _ hK1 => ?_
 refine zR ?_
 refine zh (zb rfl) rfl F rfl M 1 (t := 37) (c := recA r Vr) (by unfold execOp; simp only [(F.get (t := 1) rfl)]; kernel_rfl) ?_
 intro g2 a2 w2 F2 M2
 clear F M
 refine rm rfl F2 fun _ F3 => ?_
 refine hK1 _ _ ?_
 refine zS fun _ hK4 => ?_
 refine zS fun _ hK5 => ?_
 refine zR ?_
 refine zB 4 [(0, .pointer (some ⟨g, 0, none⟩)), (3, .pointer (some ⟨g2, 0, none⟩)), (4, .int .i64 0), (11, .pointer (some ⟨g, 56, none⟩))] [] dnil [] F3 fun _ F6 => ?_
 clear F3
 refine zc (w' := w2) (zb rfl) rfl F6 rfl (.bool false) (zba _ _ rfl (F6.get (t := 11) rfl) (M2.blk (k := 0) rfl) (show _ = some (Value.bool _) from by rw [← hd]; rfl) Tryz.underlying4 rfl) fun _ F7 => ?_
 clear F6
 refine hK5 _ _ ?_
 refine wp_cond_false (F7.get (t := 12) rfl) ?_
 refine wp_skip ?_
 refine hK4 _ _ ?_
 refine zS fun _ hK8 => ?_
 refine zR ?_
 refine zc (w' := w2) (zb rfl) rfl F7 rfl _ (zna _ _ rfl (F7.get (t := 3) rfl) (M2.blk (k := 1) rfl) (recA r Vr) (zra rfl) Tryz.underlying37 rfl (by kernel_rfl)) fun _ F9 => ?_
 clear F7
 refine zg (zb rfl) rfl F9 rfl rfl (zE Tryz.func48 rfl) #[.agg (recA r Vr)] (zx (F9.get (t := 14) rfl)) (rec_is r Vr ho true l hkp hrl w2 ⟨hR.h2.grow M2.grown hRg.1, hR.h5.grow M2.grown hRg.2⟩) ?_
 rintro _ w10 a10 ⟨v10, rfl, hv10, b10⟩ F10
 have M10 := M2.newO b10 2 hv10
 clear M2 b10 hv10
 obtain ⟨A10, c10, rfl⟩ := (M10.isO (k := 2) rfl).shape
 refine zB 5 [(0, .pointer (some ⟨g, 0, none⟩)), (3, .pointer (some ⟨g2, 0, none⟩)), (4, .int .i64 0), (5, .slice A10 (l).length c10), (6, .bool true)] [] dnil [] F10 fun _ F11 => ?_
 clear F10
 refine hK8 _ _ ?_
 refine zS fun _ hK12 => ?_
 refine zS fun _ hK13 => ?_
 refine zR ?_
 refine zA 2 [(18, .bool true), (19, .bool false)] [] dnil [] F11 fun _ F14 => ?_
 clear F11
 refine hK13 _ _ ?_
 refine wp_cond_false (F14.get (t := 19) rfl) ?_
 refine wp_skip ?_
 refine hK12 _ _ ?_
 refine zS fun _ hK15 => ?_
 refine zR ?_
 refine zA 3 [(21, .pointer (some ⟨g, 0, none⟩)), (22, .pointer (some ⟨g2, 1, none⟩)), (23, .string r.s)] [0] (zt (M10.blk (k := 1) rfl) dnil) [g2] F14 fun _ F16 => ?_
 clear F14
 refine zg (zb rfl) rfl F16 rfl rfl (zE Tryz.func49 rfl) #[.pointer (some ⟨g, 0, none⟩), .string r.s] (zha (F16.get (t := 21) rfl) (F16.get (t := 23) rfl)) (zda ((find_not g V s n hv r.s hk w10 (HasV.of (M10.blk (k := 0) rfl) (hr.grow M10.grown))))) ?_
 rintro _ w17 a17 ⟨rfl, b17⟩ F17
 have M17 := M10.step b17
 refine zB 3 [(0, .pointer (some ⟨g, 0, none⟩)), (4, .int .i64 0), (5, .slice A10 (l).length c10), (6, .bool true), (25, .agg (#[.int .i64 0, .nilFunc])), (26, .bool false)] [] dnil [] F17 fun _ F18 => ?_
 clear F17
 refine zh (zb rfl) rfl F18 rfl M17 3 (t := 87) (c := #[.int .i64 0, .nilFunc]) (by unfold execOp; kernel_rfl) ?_
 intro g19 a19 w19 F19 M19
 clear F18 M17
 refine zm (zb rfl) rfl F19 M19 (k := 3) rfl _ _ _ rfl (F19.get (t := 7) rfl) (F19.get (t := 25) rfl) (#[.int .i64 0, .nilFunc]) _ rfl (zL rfl) (by first | rfl | simp [Value.oneCell']) (zn rfl) (by kernel_rfl) ?_
 intro w20 M20
 clear M19
 refine rm rfl F19 fun _ F21 => ?_
 refine hK15 _ _ ?_
 refine zS fun _ hK22 => ?_
 refine zS fun _ hK23 => ?_
 refine zR ?_
 refine zA 2 [(27, .bool false), (28, .bool true)] [] dnil [] F21 fun _ F24 => ?_
 clear F21
 refine hK23 _ _ ?_
 refine wp_cond_true (F24.get (t := 28) rfl) ?_
 refine zR ?_
 refine rm rfl F24 fun _ F25 => ?_
 refine zg (zb rfl) rfl F25 rfl rfl (zE Tryz.func50 rfl) #[.pointer (some ⟨g, 0, none⟩)] (zx (F25.get (t := 30) rfl)) (zda ((free_not g V s n hv hf w20 (HasV.of (M20.blk (k := 0) rfl) (hr.grow M20.grown))))) ?_
 rintro _ w26 a26 ⟨rfl, b26⟩ F26
 have M26 := M20.step b26
 refine zA 3 [(29, .tuple #[.agg (#[.int .i64 0, .nilFunc]), .bool false]), (32, .agg (#[.int .i64 0, .nilFunc])), (33, .bool false)] [] dnil [] F26 fun _ F27 => ?_
 clear F26
 refine zm (zb rfl) rfl F27 M26 (k := 3) rfl _ _ _ rfl (F27.get (t := 7) rfl) (F27.get (t := 32) rfl) (#[.int .i64 0, .nilFunc]) _ rfl (zL rfl) (by first | rfl | simp [Value.oneCell']) (zn rfl) (by kernel_rfl) ?_
 intro w28 M28
 clear M26
 refine rm rfl F27 fun _ F29 => ?_
 refine hK22 _ _ ?_
 refine zS fun _ hK30 => ?_
 refine zS fun _ hK31 => ?_
 refine zR ?_
 refine zA 2 [(34, .bool false), (35, .bool true)] [] dnil [] F29 fun _ F32 => ?_
 clear F29
 refine hK31 _ _ ?_
 refine wp_cond_true (F32.get (t := 35) rfl) ?_
 refine zS fun _ hK33 => ?_
 refine zR ?_
 refine rm rfl F32 fun _ F34 => ?_
 refine hK33 _ _ ?_
 refine wp_ret ?_
 try simp only [Exit.then, Exit.inBlock, Exit.jump]
 exact bodyPost_ret (res1 rfl (F34.get rfl)) F34.defers ⟨_, rfl, rfl, s, n, hr.grow M28.grown, fun b h => .inl h, M28.blk (k := 0) rfl, M28.grown⟩
theorem put_free (g : Nat) (V : VltN) (s n : Nat → Value) (hv : zfa V) (r : RecN) (Vr : RecV) (ho : RecOk r) (hd : V.dd = false) (l : List UInt8) (hrl : recE r = l) (hkeep : zka r = true) (hll : l.length ≤ 1000) (hk : fst8 (zz V r.s) = 8) (k : Nat) (hf : fst8 (fun i => zua V (2 * i)) = k) (h8 : k < 8) (ht : anyB zj V (2 * k) = true → -9223372036854775808 ≤ cntT V (2 * k) ∧ cntT V (2 * k) < 9223372036854775807) (w : World) (hR : RecIs w r Vr) (hRg : ¬ bfp Vr.v2 g ∧ ¬ bfp Vr.v5 g) (hr : RowsV w g V.c s n) (hg : w.heap[g]? = some (.cells (vltA V s n) 80 (0, 0))) :
  Calls Tryz.prog 22 #[.pointer (some ⟨g, 0, none⟩), .agg (recA r Vr)] w fun e w' => ∃ t, e = .returned t ∧ t = .int .i64 (if (sayW V (2 * k) l).2 = true then 0 else 10) ∧ ∃ s' n', RowsV w' g ((sayW V (2 * k) l).1).c s' n' ∧ (∀ b, zo 18 s' n' b → zo 18 s n b ∨ w.heap.size ≤ b) ∧ w'.heap[g]? = some (.cells (vltA ((sayW V (2 * k) l).1) s' n') 80 (0, 0)) ∧ w.grownBy w' (some g) := by
 skip
 refine zi (args := [.pointer (some ⟨g, 0, none⟩), .agg (recA r Vr)]) 40 Tryz.func22 rfl rfl rfl ?_
 intro fa F
 have M := Mx.theG hg 0
 have hkp : zka r = true := hkeep
 refine zS fun _ hK1 => ?_
 refine zR ?_
 refine zh (zb rfl) rfl F rfl M 1 (t := 37) (c := recA r Vr) (by unfold execOp; simp only [(F.get (t := 1) rfl)]; kernel_rfl) ?_
 intro g2 a2 w2 F2 M2
 clear F M
 refine rm rfl F2 fun _ F3 => ?_
 refine hK1 _ _ ?_
 refine zS fun _ hK4 => ?_
 refine zS fun _ hK5 => ?_
 refine zR ?_
 refine zB 4 [(0, .pointer (some ⟨g, 0, none⟩)), (3, .pointer (some ⟨g2, 0, none⟩)), (4, .int .i64 0), (11, .pointer (some ⟨g, 56, none⟩))] [] dnil [] F3 fun _ F6 => ?_
 clear F3
 refine zc (w' := w2) (zb rfl) rfl F6 rfl (.bool false) (zba _ _ rfl (F6.get (t := 11) rfl) (M2.blk (k := 0) rfl) (show _ = some (Value.bool _) from by rw [← hd]; rfl) Tryz.underlying4 rfl) fun _ F7 => ?_
 clear F6
 refine hK5 _ _ ?_
 refine wp_cond_false (F7.get (t := 12) rfl) ?_
 refine wp_skip ?_
 refine hK4 _ _ ?_
 refine zS fun _ hK8 => ?_
 refine zR ?_
 refine zc (w' := w2) (zb rfl) rfl F7 rfl _ (zna _ _ rfl (F7.get (t := 3) rfl) (M2.blk (k := 1) rfl) (recA r Vr) (zra rfl) Tryz.underlying37 rfl (by kernel_rfl)) fun _ F9 => ?_
 clear F7
 refine zg (zb rfl) rfl F9 rfl rfl (zE Tryz.func48 rfl) #[.agg (recA r Vr)] (zx (F9.get (t := 14) rfl)) (rec_is r Vr ho true l hkp hrl w2 ⟨hR.h2.grow M2.grown hRg.1, hR.h5.grow M2.grown hRg.2⟩) ?_
 rintro _ w10 a10 ⟨v10, rfl, hv10, b10⟩ F10
 have M10 := M2.newO b10 2 hv10
 clear M2 b10 hv10
 obtain ⟨A10, c10, rfl⟩ := (M10.isO (k := 2) rfl).shape
 refine zB 5 [(0, .pointer (some ⟨g, 0, none⟩)), (3, .pointer (some ⟨g2, 0, none⟩)), (4, .int .i64 0), (5, .slice A10 (l).length c10), (6, .bool true)] [] dnil [] F10 fun _ F11 => ?_
 clear F10
 refine hK8 _ _ ?_
 refine zS fun _ hK12 => ?_
 refine zS fun _ hK13 => ?_
 refine zR ?_
 refine zA 2 [(18, .bool true), (19, .bool false)] [] dnil [] F11 fun _ F14 => ?_
 clear F11
 refine hK13 _ _ ?_
 refine wp_cond_false (F14.get (t := 19) rfl) ?_
 refine wp_skip ?_
 refine hK12 _ _ ?_
 refine zS fun _ hK15 => ?_
 refine zR ?_
 refine zA 3 [(21, .pointer (some ⟨g, 0, none⟩)), (22, .pointer (some ⟨g2, 1, none⟩)), (23, .string r.s)] [0] (zt (M10.blk (k := 1) rfl) dnil) [g2] F14 fun _ F16 => ?_
 clear F14
 refine zg (zb rfl) rfl F16 rfl rfl (zE Tryz.func49 rfl) #[.pointer (some ⟨g, 0, none⟩), .string r.s] (zha (F16.get (t := 21) rfl) (F16.get (t := 23) rfl)) (zda ((find_not g V s n hv r.s hk w10 (HasV.of (M10.blk (k := 0) rfl) (hr.grow M10.grown))))) ?_
 rintro _ w17 a17 ⟨rfl, b17⟩ F17
 have M17 := M10.step b17
 refine zB 3 [(0, .pointer (some ⟨g, 0, none⟩)), (4, .int .i64 0), (5, .slice A10 (l).length c10), (6, .bool true), (25, .agg (#[.int .i64 0, .nilFunc])), (26, .bool false)] [] dnil [] F17 fun _ F18 => ?_
 clear F17
 refine zh (zb rfl) rfl F18 rfl M17 3 (t := 87) (c := #[.int .i64 0, .nilFunc]) (by unfold execOp; kernel_rfl) ?_
 intro g19 a19 w19 F19 M19
 clear F18 M17
 refine zm (zb rfl) rfl F19 M19 (k := 3) rfl _ _ _ rfl (F19.get (t := 7) rfl) (F19.get (t := 25) rfl) (#[.int .i64 0, .nilFunc]) _ rfl (zL rfl) (by first | rfl | simp [Value.oneCell']) (zn rfl) (by kernel_rfl) ?_
 intro w20 M20
 clear M19
 refine rm rfl F19 fun _ F21 => ?_
 refine hK15 _ _ ?_
 refine zS fun _ hK22 => ?_
 refine zS fun _ hK23 => ?_
 refine zR ?_
 refine zA 2 [(27, .bool false), (28, .bool true)] [] dnil [] F21 fun _ F24 => ?_
 clear F21
 refine hK23 _ _ ?_
 refine wp_cond_true (F24.get (t := 28) rfl) ?_
 refine zR ?_
 refine rm rfl F24 fun _ F25 => ?_
 refine zg (zb rfl) rfl F25 rfl rfl (zE Tryz.func50 rfl) #[.pointer (some ⟨g, 0, none⟩)] (zx (F25.get (t := 30) rfl)) (zda ((free_yes g V s n hv k hf h8 w20 (HasV.of (M20.blk (k := 0) rfl) (hr.grow M20.grown))))) ?_
 rintro _ w26 a26 ⟨rfl, b26⟩ F26
 have M26 := M20.step b26
 refine rm rfl F26 fun _ F27 => ?_
 refine zA 2 [(32, .agg (#[.int .i64 ((2 * k : Nat) : Int), .func (.func 105) #[] #[]])), (33, .bool true)] [] dnil [] F27 fun _ F28 => ?_
 clear F27
 refine zm (zb rfl) rfl F28 M26 (k := 3) rfl _ _ _ rfl (F28.get (t := 7) rfl) (F28.get (t := 32) rfl) (#[.int .i64 ((2 * k : Nat) : Int), .func (.func 105) #[] #[]]) _ rfl (zL rfl) (by first | rfl | simp [Value.oneCell']) (zn rfl) (by kernel_rfl) ?_
 intro w29 M29
 clear M26
 refine rm rfl F28 fun _ F30 => ?_
 refine hK22 _ _ ?_
 refine zS fun _ hK31 => ?_
 refine zS fun _ hK32 => ?_
 refine zR ?_
 refine zA 2 [(34, .bool true), (35, .bool false)] [] dnil [] F30 fun _ F33 => ?_
 clear F30
 refine hK32 _ _ ?_
 refine wp_cond_false (F33.get (t := 35) rfl) ?_
 refine wp_skip ?_
 refine hK31 _ _ ?_
 refine zS fun _ hK34 => ?_
 refine zR ?_
 refine rm rfl F33 fun _ F35 => ?_
 refine zc (w' := w29) (zb rfl) rfl F35 rfl _ (zna _ _ rfl (F35.get (t := 7) rfl) (M29.blk (k := 3) rfl) (#[.int .i64 ((2 * k : Nat) : Int), .func (.func 105) #[] #[]]) (zra rfl) Tryz.underlying87 rfl (by kernel_rfl)) fun _ F36 => ?_
 clear F35
 refine rm rfl F36 fun _ F37 => ?_
 refine zg (zb rfl) rfl F37 rfl rfl (zE Tryz.func51 rfl) #[.pointer (some ⟨g, 0, none⟩), .agg (#[.int .i64 ((2 * k : Nat) : Int), .func (.func 105) #[] #[]]), .slice A10 (l).length c10] (args3 (F37.get (t := 36) rfl) (F37.get (t := 37) rfl) (F37.get (t := 38) rfl)) (vwrite_any g V s n hv k h8 l (.slice A10 (l).length c10) hll ht w29 (M29.isO (k := 2) rfl) (fun h => M29.dis 0 2 _ _ rfl rfl (by decide) rfl g rfl (zma h)) (hr.grow M29.grown) (M29.blk (k := 0) rfl)) ?_
 rintro _ w38 a38 ⟨rfl, s38, n38, hr38, ht38, hc38, hg38⟩ F38
 have M38 := M29.put (k := 0) rfl hg38 hc38
 refine rm rfl F38 fun _ F39 => ?_
 refine hK34 _ _ ?_
 refine wp_ret ?_
 try simp only [Exit.then, Exit.inBlock, Exit.jump]
 exact bodyPost_ret (res1 rfl (F39.get rfl)) F39.defers ⟨_, rfl, rfl, s38, n38, hr38, (fun b hb => (ht38 b hb).imp id (fun hb => Nat.le_trans M29.le hb)), hc38, M29.grown.trans hg38⟩
end Go.Proofs.YtmjbnmbobocpdaaGreat
namespace Go.Proofs.YtmjbnmbobocpdaaGreat
open Go.ChangeShapes Go.WideShapes Go.ChangeAt Go.RowKit
theorem vdead_any (g : Nat) (V : VltN) (s n : Nat → Value) (w : World) (h : HasV w g V s n) :
  Calls Tryz.prog 32 #[.pointer (some ⟨g, 0, none⟩)] w fun e w' => e = .returned (.bool V.dd) ∧ Below w.heap.size w w' := by
 obtain ⟨dd, hd⟩ : ∃ x, V.dd = x := ⟨_, rfl⟩
 rw [hd]
 refine zi (args := [.pointer (some ⟨g, 0, none⟩)]) 8 Tryz.func32 rfl rfl rfl ?_
 intro fa F
 have M := Mx.start w
 replace M := M.argO 0 h.blk (fun b e => by cases e)
 refine zS fun _ hK1 => ?_
 refine zR ?_
 refine rm rfl F fun _ F2 => ?_
 refine hK1 _ _ ?_
 refine zS fun _ hK3 => ?_
 refine zR ?_
 refine zB 4 [(2, .bool false), (6, .pointer (some ⟨g, 56, none⟩))] [] dnil [] F2 fun _ F4 => ?_
 clear F2
 refine zc (w' := w) (zb rfl) rfl F4 rfl (.bool dd) (zba _ _ rfl (F4.get (t := 6) rfl) (M.roB (k := 0) rfl) (show _ = some (Value.bool _) from by rw [← hd]; rfl) Tryz.underlying4 rfl) fun _ F5 => ?_
 clear F4
 refine rm rfl F5 fun _ F6 => ?_
 refine hK3 _ _ ?_
 refine wp_ret ?_
 try simp only [Exit.then, Exit.inBlock, Exit.jump]
 exact bodyPost_ret (res1 rfl (F6.get rfl)) F6.defers ⟨rfl, M.below⟩
end Go.Proofs.YtmjbnmbobocpdaaGreat
namespace Go.Proofs.YtmjbnmbobocpdaaGreat
open Go.ChangeShapes Go.WideShapes Go.ChangeAt Go.RowKit Go.Shelf
theorem eightI_low {n : Nat} (h : n < 256) : zw (n : Int) = [0, 0, 0, 0, 0, 0, 0, zy (n : Int)] := by
  have e : ∀ j : Nat, j < 7 → zy ((n : Int) / 2 ^ (8 * (7 - j))) = 0 := fun j hj => by
    have h1 : ((n : Int) / 2 ^ (8 * (7 - j))) = 0 := by
      apply Int.ediv_eq_zero_of_lt (by omega)
      have h2 : 2 ^ 8 ≤ 2 ^ (8 * (7 - j)) := Nat.pow_le_pow_right (by omega) (by omega)
      have h3 : ((2 ^ (8 * (7 - j)) : Nat) : Int) = (2 : Int) ^ (8 * (7 - j)) := by simp
      omega
    rw [h1]; rfl
  have e7 : zy ((n : Int) / 2 ^ (8 * (7 - 7))) = zy (n : Int) := by simp
  unfold zw
  have hr : List.range 8 = [0, 1, 2, 3, 4, 5, 6, 7] := rfl
  rw [hr]
  simp only [List.map_cons, List.map_nil]
  rw [e 0 (by omega), e 1 (by omega), e 2 (by omega), e 3 (by omega), e 4 (by omega), e 5 (by omega), e 6 (by omega), e7]
def CellOk (K : Nat) (b : List UInt8) : Prop := b.length ≤ 280 ∧ (∀ j, j < 7 → b.getD j 0 = 0) ∧ (b.getD 7 0).toNat ≤ K
def CelOk (K : Nat) (c : CelN) : Prop := CellOk K c.s ∧ CellOk K c.n
def InvV (K : Nat) (V : VltN) : Prop := ∀ i, CelOk K (V.c i)
theorem CellOk.nil (K : Nat) : CellOk K [] := ⟨Nat.zero_le _, fun _ _ => rfl, Nat.zero_le _⟩
theorem CellOk.mono {K K' : Nat} (h : K ≤ K') {b : List UInt8} (hb : CellOk K b) : CellOk K' b := ⟨hb.1, hb.2.1, Nat.le_trans hb.2.2 h⟩
theorem CelOk.mono {K K' : Nat} (h : K ≤ K') {c : CelN} (hb : CelOk K c) : CelOk K' c := ⟨hb.1.mono h, hb.2.mono h⟩
theorem InvV.mono {K K' : Nat} (h : K ≤ K') {V : VltN} (hb : InvV K V) : InvV K' V := fun i => (hb i).mono h
theorem getD_torn {x y : List UInt8} {k : Nat} (hk : k ≤ x.length) (j : Nat) : (x.take k ++ y.drop k).getD j 0 = if j < k then x.getD j 0 else y.getD j 0 := by
  have hl : (x.take k).length = k := by rw [List.length_take]; omega
  simp only [List.getD_eq_getElem?_getD]
  by_cases h : j < k
  · rw [if_pos h, List.getElem?_append_left (by omega), List.getElem?_take, if_pos h]
  · rw [if_neg h, List.getElem?_append_right (by omega), hl, List.getElem?_drop, show k + (j - k) = j by omega]
theorem CellOk.torn {K : Nat} {x y : List UInt8} {k : Nat} (hk : k ≤ x.length) (hx : CellOk K x) (hy : CellOk K y) : CellOk K (x.take k ++ y.drop k) := by
  refine ⟨?_, fun j hj => ?_, ?_⟩
  · have h1 := hx.1
    have h2 := hy.1
    rw [List.length_append, List.length_take, List.length_drop]
    omega
  · rw [getD_torn hk]
    split
    · exact hx.2.1 j hj
    · exact hy.2.1 j hj
  · rw [getD_torn hk]
    split
    · exact hx.2.2
    · exact hy.2.2
theorem take8_of {K : Nat} {b : List UInt8} (h : CellOk K b) (h8 : 8 ≤ b.length) : b.take 8 = zw (((b.getD 7 0).toNat : Nat) : Int) := by
  rw [eightI_low (UInt8.toNat_lt _)]
  have hb : zy (((b.getD 7 0).toNat : Nat) : Int) = b.getD 7 0 := byteI_id _
  rw [hb]
  apply List.ext_getElem?
  intro j
  rw [List.getElem?_take]
  have hget : ∀ i, i < 8 → b[i]? = some (b.getD i 0) := fun i hi => by rw [List.getD_eq_getElem?_getD, List.getElem?_eq_getElem (by omega)]; rfl
  by_cases hj : j < 8
  · rw [if_pos hj, hget j hj]
    match j, hj with
    | 0, _ => rw [h.2.1 0 (by omega)]; rfl
    | 1, _ => rw [h.2.1 1 (by omega)]; rfl
    | 2, _ => rw [h.2.1 2 (by omega)]; rfl
    | 3, _ => rw [h.2.1 3 (by omega)]; rfl
    | 4, _ => rw [h.2.1 4 (by omega)]; rfl
    | 5, _ => rw [h.2.1 5 (by omega)]; rfl
    | 6, _ => rw [h.2.1 6 (by omega)]; rfl
    | 7, _ => rfl
    | k + 8, hk => exact absurd hk (by omega)
  · rw [if_neg hj, List.getElem?_eq_none (by simp; omega)]
theorem turn_of {K : Nat} {b : List UInt8} (h : CellOk K b) (h8 : 8 ≤ b.length) : turnL b = (((b.getD 7 0).toNat : Nat) : Int) := by
  have := UInt8.toNat_lt (b.getD 7 0)
  unfold turnL
  rw [take8_of h h8, numI_eight (by omega) (by omega)]
theorem entT_bd {K : Nat} {b : List UInt8} (h : CellOk K b) : 0 ≤ entT b ∧ entT b ≤ (K : Int) := by
  unfold entT
  split
  · rw [turn_of h (by omega)]
    have := h.2.2
    omega
  · omega
theorem cnt_bd {K : Nat} {V : VltN} (h : InvV K V) (q : Nat) : 0 ≤ cntT V q ∧ cntT V q ≤ (K : Int) := by
  unfold cntT
  split
  · exact entT_bd (h (q + 1)).1
  · exact entT_bd (h q).1
theorem nxtT_bd {K : Nat} {V : VltN} (h : InvV K V) (q : Nat) : 1 ≤ nxtT V q ∧ nxtT V q ≤ (K : Int) + 1 := by
  have := cnt_bd h q
  unfold nxtT
  split <;> omega
theorem said_ok {K p : Nat} {t : Int} {s : List UInt8} (h0 : 0 ≤ t) (hK : t ≤ (K : Int)) (hk : K < 256) (hs : s.length ≤ 255) : CellOk K (zoa zj p t s) := by
  obtain ⟨m, rfl⟩ : ∃ m : Nat, t = (m : Int) := ⟨t.toNat, by omega⟩
  have h8 := saidL_take8 zj p (m : Int) s
  rw [eightI_low (by omega)] at h8
  have hg : ∀ j, j < 8 → (zoa zj p (m : Int) s).getD j 0 = ([0, 0, 0, 0, 0, 0, 0, zy (m : Int)] : List UInt8).getD j 0 := fun j hj => by
    rw [← h8]
    simp only [List.getD_eq_getElem?_getD, List.getElem?_take, if_pos hj]
  refine ⟨by rw [saidL_len zj sealH_len]; omega, fun j hj => ?_, ?_⟩
  · rw [hg j (by omega)]
    match j, hj with
    | 0, _ => rfl
    | 1, _ => rfl
    | 2, _ => rfl
    | 3, _ => rfl
    | 4, _ => rfl
    | 5, _ => rfl
    | 6, _ => rfl
    | k + 7, hk => exact absurd hk (by omega)
  · rw [hg 7 (by omega)]
    show (zy (m : Int)).toNat ≤ K
    rw [byteI_nat (by omega)]; omega
theorem nxtP_in (V : VltN) (q : Nat) : nxtP V q = q ∨ nxtP V q = q + 1 := by
  unfold nxtP
  split
  · rename_i h
    rcases cntP_in h with h | h <;> rw [h] <;> omega
  · exact .inl rfl
theorem sayW_c (V : VltN) (q : Nat) (l : List UInt8) : (∀ i, i ≠ nxtP V q → (sayW V q l).1.c i = V.c i) ∧
    ((sayW V q l).1.c (nxtP V q) = V.c (nxtP V q) ∨ (sayW V q l).1.c (nxtP V q) = ⟨(V.c (nxtP V q)).s, zoa zj (nxtP V q) (nxtT V q) l, true⟩ ∨ (sayW V q l).1.c (nxtP V q) = ⟨zoa zj (nxtP V q) (nxtT V q) l, [], false⟩) := by
  unfold sayW wrtV
  split
  · exact ⟨fun _ _ => rfl, .inl rfl⟩
  · split
    · refine ⟨fun i hi => putC_ne _ _ hi, .inr (.inl (z6b _ _ _))⟩
    · refine ⟨fun i hi => ?_, .inr (.inr ?_)⟩
      · show putC (putC V.c _ _) _ _ i = V.c i
        rw [putC_ne _ _ hi, putC_ne _ _ hi]
      · show putC (putC V.c _ _) _ ⟨(putC V.c _ _ _).n, [], false⟩ _ = _
        rw [z6b, z6b]
theorem sayW_inv {K : Nat} {V : VltN} (h : InvV K V) (hK : K < 255) (q : Nat) {l : List UInt8} (hl : l.length ≤ 255) : InvV (K + 1) (sayW V q l).1 := fun i => by
  obtain ⟨h1, h2⟩ := sayW_c V q l
  by_cases hi : i = nxtP V q
  · subst hi
    have hb := nxtT_bd h q
    have hs : CellOk (K + 1) (zoa zj (nxtP V q) (nxtT V q) l) := said_ok (by omega) (by omega) (by omega) hl
    rcases h2 with h2 | h2 | h2 <;> rw [h2]
    · exact (h _).mono (by omega)
    · exact ⟨(h _).1.mono (by omega), hs⟩
    · exact ⟨hs, CellOk.nil _⟩
  · rw [h1 i hi]
    exact (h i).mono (by omega)
theorem setl_inv {K : Nat} {V : VltN} (h : InvV K V) (x : Nat → Int) (m : Nat) : InvV K (setlV V x m) := fun i =>
  setC_all (p := fun _ c => CelOk K c) h (fun i k _ hk => ⟨CellOk.torn hk (h i).2 (h i).1, CellOk.nil _⟩) 18 i
theorem age_inv {K : Nat} {V : VltN} (h : InvV K V) (hK : K < 255) : InvV (K + 1) (ageW V) := sayW_inv h hK 16 (by rw [z4a]; omega)
theorem zero_inv (K : Nat) : InvV K zeroV := fun i => ⟨CellOk.nil K, CellOk.nil K⟩
theorem inv_short {K : Nat} {V : VltN} (h : InvV K V) : zfa V := fun i hi => ⟨by have := (h i).1.1; omega, by have := (h i).2.1; omega⟩
theorem inv_turn {K : Nat} {V : VltN} (h : InvV K V) (hK : K < 256) (q : Nat) : anyB zj V q = true → -9223372036854775808 ≤ cntT V q ∧ cntT V q < 9223372036854775807 := fun _ => by
  have := cnt_bd h q; omega
theorem pair_eq {V V' : VltN} {q : Nat} (h1 : (V'.c q).s = (V.c q).s) (h2 : (V'.c (q + 1)).s = (V.c (q + 1)).s) : anyB zj V' q = anyB zj V q ∧ cntS V' q = cntS V q ∧ cntT V' q = cntT V q ∧ cntP V' q = cntP V q := by
  have hs : secB zj V' q = secB zj V q := by unfold secB; rw [h1, h2]
  refine ⟨by unfold anyB; rw [hs, h1], by unfold cntS; rw [hs, h1, h2], by unfold cntT; rw [hs, h1, h2], by unfold cntP; rw [hs, h1, h2]⟩
theorem said_eq {V V' : VltN} {q : Nat} (h : anyB zj V' q = anyB zj V q ∧ cntS V' q = cntS V q ∧ cntT V' q = cntT V q ∧ cntP V' q = cntP V q) : saidB V' q = saidB V q ∧ zja V' q = zja V q ∧ zua V' q = zua V q ∧ numB V' q = numB V q ∧ ztb V' q = ztb V q := by
  obtain ⟨h1, h2, -, -⟩ := h
  refine ⟨by unfold saidB; rw [h1, h2], by unfold zja; rw [h1, h2], by unfold zua; rw [h1, h2], by unfold numB; rw [h1, h2], by unfold ztb; rw [h1, h2]⟩
theorem sayW_other (V : VltN) {q q' : Nat} (l : List UInt8) (h : q' + 1 < q ∨ q + 1 < q') : (sayW V q l).1.c q' = V.c q' ∧ (sayW V q l).1.c (q' + 1) = V.c (q' + 1) := by
  have h1 := (sayW_c V q l).1
  have hp := nxtP_in V q
  exact ⟨h1 _ (by omega), h1 _ (by omega)⟩
theorem sayW_pair (V : VltN) {q q' : Nat} (l : List UInt8) (h : q' + 1 < q ∨ q + 1 < q') : anyB zj (sayW V q l).1 q' = anyB zj V q' ∧ cntS (sayW V q l).1 q' = cntS V q' ∧ cntT (sayW V q l).1 q' = cntT V q' ∧ cntP (sayW V q l).1 q' = cntP V q' := by
  obtain ⟨h1, h2⟩ := sayW_other V l h
  exact pair_eq (by rw [h1]) (by rw [h2])
theorem sayW_live {V : VltN} (q : Nat) (l : List UInt8) (hf : V.fl = false) : (sayW V q l).2 = true ∧ (sayW V q l).1.fl = false ∧ (sayW V q l).1.dd = V.dd ∧ (sayW V q l).1.c (nxtP V q) = ⟨zoa zj (nxtP V q) (nxtT V q) l, [], false⟩ := by
  unfold sayW wrtV
  rw [if_neg (by unfold fallB; rw [hf]; simp), if_neg (by unfold fallB layV6; rw [hf]; simp)]
  refine ⟨rfl, hf, rfl, ?_⟩
  show putC (putC V.c _ _) _ ⟨(putC V.c _ _ _).n, [], false⟩ _ = _
  rw [z6b, z6b]
theorem sayW_fl (V : VltN) (q : Nat) (l : List UInt8) : (sayW V q l).1.fl = V.fl := by
  unfold sayW wrtV
  split
  · rfl
  · split <;> rfl
theorem wrote {K : Nat} {V V' : VltN} {q : Nat} {l : List UInt8} (h : InvV K V) (hK : K < 255) (hp : (V'.c (nxtP V q)).s = zoa zj (nxtP V q) (nxtT V q) l) (ho : ∀ i, i ≠ nxtP V q → (V'.c i).s = (V.c i).s) : anyB zj V' q = true ∧ cntS V' q = l := by
  have hb := nxtT_bd h q
  have hcb := cnt_bd h q
  have hgood : zpb zj (nxtP V q) (zoa zj (nxtP V q) (nxtT V q) l) = true := good_said zj sealH_len _ (by omega) (by omega) _
  have hturn : turnL (zoa zj (nxtP V q) (nxtT V q) l) = nxtT V q := saidL_turn zj _ (by omega) (by omega) _
  have hlen : 25 ≤ (zoa zj (nxtP V q) (nxtT V q) l).length := by rw [saidL_len zj sealH_len]; omega
  have hents : entS (zoa zj (nxtP V q) (nxtT V q) l) = l := by unfold entS; rw [if_pos hlen, saidL_says zj sealH_len]
  by_cases hA : anyB zj V q = true
  · by_cases hs : secB zj V q = true
    · -- the second counts: the first is written
      have hP : nxtP V q = q := by
        have : cntP V q = q + 1 := by
          unfold cntP
          rw [if_pos hs]
          have : zpb zj (q + 1) (V.c (q + 1)).s = true := by unfold secB at hs; simp only [Bool.and_eq_true] at hs; exact hs.1
          exact if_pos (good_ge this)
        unfold nxtP
        rw [if_pos hA, this]; omega
      have hT : nxtT V q = turnL (V.c (q + 1)).s + 1 := by
        have hg : zpb zj (q + 1) (V.c (q + 1)).s = true := by unfold secB at hs; simp only [Bool.and_eq_true] at hs; exact hs.1
        unfold nxtT cntT
        rw [if_pos hA, if_pos hs, show entT (V.c (q + 1)).s = turnL (V.c (q + 1)).s from if_pos (good_ge hg)]
      rw [hP] at hp hgood hturn hents ho
      have h2 : (V'.c (q + 1)).s = (V.c (q + 1)).s := ho _ (by omega)
      have hs2 : secB zj V' q = false := by
        unfold secB
        rw [h2, hp, hgood, hturn, hT]
        simp
        intro _
        omega
      refine ⟨by unfold anyB; rw [hs2, hp, hgood]; rfl, by unfold cntS; rw [hs2, hp]; exact hents⟩
    · have hs : secB zj V q = false := by simpa using hs
      have hg : zpb zj q (V.c q).s = true := by unfold anyB at hA; rw [hs] at hA; simpa using hA
      have hP : nxtP V q = q + 1 := by
        have : cntP V q = q := by
          unfold cntP
          rw [if_neg (by rw [hs]; exact Bool.false_ne_true)]
          exact if_pos (good_ge hg)
        unfold nxtP
        rw [if_pos hA, this]; omega
      have hT : nxtT V q = turnL (V.c q).s + 1 := by
        unfold nxtT cntT
        rw [if_pos hA, if_neg (by rw [hs]; exact Bool.false_ne_true), show entT (V.c q).s = turnL (V.c q).s from if_pos (good_ge hg)]
      rw [hP] at hp hgood hturn hents ho
      have h2 : (V'.c q).s = (V.c q).s := ho _ (by omega)
      have hs2 : secB zj V' q = true := by
        unfold secB
        rw [h2, hp, hgood, hturn, hT, hg]
        simp
        omega
      refine ⟨by unfold anyB; rw [hs2]; rfl, by unfold cntS; rw [hs2, hp]; exact hents⟩
  · have hA : anyB zj V q = false := by simpa using hA
    have hs : secB zj V q = false := by unfold anyB at hA; simp only [Bool.or_eq_false_iff] at hA; exact hA.1
    have hg : zpb zj q (V.c q).s = false := by unfold anyB at hA; simp only [Bool.or_eq_false_iff] at hA; exact hA.2
    have hg2 : zpb zj (q + 1) (V.c (q + 1)).s = false := by
      unfold secB at hs
      rw [hg] at hs
      simpa using hs
    have hP : nxtP V q = q := by unfold nxtP; rw [if_neg (by rw [hA]; exact Bool.false_ne_true)]
    rw [hP] at hp hgood hturn hents ho
    have h2 : (V'.c (q + 1)).s = (V.c (q + 1)).s := ho _ (by omega)
    have hs2 : secB zj V' q = false := by unfold secB; rw [h2, hg2]; rfl
    refine ⟨by unfold anyB; rw [hs2, hp, hgood]; rfl, by unfold cntS; rw [hs2, hp]; exact hents⟩
theorem say_says {K : Nat} {V : VltN} (h : InvV K V) (hK : K < 255) (q : Nat) (l : List UInt8) (hf : V.fl = false) : anyB zj (sayW V q l).1 q = true ∧ cntS (sayW V q l).1 q = l :=
  wrote h hK (by rw [(sayW_live q l hf).2.2.2]) (fun i hi => by rw [(sayW_c V q l).1 i hi])
/-! The era. -/
def EraV (V : VltN) (e : Int) : Prop := (V.c 16).f = false ∧ (V.c 17).f = false ∧ anyB zj V 16 = true ∧ ztb V 16 = e
theorem era_num {K : Nat} {V : VltN} (h : InvV K V) (hK : K < 255) {e : Int} (he : ztb V 16 = e) (h0 : 0 ≤ e) (h1 : e < 1000) (hf : V.fl = false) (h16 : (V.c 16).f = false) (h17 : (V.c 17).f = false) : EraV (ageW V) (e + 1) := by
  obtain ⟨ha, hc⟩ := say_says h hK 16 (zw (ztb V 16 + 1)) hf
  obtain ⟨h1', h2', h3', h4'⟩ := sayW_live 16 (zw (ztb V 16 + 1)) hf
  have hfr : ∀ i, (V.c i).f = false → ((ageW V).c i).f = false := fun i hi => by
    by_cases e : i = nxtP V 16
    · subst e; unfold ageW; rw [h4']
    · unfold ageW; rw [(sayW_c V 16 _).1 i e]; exact hi
  refine ⟨hfr 16 h16, hfr 17 h17, ha, ?_⟩
  unfold ztb
  rw [if_pos (show anyB zj (ageW V) 16 = true from ha), show cntS (ageW V) 16 = zw (ztb V 16 + 1) from hc, he]
  exact numI_eight (by omega) (by omega)
theorem era_say {V : VltN} {e : Int} (h : EraV V e) {q : Nat} (hq : q + 1 < 16) (l : List UInt8) : EraV (sayW V q l).1 e := by
  obtain ⟨h1, h2⟩ := sayW_other V (q' := 16) l (.inr hq)
  have hp := sayW_pair V (q' := 16) l (.inr hq)
  refine ⟨by rw [h1]; exact h.1, by rw [h2]; exact h.2.1, by rw [hp.1]; exact h.2.2.1, by rw [(said_eq hp).2.2.2.2]; exact h.2.2.2⟩
theorem setC_unf {c : Nat → CelN} {x : Nat → Int} {m : Nat} {i : Nat} (hi : (c i).f = false) : ∀ j, setC c x m j i = c i
  | 0 => rfl
  | j + 1 => by
    unfold setC
    split
    · rename_i hf
      rw [putC_ne _ _ (fun e => by subst e; rw [hi] at hf; cases hf)]
      exact setC_unf hi j
    · exact setC_unf hi j
theorem era_setl {V : VltN} {e : Int} (h : EraV V e) (x : Nat → Int) (m : Nat) : EraV (setlV V x m) e := by
  have h1 : (setlV V x m).c 16 = V.c 16 := setC_unf h.1 18
  have h2 : (setlV V x m).c 17 = V.c 17 := setC_unf h.2.1 18
  have hp := pair_eq (V := V) (V' := setlV V x m) (q := 16) (by rw [h1]) (by rw [h2])
  refine ⟨by rw [h1]; exact h.1, by rw [h2]; exact h.2.1, by rw [hp.1]; exact h.2.2.1, by rw [(said_eq hp).2.2.2.2]; exact h.2.2.2⟩
theorem age_fl (V : VltN) : (ageW V).fl = V.fl := sayW_fl V 16 _
theorem age_dd {V : VltN} (hf : V.fl = false) : (ageW V).dd = V.dd := (sayW_live 16 _ hf).2.2.1
theorem again_is {K : Nat} {V : VltN} (h : InvV K V) (hK : K < 255) {e : Int} (he : EraV V e) (h0 : 0 ≤ e) (h1 : e < 1000) (x : Nat → Int) (m : Nat) : EraV (ageW (setlV V x m)) (e + 1) ∧ InvV (K + 1) (ageW (setlV V x m)) ∧ (ageW (setlV V x m)).fl = false ∧ (ageW (setlV V x m)).dd = false := by
  have hs := era_setl he x m
  exact ⟨era_num (setl_inv h x m) hK hs.2.2.2 h0 h1 rfl hs.1 hs.2.1, age_inv (setl_inv h x m) hK, age_fl _, age_dd rfl⟩
theorem new_is : EraV (ageW zeroV) 1 ∧ InvV 1 (ageW zeroV) ∧ (ageW zeroV).fl = false ∧ (ageW zeroV).dd = false :=
  ⟨era_num (zero_inv 0) (by omega) num0 (by omega) (by omega) rfl rfl rfl, age_inv (zero_inv 0) (by omega), age_fl _, age_dd rfl⟩
theorem era_bd {V : VltN} {e : Int} (h : EraV V e) (h0 : 0 ≤ e) (h1 : e < 1000) : -9223372036854775808 ≤ ztb V 16 ∧ ztb V 16 < 9223372036854775807 := by rw [h.2.2.2]; omega
noncomputable def putV (V : VltN) (r : RecN) : VltN × Int :=
  if V.dd = true then (V, 10) else if zka r = false then (V, 11) else
  if fst8 (zz V r.s) < 8 then ((sayW V (2 * fst8 (zz V r.s)) (recE r)).1, if (sayW V (2 * fst8 (zz V r.s)) (recE r)).2 = true then 0 else 10) else
  if fst8 (fun i => zua V (2 * i)) < 8 then ((sayW V (2 * fst8 (fun i => zua V (2 * i))) (recE r)).1, if (sayW V (2 * fst8 (fun i => zua V (2 * i))) (recE r)).2 = true then 0 else 10) else (V, 7)
noncomputable def goneV (V : VltN) (nm : ByteArray) : VltN × Int :=
  if V.dd = true then (V, 10) else
  if fst8 (zz V nm) < 8 then ((sayW V (2 * fst8 (zz V nm)) []).1, if (sayW V (2 * fst8 (zz V nm)) []).2 = true then 0 else 10) else (V, 3)
theorem fst8_le (p : Nat → Bool) : fst8 p ≤ 8 := by rcases fst8_spec p with ⟨h, _⟩ | ⟨h, _⟩ <;> omega
theorem recE_bd (r : RecN) : (recE r).length ≤ 200 := by
  unfold recE
  split
  · rename_i h
    obtain ⟨h1, h2, h3⟩ := keep_len h
    rw [recL_is]
    have ha : (fourL r.a).length = 4 := fourL_len _
    have hb : (fourL r.b).length = 4 := fourL_len _
    have hc : (zw r.c).length = 8 := z4a _
    have hd : (zw r.z).length = 8 := z4a _
    simp only [List.length_cons, List.length_append]
    omega
  · simp
theorem put_any {K : Nat} (g : Nat) (V : VltN) (s n : Nat → Value) (r : RecN) (Vr : RecV) (ho : RecOk r) (hi : InvV K V) (hK : K < 256) (w : World) (hR : RecIs w r Vr) (hRg : ¬ bfp Vr.v2 g ∧ ¬ bfp Vr.v5 g) (hr : RowsV w g V.c s n) (hg : w.heap[g]? = some (.cells (vltA V s n) 80 (0, 0))) :
    Calls Tryz.prog 22 #[.pointer (some ⟨g, 0, none⟩), .agg (recA r Vr)] w fun e w' => ∃ t, e = .returned t ∧ t = .int .i64 (putV V r).2 ∧ ∃ s' n', RowsV w' g (putV V r).1.c s' n' ∧ (∀ b, zo 18 s' n' b → zo 18 s n b ∨ w.heap.size ≤ b) ∧ w'.heap[g]? = some (.cells (vltA (putV V r).1 s' n') 80 (0, 0)) ∧ w.grownBy w' (some g) := by
  have hv := inv_short hi
  unfold putV
  cases hd : V.dd with
  | true => exact put_dead g V s n hv r Vr hd w hR hRg hr hg
  | false =>
    rw [if_neg Bool.false_ne_true]
    cases hk : zka r with
    | false => exact put_range g V s n hv r Vr ho hd (recE r) rfl hk w hR hRg hr hg
    | true =>
      rw [if_neg (fun h => Bool.noConfusion h)]
      by_cases h1 : fst8 (zz V r.s) < 8
      · rw [if_pos h1]
        exact put_found g V s n hv r Vr ho hd (recE r) rfl hk (by have := recE_bd r; omega) _ rfl h1 (inv_turn hi hK _) w hR hRg hr hg
      · have h8 : fst8 (zz V r.s) = 8 := by have := fst8_le (zz V r.s); omega
        rw [if_neg h1]
        by_cases h2 : fst8 (fun i => zua V (2 * i)) < 8
        · rw [if_pos h2]
          exact put_free g V s n hv r Vr ho hd (recE r) rfl hk (by have := recE_bd r; omega) h8 _ rfl h2 (inv_turn hi hK _) w hR hRg hr hg
        · rw [if_neg h2]
          exact put_none g V s n hv r Vr ho hd (recE r) rfl hk h8 (by have := fst8_le (fun i => zua V (2 * i)); omega) w hR hRg hr hg
theorem gone_any {K : Nat} (g : Nat) (V : VltN) (s n : Nat → Value) (nm : ByteArray) (hi : InvV K V) (hK : K < 256) (w : World) (hr : RowsV w g V.c s n) (hg : w.heap[g]? = some (.cells (vltA V s n) 80 (0, 0))) :
    Calls Tryz.prog 27 #[.pointer (some ⟨g, 0, none⟩), .string nm] w fun e w' => ∃ t, e = .returned t ∧ t = .int .i64 (goneV V nm).2 ∧ ∃ s' n', RowsV w' g (goneV V nm).1.c s' n' ∧ (∀ b, zo 18 s' n' b → zo 18 s n b ∨ w.heap.size ≤ b) ∧ w'.heap[g]? = some (.cells (vltA (goneV V nm).1 s' n') 80 (0, 0)) ∧ w.grownBy w' (some g) := by
  have hv := inv_short hi
  unfold goneV
  cases hd : V.dd with
  | true => exact gone_dead g V s n hv nm hd w hr hg
  | false =>
    rw [if_neg Bool.false_ne_true]
    by_cases h1 : fst8 (zz V nm) < 8
    · rw [if_pos h1]
      exact gone_yes g V s n hv nm hd _ rfl h1 (inv_turn hi hK _) w hr hg
    · rw [if_neg h1]
      exact gone_not g V s n hv nm hd (by have := fst8_le (zz V nm); omega) w hr hg
theorem say_keep {K : Nat} {V : VltN} {e : Int} (hi : InvV K V) (hK : K < 255) (he : EraV V e) {k : Nat} (hk : k < 8) {l : List UInt8} (hl : l.length ≤ 255) : InvV (K + 1) (sayW V (2 * k) l).1 ∧ EraV (sayW V (2 * k) l).1 e :=
  ⟨sayW_inv hi hK _ hl, era_say he (by omega) l⟩
theorem put_keep {K : Nat} {V : VltN} {e : Int} (hi : InvV K V) (hK : K < 255) (he : EraV V e) (r : RecN) : InvV (K + 1) (putV V r).1 ∧ EraV (putV V r).1 e := by
  have hl := recE_bd r
  unfold putV
  split
  · exact ⟨hi.mono (by omega), he⟩
  · split
    · exact ⟨hi.mono (by omega), he⟩
    · split
      · rename_i h; exact say_keep hi hK he h (by omega)
      · split
        · rename_i h; exact say_keep hi hK he h (by omega)
        · exact ⟨hi.mono (by omega), he⟩
theorem gone_keep {K : Nat} {V : VltN} {e : Int} (hi : InvV K V) (hK : K < 255) (he : EraV V e) (nm : ByteArray) : InvV (K + 1) (goneV V nm).1 ∧ EraV (goneV V nm).1 e := by
  unfold goneV
  split
  · exact ⟨hi.mono (by omega), he⟩
  · split
    · rename_i h; exact say_keep hi hK he h (by simp)
    · exact ⟨hi.mono (by omega), he⟩
end Go.Proofs.YtmjbnmbobocpdaaGreat
namespace Go.Proofs.YtmjbnmbobocpdaaGreat
open Go.ChangeShapes Go.WideShapes Go.ChangeAt Go.RowKit
theorem within6_any (a n : Int) (hn : 0 < n) (hn' : n < 9223372036854775808) (ha : -9223372036854775808 ≤ a) (ha' : a < 9223372036854775808) (w : World) :
    Calls Tryz.prog 17 #[.int .i64 a, .int .i64 n] w fun e w' => e = .returned (.int .i64 (a % n)) ∧ w = w' := by
  obtain ⟨h1, h2, h3, h4⟩ := tmod_case a n hn
  have hz : (n == 0) = false := by simp; omega
  by_cases h : a.tmod n < 0
  · have H := hid (h2 h)
    clear h1 h2
    go_enter Tryz.func17, Tryz.ntmps17
    go_wp2
    go_ret
    exact ⟨congrArg (fun x => Ending.returned (.int .i64 x)) H.out, rfl⟩
  · have H := hid (h1 (by omega))
    clear h1 h2
    go_enter Tryz.func17, Tryz.ntmps17
    go_wp2
    go_ret
    exact ⟨congrArg (fun x => Ending.returned (.int .i64 x)) H.out, rfl⟩
end Go.Proofs.YtmjbnmbobocpdaaGreat
namespace Go.Proofs.YtmjbnmbobocpdaaGreat
open Go.ChangeShapes Go.WideShapes Go.ChangeAt Go.RowKit
theorem top_small {a : Nat} (h : a < 4294967296) : topI a 8 ≤ 32 := by
  by_cases h0 : a = 0
  · subst h0; rw [topI_none]; decide
  · have ha : a < 4294967296 ^ 8 := Nat.lt_trans h (by decide)
    have h1 := Nat.log2_self_le h0
    have h2 : a < 2 ^ (Nat.log2 a + 1) := Nat.lt_log2_self
    have h3 : a / 2 ^ (Nat.log2 a) = 1 := by
      apply Nat.div_eq_of_lt_le
      · omega
      · rw [Nat.pow_succ] at h2; omega
    rw [top_one ha h3]
    have h4 : Nat.log2 a < 32 := by
      refine Classical.byContradiction fun hn => ?_
      have : 2 ^ 32 ≤ 2 ^ Nat.log2 a := Nat.pow_le_pow_right (by omega) (by omega)
      omega
    omega
theorem nmB_ne (s : ByteArray) : sBy (nmB s) ≠ [] := by
  by_cases h : (sBy s).length = 0
  · rw [nmB_nil h]; simp [sBy]
  · rw [nmB_some h]
    simp only [sBy, List.toList_toArray]
    intro e
    have := congrArg List.length e
    rw [List.length_take] at this
    have h2 := nmL_len (sBy s)
    unfold sBy at h h2
    simp only [List.length_nil] at this
    omega
theorem nmB_size (s : ByteArray) : 0 < (nmB s).size ∧ (nmB s).size ≤ 16 := by
  have h := nmB_ne s
  have e : (sBy (nmB s)).length = (nmB s).size := sBy_len _
  refine ⟨by have := List.length_pos_iff.2 h; omega, ?_⟩
  by_cases h0 : (sBy s).length = 0
  · rw [nmB_nil h0]; decide
  · rw [← e, nmB_some h0]
    simp only [sBy, List.toList_toArray, List.length_take]
    omega
theorem name_of {B : ByteArray} (h1 : 0 < B.size) (h2 : B.size ≤ 16) (h : ∀ x ∈ sBy B, 33 ≤ x.toNat ∧ x.toNat ≤ 126) : nameB B = true := by
  refine @decide_eq_true _ (Classical.propDecidable _) ⟨h1, h2, fun i hi => ?_⟩
  have hg : (sBy B)[i]? = some (B[i]'hi) := by
    unfold sBy
    rw [Array.getElem?_toList]
    exact Array.getElem?_eq_getElem hi
  have := h _ (List.mem_of_getElem? hg)
  omega
theorem nmB_ok (s : ByteArray) : nameB (nmB s) = true := by
  refine name_of (nmB_size s).1 (nmB_size s).2 fun x hx => ?_
  by_cases h0 : (sBy s).length = 0
  · rw [nmB_nil h0] at hx
    have : x = 117 := by simpa [sBy] using hx
    subst this; decide
  · rw [nmB_some h0] at hx
    simp only [sBy, List.toList_toArray] at hx
    obtain ⟨y, -, hy⟩ := List.mem_map.1 (List.mem_of_mem_take hx)
    rw [← hy]
    exact nmC_in y
theorem kn (n : Int) {k : Int} (hk : 0 < k) : 0 < (1 + n % k).toNat ∧ (1 + n % k).toNat ≤ k.toNat := by
  have h1 := Int.emod_nonneg n (show k ≠ 0 by omega)
  have h2 := Int.emod_lt_of_pos n hk
  omega
theorem mkR_ok (n : Int) (s : ByteArray) (b : List UInt8) : RecOk (mkR n s b) := by
  have h2 := Int.emod_two_eq n
  have hs := nmB_size s
  have h6 := Int.emod_nonneg (n.tdiv 11) (show (6 : Int) ≠ 0 by decide)
  have h6' := Int.emod_lt_of_pos (n.tdiv 11) (show (0 : Int) < 6 by decide)
  have h7 := Int.emod_nonneg (n.tdiv 13) (show (1000 : Int) ≠ 0 by decide)
  have h7' := Int.emod_lt_of_pos (n.tdiv 13) (show (0 : Int) < 1000 by decide)
  have h8 := Int.emod_nonneg (n.tdiv 17) (show (1099511627776 : Int) ≠ 0 by decide)
  have h8' := Int.emod_lt_of_pos (n.tdiv 17) (show (0 : Int) < 1099511627776 by decide)
  have h9 := Int.emod_nonneg (n.tdiv 2) (show (4294967296 : Int) ≠ 0 by decide)
  have h9' := Int.emod_lt_of_pos (n.tdiv 2) (show (0 : Int) < 4294967296 by decide)
  have hA := Int.emod_nonneg (n.tdiv 7) (show (4294967296 : Int) ≠ 0 by decide)
  have hA' := Int.emod_lt_of_pos (n.tdiv 7) (show (0 : Int) < 4294967296 by decide)
  unfold mkR
  exact ⟨(by dsimp only; omega), (by dsimp only; omega), (by dsimp only; omega), (by dsimp only; omega), (by dsimp only; omega), Nat.lt_trans (m := 4294967296) (by dsimp only; omega) (by decide), Nat.lt_trans (m := 4294967296) (by dsimp only; omega) (by decide)⟩
theorem mkR_keep (n : Int) (s : ByteArray) (b : List UInt8) : zka (mkR n s b) = true := by
  have h2 := Int.emod_two_eq n
  have h6 := Int.emod_nonneg (n.tdiv 11) (show (6 : Int) ≠ 0 by decide)
  have h6' := Int.emod_lt_of_pos (n.tdiv 11) (show (0 : Int) < 6 by decide)
  have h7 := Int.emod_nonneg (n.tdiv 13) (show (1000 : Int) ≠ 0 by decide)
  have h8 := Int.emod_nonneg (n.tdiv 17) (show (1099511627776 : Int) ≠ 0 by decide)
  have h9 := Int.emod_nonneg (n.tdiv 2) (show (4294967296 : Int) ≠ 0 by decide)
  have h9' := Int.emod_lt_of_pos (n.tdiv 2) (show (0 : Int) < 4294967296 by decide)
  have hA := Int.emod_nonneg (n.tdiv 7) (show (4294967296 : Int) ≠ 0 by decide)
  have hA' := Int.emod_lt_of_pos (n.tdiv 7) (show (0 : Int) < 4294967296 by decide)
  have t1 := top_small (a := ((n.tdiv 2) % 4294967296).toNat) (by omega)
  have t2 := top_small (a := ((n.tdiv 7) % 4294967296).toNat) (by omega)
  have q2 := Int.emod_nonneg n (show ((min b.length 16 + 1 : Nat) : Int) ≠ 0 by omega)
  have q2' := Int.emod_lt_of_pos n (show (0 : Int) < ((min b.length 16 + 1 : Nat) : Int) by omega)
  have q5 := Int.emod_nonneg (n.tdiv 3) (show ((min b.length 48 + 1 : Nat) : Int) ≠ 0 by omega)
  have q5' := Int.emod_lt_of_pos (n.tdiv 3) (show (0 : Int) < ((min b.length 48 + 1 : Nat) : Int) by omega)
  unfold zka mkR
  simp only [Bool.and_eq_true, decide_eq_true_eq]
  refine ⟨⟨⟨⟨⟨⟨⟨⟨⟨?_, nmB_ok s⟩, ?_⟩, ?_⟩, t1⟩, t2⟩, by omega⟩, by omega⟩, by omega⟩, by omega⟩
  · exact decide_eq_true (by omega)
  · rw [List.length_take]; omega
  · rw [List.length_take]; omega
end Go.Proofs.YtmjbnmbobocpdaaGreat
namespace Go.Proofs.YtmjbnmbobocpdaaGreat
open Go.ChangeShapes Go.WideShapes Go.ChangeAt Go.RowKit
def nmK (k : Nat) : ByteArray := ([({ data := #[97] } : ByteArray), ({ data := #[98] } : ByteArray), ({ data := #[99, 99] } : ByteArray), ({ data := #[100, 33] } : ByteArray), ({ data := #[101] } : ByteArray), ({ data := #[102] } : ByteArray), ({ data := #[103] } : ByteArray), ({ data := #[104] } : ByteArray), ({ data := #[105] } : ByteArray), ({ data := #[106, 106] } : ByteArray)] : List ByteArray).getD k { data := #[] }
def nmA : Array Value := #[.string ({ data := #[97] } : ByteArray), .string ({ data := #[98] } : ByteArray), .string ({ data := #[99, 99] } : ByteArray), .string ({ data := #[100, 33] } : ByteArray), .string ({ data := #[101] } : ByteArray), .string ({ data := #[102] } : ByteArray), .string ({ data := #[103] } : ByteArray), .string ({ data := #[104] } : ByteArray), .string ({ data := #[105] } : ByteArray), .string ({ data := #[106, 106] } : ByteArray)]
theorem nmA_at : ∀ {k : Nat}, k < 10 → nmA[k]? = some (.string (nmK k))
  | k, h => by
    match k, h with
    | 0, _ => rfl
    | 1, _ => rfl
    | 2, _ => rfl
    | 3, _ => rfl
    | 4, _ => rfl
    | 5, _ => rfl
    | 6, _ => rfl
    | 7, _ => rfl
    | 8, _ => rfl
    | 9, _ => rfl
    | n + 10, h => exact absurd h (by omega)
theorem nmK_ok : ∀ {k : Nat}, k < 10 → NameOk (nmK k)
  | k, h => by
    have one : ∀ (l : List UInt8), 0 < l.length → l.length ≤ 16 → (∀ b, b ∈ l → 33 ≤ ((b.toNat : Nat) : Int) ∧ ((b.toNat : Nat) : Int) ≤ 126) → NameOk ⟨l.toArray⟩ := fun l h1 h2 h3 => ⟨h1, h2, fun i hi => h3 _ (by
      show l.toArray[i] ∈ l
      simp)⟩
    match k, h with
    | 0, _ => exact one [97] (by decide) (by decide) (by decide)
    | 1, _ => exact one [98] (by decide) (by decide) (by decide)
    | 2, _ => exact one [99, 99] (by decide) (by decide) (by decide)
    | 3, _ => exact one [100, 33] (by decide) (by decide) (by decide)
    | 4, _ => exact one [101] (by decide) (by decide) (by decide)
    | 5, _ => exact one [102] (by decide) (by decide) (by decide)
    | 6, _ => exact one [103] (by decide) (by decide) (by decide)
    | 7, _ => exact one [104] (by decide) (by decide) (by decide)
    | 8, _ => exact one [105] (by decide) (by decide) (by decide)
    | 9, _ => exact one [106, 106] (by decide) (by decide) (by decide)
    | n + 10, h => exact absurd h (by omega)
def recK (n : Int) (b : List UInt8) (k : Nat) : RecN := { mkR n { data := #[] } b with s := nmK k }
theorem recK_ok (n : Int) (b : List UInt8) {k : Nat} (hk : k < 10) : RecOk (recK n b k) := by
  have h := mkR_ok n { data := #[] } b
  exact ⟨h.p, h.t, h.c, h.z, by have := (nmK_ok hk).2.1; show (nmK k).size ≤ 1000; omega, h.a, h.b⟩
theorem recK_keep (n : Int) (b : List UInt8) {k : Nat} (hk : k < 10) : zka (recK n b k) = true := by
  have h := mkR_keep n { data := #[] } b
  unfold zka at h ⊢
  simp only [Bool.and_eq_true, decide_eq_true_eq] at h ⊢
  obtain ⟨⟨⟨⟨⟨⟨⟨⟨⟨h1, h2⟩, h3⟩, h4⟩, h5⟩, h6⟩, h7⟩, h8⟩, h9⟩, h10⟩ := h
  exact ⟨⟨⟨⟨⟨⟨⟨⟨⟨h1, @decide_eq_true _ (Classical.propDecidable _) (nmK_ok hk)⟩, h3⟩, h4⟩, h5⟩, h6⟩, h7⟩, h8⟩, h9⟩, h10⟩
theorem names6_any  (w : World) :
  Calls Tryz.prog 34 #[] w fun e w' => ∃ gq, e = .returned (.slice (some ⟨gq, 0, none⟩) 10 10) ∧ w.heap.size ≤ gq ∧ w'.heap[gq]? = some (.cells nmA 9 (0, 0)) ∧ Below w.heap.size w w' := by
 refine zi (args := []) 2 Tryz.func34 rfl rfl rfl ?_
 intro fa F
 have M := Mx.start w
 refine zS fun _ hK1 => ?_
 refine zR ?_
 refine rm rfl F fun _ F2 => ?_
 refine hK1 _ _ ?_
 refine zS fun _ hK3 => ?_
 refine zR ?_
 refine wl_allocS (zb rfl) rfl F2 rfl M 0 (t := 9) (c := #[.string ({ data := #[97] }), .string ({ data := #[98] }), .string ({ data := #[99, 99] }), .string ({ data := #[100, 33] }), .string ({ data := #[101] }), .string ({ data := #[102] }), .string ({ data := #[103] }), .string ({ data := #[104] }), .string ({ data := #[105] }), .string ({ data := #[106, 106] })]) (k := 10) (m := 10) (y_litG 45 9 (s := 1) (zv := .string "".toUTF8) Tryz.underlying45 (by kernel_rfl) (by kernel_rfl) rfl (#[.string ({ data := #[97] }), .string ({ data := #[98] }), .string ({ data := #[99, 99] }), .string ({ data := #[100, 33] }), .string ({ data := #[101] }), .string ({ data := #[102] }), .string ({ data := #[103] }), .string ({ data := #[104] }), .string ({ data := #[105] }), .string ({ data := #[106, 106] })]) (by decide) (by decide) (by simp only [List.map_toArray, List.map_cons, List.map_nil]; kernel_rfl)) ?_
 intro g4 a4 w4 F4 M4
 clear F2 M
 refine rm rfl F4 fun _ F5 => ?_
 refine hK3 _ _ ?_
 refine wp_ret ?_
 try simp only [Exit.then, Exit.inBlock, Exit.jump]
 exact bodyPost_ret (res1 rfl (F5.get rfl)) F5.defers ⟨g4, rfl, (M4.own 0 _ rfl rfl _ rfl).resolve_right (fun e => by cases e), M4.blk (k := 0) rfl, M4.below⟩
theorem names6_ex (w : World) : Calls Tryz.prog 34 #[] w fun e w' => ∃ t, e = .returned t ∧ ∃ gq, t = .slice (some ⟨gq, 0, none⟩) 10 10 ∧ w.heap.size ≤ gq ∧ w'.heap[gq]? = some (.cells nmA 9 (0, 0)) ∧ Below w.heap.size w w' :=
  (names6_any w).mono fun e w' ⟨gq, h1, h2, h3, h4⟩ => ⟨_, h1, gq, rfl, h2, h3, h4⟩
theorem rec6_any (n : Int) (b : List UInt8) (bv : Value) (hn : -9223372036854775808 ≤ n ∧ n < 9223372036854775808) (hb : b.length ≤ 1000) (w : World) (hB : IsB w b bv) :
  Calls Tryz.prog 21 #[.int .i64 n, bv] w fun e w' => ∃ t, e = .returned t ∧ ∃ V, t = .agg (recA (recK n b ((n.tdiv 23) % 10).toNat) V) ∧ RecIs w' (recK n b ((n.tdiv 23) % 10).toNat) V ∧ (∀ q, bfp V.v2 q ∨ bfp V.v5 q → w.heap.size ≤ q) ∧ Below w.heap.size w w' := by
 obtain ⟨k, hk, hk10⟩ : ∃ k : Nat, (n.tdiv 23) % 10 = (k : Int) ∧ k < 10 := ⟨((n.tdiv 23) % 10).toNat, by omega, by omega⟩
 rw [show ((n.tdiv 23) % 10).toNat = k by omega]
 have hq0 := tdiv_in hn (show (0 : Int) < 23 by decide)
 have hq : -9223372036854775808 ≤ n.tdiv 23 ∧ n.tdiv 23 < 9223372036854775808 := by omega
 obtain ⟨r, er⟩ : ∃ x, mkR n { data := #[] } b = x := ⟨_, rfl⟩
 rw [show recK n b k = { r with s := nmK k } by rw [recK, er]]
 obtain ⟨Ab, cb, rfl⟩ := hB.shape
 refine zi (args := [.int .i64 n, .slice Ab b.length cb]) 17 Tryz.func21 rfl rfl rfl ?_
 intro fa F
 have M := Mx.start w
 replace M := M.argB 0 hB (fun g e => by cases e)
 refine zS fun _ hK1 => ?_
 refine zR ?_
 refine zh (zb rfl) rfl F rfl M 1 (t := 37) (c := recA ⟨0, "".toUTF8, [], 0, 0, [], 0, 0, 0⟩ ⟨zN, zN⟩) (by unfold execOp; kernel_rfl) ?_
 intro g2 a2 w2 F2 M2
 clear F M
 refine hK1 _ _ ?_
 refine zS fun _ hK3 => ?_
 refine zR ?_
 refine rm rfl F2 fun _ F4 => ?_
 refine rm rfl F4 fun _ F5 => ?_
 refine zg (zb rfl) rfl F5 rfl rfl (zE Tryz.func47 rfl) #[.int .i64 n, .string ({ data := #[] }), .slice Ab b.length cb] (args3 (F5.get (t := 6) rfl) rfl (F5.get (t := 7) rfl)) (maker_is n ({ data := #[] }) b (.slice Ab b.length cb) hn (by decide) hb r er w2 (M2.isb (k := 0) rfl)) ?_
 rintro _ w6 a6 ⟨V6, rfl, is6, lo6, b6⟩ F6
 have lo0 := fun q h => Nat.le_trans M2.le (lo6 q h)
 have M6 := M2.newRec b6 is6 lo6 2 3
 clear M2 b6 lo6
 refine zh (zb rfl) rfl F6 rfl M6 4 (t := 37) (c := recA ⟨0, "".toUTF8, [], 0, 0, [], 0, 0, 0⟩ ⟨zN, zN⟩) (by unfold execOp; kernel_rfl) ?_
 intro g7 a7 w7 F7 M7
 clear F6 M6
 refine zm (zb rfl) rfl F7 M7 (k := 4) rfl _ _ _ rfl (F7.get (t := 5) rfl) (F7.get (t := 8) rfl) (recA r V6) _ rfl (zL rfl) (zta (w := w7) ⟨(M7.isb (k := 2) rfl), (M7.isb (k := 3) rfl)⟩) (zn rfl) (by kernel_rfl) ?_
 intro w8 M8
 clear M7
 refine hK3 _ _ ?_
 refine zS fun _ hK9 => ?_
 refine zR ?_
 refine zg (zb rfl) rfl F7 rfl rfl (zE Tryz.func34 rfl) #[] (args0) (names6_ex w8) ?_
 rintro _ w10 a10 ⟨gq10, rfl, hg10, hc10, b10⟩ F10
 have M10 := M8.newb b10 5 hg10 hc10
 clear M8 b10 hg10 hc10
 refine rm rfl F10 fun _ F11 => ?_
 refine zc (w' := w10) (zb rfl) rfl F11 rfl (.int .i64 (n.tdiv 23)) (y_quoT _ _ _ _ rfl (F11.get (t := 10) rfl) rfl hn (by decide) rfl) fun _ F12 => ?_
 clear F11
 refine zg (zb rfl) rfl F12 rfl rfl (zE Tryz.func17 rfl) #[.int .i64 (n.tdiv 23), .int .i64 10] (zha (F12.get (t := 11) rfl) rfl) (zda ((hk ▸ within6_any (n.tdiv 23) 10 (by omega) (by omega) hq.1 hq.2 w10))) ?_
 rintro _ w13 a13 ⟨rfl, rfl⟩ F13
 refine zc (w' := w10) (zb rfl) rfl F13 rfl (.pointer (some ⟨gq10, k, none⟩)) (y_ixG 45 (s := 1) Tryz.underlying45 (by kernel_rfl) _ _ rfl (F13.get (t := 9) rfl) (F13.get (t := 12) rfl) rfl hk10 (by omega)) fun _ F14 => ?_
 clear F13
 refine zc (w' := w10) (zb rfl) rfl F14 rfl (.string (nmK k)) (zba _ _ rfl (F14.get (t := 13) rfl) (M10.blk (k := 5) rfl) (nmA_at hk10) Tryz.underlying9 rfl) fun _ F15 => ?_
 clear F14
 refine zc (w' := w10) (zb rfl) rfl F15 rfl (.pointer (some ⟨g7, 1, none⟩)) (y_fa (off := 1) rfl (F15.get (t := 5) rfl) (by kernel_rfl) rfl) fun _ F16 => ?_
 clear F15
 refine zm (zb rfl) rfl F16 M10 (k := 4) rfl _ _ _ rfl (F16.get (t := 15) rfl) (F16.get (t := 14) rfl) (#[.string (nmK k)]) (recA ⟨r.p, (nmK k), r.l2, r.a, r.b, r.l5, r.t, r.c, r.z⟩ ⟨V6.v2, V6.v5⟩) rfl (zL rfl) (one_str _) (by kernel_rfl) (by kernel_rfl) ?_
 intro w17 M17
 clear M10
 refine hK9 _ _ ?_
 refine zS fun _ hK18 => ?_
 refine zR ?_
 refine zc (w' := w17) (zb rfl) rfl F16 rfl _ (zna _ _ rfl (F16.get (t := 5) rfl) (M17.blk (k := 4) rfl) (recA ⟨r.p, (nmK k), r.l2, r.a, r.b, r.l5, r.t, r.c, r.z⟩ ⟨V6.v2, V6.v5⟩) (zra rfl) Tryz.underlying37 rfl (by kernel_rfl)) fun _ F19 => ?_
 clear F16
 refine zm (zb rfl) rfl F19 M17 (k := 1) rfl _ _ _ rfl (F19.get (t := 4) rfl) (F19.get (t := 16) rfl) (recA ⟨r.p, (nmK k), r.l2, r.a, r.b, r.l5, r.t, r.c, r.z⟩ ⟨V6.v2, V6.v5⟩) _ rfl (zL rfl) (zta (w := w17) (r := ⟨r.p, nmK k, r.l2, r.a, r.b, r.l5, r.t, r.c, r.z⟩) ⟨(M17.isb (k := 2) rfl), (M17.isb (k := 3) rfl)⟩) (zn rfl) (by kernel_rfl) ?_
 intro w20 M20
 clear M17
 refine hK18 _ _ ?_
 refine wp_ret ?_
 try simp only [Exit.then, Exit.inBlock, Exit.jump]
 exact bodyPost_ret (results_cell_row rfl _ _ _ _ _ (0, 0) _ (F19.get rfl) (M20.blk (k := 1) rfl) Tryz.underlying37 rfl (by kernel_rfl)) F19.defers ⟨_, rfl, ⟨V6.v2, V6.v5⟩, rfl, ⟨(M20.isb (k := 2) rfl), (M20.isb (k := 3) rfl)⟩, (fun q h => h.elim (fun h => lo0 q (.inl h)) (fun h => lo0 q (.inr h))), M20.below⟩
end Go.Proofs.YtmjbnmbobocpdaaGreat
namespace Go.Proofs.YtmjbnmbobocpdaaGreat
open Go.ChangeShapes Go.WideShapes Go.ChangeAt Go.RowKit Go.Shelf
section
def celA (c : Nat → CelN) (s n : Nat → Value) : Array Value := #[s 0, n 0, .bool (c 0).f, s 1, n 1, .bool (c 1).f, s 2, n 2, .bool (c 2).f, s 3, n 3, .bool (c 3).f, s 4, n 4, .bool (c 4).f, s 5, n 5, .bool (c 5).f, s 6, n 6, .bool (c 6).f, s 7, n 7, .bool (c 7).f, s 8, n 8, .bool (c 8).f, s 9, n 9, .bool (c 9).f, s 10, n 10, .bool (c 10).f, s 11, n 11, .bool (c 11).f, s 12, n 12, .bool (c 12).f, s 13, n 13, .bool (c 13).f, s 14, n 14, .bool (c 14).f, s 15, n 15, .bool (c 15).f, s 16, n 16, .bool (c 16).f, s 17, n 17, .bool (c 17).f]
theorem cel_in (V : VltN) (s n : Nat → Value) : ∀ (j : Nat) (v : Value), (celA V.c s n)[j]? = some v → (vltA V s n)[0 + j]? = some v := fun j v h => by
  have e : vltA V s n = celA V.c s n ++ #[.bool V.fl, .int .i64 V.lf, .bool V.dd] := by kernel_rfl
  rw [e, Nat.zero_add, Array.getElem?_append_left (Array.getElem?_eq_some_iff.1 h).1]
  exact h
theorem cel_put (c : Nat → CelN) (s n : Nat → Value) (u v : Value) (x y : List UInt8) (b : Bool) : ∀ {p : Nat}, p < 18 → ((celA c s n).toList.take (3 * p) ++ (#[u, v, .bool b] : Array Value).toList ++ (celA c s n).toList.drop (3 * p + (#[u, v, .bool b] : Array Value).size)).toArray = celA (putC c p ⟨x, y, b⟩) (putN s p u) (putN n p v)
  | p, h => by
    match p, h with
    | 0, _ => show _ = _; kernel_rfl
    | 1, _ => show _ = _; kernel_rfl
    | 2, _ => show _ = _; kernel_rfl
    | 3, _ => show _ = _; kernel_rfl
    | 4, _ => show _ = _; kernel_rfl
    | 5, _ => show _ = _; kernel_rfl
    | 6, _ => show _ = _; kernel_rfl
    | 7, _ => show _ = _; kernel_rfl
    | 8, _ => show _ = _; kernel_rfl
    | 9, _ => show _ = _; kernel_rfl
    | 10, _ => show _ = _; kernel_rfl
    | 11, _ => show _ = _; kernel_rfl
    | 12, _ => show _ = _; kernel_rfl
    | 13, _ => show _ = _; kernel_rfl
    | 14, _ => show _ = _; kernel_rfl
    | 15, _ => show _ = _; kernel_rfl
    | 16, _ => show _ = _; kernel_rfl
    | 17, _ => show _ = _; kernel_rfl
    | k + 18, h => exact absurd h (by omega)
theorem y_ixCel {a : Act} {w : World} {o : Oper} (x k : Operand) (T : TypeId) (hT : T = 76) (ho : o.op = .index T x k) {c : Nat → CelN} {s n : Nat → Value} (hx : a.eval x = .agg (celA c s n)) {z : Int} (hk : a.eval k = .int .i64 z) : ∀ {j : Nat}, j < 18 → z = (j : Int) → (execOp a.eval o).run Tryz.prog w = .ok (.value (.agg #[s j, n j, .bool (c j).f])) w
  | j, h, hz => by
    subst hT hz
    unfold execOp
    simp only [ho, hx, hk]
    match j, h with
    | 0, _ => show _ = _; kernel_rfl
    | 1, _ => show _ = _; kernel_rfl
    | 2, _ => show _ = _; kernel_rfl
    | 3, _ => show _ = _; kernel_rfl
    | 4, _ => show _ = _; kernel_rfl
    | 5, _ => show _ = _; kernel_rfl
    | 6, _ => show _ = _; kernel_rfl
    | 7, _ => show _ = _; kernel_rfl
    | 8, _ => show _ = _; kernel_rfl
    | 9, _ => show _ = _; kernel_rfl
    | 10, _ => show _ = _; kernel_rfl
    | 11, _ => show _ = _; kernel_rfl
    | 12, _ => show _ = _; kernel_rfl
    | 13, _ => show _ = _; kernel_rfl
    | 14, _ => show _ = _; kernel_rfl
    | 15, _ => show _ = _; kernel_rfl
    | 16, _ => show _ = _; kernel_rfl
    | 17, _ => show _ = _; kernel_rfl
    | k + 18, h => exact absurd h (by omega)
theorem y_mkCel {a : Act} {w : World} {o : Oper} (x y : Operand) (T : TypeId) (hT : Tryz.prog.underlying T = some (.slice 63)) (ho : o.op = .makeSlice T x y) (hx : a.eval x = .int .i64 18) (hy : a.eval y = .int .i64 18) : (execOp a.eval o).run Tryz.prog w = .ok (.value (.slice (some ⟨w.heap.size, 0, none⟩) 18 18)) (w.alloc (.cells (celA (fun _ => nilC) nilS nilS) 63)) := by
  have hinf : (Tryz.prog.info? 63).map (fun i => (i.zero, i.size, i.bytes)) = some (some (.agg #[zN, zN, .bool false]), 3, 56) := by kernel_rfl
  obtain ⟨i, hi, hz⟩ := Option.map_eq_some_iff.1 hinf
  simp only [Prod.mk.injEq] at hz
  obtain ⟨h1, h2, h3⟩ := hz
  have h := run_makeSlice (P := Tryz.prog) (w := w) T _ i _ hT hi h1 .i64 .i64 18 18 (by omega) (Int.le_refl _) (by rw [h2]; decide) (by rw [h3]; decide) (by decide)
  unfold execOp
  simp only [ho, hx, hy, Sem.run_bind, h, Result.andThen_ok, Sem.run_pure]
  rw [h2]
  have e : madeCells (Value.agg #[zN, zN, .bool false]).cells (Int.toNat 18 * 3) = celA (fun _ => nilC) nilS nilS := by kernel_rfl
  rw [e]
  rfl
def pureR (p : Prop) : Res := ⟨false, fun _ => False, fun _ => p⟩
theorem Mx.pure_ {G : Option Nat} {w0 w : World} {R : List (Nat × Res)} (M : Mx G w0 w R) (i : Nat) {p : Prop} (h : p) : Mx G w0 w ((i, pureR p) :: R) := M.cons i _ h (fun _ _ _ h => h) (fun _ h => h.elim) (fun e => by cases e) fun _ _ _ _ _ _ h => h.elim
def cutC (c : Nat → CelN) (j : Nat) : Nat → CelN := fun i => if i < j then c i else nilC
theorem cutC_0 (c : Nat → CelN) : cutC c 0 = fun _ => nilC := funext fun i => if_neg (Nat.not_lt_zero i)
theorem cutC_next (c : Nat → CelN) (j : Nat) : putC (cutC c j) j ⟨(c j).s, (c j).n, (c j).f⟩ = cutC c (j + 1) := funext fun i => by
  unfold putC cutC
  by_cases h : i = j
  · subst h; rw [if_pos rfl, if_pos (by omega)]
  · rw [if_neg h]
    by_cases h2 : i < j
    · rw [if_pos h2, if_pos (by omega)]
    · rw [if_neg h2, if_neg (by omega)]
end
end Go.Proofs.YtmjbnmbobocpdaaGreat
