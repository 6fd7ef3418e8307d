/- What SrpRefuses stands on, part 6. -/
import Derived.Laws.StructEq
import Derived.Great.BuildSlice
import Derived.Lib.SmallJoins
import Derived.Deep.RegionHeld3
import Derived.Deep.Upon
import Derived.Test.YtcfepoopkfhojaaSrpRefusesP1
import Derived.Test.YtcfepoopkfhojaaSrpRefusesP2
import Derived.Test.YtcfepoopkfhojaaSrpRefusesP3
import Derived.Test.YtcfepoopkfhojaaSrpRefusesP4
import Derived.Test.YtcfepoopkfhojaaSrpRefusesP5
set_option maxRecDepth 100000
set_option maxHeartbeats 8000000
set_option linter.unusedVariables false
set_option linter.unusedSimpArgs false
/- (*Sponge).blocks$1: the iterator, under whatever takes a block. -/
namespace Go.Proofs.Ytcfepoopkfhojaa
open Go.ChangeShapes Go.WideShapes Go.ChangeAt Go.RowKit Go.Shelf
attribute [local go_sem] Oper.semAt_some
theorem elem_u8s : Try.prog.elem 23 = 5 := by kernel_rfl
theorem sizeOf_u8 (w : World) : (sizeOf 5).run Try.prog w = .ok 1 w := by kernel_rfl
def cutA (A : Option Addr) (c k : Nat) : Option Addr := if c = k then A else A.map (·.add k)
theorem slice_from (w : World) (A : Option Addr) (n c k : Nat) (hk : k ≤ n) : (Instr.sliceAt 23 (.slice A n c) (some (.int .i64 (k : Int))) none none).run Try.prog w = .ok (.slice (cutA A c k) (n - k) (c - k)) w := by
  have hu : Try.prog.underlying 23 = some (.slice (Try.prog.elem 23)) := by rw [elem_u8s]; exact Try.underlying23
  rw [run_sliceAt_slice _ _ _ _ _ _ hu, run_slice_l _ _ _ _ _ hu .i64 k (by omega) (by omega), elem_u8s, sizeOf_u8]
  simp only [Result.andThen_ok, sliced, Int.toNat_natCast, Nat.mul_one, cutA]
theorem Src.cut {N p : Nat} {w : World} {A : Option Addr} {r : List UInt8} (h : Src N p w A r) {c k : Nat} (hc : r.length ≤ c) : Src N p w (cutA A c k) (r.drop k) := fun hp => by
  rw [List.length_drop] at hp
  obtain ⟨b, o, e, h1, h2, h3⟩ := h (by omega)
  refine ⟨b, o + k, ?_, h1, h2, fun j x hx => ?_⟩
  · unfold cutA
    rw [if_neg (by omega), e]
    simp only [Option.map_some, zqa]
  · rw [List.getElem?_drop] at hx
    have := h3 (k + j) x hx
    rwa [show o + (k + j) = o + k + j by omega] at this
def restW (bx : Nat) (w : World) : Nat := match w.cell? ⟨bx, 0, none⟩ with
  | some (.slice _ n _) => n
  | _ => 0
theorem copy_wait (W : World) (N p : Nat) (A : Option Addr) (r : List UInt8) (n c : Nat) (hr : r.length = n) (hS : Src N p W A r) (s : W8) (y : Nat → Int) (h k m mc : Nat) (hb : Blk W p 140 (arrS s y (h : Int))) (hk : k = min m n) (hm : h + m = 16) (hA : A = none → c = 0) :
    ∃ W2, (Builtin.copy_ #[23, 23] 3 #[.slice (some ⟨p, 8 + h, none⟩) m mc, .slice A n c]).run Try.prog W = .ok (.int .i64 (k : Int)) W2 ∧ Blk W2 p 140 (arrS s (laid y h (r.take k)) (h : Int)) ∧ W.grownBy W2 (some p) := by
  subst hr
  by_cases h0 : r.length = 0
  · obtain rfl : r = [] := List.eq_nil_of_length_eq_zero h0
    obtain rfl : k = 0 := by simpa using hk
    refine ⟨W, run_copy_none (P := Try.prog) W 23 23 3 5 _ A m mc 0 c Try.underlying23 size_u8 (by simp), ?_, World.grownBy.refl _ _⟩
    have e : laid y h (([] : List UInt8).take 0) = y := by funext j; unfold laid; rw [if_neg (by simp)]
    rw [e]; exact hb
  · obtain ⟨b, o, rfl, h1, h2, h3⟩ := hS (by omega)
    have hk2 : (r.take k).length = k := by rw [List.length_take]; omega
    have hrun := run_copy_row (P := Try.prog) W 23 23 3 5 p (8 + h) m mc ⟨b, o, none⟩ r.length c (arrS s y (h : Int)) 140 ((r.take k).map bv) Try.underlying23 size_u8 hb (by rw [List.length_map, hk2, hk, Nat.min_comm])
      (fun j v hj => by
        rw [List.getElem?_map] at hj
        obtain ⟨x, hx, rfl⟩ := Option.map_eq_some_iff.1 hj
        rw [List.getElem?_take] at hx
        split at hx
        · rw [zqa]; exact h3 j x hx
        · cases hx) (by rw [List.length_map, hk2]; show 8 + h + k ≤ 25; omega) (fun v hv => by
        obtain ⟨x, _, rfl⟩ := List.mem_map.1 hv
        rfl)
    rw [List.length_map, hk2] at hrun
    refine ⟨_, hrun, ?_, zeb _ _ _⟩
    have := setRow_heap W p (arrS s y (h : Int)) ((arrS s y (h : Int)).toList.take (8 + h) ++ (r.take k).map bv ++ (arrS s y (h : Int)).toList.drop (8 + h + k)).toArray 140 (0, 0) hb
    have e := arrS_copy s y (h : Int) h (r.take k) (by omega)
    rw [List.length_map, hk2] at e
    unfold Blk
    rw [this, e]
theorem Kp.undrew {N p : Nat} {a b : World} (h : Kp N p a.drew b) : Kp N p a b := ⟨h.os, h.tape, h.output, h.size, h.block⟩
theorem Kp.set {N p : Nat} {w : World} {a : Addr} (v : Value) (h : a.block = p ∨ N ≤ a.block) (hN : N ≤ w.heap.size) : Kp N p w (w.setCell a v) :=
  Kp.grown (zn (World.grownBy.refl w (some a.block)) rfl v) hN h
theorem RecAt.set {l D : Nat} {o1 o2 : Obj} {w : World} {a : Addr} (h : RecAt l D o1 o2 w) (v : Value) (hl : l ≠ a.block) (hD : D ≠ a.block) : RecAt l D o1 o2 (w.setCell a v) :=
  ⟨(Below.heap_setCell w a v l hl).trans h.1, (Below.heap_setCell w a v D hD).trans h.2.1, h.2.2⟩
theorem RecAt.grown {l D r : Nat} {o1 o2 : Obj} {w w' : World} (h : RecAt l D o1 o2 w) (hg : w.grownBy w' (some r)) (hl : l ≠ r) (hD : D ≠ r) : RecAt l D o1 o2 w' :=
  ⟨(hg.block l (Array.getElem?_eq_some_iff.1 h.1).1 (fun e => by cases e; exact hl rfl)).trans h.1, (hg.block D (Array.getElem?_eq_some_iff.1 h.2.1).1 (fun e => by cases e; exact hD rfl)).trans h.2.1, h.2.2⟩
theorem arrS_sub16 (s : W8) (y : Nat → Int) (h : Int) : ∀ (j : Nat) (v : Value), (zk y)[j]? = some v → (arrS s y h)[8 + j]? = some v := by
  intro j v hv
  have hj : j < 16 := (Array.getElem?_eq_some_iff.1 hv).1
  have : j = 0 ∨ j = 1 ∨ j = 2 ∨ j = 3 ∨ j = 4 ∨ j = 5 ∨ j = 6 ∨ j = 7 ∨ j = 8 ∨ j = 9 ∨ j = 10 ∨ j = 11 ∨ j = 12 ∨ j = 13 ∨ j = 14 ∨ j = 15 := by omega
  rcases this with rfl | rfl | rfl | rfl | rfl | rfl | rfl | rfl | rfl | rfl | rfl | rfl | rfl | rfl | rfl | rfl <;> exact hv
theorem load_wait {w : World} {p : Nat} {s : W8} {y : Nat → Int} {h : Int} (hb : Blk w p 140 (arrS s y h)) : (Instr.loadAt 36 (.pointer (some ⟨p, 8, none⟩))).run Try.prog w = .ok (.agg (zk y)) w :=
  run_load_sub w _ p 8 _ _ (zk y) _ hb (arrS_sub16 s y h) Try.underlying36 rfl size16
theorem blocks1_any (N p bx b2 l D : Nat) (o1 o2 : Obj) (W0 : World) (s0 : W8) (l0 : List UInt8) (A0 : Option Addr) (c0 : Nat) (r0 : List UInt8) (hbx : N ≤ bx) (hb2 : N ≤ b2) (hl : N ≤ l) (hD : N ≤ D) (hx2 : bx ≠ b2) (hxl : bx ≠ l) (hxD : bx ≠ D) (hpN : p < N) (hNW : N ≤ W0.heap.size)
    (hS0 : SpAt W0 p s0 l0) (hR0 : Src N p W0 A0 r0) (hB0 : Blk W0 bx 23 #[.slice A0 r0.length c0]) (hP0 : Blk W0 b2 122 #[.pointer (some ⟨p, 0, none⟩)]) (hc0 : r0.length ≤ c0) (hm0 : c0 ≤ maxLen) (hA0 : A0 = none → c0 = 0) (hrec : RecAt l D o1 o2 W0)
    (hY : ∀ (s : W8) (y : Nat → Int) (W : World), s.ok → (∀ k, 0 ≤ y k ∧ y k < 256) → Blk W p 140 (arrS s y 0) → RecAt l D o1 o2 W → Kp N p W0 W →
      YieldAt Fence.wide 1 Try.prog l #[.agg (zk y)] W fun e W' => e = .returned (.bool true) ∧ RecAt l D o1 o2 W' ∧ (Kp N p W W' ∧ W'.heap[bx]? = W.heap[bx]? ∧ W'.heap[b2]? = W.heap[b2]? ∧ Blk W' p 140 (arrS (takeW y s) y 0))) :
    CallsIn Fence.wide 2 Try.prog 104 #[.func (.yield l) #[] #[], .pointer (some ⟨bx, 0, none⟩), .pointer (some ⟨b2, 0, none⟩)] W0 fun e W' => (∃ v, e = .returned v) ∧ RecAt l D o1 o2 W' ∧ SpAt W' p (feed s0 (l0 ++ r0)).1 (feed s0 (l0 ++ r0)).2 ∧ Kp N p W0 W' := by
  obtain ⟨T, hT⟩ : ∃ T, T = feed s0 (l0 ++ r0) := ⟨_, rfl⟩
  rw [← hT]
  have HT := hid hT
  clear hT
  refine callsIn_wide.2 ?_
  go_enter Try.func104, Try.ntmps104
  go_wp2
  go_loopw [4] (fun z wr => ∃ (s : W8) (l' : List UInt8) (A : Option Addr) (c : Nat) (r : List UInt8), SpAt wr p s l' ∧ Src N p W0 A r ∧ Blk wr bx 23 #[.slice A r.length c] ∧ Blk wr b2 122 #[.pointer (some ⟨p, 0, none⟩)] ∧ r.length ≤ c ∧ c ≤ maxLen ∧ (A = none → c = 0) ∧ RecAt l D o1 o2 wr ∧ Kp N p W0 wr ∧ Hid (T = feed s (l' ++ r))) (fun _ wr => restW bx wr)
  case atStart => exact ⟨s0, l0, A0, c0, r0, hS0, hR0, hB0, hP0, hc0, hm0, hA0, hrec, Kp.refl _ _ _, HT⟩
  case round =>
    obtain ⟨s, l', A, c, r, hS, hR, hB, hP, hc, hm, hA, hre, hK, hTr⟩ := hrel
    clear hS0 hR0 hB0 hP0 hc0 hm0 hA0 hrec HT
    obtain ⟨n, hn⟩ : ∃ n, r.length = n := ⟨_, rfl⟩
    rw [hn] at hB hc
    unfold maxLen at hm
    have cB : wr.cell? ⟨bx, 0, none⟩ = some (.slice A n c) := hB.cell (k := 0) rfl
    have fB := hB.frozen 0
    have cP : wr.cell? ⟨b2, 0, none⟩ = some (.pointer (some ⟨p, 0, none⟩)) := hP.cell (k := 0) rfl
    obtain ⟨y, hy, hyl, hb, hsok, hl16⟩ := hS
    obtain ⟨h, hh⟩ : ∃ h, l'.length = h := ⟨_, rfl⟩
    rw [hh] at hb hl16
    by_cases h0 : n = 0
    · subst h0
      obtain rfl : r = [] := List.eq_nil_of_length_eq_zero hn
      have HH := hid hh
      have HN := hid hn
      clear hh hn
      go_wp2
      go_end0
      refine ⟨⟨_, rfl⟩, hre, ?_, hK⟩
      rw [hTr.out, List.append_nil, feed_lt (by rw [HH.out]; exact hl16)]
      exact ⟨y, hy, hyl, by rw [HH.out]; exact hb, hsok, by rw [HH.out]; exact hl16⟩
    · have h1n : 0 < n := by omega
      obtain ⟨k, m, hm16, hk⟩ : ∃ k m : Nat, h + m = 16 ∧ k = min m n := ⟨_, 16 - h, by omega, rfl⟩
      have hkn : k ≤ n := by omega
      have hkm : k ≤ m := by omega
      have hk0 : 0 < k := by omega
      obtain ⟨W2, hcp, hb2', hg2⟩ := copy_wait wr.drew N p A r n c hn (fun hp => (hR.kp hK) hp) s y h k m m hb.drew hk hm16 hA
      have hc24 : wr.cell? ⟨p, 24, none⟩ = some (.int .i64 (h : Int)) := hb.cell (k := 24) rfl
      have hh0 : (0 : Int) ≤ (h : Int) := Int.natCast_nonneg _
      have hh1 : (h : Int) ≤ 16 := by omega
      have hm1 : 16 - h = m := by omega
      have h16 : ¬ 16 = h := by omega
      have hpb : p ≠ bx := by omega
      have hpb' : bx ≠ p := by omega
      have hsl := fun w => slice_from w A n c k hkn
      have bB2 : Blk W2 bx 23 #[.slice A n c] := (hg2.block bx (by have := hB.lt; simpa using this) (fun e => by cases e; omega)).trans hB
      have bP2 : Blk W2 b2 122 #[.pointer (some ⟨p, 0, none⟩)] := (hg2.block b2 (by have := hP.lt; simpa using this) (fun e => by cases e; omega)).trans hP
      have cB2 : W2.cell? ⟨bx, 0, none⟩ = some (.slice A n c) := bB2.cell (k := 0) rfl
      have fB2 := bB2.frozen 0
      have cP2 : W2.cell? ⟨b2, 0, none⟩ = some (.pointer (some ⟨p, 0, none⟩)) := bP2.cell (k := 0) rfl
      have cH2 : W2.cell? ⟨p, 24, none⟩ = some (.int .i64 (h : Int)) := hb2'.cell (k := 24) rfl
      have fH2 := hb2'.frozen 24
      have HCP := hid hcp
      have HH := hid hh
      have HN := hid hn
      have HK := hid hk
      clear hcp hh hn hk h0
      go_wp2_with fail
      go_region_held3 (fun w' => w'.cell? ⟨bx, 0, none⟩ = some (.slice A n c) ∧ w'.cell? ⟨b2, 0, none⟩ = some (.pointer (some ⟨p, 0, none⟩)) ∧ w'.cell? ⟨p, 24, none⟩ = some (.int .i64 (h : Int))) (first | go_keep | exact ⟨cB2, cP2, cH2⟩)
        ((refine step_copy (by rfl) _ _ _ _ (by rfl) (by rfl) (by rfl) HCP.out ?_))
      have hcase : (h + k < 16 ∧ k = n) ∨ h + k = 16 := by have := HK.out; omega
      have hNr : N ≤ wr.heap.size := Nat.le_trans hNW hK.size
      have hN2 : N ≤ W2.heap.size := Nat.le_trans hNr hg2.size
      have r2 : RecAt l D o1 o2 W2 := RecAt.grown (w := wr.drew) hre hg2 (by omega) (by omega)
      have K2 : Kp N p W0 W2 := hK.trans (Kp.undrew (Kp.grown hg2 hNr (.inl rfl)))
      obtain ⟨Y, hY2⟩ : ∃ Y, Y = laid y h (r.take k) := ⟨_, rfl⟩
      have Yb : ∀ j, 0 ≤ Y j ∧ Y j < 256 := fun j => by rw [hY2]; exact laid_bd hy h _ j
      have Yl : ∀ j, j < (l' ++ r.take k).length → Y j = byI (l' ++ r.take k) j := fun j hj => by
        rw [hY2, ← HH.out]
        exact laid_at hyl j hj
      rw [← hY2] at hb2'
      have YB := hid Yb
      have YL := hid Yl
      clear HCP hY2 Yb Yl hyl hy
      obtain ⟨W3, hW3⟩ : ∃ W3, W3 = W2.setCell ⟨bx, 0, none⟩ (.slice (cutA A c k) (n - k) (c - k)) := ⟨_, rfl⟩
      have b3 : Blk W3 p 140 (arrS s Y (h : Int)) := by rw [hW3]; exact (Below.heap_setCell W2 _ _ p hpb).trans hb2'
      have B3 : Blk W3 bx 23 #[.slice (cutA A c k) (n - k) (c - k)] := by rw [hW3]; exact bB2.set 0 _ rfl
      have P3 : Blk W3 b2 122 #[.pointer (some ⟨p, 0, none⟩)] := by rw [hW3]; exact (Below.heap_setCell W2 _ _ b2 (fun e => hx2 e.symm)).trans bP2
      have r3 : RecAt l D o1 o2 W3 := by rw [hW3]; exact r2.set _ (fun e => hxl e.symm) (fun e => hxD e.symm)
      have K3 : Kp N p W0 W3 := by rw [hW3]; exact K2.trans (Kp.set _ (.inr hbx) hN2)
      have hN3 : N ≤ W3.heap.size := Nat.le_trans hNW K3.size
      have HW3 := hid hW3
      have b4 := fun v => b3.set 24 (.int .i64 v) (arrS_have s Y (h : Int) v)
      have B4 := fun v => (Below.heap_setCell W3 ⟨p, 24, none⟩ (.int .i64 v) bx hpb').trans B3
      have P4 := fun v => (Below.heap_setCell W3 ⟨p, 24, none⟩ (.int .i64 v) b2 (by simp only; omega)).trans P3
      have r4 := fun v => r3.set (a := ⟨p, 24, none⟩) (.int .i64 v) (by simp only; omega) (by simp only; omega)
      have K4 := fun v => K3.trans (Kp.set (a := ⟨p, 24, none⟩) (.int .i64 v) (.inl rfl) hN3)
      have B4 := hid B4
      have P4 := hid P4
      have b4 := hid b4
      have r4 := hid r4
      have K4 := hid K4
      clear hW3 r2 K2 b3 B3 P3 r3 K3
      rcases hcase with ⟨hlt, hkn2⟩ | heq
      · have hd : decide ((h : Int) + (k : Int) < 16) = true := by rw [decide_eq_true_iff]; omega
        have HKN := hid hkn2
        clear hkn2
        go_wp2
        refine bodyPost_ret (results_none rfl _ _ _) rfl ⟨⟨_, rfl⟩, ?_, ?_, ?_⟩
        · rw [← HW3.out]; exact r4.out _
        · have et : r.take k = r := List.take_of_length_le (by rw [HN.out, HKN.out]; exact Nat.le_refl _)
          have el : (l' ++ r).length = h + k := by rw [List.length_append, HH.out, HN.out, HKN.out]
          rw [hTr.out, feed_lt (by rw [el]; exact hlt), ← HW3.out]
          refine ⟨Y, YB.out, fun j hj => by have := YL.out j; rw [et] at this; exact this hj, ?_, hsok, by rw [el]; exact hlt⟩
          rw [el]
          have := b4.out ((h : Int) + (k : Int))
          rw [show ((h + k : Nat) : Int) = (h : Int) + (k : Int) by omega]
          exact this
        · rw [← HW3.out]; exact K4.out _
      · have hd : decide ((h : Int) + (k : Int) < 16) = false := by rw [decide_eq_false_iff_not]; omega
        go_upto_region 6 with (fail)
        have b5 : Blk ((W3.setCell ⟨p, 24, none⟩ (.int .i64 ((h : Int) + (k : Int)))).setCell ⟨p, 24, none⟩ (.int .i64 0)) p 140 (arrS s Y 0) := (b4.out _).set 24 _ (arrS_have s Y _ 0)
        have B5 := (Below.heap_setCell (W3.setCell ⟨p, 24, none⟩ (.int .i64 ((h : Int) + (k : Int)))) ⟨p, 24, none⟩ (.int .i64 0) bx hpb').trans (B4.out _)
        have P5 := (Below.heap_setCell (W3.setCell ⟨p, 24, none⟩ (.int .i64 ((h : Int) + (k : Int)))) ⟨p, 24, none⟩ (.int .i64 0) b2 (by simp only; omega)).trans (P4.out _)
        have r5 := (r4.out ((h : Int) + (k : Int))).set (a := ⟨p, 24, none⟩) (.int .i64 0) (by simp only; omega) (by simp only; omega)
        have K5 := (K4.out ((h : Int) + (k : Int))).trans (Kp.set (a := ⟨p, 24, none⟩) (.int .i64 0) (.inl rfl) (Nat.le_trans hNW (K4.out _).size))
        rw [HW3.out] at b5 B5 P5 r5 K5
        clear b4 B4 P4 r4 K4 HW3 hd
        generalize World.setCell (World.setCell (World.setCell _ _ _) _ _) _ _ = W5 at *
        refine (wpIn_wide (n := 2)).1 ?_
        have c5 : W5.cell? ⟨b2, 0, none⟩ = some (.pointer (some ⟨p, 0, none⟩)) := Blk.cell (k := 0) P5 rfl
        have hld := load_wait b5
        obtain ⟨fn, tmps, assign, body, hyy, hRo⟩ := hY s Y W5 hsok YB.out b5 r5 K5
        gi_wp2_with (refine wpListIn_load_run rfl _ _ rfl rfl hld ?_)
        refine hRo.mono ?_
        rintro e W6 ⟨rfl, r6, K6, e6x, e6b, b6⟩
        gi_wp2
        go_wp2
        go_roundw
        case rel =>
          have ed : (r.drop k).length = n - k := by rw [List.length_drop, HN.out]
          have el : (l' ++ r.take k).length = 16 := by rw [List.length_append, HH.out, List.length_take, HN.out]; omega
          refine ⟨takeW Y s, [], cutA A c k, c - k, r.drop k, ⟨Y, YB.out, fun j hj => absurd hj (by simp), b6, ok_takeW hsok, by decide⟩, hR.cut (by rw [HN.out]; exact hc), ?_, e6b.trans P5, by rw [ed]; omega, by unfold maxLen; omega, fun h => ?_, r6, K5.trans K6, hid ?_⟩
          · rw [ed]; exact e6x.trans B5
          · unfold cutA at h
            split at h
            · omega
            · have : A = none := by cases A <;> simp_all
              have := hA this; omega
          · rw [hTr.out, List.nil_append]
            have e1 : l' ++ r = (l' ++ r.take k) ++ r.drop k := by rw [List.append_assoc, List.take_append_drop]
            rw [e1, feed_block el, takeW_congr s (fun j hj => (YL.out j (by rw [el]; exact hj)).symm)]
        case measure =>
          have c6 : W6.cell? ⟨bx, 0, none⟩ = some (.slice (cutA A c k) (n - k) (c - k)) := Blk.cell (k := 0) (e6x.trans B5) rfl
          have f1 : restW bx W6 = n - k := by unfold restW; rw [c6]
          have f2 : restW bx wr = n := by unfold restW; rw [cB]
          rw [f1, f2]; omega
end Go.Proofs.Ytcfepoopkfhojaa
/- (*Sponge).Write: what a sponge is when it has taken bytes. -/
namespace Go.Proofs.Ytcfepoopkfhojaa
open Go.ChangeShapes Go.WideShapes Go.ChangeAt Go.RowKit Go.Shelf
attribute [local go_sem] Oper.semAt_some
theorem blocks_any (p : Nat) (A : Option Addr) (n c : Nat) (w : World) :
    Calls Try.prog 100 #[.pointer (some ⟨p, 0, none⟩), .slice A n c] w fun e w' => e = .returned (.func (.func 104) #[] #[.pointer (some ⟨w.heap.size + 1, 0, none⟩), .pointer (some ⟨w.heap.size, 0, none⟩)]) ∧
      w' = (w.alloc (.cells #[.pointer (some ⟨p, 0, none⟩)] 122)).alloc (.cells #[.slice A n c] 23) := by
  go_enter Try.func100, Try.ntmps100
  go_wp2
  go_ret
  exact ⟨rfl, rfl⟩
theorem Blk.putObj {w : World} {b l : Nat} {t : TypeId} {c : Array Value} (h : Blk w b t c) (hl : b ≠ l) (o : Obj) : Blk (w.putObj l o) b t c := (World.putObj_heap_other hl).trans h
theorem Blk.ne_rec {w : World} {b l : Nat} {t : TypeId} {c : Array Value} (h : Blk w b t c) (hl : NotCells w l) : b ≠ l := by
  rintro rfl
  have := hl _ h
  cases this
theorem Kp.putObj {N p : Nat} (w : World) {l : Nat} (o : Obj) (hl : N ≤ l) (h : l < w.heap.size) : Kp N p w (w.putObj l o) :=
  Kp.below ((Below.refl N w).grown (grownBy_putObj' w l o) (by omega) (fun k e => by cases e; exact hl))
theorem store16 (w : World) (y : Nat → Int) (cs : Array Value) (hcs : cs.size = 16) : (Instr.storeAt 36 (.pointer (some ⟨w.heap.size, 0, none⟩)) (.agg (zk y))).run Try.prog (w.alloc (.cells cs 36)) = .ok () ((w.alloc (.cells cs 36)).setRow w.heap.size (zk y)) :=
  run_store_blk (P := Try.prog) _ _ w.heap.size (zk y) (by simp [zk, Value.oneCell']) cs (by rw [hcs]; rfl) (heap_alloc_new w _) size16
theorem write_any (p : Nat) (s : W8) (l : List UInt8) (A : Option Addr) (b : List UInt8) (n c : Nat) (hn : b.length = n) (hc : n ≤ c) (hm : c ≤ maxLen) (hA : A = none → c = 0) (w : World) (hS : SpAt w p s l) (hR : Src w.heap.size p w A b) :
    Calls Try.prog 87 #[.pointer (some ⟨p, 0, none⟩), .slice A n c] w fun e w' => e = .returned (.tuple #[]) ∧ w.grownBy w' (some p) ∧ SpAt w' p (feed s (l ++ b)).1 (feed s (l ++ b)).2 := by
  have hp := hS.lt
  refine (callsIn_wide (n := 3)).1 ?_
  refine callsIn_of_wp_marks (n := 3) Try.func87 rfl trivial ?_ rfl
  simp only [Try.ntmps87, List.size_toArray, List.length_cons, List.length_nil, Nat.reduceAdd, Nat.reduceSub, Array.replicate_succ, Array.replicate_zero, List.push_toArray, List.append_toArray, List.nil_append, List.cons_append]
  gi_wp2_with (refine ⟨trivial, ?_⟩; gi_at_call 100; refine (callsIn_wide.2 (blocks_any p A n c _)).mono ?_; rintro e w1 ⟨rfl, rfl⟩)
  obtain ⟨w3, hw3⟩ : ∃ w3, w3 = ((w.alloc (.cells #[.pointer (some ⟨p, 0, none⟩)] 122)).alloc (.cells #[.pointer (some ⟨p, 0, none⟩)] 122)).alloc (.cells #[.slice A n c] 23) := ⟨_, rfl⟩
  have hz : w3.heap.size = w.heap.size + 3 := by rw [hw3]; simp
  have B0 : Blk w3 w.heap.size 122 #[.pointer (some ⟨p, 0, none⟩)] := by rw [hw3]; exact ((Blk.new w _ _).alloc _).alloc _
  have B1 : Blk w3 (w.heap.size + 1) 122 #[.pointer (some ⟨p, 0, none⟩)] := by
    rw [hw3]
    have := Blk.new (w.alloc (.cells #[.pointer (some ⟨p, 0, none⟩)] 122)) 122 #[.pointer (some ⟨p, 0, none⟩)]
    rw [World.size_alloc] at this
    exact this.alloc _
  have B2 : Blk w3 (w.heap.size + 2) 23 #[.slice A n c] := by
    rw [hw3]
    have := Blk.new ((w.alloc (.cells #[.pointer (some ⟨p, 0, none⟩)] 122)).alloc (.cells #[.pointer (some ⟨p, 0, none⟩)] 122)) 23 #[.slice A n c]
    rw [World.size_alloc, World.size_alloc] at this
    exact this
  have b3 : Below w.heap.size w w3 := by rw [hw3]; exact (((Below.refl _ _).alloc (Nat.le_refl _) _).alloc (by simp) _).alloc (by simp; omega) _
  rw [← hw3]
  clear hw3
  have S3 : SpAt w3 p s l := hS.of_block (b3.block p hp)
  have R3 : Src (w.heap.size + 1) p w3 A b := fun h => by
    obtain ⟨bb, o, e, h1, h2, h3⟩ := hR h
    exact ⟨bb, o, e, by omega, h2, fun j x hx => (cell_same (b3.block bb h1)).trans (h3 j x hx)⟩
  refine wpIn_range (n := 3) rfl (by omega) (gf := 104) (lb := #[.pointer (some ⟨w.heap.size + 1 + 1, 0, none⟩), .pointer (some ⟨w.heap.size + 1, 0, none⟩)]) rfl trivial (enters_of Try.func104 (by kernel_rfl) rfl)
    (α := W8 × (Nat → Int)) (fun x => #[.agg (zk x.2)]) (fun _ => rfl)
    (fun x W => x.1.ok ∧ (∀ k, 0 ≤ x.2 k ∧ x.2 k < 256) ∧ Blk W p 140 (arrS x.1 x.2 0) ∧ Blk W w.heap.size 122 #[.pointer (some ⟨p, 0, none⟩)])
    (fun x W W' => Kp (w.heap.size + 1) p W W' ∧ W'.heap[w.heap.size + 2]? = W.heap[w.heap.size + 2]? ∧ W'.heap[w.heap.size + 1]? = W.heap[w.heap.size + 1]? ∧ Blk W' p 140 (arrS (takeW x.2 x.1) x.2 0))
    (fun W => SpAt W p (feed s (l ++ b)).1 (feed s (l ++ b)).2 ∧ Kp (w.heap.size + 1) p w3 W) ?round ?iter ?done
  case iter =>
    intro L D o1 o2 W1 hD hL hW1 hrec hY
    rw [hz] at hD hL
    have z1 : W1.heap.size = w.heap.size + 5 := by rw [hW1]; simp; omega
    have b1 : Below w3.heap.size w3 W1 := by rw [hW1]; exact ((Below.refl _ _).alloc (Nat.le_refl _) _).alloc (by simp) _
    have R1 : Src (w.heap.size + 1) p W1 A b := R3.kp (Kp.below (b1.mono (by omega)))
    have K31 : Kp (w.heap.size + 1) p w3 W1 := Kp.below (b1.mono (by omega))
    refine (blocks1_any (w.heap.size + 1) p (w.heap.size + 2) (w.heap.size + 1) L D o1 o2 W1 s l A c b (by omega) (by omega) (by omega) (by omega) (by omega) (by omega) (by omega) (by omega) (by omega) (S3.of_block (b1.block p (by omega))) R1 ?_ ((b1.block _ (by omega)).trans B1) (by rw [hn]; exact hc) hm hA hrec ?_).mono ?_
    · rw [hn]; exact (b1.block _ (by omega)).trans B2
    · intro s' y W hs' hy hb' hr' hK'
      exact hY (s', y) W ⟨hs', hy, hb', ((hK'.block w.heap.size (by omega) (by omega)).trans (b1.block _ (by omega))).trans B0⟩ hr'
    · rintro e W' ⟨h1, h2, h3, h4⟩
      exact ⟨h1, h2, h3, K31.trans h4⟩
  case done =>
    intro L D o W hD hL ⟨hf, hk⟩ hlt hnc hdd
    gi_wp2
    have pL : p ≠ L := by omega
    have pD : p ≠ D := by omega
    refine ⟨by simp, .inl ⟨_, _, rfl, run_takeDeferred hdd, ?_⟩⟩
    refine ⟨_, results_none rfl _ _ _, rfl, ?_, ?_⟩
    · refine Kp.grownBy ?_
      have k1 : Kp w.heap.size p w3 W := hk.mono (by omega)
      have k2 := Kp.putObj (N := w.heap.size) (p := p) W o (by omega : w.heap.size ≤ L) hlt
      have hDl : D < (W.putObj L o).heap.size := (Array.getElem?_eq_some_iff.1 hdd).1
      exact ((Kp.below b3).trans k1).trans (k2.trans (Kp.putObj _ _ (by omega) hDl))
    · exact (hf.of_block (World.putObj_heap_other pL)).of_block (World.putObj_heap_other pD)
  case round =>
    rintro L ⟨s', y⟩ W hlo hlt ⟨hs', hy, hb', hB0⟩
    gi_wp2_with (refine wpListIn_store_run rfl _ _ _ rfl rfl rfl (store16 W y _ rfl) ?_)
    obtain ⟨W1, hW1⟩ : ∃ W1, W1 = (W.alloc (.cells #[Value.int .u8 0, .int .u8 0, .int .u8 0, .int .u8 0, .int .u8 0, .int .u8 0, .int .u8 0, .int .u8 0, .int .u8 0, .int .u8 0, .int .u8 0, .int .u8 0, .int .u8 0, .int .u8 0, .int .u8 0, .int .u8 0] 36)).setRow W.heap.size (zk y) := ⟨_, rfl⟩
    have c1 : Blk W1 W.heap.size 36 (zk y) := by rw [hW1]; exact setRow_heap _ _ _ _ _ (0, 0) (heap_alloc_new W _)
    have g1 : Below W.heap.size W W1 := by rw [hW1]; exact zhb (zeb _ _ _)
    rw [← hW1]
    have k1 : KeepsOthers W W1 := KeepsOthers.of_grownBy (grownBy_of_below g1 none) (fun j o e => by cases e)
    refine ⟨k1, fun o hnc => ?_⟩
    clear hW1
    have hb1 : Blk W1 p 140 (arrS s' y 0) := hb'.step g1
    have hB1 : Blk W1 w.heap.size 122 #[.pointer (some ⟨p, 0, none⟩)] := hB0.step g1
    have hb2 := hb1.putObj (hb1.ne_rec hnc) o
    have hB2 := hB1.putObj (hB1.ne_rec hnc) o
    have c2 := c1.putObj (c1.ne_rec hnc) o
    have hz2 : (W1.putObj L o).heap.size = W1.heap.size := by simp [World.putObj]
    have K2 : Kp (w.heap.size + 1) p W (W1.putObj L o) := (Kp.below (g1.mono (by omega))).trans (Kp.putObj W1 o (by omega) (by have := g1.size; omega))
    have E1 : (W1.putObj L o).heap[w.heap.size + 1]? = W.heap[w.heap.size + 1]? := (World.putObj_heap_other (by omega)).trans (g1.block _ (by omega))
    have E2 : (W1.putObj L o).heap[w.heap.size + 2]? = W.heap[w.heap.size + 2]? := (World.putObj_heap_other (by omega)).trans (g1.block _ (by omega))
    have hL1 : L < (W1.putObj L o).heap.size := by rw [hz2]; have := g1.size; omega
    generalize W1.putObj L o = W2 at *
    have d2 : W2.cell? ⟨w.heap.size, 0, none⟩ = some (.pointer (some ⟨p, 0, none⟩)) := Blk.cell (k := 0) hB2 rfl
    have hld := run_load_blk W2 36 W.heap.size _ (zk y) _ c2 Try.underlying36 rfl size16
    gi_wp2_with (first | (refine wpListIn_load_run rfl _ (.tmp 4) rfl rfl hld ?_) | (refine ⟨trivial, ?_⟩; gi_at_call 101; refine (CallsIn.inRound L (callsIn_wide.2 (sptake_any s' hs' y y hy 0 p W2 hb2))).mono ?_; rintro e W3 ⟨rfl, g3, b3'⟩))
    refine ⟨KeepsOthers.of_grownBy g3 (fun j o' e hj => by cases e; have := hj.symm.trans hb2; cases this; rfl), fun o' => ?_⟩
    have hs3 := g3.size
    have pL : p ≠ L := by omega
    refine ⟨(K2.trans (Kp.grown g3 (by omega) (.inl rfl))).trans (Kp.putObj W3 o' (by omega) (by omega)), ?_, ?_, b3'.putObj pL o'⟩
    · exact (World.putObj_heap_other (by omega)).trans ((g3.block _ (by omega) (fun e => by cases e; omega)).trans E2)
    · exact (World.putObj_heap_other (by omega)).trans ((g3.block _ (by omega) (fun e => by cases e; omega)).trans E1)
end Go.Proofs.Ytcfepoopkfhojaa
namespace Go.Proofs.Ytcfepoopkfhojaa
open Go.ChangeShapes Go.WideShapes Go.ChangeAt Go.RowKit Go.Shelf
attribute [local go_sem] Oper.semAt_some
def eightL (n : Nat) : List UInt8 := (List.range 8).map fun j => UInt8.ofNat (byt (n : Int) j).toNat
theorem eightL_len (n : Nat) : (eightL n).length = 8 := by simp [eightL]
theorem eight_src (n : Nat) (hn : (n : Int) < 9223372036854775808) (p : Nat) (w : World) (hp : p < w.heap.size) :
    Calls Try.prog 99 #[.int .i64 (n : Int)] w fun e w' => e = .returned (.slice (some ⟨w.heap.size, 0, none⟩) 8 8) ∧ Below w.heap.size w w' ∧ Rd w' (some ⟨w.heap.size, 0, none⟩) (eightL n) := by
  refine (eight_any (n : Int) (Int.natCast_nonneg _) hn w).mono ?_
  rintro e w' ⟨rfl, hb, hr⟩
  refine ⟨rfl, hb, fun _ => ⟨_, rfl, hr.lt, fun j b hj => ?_⟩⟩
  have hj8 : j < 8 := by have := (List.getElem?_eq_some_iff.1 hj).1; rwa [eightL_len] at this
  rw [zqa, Nat.zero_add, hr.cell hj8]
  unfold eightL at hj
  rw [List.getElem?_map, List.getElem?_range hj8] at hj
  obtain rfl := Option.some.inj hj
  unfold bv
  have := byt_bd (n : Int) j
  have e : (UInt8.ofNat (byt (n : Int) j).toNat).toNat = (byt (n : Int) j).toNat := by simp; omega
  rw [e, Int.toNat_of_nonneg this.1]
def cat : List (List UInt8) → List UInt8
  | [] => []
  | l :: L => eightL l.length ++ l ++ cat L
theorem cat_append (L M : List (List UInt8)) : cat (L ++ M) = cat L ++ cat M := by
  induction L with
  | nil => rfl
  | cons l L ih => simp only [List.cons_append, cat, ih, List.append_assoc]
theorem cat_snoc (L : List (List UInt8)) (l : List UInt8) : cat (L ++ [l]) = cat L ++ eightL l.length ++ l := by
  rw [cat_append]; simp [cat]
def PSrc (N p : Nat) (w : World) (A : Option Addr) (L : List (List UInt8)) : Prop :=
  0 < L.length → ∃ b o, A = some ⟨b, o, none⟩ ∧ b < N ∧ b ≠ p ∧ ∀ j l, L[j]? = some l → ∃ A' c', w.cell? ⟨b, o + j, none⟩ = some (.slice A' l.length c') ∧ l.length ≤ c' ∧ c' ≤ maxLen ∧ (A' = none → c' = 0) ∧ Src N p w A' l
theorem PSrc.kp {N p : Nat} {w w' : World} {A : Option Addr} {L : List (List UInt8)} (h : PSrc N p w A L) (k : Kp N p w w') : PSrc N p w' A L := fun hl => by
  obtain ⟨b, o, e, h1, h2, h3⟩ := h hl
  refine ⟨b, o, e, h1, h2, fun j l hj => ?_⟩
  obtain ⟨A', c', q1, q2, q3, q4, q5⟩ := h3 j l hj
  exact ⟨A', c', (cell_same (k.block b h1 h2)).trans q1, q2, q3, q4, q5.kp k⟩
theorem Src.mono {N M p : Nat} {w : World} {A : Option Addr} {l : List UInt8} (h : Src N p w A l) (hM : N ≤ M) : Src M p w A l := fun hl => by
  obtain ⟨b, o, e, h1, h2⟩ := h hl
  exact ⟨b, o, e, by omega, h2⟩
theorem PSrc.mono {N M p : Nat} {w : World} {A : Option Addr} {L : List (List UInt8)} (h : PSrc N p w A L) (hM : N ≤ M) : PSrc M p w A L := fun hl => by
  obtain ⟨b, o, e, h1, h2, h3⟩ := h hl
  refine ⟨b, o, e, by omega, h2, fun j l hj => ?_⟩
  obtain ⟨A', c', q1, q2, q3, q4, q5⟩ := h3 j l hj
  exact ⟨A', c', q1, q2, q3, q4, q5.mono hM⟩
def SpF (w : World) (p : Nat) (T : W8 × List UInt8) : Prop := SpAt w p T.1 T.2
theorem counted1_any (N p bx l D : Nat) (o1 o2 : Obj) (W0 : World) (s0 : W8) (l0 : List UInt8) (A : Option Addr) (c : Nat) (L : List (List UInt8)) (hbx : bx < N) (hbp : bx ≠ p) (hl : N ≤ l) (hD : N ≤ D) (hpN : p < N) (hNW : N ≤ W0.heap.size)
    (hS0 : SpAt W0 p s0 l0) (hR0 : PSrc N p W0 A L) (hB0 : Blk W0 bx 62 #[.slice A L.length c]) (hc0 : L.length ≤ c) (hm0 : c ≤ maxLen) (hrec : RecAt l D o1 o2 W0)
    (hY : ∀ (s : W8) (l' : List UInt8) (A' : Option Addr) (c' : Nat) (b : List UInt8) (W : World), SpAt W p s l' → Src W.heap.size p W A' b → b.length ≤ c' → c' ≤ maxLen → (A' = none → c' = 0) → RecAt l D o1 o2 W → Kp N p W0 W →
      YieldAt Fence.wide 1 Try.prog l #[.slice A' b.length c'] W fun e W' => e = .returned (.bool true) ∧ RecAt l D o1 o2 W' ∧ (Kp N p W W' ∧ SpAt W' p (feed s (l' ++ b)).1 (feed s (l' ++ b)).2)) :
    CallsIn Fence.wide 2 Try.prog 98 #[.func (.yield l) #[] #[], .pointer (some ⟨bx, 0, none⟩)] W0 fun e W' => (∃ v, e = .returned v) ∧ RecAt l D o1 o2 W' ∧ SpAt W' p (feed s0 (l0 ++ cat L)).1 (feed s0 (l0 ++ cat L)).2 ∧ Kp N p W0 W' := by
  refine callsIn_wide.2 ?_
  obtain ⟨m, hm⟩ : ∃ m, L.length = m := ⟨_, rfl⟩
  rw [hm] at hB0 hc0
  unfold maxLen at hm0
  have cB : W0.cell? ⟨bx, 0, none⟩ = some (.slice A m c) := hB0.cell (k := 0) rfl
  have HM := hid hm
  have EMP := hid (show cat (L.take 0) = [] from rfl)
  clear hm
  go_enter Try.func98, Try.ntmps98
  go_wp2
  go_loopw [7] (fun i wr => ∃ k : Nat, k ≤ m ∧ i = .int .i64 k ∧ SpF wr p (feed s0 (l0 ++ cat (L.take k))) ∧ RecAt l D o1 o2 wr ∧ Kp N p W0 wr) (fun i _ => m - (intOf i).toNat)
  case atStart => exact ⟨0, by omega, rfl, by
    rw [EMP.out, List.append_nil]
    have h16 : l0.length < 16 := by obtain ⟨y, _, _, _, _, h⟩ := hS0; exact h
    rw [feed_lt h16]; exact hS0, hrec, Kp.refl _ _ _⟩
  case round =>
    obtain ⟨k, hk, rfl, hS, hre, hK⟩ := hrel
    clear hS0 hrec hB0
    by_cases hlt : k < m
    · obtain ⟨q, hq⟩ : ∃ q, L[k]? = some q := ⟨_, List.getElem?_eq_getElem (by rw [HM.out]; exact hlt)⟩
      obtain ⟨bb, o, rfl, h1, h2, h3⟩ := (hR0.kp hK) (by rw [HM.out]; omega)
      obtain ⟨A', c', q1, q2, q3, q4, q5⟩ := h3 k q hq
      obtain ⟨n, hn⟩ : ∃ n, q.length = n := ⟨_, rfl⟩
      rw [hn] at q1
      have hnb : (n : Int) < 9223372036854775808 := by unfold maxLen at q3; omega
      have hn0 : (0 : Int) ≤ (n : Int) := Int.natCast_nonneg _
      have HQ := hid hq
      have HN := hid hn
      have hSp := hS.lt
      clear h3 hq hn
      go_upto_region 3 with (fail)
      refine (wpIn_wide (n := 2)).1 ?_
      gi_wp2_with (refine ⟨trivial, ?_⟩; gi_at_call 99; refine (callsIn_wide.2 (eight_src n hnb p _ hSp)).mono ?_; rintro e W1 ⟨rfl, b1, rd1⟩; obtain ⟨fn1, tmps1, assign1, body1, hy1, hRo1⟩ := hY _ _ (some ⟨wr.heap.size, 0, none⟩) 8 (eightL n) W1 (hS.of_block (b1.block p hSp)) (Src.of_rd rd1 (fun b o e => by cases e; omega)) (by rw [eightL_len]; exact Nat.le_refl _) (by unfold maxLen; omega) (fun h => by cases h) (hre.kept (KeepsOthers.of_grownBy (grownBy_of_below b1 none) (fun j o e => by cases e))) (hK.trans (Kp.below (b1.mono (Nat.le_trans hNW hK.size)))); rw [eightL_len] at hy1)
      clear cB
      refine hRo1.mono ?_
      rintro e W2 ⟨rfl, r2, K2, S2⟩
      clear hRo1 hy1 hre
      have K02 : Kp N p W0 W2 := (hK.trans (Kp.below (b1.mono (Nat.le_trans hNW hK.size)))).trans K2
      have Kr2 : Kp N p wr W2 := (Kp.below (b1.mono (Nat.le_trans hNW hK.size))).trans K2
      obtain ⟨fn2, tmps2, assign2, body2, hy2, hRo2⟩ := hY _ _ A' c' q W2 S2 ((q5.kp Kr2).mono (Nat.le_trans hNW K02.size)) q2 q3 q4 r2 K02
      rw [HN.out] at hy2
      gi_wp2
      refine hRo2.mono ?_
      rintro e W3 ⟨rfl, r3, K3, S3⟩
      gi_wp2
      go_wp2
      go_roundw
      case rel =>
        refine ⟨k + 1, by omega, by go_num, ?_, r3, K02.trans K3⟩
        have e1 : L.take (k + 1) = L.take k ++ [q] := by rw [List.take_add_one, HQ.out]; rfl
        have e2 : feed s0 (l0 ++ cat (L.take (k + 1))) = feed (feed (feed s0 (l0 ++ cat (L.take k))).1 ((feed s0 (l0 ++ cat (L.take k))).2 ++ eightL n)).1 ((feed (feed s0 (l0 ++ cat (L.take k))).1 ((feed s0 (l0 ++ cat (L.take k))).2 ++ eightL n)).2 ++ q) := by
          rw [e1, cat_snoc, HN.out, ← feed_append]
          simp only [List.append_assoc]
          rw [← feed_append]
          simp only [List.append_assoc]
        rw [e2]
        exact S3
      case measure => simp [intOf]; omega
    · obtain rfl : k = m := by omega
      go_wp2
      go_end0
      refine ⟨⟨_, rfl⟩, hre, ?_, hK⟩
      have := hS
      rw [List.take_of_length_le (by rw [HM.out]; exact Nat.le_refl _)] at this
      exact this
/-! each(counted(parts...), s.Write). -/
theorem spcounted_any (A : Option Addr) (n c : Nat) (w : World) :
    Calls Try.prog 86 #[.slice A n c] w fun e w' => e = .returned (.func (.func 98) #[] #[.pointer (some ⟨w.heap.size, 0, none⟩)]) ∧ w' = w.alloc (.cells #[.slice A n c] 62) := by
  go_enter Try.func86, Try.ntmps86
  go_wp2
  go_ret
  exact ⟨rfl, rfl⟩
structure Piece where
  s : W8
  l : List UInt8
  A : Option Addr
  c : Nat
  b : List UInt8
theorem each_any (p bx : Nat) (s : W8) (l : List UInt8) (A : Option Addr) (c : Nat) (L : List (List UInt8)) (hc : L.length ≤ c) (hm : c ≤ maxLen) (w : World) (hbp : bx ≠ p) (hS : SpAt w p s l) (hR : PSrc w.heap.size p w A L) (hB : Blk w bx 62 #[.slice A L.length c]) :
    Calls Try.prog 85 #[.func (.func 98) #[] #[.pointer (some ⟨bx, 0, none⟩)], .func (.func 87) #[.pointer (some ⟨p, 0, none⟩)] #[]] w fun e w' => e = .returned (.tuple #[]) ∧ w.grownBy w' (some p) ∧ SpAt w' p (feed s (l ++ cat L)).1 (feed s (l ++ cat L)).2 := by
  have hp := hS.lt
  have hbl := hB.lt
  refine (callsIn_wide (n := 3)).1 ?_
  refine callsIn_of_wp_marks (n := 3) Try.func85 rfl trivial ?_ rfl
  simp only [Try.ntmps85, List.size_toArray, List.length_cons, List.length_nil, Nat.reduceAdd, Nat.reduceSub, Array.replicate_succ, Array.replicate_zero, List.push_toArray, List.append_toArray, List.nil_append, List.cons_append]
  gi_wp2
  obtain ⟨w3, hw3⟩ : ∃ w3, w3 = w.alloc (.cells #[.func (.func 87) #[.pointer (some ⟨p, 0, none⟩)] #[]] 126) := ⟨_, rfl⟩
  have hz : w3.heap.size = w.heap.size + 1 := by rw [hw3]; simp
  have B0 : Blk w3 w.heap.size 126 #[.func (.func 87) #[.pointer (some ⟨p, 0, none⟩)] #[]] := by rw [hw3]; exact Blk.new w _ _
  have b3 : Below w.heap.size w w3 := by rw [hw3]; exact zma w _
  rw [← hw3]
  clear hw3
  have S3 : SpAt w3 p s l := hS.of_block (b3.block p hp)
  have R3 : PSrc (w.heap.size + 1) p w3 A L := (hR.kp (Kp.below b3)).mono (by omega)
  refine wpIn_range (n := 3) rfl (by omega) (gf := 98) (lb := #[.pointer (some ⟨bx, 0, none⟩)]) rfl trivial (enters_of Try.func98 (by kernel_rfl) rfl)
    (α := Piece) (fun x => #[.slice x.A x.b.length x.c]) (fun _ => rfl)
    (fun x W => SpAt W p x.s x.l ∧ Src W.heap.size p W x.A x.b ∧ x.b.length ≤ x.c ∧ x.c ≤ maxLen ∧ (x.A = none → x.c = 0) ∧ Blk W w.heap.size 126 #[.func (.func 87) #[.pointer (some ⟨p, 0, none⟩)] #[]])
    (fun x W W' => Kp (w.heap.size + 1) p W W' ∧ SpAt W' p (feed x.s (x.l ++ x.b)).1 (feed x.s (x.l ++ x.b)).2)
    (fun W => SpAt W p (feed s (l ++ cat L)).1 (feed s (l ++ cat L)).2 ∧ Kp (w.heap.size + 1) p w3 W) ?round ?iter ?done
  case iter =>
    intro Lr D o1 o2 W1 hD hL hW1 hrec hY
    rw [hz] at hD hL
    have z1 : W1.heap.size = w.heap.size + 3 := by rw [hW1]; simp; omega
    have b1 : Below w3.heap.size w3 W1 := by rw [hW1]; exact ((Below.refl _ _).alloc (Nat.le_refl _) _).alloc (by simp) _
    have K31 : Kp (w.heap.size + 1) p w3 W1 := Kp.below (b1.mono (by omega))
    refine (counted1_any (w.heap.size + 1) p bx Lr D o1 o2 W1 s l A c L (by omega) hbp (by omega) (by omega) (by omega) (by omega) (S3.of_block (b1.block p (by omega))) (R3.kp K31) ((b1.block bx (by omega)).trans ((b3.block bx hbl).trans hB)) hc hm hrec ?_).mono ?_
    · intro s' l' A' c' b W hs' hsrc hb1 hb2 hb3 hr' hK'
      exact hY ⟨s', l', A', c', b⟩ W ⟨hs', hsrc, hb1, hb2, hb3, ((hK'.block w.heap.size (by omega) (by omega)).trans (b1.block _ (by omega))).trans B0⟩ hr'
    · rintro e W' ⟨h1, h2, h3, h4⟩
      exact ⟨h1, h2, h3, K31.trans h4⟩
  case done =>
    intro Lr D o W hD hL ⟨hf, hk⟩ hlt hnc hdd
    gi_wp2
    have pL : p ≠ Lr := by omega
    have pD : p ≠ D := by omega
    refine ⟨by simp, .inl ⟨_, _, rfl, run_takeDeferred hdd, ?_⟩⟩
    refine ⟨_, results_none rfl _ _ _, rfl, ?_, ?_⟩
    · refine Kp.grownBy ?_
      have k1 : Kp w.heap.size p w3 W := hk.mono (by omega)
      have k2 := Kp.putObj (N := w.heap.size) (p := p) W o (by omega : w.heap.size ≤ Lr) hlt
      have hDl : D < (W.putObj Lr o).heap.size := (Array.getElem?_eq_some_iff.1 hdd).1
      exact ((Kp.below b3).trans k1).trans (k2.trans (Kp.putObj _ _ (by omega) hDl))
    · exact (hf.of_block (World.putObj_heap_other pL)).of_block (World.putObj_heap_other pD)
  case round =>
    rintro Lr ⟨s', l', A', c', b'⟩ W hlo hlt ⟨hs', hsrc, hb1, hb2, hb3, hB0⟩
    dsimp only at hs' hsrc hb1 hb2 hb3
    obtain ⟨n, hn⟩ : ∃ n, b'.length = n := ⟨_, rfl⟩
    dsimp only
    rw [hn] at hb1 ⊢
    gi_wp2
    refine ⟨KeepsOthers.refl W, fun o hnc => ?_⟩
    have pL : p ≠ Lr := by omega
    have hz2 : (W.putObj Lr o).heap.size = W.heap.size := by simp [World.putObj]
    have hB2 := hB0.putObj (hB0.ne_rec hnc) o
    have hS2 := hs'.of_block (World.putObj_heap_other (w := W) (r := Lr) (o := o) pL)
    have hsrc2 : Src (W.putObj Lr o).heap.size p (W.putObj Lr o) A' b' := by
      rw [hz2]
      intro hl
      obtain ⟨bb, oo, e, h1, h2, h3⟩ := hsrc hl
      refine ⟨bb, oo, e, h1, h2, fun j x hx => ?_⟩
      have hne : bb ≠ Lr := by
        rintro rfl
        have h4 := h3 0 b'[0] (List.getElem?_eq_getElem hl)
        obtain ⟨ob, ho, hc⟩ : ∃ ob, W.heap[bb]? = some ob ∧ ob.isCells = true := by
          unfold World.cell? at h4
          cases ho : W.heap[bb]? with
          | none => rw [ho] at h4; simp at h4
          | some ob => refine ⟨ob, rfl, ?_⟩; rw [ho] at h4; cases ob <;> simp_all [Obj.isCells]
        have := hnc ob ho
        rw [hc] at this; cases this
      exact (cell_same (World.putObj_heap_other hne)).trans (h3 j x hx)
    have K2 : Kp (w.heap.size + 1) p W (W.putObj Lr o) := Kp.putObj W o (by omega) hlt
    generalize W.putObj Lr o = W2 at *
    have d2 : W2.cell? ⟨w.heap.size, 0, none⟩ = some (.func (.func 87) #[.pointer (some ⟨p, 0, none⟩)] #[]) := Blk.cell (k := 0) hB2 rfl
    gi_wp2_with (refine ⟨trivial, ?_⟩; gi_at_call 87; refine (CallsIn.inRound Lr (callsIn_wide.2 (write_any p s' l' A' b' n c' hn hb1 hb2 hb3 W2 hS2 hsrc2))).mono ?_; rintro e W3 ⟨rfl, g3, S3'⟩)
    obtain ⟨y2, _, _, hblk, _⟩ := hS2
    refine ⟨KeepsOthers.of_grownBy g3 (fun j o' e hj => by cases e; have := hj.symm.trans hblk; cases this; rfl), fun o' => ?_⟩
    have hs3 := g3.size
    exact ⟨(K2.trans (Kp.grown g3 (by omega) (.inl rfl))).trans (Kp.putObj W3 o' (by omega) (by omega)), S3'.of_block (World.putObj_heap_other pL)⟩
end Go.Proofs.Ytcfepoopkfhojaa
namespace Go.Proofs.Ytcfepoopkfhojaa
open Go.ChangeShapes Go.WideShapes Go.ChangeAt Go.RowKit Go.Shelf
def zeroW : W8 := ⟨0, 0, 0, 0, 0, 0, 0, 0⟩
theorem zeroW_ok : zeroW.ok := by unfold W8.ok zeroW; decide
def pad16 (L : List UInt8) : List UInt8 := L ++ List.replicate ((16 - L.length % 16) % 16) 0
theorem pad16_mod (L : List UInt8) : (pad16 L).length % 16 = 0 := by unfold pad16; rw [List.length_append, List.length_replicate]; omega
theorem feed_mod (s : W8) (L : List UInt8) : (feed s L).2.length = L.length % 16 := by
  induction h : L.length using Nat.strongRecOn generalizing s L with
  | _ n ih =>
    by_cases h16 : L.length < 16
    · rw [feed_lt h16, ← h, Nat.mod_eq_of_lt h16]
    · rw [feed_ge (by omega)]
      have := ih (L.drop 16).length (by rw [List.length_drop]; omega) (takeW (byI L) s) (L.drop 16) rfl
      rw [this, List.length_drop]
      omega
theorem feed_full {s : W8} {L : List UInt8} (h : L.length % 16 = 0) : feed s L = ((feed s L).1, []) := by
  have := feed_mod s L
  rw [h] at this
  exact Prod.ext rfl (List.eq_nil_of_length_eq_zero this)
def initW (key : List UInt8) : W8 := (feed zeroW (pad16 (eightL key.length ++ key))).1
theorem make_zeros (n : Nat) (hn : n ≤ 1000) (w : World) : (Instr.makeSlice 23 (.int .i64 (n : Int)) (.int .i64 (n : Int))).run Try.prog w = .ok (.slice (some ⟨w.heap.size, 0, none⟩) n n) (w.alloc (.cells (madeCells #[.int .u8 0] n) 5)) := by
  obtain ⟨i, h1, h2, h3, h4⟩ := info_u8
  exact run_make_row 23 5 i (.int .u8 0) Try.underlying23 h1 h2 h3 rfl .i64 .i64 n (by rw [h4]; omega) (by omega) w
theorem rd_zeros (n : Nat) (w : World) : Rd (w.alloc (.cells (madeCells #[.int .u8 0] n) 5)) (some ⟨w.heap.size, 0, none⟩) (List.replicate n 0) := fun hp => by
  have hr := World.rowIs_made w (.int .u8 0) n 5
  refine ⟨_, rfl, hr.lt, fun j b hj => ?_⟩
  have hjn : j < n := by have := (List.getElem?_eq_some_iff.1 hj).1; rwa [List.length_replicate] at this
  rw [List.getElem?_replicate, if_pos hjn] at hj
  obtain rfl := Option.some.inj hj
  rw [zqa, Nat.zero_add, hr.cell hjn]; rfl
theorem new_any (A : Option Addr) (key : List UInt8) (n c : Nat) (hn : key.length = n) (hc : n ≤ c) (hm : c ≤ maxLen) (hA : A = none → c = 0) (w : World) (hR : Rd w A key) :
    Calls Try.prog 84 #[.slice A n c] w fun e w' => ∃ p, e = .returned (.pointer (some ⟨p, 0, none⟩)) ∧ w.heap.size ≤ p ∧ SpAt w' p (initW key) [] ∧ Below w.heap.size w w' := by
  go_enter Try.func84, Try.ntmps84
  go_wp2_with fail
  obtain ⟨Wa, hWa⟩ : ∃ Wa, Wa = (w.alloc (.cells #[Value.int .u32 0, .int .u32 0, .int .u32 0, .int .u32 0, .int .u32 0, .int .u32 0, .int .u32 0, .int .u32 0, .int .u8 0, .int .u8 0, .int .u8 0, .int .u8 0, .int .u8 0, .int .u8 0, .int .u8 0, .int .u8 0, .int .u8 0, .int .u8 0, .int .u8 0, .int .u8 0, .int .u8 0, .int .u8 0, .int .u8 0, .int .u8 0, .int .i64 0] 140)).alloc (.cells #[.slice A n c] 23) := ⟨_, rfl⟩
  rw [← hWa]
  have za : Wa.heap.size = w.heap.size + 2 := by rw [hWa]; simp
  have ba : Below w.heap.size w Wa := by rw [hWa]; exact ((Below.refl _ _).alloc (Nat.le_refl _) _).alloc (by simp) _
  have Sa : SpAt Wa w.heap.size zeroW [] := ⟨fun _ => 0, fun _ => (show (0:Int) ≤ 0 ∧ (0:Int) < 256 from ⟨by omega, by omega⟩), fun k hk => absurd hk (by simp), by rw [hWa]; exact (Blk.new w 140 (arrS zeroW (fun _ => 0) 0)).alloc _, zeroW_ok, by decide⟩
  have Ka : Blk Wa (w.heap.size + 1) 23 #[.slice A n c] := by
    rw [hWa]
    have := Blk.new (w.alloc (.cells #[Value.int .u32 0, .int .u32 0, .int .u32 0, .int .u32 0, .int .u32 0, .int .u32 0, .int .u32 0, .int .u32 0, .int .u8 0, .int .u8 0, .int .u8 0, .int .u8 0, .int .u8 0, .int .u8 0, .int .u8 0, .int .u8 0, .int .u8 0, .int .u8 0, .int .u8 0, .int .u8 0, .int .u8 0, .int .u8 0, .int .u8 0, .int .u8 0, .int .i64 0] 140)) 23 #[.slice A n c]
    rw [World.size_alloc] at this
    exact this
  have ra : Src (w.heap.size) w.heap.size w A key := fun hl => by
    obtain ⟨b, o, e, h1, h2⟩ := hR.at hl
    exact ⟨b, o, e, h1, by omega, h2⟩
  clear hWa
  refine (spcounted_any _ 1 1 _).mono ?_
  rintro e w1 ⟨rfl, hw1⟩
  have S1 : SpAt w1 w.heap.size zeroW [] := Sa.of_block (by rw [hw1]; exact Below.heap_alloc _ _ _ (by omega))
  have b1 : Below w.heap.size w w1 := by rw [hw1]; exact ba.alloc (by omega) _
  have B1 : Blk w1 Wa.heap.size 62 #[.slice (some ⟨w.heap.size + 1, 0, none⟩) 1 1] := by rw [hw1]; exact Blk.new Wa _ _
  have P1 : PSrc w1.heap.size w.heap.size w1 (some ⟨w.heap.size + 1, 0, none⟩) [key] := fun _ => by
    have hs1 : w1.heap.size = w.heap.size + 3 := by rw [hw1]; simp; omega
    have Kb : Blk w1 (w.heap.size + 1) 23 #[.slice A n c] := by rw [hw1]; exact Ka.alloc _
    refine ⟨w.heap.size + 1, 0, rfl, by omega, by omega, fun j l hj => ?_⟩
    obtain rfl : j = 0 := by
      have := (List.getElem?_eq_some_iff.1 hj).1
      simp at this; omega
    obtain rfl : key = l := Option.some.inj hj
    exact ⟨A, c, by rw [hn]; exact Kb.cell (k := 0) rfl, by rw [hn]; exact hc, hm, hA, (ra.kp (Kp.below b1)).mono (by omega)⟩
  clear hw1 Sa Ka ra ba
  rw [za] at B1 ⊢
  clear za
  go_wp2_with fail
  refine (each_any w.heap.size (w.heap.size + 2) zeroW [] (some ⟨w.heap.size + 1, 0, none⟩) 1 [key] (by simp) (by unfold maxLen; omega) w1 (by omega) S1 P1 B1).mono ?_
  rintro e w2 ⟨rfl, g2, S2⟩
  have b2 : Below w.heap.size w w2 := ze b1 g2 b1.size (Nat.le_refl _)
  have hT : feed zeroW ([] ++ cat [key]) = feed zeroW (eightL key.length ++ key) := by simp [cat]
  rw [hT] at S2
  obtain ⟨T, hTT⟩ : ∃ T, T = feed zeroW (eightL key.length ++ key) := ⟨_, rfl⟩
  have hmod := feed_mod zeroW (eightL key.length ++ key)
  rw [← hTT] at S2 hmod
  have hfin : initW key = (feed T.1 (T.2 ++ List.replicate ((16 - (eightL key.length ++ key).length % 16) % 16) 0)).1 := by
    unfold initW pad16
    rw [feed_append, ← hTT]
  have HF := hid hfin
  have hpad := pad16_mod (eightL key.length ++ key)
  have hfull : (feed T.1 (T.2 ++ List.replicate ((16 - (eightL key.length ++ key).length % 16) % 16) 0)).2 = [] := by
    rw [hTT, ← feed_append]
    have := feed_full (s := zeroW) (L := pad16 (eightL key.length ++ key)) hpad
    unfold pad16 at this
    rw [this]
  have HE := hid hfull
  clear hfin hfull hpad hT hTT S1 P1 B1
  obtain ⟨s, l⟩ := T
  dsimp only at S2 hmod HF HE
  rw [← hmod] at HF HE
  clear hmod
  obtain ⟨h, hh⟩ : ∃ h, l.length = h := ⟨_, rfl⟩
  rw [hh] at HF HE
  have hlt := S2.lt
  have S2' := S2
  obtain ⟨y, hy, hyl, hb, hsok, hl16⟩ := S2
  rw [hh] at hb hl16
  have hc24 : w2.cell? ⟨w.heap.size, 24, none⟩ = some (.int .i64 (h : Int)) := hb.cell (k := 24) rfl
  clear hb hy hyl
  by_cases h0 : h = 0
  · subst h0
    obtain rfl : l = [] := List.eq_nil_of_length_eq_zero hh
    have e1 : feed s ([] ++ List.replicate ((16 - 0) % 16) 0) = (s, []) := feed_lt (by simp)
    have HF2 : Hid (initW key = s) := hid (by rw [HF.out, e1])
    clear HF HE e1 hh
    go_wp2
    go_ret
    exact ⟨_, rfl, Nat.le_refl _, by rw [HF2.out]; exact S2', b2⟩
  · obtain ⟨m, hm16, hm0⟩ : ∃ m, h + m = 16 ∧ 0 < m := ⟨16 - h, by omega, by omega⟩
    have hI : (16 : Int) - (h : Int) = (m : Int) := by omega
    have e2 : (16 - h) % 16 = m := by omega
    rw [e2] at HF HE
    have hpos : decide (0 < h) = true := by rw [decide_eq_true_iff]; omega
    have hpn : 0 < h := by omega
    have hmk := make_zeros m (by omega)
    have HH := hid hh
    clear hh e2 h0
    go_wp2_with fail
    clear hmk
    have bz := zma w2 (.cells (madeCells #[.int .u8 0] m) 5)
    refine (write_any w.heap.size s l (some ⟨w2.heap.size, 0, none⟩) (List.replicate m 0) m m (by simp) (Nat.le_refl _) (by unfold maxLen; omega) (fun h => by cases h) _ (S2'.of_block (bz.block _ hlt)) (Src.of_rd (rd_zeros m w2) (fun b o e => by cases e; omega))).mono ?_
    rintro e w3 ⟨rfl, g3, S3⟩
    rw [HE.out, ← HF.out] at S3
    have b3 : Below w.heap.size w w3 := ze (b2.trans (bz.mono b2.size)) g3 (Nat.le_trans b2.size bz.size) (Nat.le_refl _)
    go_wp2
    go_ret
    exact ⟨_, rfl, Nat.le_refl _, S3, b3⟩
end Go.Proofs.Ytcfepoopkfhojaa
/- (*Sponge).Sum. -/
namespace Go.Proofs.Ytcfepoopkfhojaa
open Go.ChangeShapes Go.WideShapes Go.ChangeAt Go.RowKit Go.Shelf
def wrd (s : W8) (i : Nat) : Int := match i with | 0 => s.x0 | 1 => s.x1 | 2 => s.x2 | _ => s.x3
def outF (s : W8) (k : Nat) : Int := wrd s (k / 4) / ((256 ^ (k % 4) : Nat) : Int) % 256
theorem outF_bd (s : W8) (k : Nat) : 0 ≤ outF s k ∧ outF s k < 256 := by unfold outF; omega
def partF (s : W8) (k j : Nat) : Int := if j < k then outF s j else 0
def W8.one7 (s : W8) : W8 := { s with x7 := xorW s.x7 1 }
theorem ok_one7 {s : W8} (h : s.ok) : s.one7.ok := by
  obtain ⟨h0, h1, h2, h3, h4, h5, h6, h7⟩ := h
  exact ⟨h0, h1, h2, h3, h4, h5, h6, zpa _ _⟩
def sumW (s : W8) (l : List UInt8) : W8 := mixW (feed s (pad16 (l ++ [128]))).1.one7
theorem ok_sumW {s : W8} (h : s.ok) (l : List UInt8) : (sumW s l).ok := ok_mixW (ok_one7 (feed_ok h _))
theorem size25 : (Try.prog.info? 140).map (·.size) = some 25 := by kernel_rfl
theorem size35 : (Try.prog.info? 37).map (·.size) = some 16 := by kernel_rfl
theorem arrS_one (s : W8) (y : Nat → Int) (h : Int) : (arrS s y h).all (·.oneCell') = true := by simp [arrS, Value.oneCell']
theorem zoa (y : Nat → Int) : (zk y).all (·.oneCell') = true := by simp [zk, Value.oneCell']
theorem arr16_set (s : W8) {k : Nat} (hk : k < 16) : (zk (partF s k)).setIfInBounds k (.int .u8 (outF s k)) = zk (partF s (k + 1)) := by
  have : k = 0 ∨ k = 1 ∨ k = 2 ∨ k = 3 ∨ k = 4 ∨ k = 5 ∨ k = 6 ∨ k = 7 ∨ k = 8 ∨ k = 9 ∨ k = 10 ∨ k = 11 ∨ k = 12 ∨ k = 13 ∨ k = 14 ∨ k = 15 := by omega
  rcases this with rfl | rfl | rfl | rfl | rfl | rfl | rfl | rfl | rfl | rfl | rfl | rfl | rfl | rfl | rfl | rfl <;> simp [zk, partF]
theorem zfb {w : World} {g k : Nat} {t : TypeId} {s : W8} {V : Int} (hb : Blk w g t (zk (partF s k))) (hk : k < 16) (hv : V = outF s k) : Blk (w.setCell ⟨g, k, none⟩ (.int .u8 V)) g t (zk (partF s (k + 1))) := by
  subst hv
  exact hb.set k _ (arr16_set s hk)
theorem arr16_full (s : W8) : zk (partF s 16) = zk (outF s) := by simp [zk, partF]
theorem arr16_zero (s : W8) : #[Value.int .u8 0, .int .u8 0, .int .u8 0, .int .u8 0, .int .u8 0, .int .u8 0, .int .u8 0, .int .u8 0, .int .u8 0, .int .u8 0, .int .u8 0, .int .u8 0, .int .u8 0, .int .u8 0, .int .u8 0, .int .u8 0] = zk (partF s 0) := by simp [zk, partF]
theorem rd_one (x : UInt8) (w : World) : Rd (w.alloc (.cells #[Value.int .u8 (x.toNat : Int)] 5)) (some ⟨w.heap.size, 0, none⟩) [x] := Bts.rd (t := 5) (heap_alloc_new w (.cells (bvs [x]) 5))
attribute [irreducible] outF
theorem sum_any (p : Nat) (s : W8) (l : List UInt8) (w : World) (hS : SpAt w p s l) :
    Calls Try.prog 88 #[.pointer (some ⟨p, 0, none⟩)] w fun e w' => e = .returned (.agg (zk (outF (sumW s l)))) ∧ Below w.heap.size w w' := by
  have hp := hS.lt
  obtain ⟨y, hy, hyl, hb, hsok, hl16⟩ := hS
  have YL := hid hyl
  have YB := hid hy
  have OK := hid hsok
  obtain ⟨h, hh⟩ : ∃ h, l.length = h := ⟨_, rfl⟩
  rw [hh] at hb hl16
  have HH := hid hh
  clear hyl hy hsok hh
  have hbA := (hb.alloc (.cells #[Value.int .u8 0, .int .u8 0, .int .u8 0, .int .u8 0, .int .u8 0, .int .u8 0, .int .u8 0, .int .u8 0, .int .u8 0, .int .u8 0, .int .u8 0, .int .u8 0, .int .u8 0, .int .u8 0, .int .u8 0, .int .u8 0] 37)).alloc (.cells (arrS zeroW (fun _ => 0) 0) 140)
  have b1 := Blk.new w 37 #[Value.int .u8 0, .int .u8 0, .int .u8 0, .int .u8 0, .int .u8 0, .int .u8 0, .int .u8 0, .int .u8 0, .int .u8 0, .int .u8 0, .int .u8 0, .int .u8 0, .int .u8 0, .int .u8 0, .int .u8 0, .int .u8 0]
  have hb1 := hb.alloc (.cells #[Value.int .u8 0, .int .u8 0, .int .u8 0, .int .u8 0, .int .u8 0, .int .u8 0, .int .u8 0, .int .u8 0, .int .u8 0, .int .u8 0, .int .u8 0, .int .u8 0, .int .u8 0, .int .u8 0, .int .u8 0, .int .u8 0] 37)
  have n3 := heap_alloc_new (w.alloc (.cells #[Value.int .u8 0, .int .u8 0, .int .u8 0, .int .u8 0, .int .u8 0, .int .u8 0, .int .u8 0, .int .u8 0, .int .u8 0, .int .u8 0, .int .u8 0, .int .u8 0, .int .u8 0, .int .u8 0, .int .u8 0, .int .u8 0] 37)) (.cells (arrS zeroW (fun _ => 0) 0) 140)
  rw [World.size_alloc] at n3
  have b1' := b1.alloc (.cells (arrS zeroW (fun _ => 0) 0) 140)
  have bB : Below w.heap.size w ((w.alloc (.cells #[Value.int .u8 0, .int .u8 0, .int .u8 0, .int .u8 0, .int .u8 0, .int .u8 0, .int .u8 0, .int .u8 0, .int .u8 0, .int .u8 0, .int .u8 0, .int .u8 0, .int .u8 0, .int .u8 0, .int .u8 0, .int .u8 0] 37)).alloc (.cells (arrS zeroW (fun _ => 0) 0) 140)) := ((Below.refl _ _).alloc (Nat.le_refl _) _).alloc (by simp) _
  go_enter Try.func88, Try.ntmps88
  go_wp2_with (first | (refine zya rfl _ (.tmp 7) rfl _ rfl _ _ _ hb1 Try.underlying140 rfl size25 ?_) | (refine zaa rfl _ (.tmp 3) _ rfl _ rfl _ rfl (arrS_one _ _ _) _ n3 rfl size25 ?_; intro w2 g2 c2))
  have S2 : SpAt w2 (w.heap.size + 1) s l := ⟨y, YB.out, YL.out, by rw [HH.out]; exact c2, OK.out, by rw [HH.out]; exact hl16⟩
  have z2 := b1'.grown g2 (by simp)
  have B2 : Below w.heap.size w w2 := ze bB g2 (by simp; omega) (by omega)
  have q2 := c2.lt
  clear hb hbA b1 hb1 n3 b1' bB g2 c2
  have bz := zma w2 (.cells #[Value.int .u8 128] 5)
  refine (write_any (w.heap.size + 1) s l (some ⟨w2.heap.size, 0, none⟩) [128] 1 1 rfl (Nat.le_refl _) (by unfold maxLen; omega) (fun h => by cases h) _ (S2.of_block (bz.block _ q2)) (Src.of_rd (rd_one 128 w2) (fun b o e => by cases e; omega))).mono ?_
  rintro e w3 ⟨rfl, g3, S3⟩
  have B3 : Below w.heap.size w w3 := ze (B2.trans (bz.mono B2.size)) g3 (Nat.le_trans B2.size bz.size) (by omega)
  have z3 := (z2.alloc (.cells #[Value.int .u8 128] 5)).grown g3 (by simp)
  obtain ⟨T, hT⟩ : ∃ T, T = feed s (l ++ [128]) := ⟨_, rfl⟩
  have hmod := feed_mod s (l ++ [128])
  rw [← hT] at S3 hmod
  have q3 := S3.lt
  have S3' := S3
  obtain ⟨y3, yb3, yl3, b3, ok3, l3⟩ := S3
  obtain ⟨h3, hh3⟩ : ∃ h3, T.2.length = h3 := ⟨_, rfl⟩
  rw [hh3] at b3 l3 hmod
  obtain ⟨m, hm⟩ : ∃ m : Nat, m = (16 - (l ++ [128]).length % 16) % 16 := ⟨_, rfl⟩
  have hm15 : m ≤ 15 := by omega
  have hI : ((16 : Int) - (h3 : Int)) % 16 = (m : Int) := by rw [hm, ← hmod]; omega
  have hfin : feed T.1 (T.2 ++ List.replicate m 0) = ((feed s (pad16 (l ++ [128]))).1, []) := by
    rw [hT, ← feed_append, hm]
    exact feed_full (pad16_mod _)
  have HF := hid hfin
  have c24 : w3.cell? ⟨w.heap.size + 1, 24, none⟩ = some (.int .i64 (h3 : Int)) := b3.cell (k := 24) rfl
  have hmk := make_zeros m (by omega)
  have h30 : (0 : Int) ≤ (h3 : Int) := Int.natCast_nonneg _
  have h31 : (h3 : Int) < 16 := by omega
  have HM := hid hm
  clear hT hmod hh3 hfin b3 yb3 yl3 ok3 g3 S2 z2 bz B2 hm l3
  go_wp2_with fail
  clear hmk c24 hI
  have bz := zma w3 (.cells (madeCells #[.int .u8 0] m) 5)
  refine (write_any (w.heap.size + 1) T.1 T.2 (some ⟨w3.heap.size, 0, none⟩) (List.replicate m 0) m m (by simp) (Nat.le_refl _) (by unfold maxLen; omega) (fun h => by cases h) _ (S3'.of_block (bz.block _ q3)) (Src.of_rd (rd_zeros m w3) (fun b o e => by cases e; omega))).mono ?_
  rintro e w4 ⟨rfl, g4, S4⟩
  rw [HF.out] at S4
  have B4 : Below w.heap.size w w4 := ze (B3.trans (bz.mono B3.size)) g4 (Nat.le_trans B3.size bz.size) (by omega)
  have z4 := (z3.alloc (.cells (madeCells #[.int .u8 0] m) 5)).grown g4 (by simp)
  obtain ⟨st, hst⟩ : ∃ st, st = (feed s (pad16 (l ++ [128]))).1 := ⟨_, rfl⟩
  rw [← hst] at S4
  have hsum : sumW s l = mixW st.one7 := by unfold sumW; rw [hst]
  have HS := hid hsum
  obtain ⟨y4, yb4, yl4, b4, ok4, l4⟩ := S4
  have ok7 := hid (ok_one7 ok4)
  have c7 : w4.cell? ⟨w.heap.size + 1, 7, none⟩ = some (.int .u32 st.x7) := b4.cell (k := 7) rfl
  have f7 := b4.frozen 7
  have b5 := b4.set 7 (.int .u32 (bits .xor .u32 st.x7 1)) (c' := arrS st.one7 y4 0) (by rw [zmb]; rfl)
  have z5 := z4.far (a := ⟨w.heap.size + 1, 7, none⟩) (.int .u32 (bits .xor .u32 st.x7 1)) (by simp)
  have B5 := B4.setCell (p := ⟨w.heap.size + 1, 7, none⟩) (by simp) (.int .u32 (bits .xor .u32 st.x7 1))
  clear hst hsum yb4 yl4 b4 ok4 l4 g4 S3' z3 bz B3 z4 B4 HF HM
  go_wp2_with (refine wpList_load_sub rfl _ (.tmp 23) rfl _ _ rfl _ _ b5 (arrW st.one7) (arrS_sub _ _ _) _ Try.underlying27 rfl (sizeW _) ?_)
  generalize World.setCell _ _ _ = w5 at *
  refine (mix_any _ ok7.out _).mono ?_
  rintro e w6 ⟨rfl, bM⟩
  rw [← HS.out]
  have okS := hid (ok_sumW OK.out l)
  obtain ⟨F, hF⟩ : ∃ F, F = sumW s l := ⟨_, rfl⟩
  rw [← hF] at okS ⊢
  have HF := hid hF
  have b6 := b5.step bM
  have z6 := z5.step bM
  have B6 := B5.trans (bM.mono B5.size)
  clear hF b5 z5 B5 bM c7 f7
  go_wp2_with (refine wpList_store_sub rfl _ (.tmp 26) _ rfl _ _ rfl (arrW F) rfl (arrW_one _) _ _ b6 (by simp [arrW, arrS]) (arrS F y4 0) rfl (sizeW _) ?_; intro w7 g7 b7)
  have z7 := z6.grown g7 (by simp)
  have B7 := ze B6 g7 B6.size (by omega)
  have b8 := b7.alloc (.cells #[Value.int .u8 0, .int .u8 0, .int .u8 0, .int .u8 0, .int .u8 0, .int .u8 0, .int .u8 0, .int .u8 0, .int .u8 0, .int .u8 0, .int .u8 0, .int .u8 0, .int .u8 0, .int .u8 0, .int .u8 0, .int .u8 0] 37)
  have z8 := z7.alloc (.cells #[Value.int .u8 0, .int .u8 0, .int .u8 0, .int .u8 0, .int .u8 0, .int .u8 0, .int .u8 0, .int .u8 0, .int .u8 0, .int .u8 0, .int .u8 0, .int .u8 0, .int .u8 0, .int .u8 0, .int .u8 0, .int .u8 0] 37)
  have n8 := Blk.new w7 37 #[Value.int .u8 0, .int .u8 0, .int .u8 0, .int .u8 0, .int .u8 0, .int .u8 0, .int .u8 0, .int .u8 0, .int .u8 0, .int .u8 0, .int .u8 0, .int .u8 0, .int .u8 0, .int .u8 0, .int .u8 0, .int .u8 0]
  have B8 := B7.alloc B7.size (.cells #[Value.int .u8 0, .int .u8 0, .int .u8 0, .int .u8 0, .int .u8 0, .int .u8 0, .int .u8 0, .int .u8 0, .int .u8 0, .int .u8 0, .int .u8 0, .int .u8 0, .int .u8 0, .int .u8 0, .int .u8 0, .int .u8 0] 37)
  replace n8 : Blk (w7.alloc (.cells #[Value.int .u8 0, .int .u8 0, .int .u8 0, .int .u8 0, .int .u8 0, .int .u8 0, .int .u8 0, .int .u8 0, .int .u8 0, .int .u8 0, .int .u8 0, .int .u8 0, .int .u8 0, .int .u8 0, .int .u8 0, .int .u8 0] 37)) w7.heap.size 37 (zk (partF F 0)) := by rw [← arr16_zero F]; exact n8
  obtain ⟨g, hg0⟩ : ∃ g, g = w7.heap.size := ⟨_, rfl⟩
  have hgl : w.heap.size + 1 < g := by rw [hg0]; exact b7.lt
  rw [← hg0] at n8
  rw [← hg0]
  clear b6 z6 B6 g7 b7 z7 B7 hg0
  have OUT : Hid (∀ k, k < 16 → outF F k = wrd F (k / 4) / ((256 ^ (k % 4) : Nat) : Int) % 256) := hid (fun k _ => by unfold outF; rfl)
  obtain ⟨⟨x00, x01⟩, ⟨x10, x11⟩, ⟨x20, x21⟩, ⟨x30, x31⟩, -⟩ := okS.out
  generalize World.alloc _ _ = W at *
  go_loopw [27] (fun i wr => ∃ k : Nat, k ≤ 16 ∧ i = .int .i64 k ∧ Blk wr (w.heap.size + 1) 140 (arrS F y4 0) ∧ Blk wr w.heap.size 37 #[Value.int .u8 0, .int .u8 0, .int .u8 0, .int .u8 0, .int .u8 0, .int .u8 0, .int .u8 0, .int .u8 0, .int .u8 0, .int .u8 0, .int .u8 0, .int .u8 0, .int .u8 0, .int .u8 0, .int .u8 0, .int .u8 0] ∧ Blk wr g 37 (zk (partF F k)) ∧ Below w.heap.size w wr) (fun i _ => 16 - (intOf i).toNat)
  case atStart => exact ⟨0, by omega, rfl, b8, z8, n8, B8⟩
  case round =>
    obtain ⟨k, hk, rfl, hq, hz, hg, hB⟩ := hrel
    clear b8 z8 n8 B8
    by_cases hlt : k < 16
    · have hkk : k = 0 ∨ k = 1 ∨ k = 2 ∨ k = 3 ∨ k = 4 ∨ k = 5 ∨ k = 6 ∨ k = 7 ∨ k = 8 ∨ k = 9 ∨ k = 10 ∨ k = 11 ∨ k = 12 ∨ k = 13 ∨ k = 14 ∨ k = 15 := by omega
      clear hlt hk
      rcases hkk with rfl | rfl | rfl | rfl | rfl | rfl | rfl | rfl | rfl | rfl | rfl | rfl | rfl | rfl | rfl | rfl
      · have k1 : wr.cell? ⟨w.heap.size + 1, 0, none⟩ = some (.int .u32 F.x0) := hq.cell (k := 0) rfl
        have k2 : wr.cell? ⟨g, 0, none⟩ = some (.int .u8 0) := hg.cell (k := 0) rfl
        have f1 := hg.frozen 0
        go_wp2
        go_roundw
        case rel => exact ⟨1, by omega, by go_num, hq.far _ (by simp; omega), hz.far _ (by simp; omega), zfb hg (by omega) (by rw [OUT.out 0 (by omega)]; simp [wrd] <;> omega), hB.setCell (by simp; omega) _⟩
        case measure => simp [intOf]
      · have k1 : wr.cell? ⟨w.heap.size + 1, 0, none⟩ = some (.int .u32 F.x0) := hq.cell (k := 0) rfl
        have k2 : wr.cell? ⟨g, 1, none⟩ = some (.int .u8 0) := hg.cell (k := 1) rfl
        have f1 := hg.frozen 1
        go_wp2
        go_roundw
        case rel => exact ⟨2, by omega, by go_num, hq.far _ (by simp; omega), hz.far _ (by simp; omega), zfb hg (by omega) (by rw [OUT.out 1 (by omega)]; simp [wrd] <;> omega), hB.setCell (by simp; omega) _⟩
        case measure => simp [intOf]
      · have k1 : wr.cell? ⟨w.heap.size + 1, 0, none⟩ = some (.int .u32 F.x0) := hq.cell (k := 0) rfl
        have k2 : wr.cell? ⟨g, 2, none⟩ = some (.int .u8 0) := hg.cell (k := 2) rfl
        have f1 := hg.frozen 2
        go_wp2
        go_roundw
        case rel => exact ⟨3, by omega, by go_num, hq.far _ (by simp; omega), hz.far _ (by simp; omega), zfb hg (by omega) (by rw [OUT.out 2 (by omega)]; simp [wrd] <;> omega), hB.setCell (by simp; omega) _⟩
        case measure => simp [intOf]
      · have k1 : wr.cell? ⟨w.heap.size + 1, 0, none⟩ = some (.int .u32 F.x0) := hq.cell (k := 0) rfl
        have k2 : wr.cell? ⟨g, 3, none⟩ = some (.int .u8 0) := hg.cell (k := 3) rfl
        have f1 := hg.frozen 3
        go_wp2
        go_roundw
        case rel => exact ⟨4, by omega, by go_num, hq.far _ (by simp; omega), hz.far _ (by simp; omega), zfb hg (by omega) (by rw [OUT.out 3 (by omega)]; simp [wrd] <;> omega), hB.setCell (by simp; omega) _⟩
        case measure => simp [intOf]
      · have k1 : wr.cell? ⟨w.heap.size + 1, 1, none⟩ = some (.int .u32 F.x1) := hq.cell (k := 1) rfl
        have k2 : wr.cell? ⟨g, 4, none⟩ = some (.int .u8 0) := hg.cell (k := 4) rfl
        have f1 := hg.frozen 4
        go_wp2
        go_roundw
        case rel => exact ⟨5, by omega, by go_num, hq.far _ (by simp; omega), hz.far _ (by simp; omega), zfb hg (by omega) (by rw [OUT.out 4 (by omega)]; simp [wrd] <;> omega), hB.setCell (by simp; omega) _⟩
        case measure => simp [intOf]
      · have k1 : wr.cell? ⟨w.heap.size + 1, 1, none⟩ = some (.int .u32 F.x1) := hq.cell (k := 1) rfl
        have k2 : wr.cell? ⟨g, 5, none⟩ = some (.int .u8 0) := hg.cell (k := 5) rfl
        have f1 := hg.frozen 5
        go_wp2
        go_roundw
        case rel => exact ⟨6, by omega, by go_num, hq.far _ (by simp; omega), hz.far _ (by simp; omega), zfb hg (by omega) (by rw [OUT.out 5 (by omega)]; simp [wrd] <;> omega), hB.setCell (by simp; omega) _⟩
        case measure => simp [intOf]
      · have k1 : wr.cell? ⟨w.heap.size + 1, 1, none⟩ = some (.int .u32 F.x1) := hq.cell (k := 1) rfl
        have k2 : wr.cell? ⟨g, 6, none⟩ = some (.int .u8 0) := hg.cell (k := 6) rfl
        have f1 := hg.frozen 6
        go_wp2
        go_roundw
        case rel => exact ⟨7, by omega, by go_num, hq.far _ (by simp; omega), hz.far _ (by simp; omega), zfb hg (by omega) (by rw [OUT.out 6 (by omega)]; simp [wrd] <;> omega), hB.setCell (by simp; omega) _⟩
        case measure => simp [intOf]
      · have k1 : wr.cell? ⟨w.heap.size + 1, 1, none⟩ = some (.int .u32 F.x1) := hq.cell (k := 1) rfl
        have k2 : wr.cell? ⟨g, 7, none⟩ = some (.int .u8 0) := hg.cell (k := 7) rfl
        have f1 := hg.frozen 7
        go_wp2
        go_roundw
        case rel => exact ⟨8, by omega, by go_num, hq.far _ (by simp; omega), hz.far _ (by simp; omega), zfb hg (by omega) (by rw [OUT.out 7 (by omega)]; simp [wrd] <;> omega), hB.setCell (by simp; omega) _⟩
        case measure => simp [intOf]
      · have k1 : wr.cell? ⟨w.heap.size + 1, 2, none⟩ = some (.int .u32 F.x2) := hq.cell (k := 2) rfl
        have k2 : wr.cell? ⟨g, 8, none⟩ = some (.int .u8 0) := hg.cell (k := 8) rfl
        have f1 := hg.frozen 8
        go_wp2
        go_roundw
        case rel => exact ⟨9, by omega, by go_num, hq.far _ (by simp; omega), hz.far _ (by simp; omega), zfb hg (by omega) (by rw [OUT.out 8 (by omega)]; simp [wrd] <;> omega), hB.setCell (by simp; omega) _⟩
        case measure => simp [intOf]
      · have k1 : wr.cell? ⟨w.heap.size + 1, 2, none⟩ = some (.int .u32 F.x2) := hq.cell (k := 2) rfl
        have k2 : wr.cell? ⟨g, 9, none⟩ = some (.int .u8 0) := hg.cell (k := 9) rfl
        have f1 := hg.frozen 9
        go_wp2
        go_roundw
        case rel => exact ⟨10, by omega, by go_num, hq.far _ (by simp; omega), hz.far _ (by simp; omega), zfb hg (by omega) (by rw [OUT.out 9 (by omega)]; simp [wrd] <;> omega), hB.setCell (by simp; omega) _⟩
        case measure => simp [intOf]
      · have k1 : wr.cell? ⟨w.heap.size + 1, 2, none⟩ = some (.int .u32 F.x2) := hq.cell (k := 2) rfl
        have k2 : wr.cell? ⟨g, 10, none⟩ = some (.int .u8 0) := hg.cell (k := 10) rfl
        have f1 := hg.frozen 10
        go_wp2
        go_roundw
        case rel => exact ⟨11, by omega, by go_num, hq.far _ (by simp; omega), hz.far _ (by simp; omega), zfb hg (by omega) (by rw [OUT.out 10 (by omega)]; simp [wrd] <;> omega), hB.setCell (by simp; omega) _⟩
        case measure => simp [intOf]
      · have k1 : wr.cell? ⟨w.heap.size + 1, 2, none⟩ = some (.int .u32 F.x2) := hq.cell (k := 2) rfl
        have k2 : wr.cell? ⟨g, 11, none⟩ = some (.int .u8 0) := hg.cell (k := 11) rfl
        have f1 := hg.frozen 11
        go_wp2
        go_roundw
        case rel => exact ⟨12, by omega, by go_num, hq.far _ (by simp; omega), hz.far _ (by simp; omega), zfb hg (by omega) (by rw [OUT.out 11 (by omega)]; simp [wrd] <;> omega), hB.setCell (by simp; omega) _⟩
        case measure => simp [intOf]
      · have k1 : wr.cell? ⟨w.heap.size + 1, 3, none⟩ = some (.int .u32 F.x3) := hq.cell (k := 3) rfl
        have k2 : wr.cell? ⟨g, 12, none⟩ = some (.int .u8 0) := hg.cell (k := 12) rfl
        have f1 := hg.frozen 12
        go_wp2
        go_roundw
        case rel => exact ⟨13, by omega, by go_num, hq.far _ (by simp; omega), hz.far _ (by simp; omega), zfb hg (by omega) (by rw [OUT.out 12 (by omega)]; simp [wrd] <;> omega), hB.setCell (by simp; omega) _⟩
        case measure => simp [intOf]
      · have k1 : wr.cell? ⟨w.heap.size + 1, 3, none⟩ = some (.int .u32 F.x3) := hq.cell (k := 3) rfl
        have k2 : wr.cell? ⟨g, 13, none⟩ = some (.int .u8 0) := hg.cell (k := 13) rfl
        have f1 := hg.frozen 13
        go_wp2
        go_roundw
        case rel => exact ⟨14, by omega, by go_num, hq.far _ (by simp; omega), hz.far _ (by simp; omega), zfb hg (by omega) (by rw [OUT.out 13 (by omega)]; simp [wrd] <;> omega), hB.setCell (by simp; omega) _⟩
        case measure => simp [intOf]
      · have k1 : wr.cell? ⟨w.heap.size + 1, 3, none⟩ = some (.int .u32 F.x3) := hq.cell (k := 3) rfl
        have k2 : wr.cell? ⟨g, 14, none⟩ = some (.int .u8 0) := hg.cell (k := 14) rfl
        have f1 := hg.frozen 14
        go_wp2
        go_roundw
        case rel => exact ⟨15, by omega, by go_num, hq.far _ (by simp; omega), hz.far _ (by simp; omega), zfb hg (by omega) (by rw [OUT.out 14 (by omega)]; simp [wrd] <;> omega), hB.setCell (by simp; omega) _⟩
        case measure => simp [intOf]
      · have k1 : wr.cell? ⟨w.heap.size + 1, 3, none⟩ = some (.int .u32 F.x3) := hq.cell (k := 3) rfl
        have k2 : wr.cell? ⟨g, 15, none⟩ = some (.int .u8 0) := hg.cell (k := 15) rfl
        have f1 := hg.frozen 15
        go_wp2
        go_roundw
        case rel => exact ⟨16, by omega, by go_num, hq.far _ (by simp; omega), hz.far _ (by simp; omega), zfb hg (by omega) (by rw [OUT.out 15 (by omega)]; simp [wrd] <;> omega), hB.setCell (by simp; omega) _⟩
        case measure => simp [intOf]
    · obtain rfl : k = 16 := by omega
      rw [arr16_full] at hg
      go_wp2_with (first | (refine zya rfl _ (.tmp 4) rfl _ rfl _ _ _ hg Try.underlying37 rfl size35 ?_) | (refine zaa rfl _ (.tmp 2) _ rfl _ rfl _ rfl (zoa _) _ hz rfl size35 ?_; intro v gv mv))
      exact bodyPost_ret (results_blk rfl rfl mv Try.underlying37 rfl size35) rfl ⟨by rw [HF.out], ze hB gv hB.size (by omega)⟩
end Go.Proofs.Ytcfepoopkfhojaa
namespace Go.Proofs.Ytcfepoopkfhojaa
open Go.ChangeShapes Go.WideShapes Go.ChangeAt Go.RowKit Go.Shelf
theorem Src.any {N q p : Nat} {w : World} {A : Option Addr} {l : List UInt8} (h : Src N q w A l) (hp : N ≤ p) : Src N p w A l := fun hl => by
  obtain ⟨b, o, e, h1, h2, h3⟩ := h hl
  exact ⟨b, o, e, h1, by omega, h3⟩
theorem Src.rd {N q : Nat} {w : World} {A : Option Addr} {l : List UInt8} (h : Src N q w A l) (hN : N ≤ w.heap.size) : Rd w A l := fun hl => by
  obtain ⟨b, o, e, h1, h2, h3⟩ := h hl
  exact ⟨_, e, by simp only; omega, fun j x hx => by rw [zqa]; exact h3 j x hx⟩
theorem Rd.src {w : World} {A : Option Addr} {l : List UInt8} (h : Rd w A l) {p : Nat} (hp : w.heap.size ≤ p) : Src w.heap.size p w A l := fun hl => by
  obtain ⟨b, o, e, h1, h2⟩ := h.at hl
  exact ⟨b, o, e, h1, by omega, h2⟩
def PRd (w : World) (A : Option Addr) (L : List (List UInt8)) : Prop :=
  0 < L.length → ∃ b o, A = some ⟨b, o, none⟩ ∧ b < w.heap.size ∧ ∀ j l, L[j]? = some l → ∃ A' c', w.cell? ⟨b, o + j, none⟩ = some (.slice A' l.length c') ∧ l.length ≤ c' ∧ c' ≤ maxLen ∧ (A' = none → c' = 0) ∧ Rd w A' l
theorem PRd.src {w : World} {A : Option Addr} {L : List (List UInt8)} (h : PRd w A L) {p : Nat} (hp : w.heap.size ≤ p) : PSrc w.heap.size p w A L := fun hl => by
  obtain ⟨b, o, e, h1, h3⟩ := h hl
  refine ⟨b, o, e, h1, by omega, fun j l hj => ?_⟩
  obtain ⟨A', c', q1, q2, q3, q4, q5⟩ := h3 j l hj
  exact ⟨A', c', q1, q2, q3, q4, q5.src hp⟩
theorem PRd.step {w w' : World} {A : Option Addr} {L : List (List UInt8)} (h : PRd w A L) (hb : Below w.heap.size w w') : PRd w' A L := fun hl => by
  obtain ⟨b, o, e, h1, h3⟩ := h hl
  refine ⟨b, o, e, Nat.lt_of_lt_of_le h1 hb.size, fun j l hj => ?_⟩
  obtain ⟨A', c', q1, q2, q3, q4, q5⟩ := h3 j l hj
  exact ⟨A', c', (cell_same (hb.block b h1)).trans q1, q2, q3, q4, q5.step hb⟩
def macW (key : List UInt8) (L : List (List UInt8)) : W8 := sumW (feed (initW key) (cat L)).1 (feed (initW key) (cat L)).2
theorem PSrc.any {N q p : Nat} {w : World} {A : Option Addr} {L : List (List UInt8)} (h : PSrc N q w A L) (hp : N ≤ p) : PSrc N p w A L := fun hl => by
  obtain ⟨b, o, e, h1, h2, h3⟩ := h hl
  refine ⟨b, o, e, h1, by omega, fun j l hj => ?_⟩
  obtain ⟨A', c', q1, q2, q3, q4, q5⟩ := h3 j l hj
  exact ⟨A', c', q1, q2, q3, q4, q5.any hp⟩
theorem mac_any (A : Option Addr) (key : List UInt8) (n c : Nat) (hn : key.length = n) (hc : n ≤ c) (hm : c ≤ maxLen) (hA : A = none → c = 0) (B : Option Addr) (L : List (List UInt8)) (k d : Nat) (hk : L.length = k) (hd : k ≤ d) (hmd : d ≤ maxLen) (w : World) (hR : Rd w A key) (hP : PRd w B L) :
    Calls Try.prog 57 #[.slice A n c, .slice B k d] w fun e w' => e = .returned (.agg (zk (outF (macW key L)))) ∧ Below w.heap.size w w' := by
  have b0 := zma w (.cells #[Value.int .u8 0, .int .u8 0, .int .u8 0, .int .u8 0, .int .u8 0, .int .u8 0, .int .u8 0, .int .u8 0, .int .u8 0, .int .u8 0, .int .u8 0, .int .u8 0, .int .u8 0, .int .u8 0, .int .u8 0, .int .u8 0] 37)
  have z0 := Blk.new w 37 #[Value.int .u8 0, .int .u8 0, .int .u8 0, .int .u8 0, .int .u8 0, .int .u8 0, .int .u8 0, .int .u8 0, .int .u8 0, .int .u8 0, .int .u8 0, .int .u8 0, .int .u8 0, .int .u8 0, .int .u8 0, .int .u8 0]
  go_enter Try.func57, Try.ntmps57
  go_wp2_with fail
  refine (new_any A key n c hn hc hm hA _ (hR.step b0)).mono ?_
  rintro e w1 ⟨p, rfl, hp, S1, b1⟩
  rw [World.size_alloc] at hp
  have B1 := zw b0 b1
  have z1 := z0.step b1
  have P1 := hP.step B1
  have hPb : PSrc w.heap.size p w B L := hP.src (by omega)
  have P1' : PSrc w.heap.size p w1 B L := hPb.kp (Kp.below B1)
  clear b0 z0 b1 P1 hPb hR hP
  go_wp2_with fail
  refine (spcounted_any B k d _).mono ?_
  rintro e w2 ⟨rfl, hw2⟩
  have b2 : Below w1.heap.size w1 w2 := by rw [hw2]; exact zma _ _
  have c2 : Blk w2 w1.heap.size 62 #[.slice B k d] := by rw [hw2]; exact Blk.new w1 _ _
  have hp1 := S1.lt
  have S2 := S1.of_block (b2.block p hp1)
  have z2 := z1.step b2
  have P2 : PSrc w2.heap.size p w2 B L := (P1'.kp (Kp.below (b2.mono B1.size))).mono (Nat.le_trans B1.size b2.size)
  have B2 := zw B1 b2
  rw [← hk] at c2
  clear hw2 S1 z1 P1' B1
  go_wp2_with fail
  refine (each_any p w1.heap.size (initW key) [] B d L (by rw [hk]; exact hd) hmd w2 (by omega) S2 P2 c2).mono ?_
  rintro e w3 ⟨rfl, g3, S3⟩
  rw [List.nil_append] at S3
  have z3 := z2.grown g3 (fun e => by cases e; omega)
  have B3 : Below w.heap.size w w3 := ze B2 g3 B2.size (by omega)
  clear S2 P2 c2 g3 z2 B2 b2
  go_wp2_with fail
  refine (sum_any p _ _ w3 S3).mono ?_
  rintro e w4 ⟨rfl, b4⟩
  have z4 := z3.step b4
  have B4 := zw B3 b4
  obtain ⟨F, hF⟩ : ∃ F, F = macW key L := ⟨_, rfl⟩
  have HF := hid hF
  rw [show sumW (feed (initW key) (cat L)).1 (feed (initW key) (cat L)).2 = F from hF.symm]
  clear hF S3 z3 B3 b4
  go_wp2_with (refine zaa rfl _ (.tmp 4) _ rfl _ rfl _ rfl (zoa _) _ z4 rfl size35 ?_; intro w5 g5 c5)
  exact bodyPost_ret (results_blk rfl rfl c5 Try.underlying37 rfl size35) rfl ⟨by rw [HF.out], ze B4 g5 B4.size (Nat.le_refl _)⟩
theorem of_any (B : Option Addr) (L : List (List UInt8)) (k d : Nat) (hk : L.length = k) (hd : k ≤ d) (hmd : d ≤ maxLen) (w : World) (hP : PRd w B L) :
    Calls Try.prog 49 #[.slice B k d] w fun e w' => e = .returned (.agg (zk (outF (macW [] L)))) ∧ Below w.heap.size w w' := by
  have b0 := zma w (.cells #[Value.int .u8 0, .int .u8 0, .int .u8 0, .int .u8 0, .int .u8 0, .int .u8 0, .int .u8 0, .int .u8 0, .int .u8 0, .int .u8 0, .int .u8 0, .int .u8 0, .int .u8 0, .int .u8 0, .int .u8 0, .int .u8 0] 37)
  have z0 := Blk.new w 37 #[Value.int .u8 0, .int .u8 0, .int .u8 0, .int .u8 0, .int .u8 0, .int .u8 0, .int .u8 0, .int .u8 0, .int .u8 0, .int .u8 0, .int .u8 0, .int .u8 0, .int .u8 0, .int .u8 0, .int .u8 0, .int .u8 0]
  go_enter Try.func49, Try.ntmps49
  go_wp2_with fail
  refine (mac_any none [] 0 0 rfl (Nat.le_refl _) (by unfold maxLen; omega) (fun _ => rfl) B L k d hk hd hmd _ (fun h => absurd h (by simp)) (hP.step b0)).mono ?_
  rintro e w1 ⟨rfl, b1⟩
  have z1 := z0.step b1
  have B1 := zw b0 b1
  obtain ⟨F, hF⟩ : ∃ F, F = macW [] L := ⟨_, rfl⟩
  rw [← hF]
  have HF := hid hF
  clear hF z0 b0 b1
  go_wp2_with (refine zaa rfl _ (.tmp 2) _ rfl _ rfl _ rfl (zoa _) _ z1 rfl size35 ?_; intro w5 g5 c5)
  exact bodyPost_ret (results_blk rfl rfl c5 Try.underlying37 rfl size35) rfl ⟨by first | rfl | rw [HF.out], ze B1 g5 B1.size (Nat.le_refl _)⟩
end Go.Proofs.Ytcfepoopkfhojaa
/- sentinelref3: Eight, padded, Parts, Bytes: contracts. -/
namespace Go.Proofs.Ytcfepoopkfhojaa
open Go.ChangeShapes Go.WideShapes Go.ChangeAt Go.RowKit Go.Shelf
theorem step_app3 {B : Nat} {w w' : World} {o : Obj} (h : Below B (w.alloc o) w') (hB : B ≤ w.heap.size) : Below B w w' := ((Below.refl B w).alloc hB o).trans h
end Go.Proofs.Ytcfepoopkfhojaa
namespace Go.Proofs.Ytcfepoopkfhojaa
open Go.ChangeShapes Go.WideShapes Go.ChangeAt Go.RowKit Go.Shelf
end Go.Proofs.Ytcfepoopkfhojaa
namespace Go.Proofs.Ytcfepoopkfhojaa
open Go.ChangeShapes Go.WideShapes Go.ChangeAt Go.RowKit Go.Shelf
theorem Byt.none0 {w : World} {base : Nat} {A : Option Addr} {n c : Nat} {l : List UInt8} (h : Byt w base (.slice A n c) l) : A = none → c = 0 := by
  rintro rfl
  rcases h.2 with ⟨e, _⟩ | ⟨g, cap, cur, e, _⟩
  · injection e with e1 e2 e3
  · injection e with e1 e2 e3; cases e1
theorem Byt.base {w : World} {b b' : Nat} {v : Value} {l : List UInt8} (h : Byt w b v l) (hb : b' ≤ b) : Byt w b' v l := by
  refine ⟨h.1, ?_⟩
  rcases h.2 with hn | ⟨g, c, cur, e, hg, rest⟩
  · exact .inl hn
  · exact .inr ⟨g, c, cur, e, by omega, rest⟩
end Go.Proofs.Ytcfepoopkfhojaa
/- sponge.Stream, slices.Clip. -/
namespace Go.Proofs.Ytcfepoopkfhojaa
open Go.ChangeShapes Go.WideShapes Go.ChangeAt Go.RowKit Go.Shelf
theorem add_zero' (a : Addr) : a.add 0 = a := by obtain ⟨b, o, s⟩ := a; simp [Addr.add]
theorem slice_sum (w : World) (g : Nat) : (Instr.sliceAt 37 (.pointer (some ⟨g, 0, none⟩)) none none none).run Try.prog w = .ok (.slice (some ⟨g, 0, none⟩) 16 16) w := by
  have hl : Try.prog.arrayLen 37 = 16 := by kernel_rfl
  have he : Try.prog.elem 37 = 5 := by kernel_rfl
  have hu : Try.prog.underlying 37 = some (.array (Try.prog.arrayLen 37) (Try.prog.elem 37)) := by rw [hl, he]; exact Try.underlying37
  rw [run_sliceAt_array_all w 37 ⟨g, 0, none⟩ hu, he, sizeOf_u8]
  simp only [Result.andThen_ok, slicedAt, hl]
  simp [add_zero']
def sumL (s : W8) : List UInt8 := (List.range 16).map fun j => UInt8.ofNat (outF s j).toNat
theorem sumL_len (s : W8) : (sumL s).length = 16 := by simp [sumL]
theorem sumL_val (s : W8) (j : Nat) : (((UInt8.ofNat (outF s j).toNat).toNat : Nat) : Int) = outF s j := by
  have := outF_bd s j
  have e : (UInt8.ofNat (outF s j).toNat).toNat = (outF s j).toNat := by simp; omega
  rw [e, Int.toNat_of_nonneg this.1]
theorem sumL_bvs (s : W8) : bvs (sumL s) = zk (outF s) := by
  unfold bvs sumL
  rw [List.map_map]
  have : (bv ∘ fun j => UInt8.ofNat (outF s j).toNat) = fun j => Value.int .u8 (outF s j) := by
    funext j
    simp only [Function.comp, bv, sumL_val]
  rw [this]
  rfl
theorem sum_rd {w : World} {g : Nat} {t : TypeId} {s : W8} (h : Blk w g t (zk (outF s))) : Rd w (some ⟨g, 0, none⟩) (sumL s) :=
  Bts.rd (t := t) (by unfold Bts; rw [sumL_bvs]; exact h)
theorem Rd.take {w : World} {A : Option Addr} {l : List UInt8} (h : Rd w A l) (k : Nat) : Rd w A (l.take k) := fun hp => by
  have hp' : 0 < l.length := by rw [List.length_take] at hp; omega
  obtain ⟨ad, e, hb, hc⟩ := h hp'
  refine ⟨ad, e, hb, fun j b hj => hc j b ?_⟩
  rw [List.getElem?_take] at hj
  split at hj
  · exact hj
  · cases hj
theorem prd_one {w : World} {A : Option Addr} {l : List UInt8} {n c : Nat} (hn : l.length = n) (h1 : n ≤ c) (h2 : c ≤ maxLen) (h3 : A = none → c = 0) (hR : Rd w A l) :
    PRd (w.alloc (.cells #[.slice A n c] 23)) (some ⟨w.heap.size, 0, none⟩) [l] := fun _ => by
  refine ⟨w.heap.size, 0, rfl, by simp, fun j l' hj => ?_⟩
  obtain rfl : j = 0 := by
    have := (List.getElem?_eq_some_iff.1 hj).1
    simp at this; omega
  obtain rfl : l = l' := Option.some.inj hj
  exact ⟨A, c, by rw [hn]; exact (Blk.new w 23 #[.slice A n c]).cell (k := 0) rfl, by rw [hn]; exact h1, h2, h3, hR.step (zma w _)⟩
end Go.Proofs.Ytcfepoopkfhojaa
namespace Go.Proofs.Ytcfepoopkfhojaa
open Go.ChangeShapes Go.WideShapes Go.ChangeAt Go.RowKit Go.Shelf
theorem isAgg_u8 (w : World) : (isAgg 5).run Try.prog w = .ok false w := by kernel_rfl
theorem eq_u8 (d : Nat) (x y : Int) (w : World) : (Op.equalIn (d + 1) 5 (.int .u8 x) (.int .u8 y)).run Try.prog w = .ok (x == y) w := run_equalIn_int w d 5 .u8 .u8 x y Try.underlying5
theorem eq16_same (y : Nat → Int) (w : World) : (Op.equalIn 10000 37 (.agg (zk y)) (.agg (zk y))).run Try.prog w = .ok true w := by
  rw [Op.equalIn]
  simp only [Sem.run_bind, run_underlying Try.underlying37, Result.andThen_ok, sizeOf_u8]
  simp only [Std.Legacy.Range.forIn_eq_forIn_range', Std.Legacy.Range.size, List.range']
  simp [part, isAgg_u8, zk, eq_u8]
section
variable {a : Act} {w : World} {o : Oper}
theorem run_eq16 (x y : Operand) (ho : o.op = .binOp .eql 37 x y 37) (z : Nat → Int) (hx : a.eval x = .agg (zk z)) (hy : a.eval y = .agg (zk z)) : (execOp a.eval o).run Try.prog w = .ok (.value (.bool true)) w := by
  unfold execOp
  simp only [ho, hx, hy]
  simp [go_sem, eq16_same]
theorem run_lit (zs : List UInt8) (hz : 0 < zs.length) (hs : zs.length ≤ 1000) (parts : Array (Nat × Operand)) (ho : o.op = .buildSlice 23 zs.length parts)
    (hf : Instr.fill (fun i => some (i * 1, 1)) ((Array.range (zs.length * 1)).map ((Value.int .u8 0).cells[· % (Value.int .u8 0).cells.size]!)) (parts.map fun (i, x) => (i, a.eval x)).toList = some (bvs zs)) :
    (execOp a.eval o).run Try.prog w = .ok (.value (.slice (some ⟨w.heap.size, 0, none⟩) zs.length zs.length)) (w.alloc (.cells (bvs zs) 5)) := by
  obtain ⟨i, h1, h2, h3, _⟩ := info_u8
  unfold execOp
  simp only [ho, Sem.run_bind, run_buildSlice w 23 5 zs.length _ (bvs zs) i (.int .u8 0) Try.underlying23 h1 h2 (by rw [h3]; omega) (by rw [h3]; omega) (by rw [h3]; exact hf), Result.andThen_ok, Sem.run_pure]
end
end Go.Proofs.Ytcfepoopkfhojaa
namespace Go.Proofs.Ytcfepoopkfhojaa
open Go.ChangeShapes Go.WideShapes Go.ChangeAt Go.RowKit Go.Shelf
theorem hop_lit {ops : Array Oper} {Q : Exit → Act → World → Prop} {a : Act} {w : World} {o : Oper} {B : Nat} (hw : Region.wanted o (yielded ops a.tmps) = true) (hB : B ≤ w.heap.size) (zs : List UInt8) (hz : 0 < zs.length) (hs : zs.length ≤ 1000) (parts : Array (Nat × Operand)) (ho : o.op = .buildSlice 23 zs.length parts)
    (hf : Instr.fill (fun i => some (i * 1, 1)) ((Array.range (zs.length * 1)).map ((Value.int .u8 0).cells[· % (Value.int .u8 0).cells.size]!)) (parts.map fun (i, x) => (i, a.eval x)).toList = some (bvs zs)) :
    if Region.wanted o (yielded ops a.tmps) = true then o.wp Try.prog a w (fun a' w' => ∃ v, a' = a.put o.dst v ∧ Kc B w w' ∧ (StK.lit B zs).F w' v) Q else (StK.lit B zs).F w undef :=
  hop_growK (F := (StK.lit B zs).F) hw _ (run_lit zs hz hs parts ho hf) (Kc.of_below hB (zma w _)) ⟨w.heap.size, (0, 0), rfl, hB, hs, heap_alloc_new w _⟩
theorem LitB.isB {B : Nat} {w : World} {l : List UInt8} {v : Value} (h : LitB B w l v) : IsB w l v := by
  obtain ⟨g, fr, h1, h2, h4, h3⟩ := h
  refine ⟨_, _, h1, Nat.le_refl _, by unfold maxLen; omega, (fun h => by cases h), fun hp => ⟨_, rfl, zzb h3, fun j b hj => ?_⟩⟩
  rw [zqa, Nat.zero_add]
  simp only [World.cell?, h3]
  simp [bvs, hj]
theorem run_convB {B : Nat} {a : Act} {w : World} {o : Oper} (x : Operand) (ho : o.op = .convert 23 23 x) {l : List UInt8} (hx : LitB B w l (a.eval x)) : ∃ w', (execOp a.eval o).run Try.prog w = .ok (.value (a.eval x)) w' ∧ Kc B w w' ∧ LitB B w' l (a.eval x) := by
  obtain ⟨g, fr, h1, h2, h4, h3⟩ := hx
  have hsh : w.shape? g = some (5, (bvs l).size) := by unfold World.shape?; rw [h3]
  have hk : Kc B w (w.freeze ⟨g, (bvs l).size, none⟩ 1) := by
    refine ⟨⟨rfl, rfl, rfl, by simp [World.freeze], fun k hk => ?_⟩, fun g' cs t fr' hg => ?_⟩
    · simp only [World.freeze, if_neg (by decide : ¬ (1 = 0)), Array.getElem?_modify]
      rw [if_neg (show ¬ g = k by omega)]
    · simp only [World.freeze, if_neg (by decide : ¬ (1 = 0)), Array.getElem?_modify]
      by_cases e : g = g'
      · subst e
        rw [if_pos rfl, hg]
        rw [h3] at hg
        injection hg with hg
        injection hg with _ ht _
        exact ⟨_, rfl, fun hn => absurd ht.symm hn⟩
      · rw [if_neg e, hg]
        exact ⟨_, rfl, fun _ => rfl⟩
  refine ⟨w.freeze ⟨g, (bvs l).size, none⟩ 1, ?_, hk, ?_⟩
  · rw [h1]
    refine run_cv' _ _ x ho h1 ?_
    simp [convert, run_underlying Try.underlying23, run_underlying Try.underlying5, markStringish, hsh]
  · obtain ⟨fr', h3', _⟩ := hk.kept g _ _ _ h3
    exact ⟨g, fr', h1, h2, h4, h3'⟩
theorem hop_convK {ops : Array Oper} {Q : Exit → Act → World → Prop} {a : Act} {w : World} {o : Oper} {B : Nat} (hw : Region.wanted o (yielded ops a.tmps) = true) (x : Operand) (ho : o.op = .convert 23 23 x) {l : List UInt8} (hx : LitB B w l (a.eval x)) :
    if Region.wanted o (yielded ops a.tmps) = true then o.wp Try.prog a w (fun a' w' => ∃ v, a' = a.put o.dst v ∧ Kc B w w' ∧ (StK.lit B l).F w' v) Q else (StK.lit B l).F w undef := by
  obtain ⟨wc, h1, h2, h3⟩ := run_convB x ho hx
  exact hop_growK (F := (StK.lit B l).F) hw _ h1 h2 h3
end Go.Proofs.Ytcfepoopkfhojaa
namespace Go.Proofs.Ytcfepoopkfhojaa
open Go.ChangeShapes Go.WideShapes Go.ChangeAt Go.RowKit Go.Shelf
end Go.Proofs.Ytcfepoopkfhojaa
namespace Go.Proofs.Ytcfepoopkfhojaa
open Go.ChangeShapes Go.WideShapes Go.ChangeAt Go.RowKit Go.Shelf
theorem Byt.own {w : World} {base : Nat} {v : Value} {l : List UInt8} (h : Byt w base v l) (hl : 0 < l.length) :
    ∃ g c, v = .slice (some ⟨g, 0, none⟩) l.length c ∧ base ≤ g ∧ g < w.heap.size ∧ l.length ≤ c ∧ c ≤ maxLen ∧ (∀ k, w.frozen? ⟨g, k, none⟩ = false) ∧ (∀ j x, l[j]? = some x → w.cell? ⟨g, j, none⟩ = some (bv x)) := by
  have hlt := h.lt
  rcases h.2 with ⟨_, h0⟩ | ⟨g, c, cur, e, hb, hg, hn, hc, hs, ht⟩
  · omega
  · refine ⟨g, c, e, hb, zzb hg, hn, hc, fun k => by simp [World.frozen?, hg], fun j x hj => by have := h.cells (g := g) (by rw [e]; rfl) j (bv x) (by rw [List.getElem?_map, hj]; rfl); rwa [zqa, Nat.zero_add] at this⟩
theorem Rd.isB {w : World} {A : Option Addr} {l : List UInt8} {n c : Nat} (h : Rd w A l) (hn : l.length = n) (hc : n ≤ c) (hm : c ≤ maxLen) (hA : A = none → c = 0) : IsB w l (.slice A n c) :=
  ⟨A, c, by rw [hn], by rw [hn]; exact hc, hm, hA, h⟩
end Go.Proofs.Ytcfepoopkfhojaa
namespace Go.Proofs.Ytcfepoopkfhojaa
open Go.ChangeShapes Go.WideShapes Go.ChangeAt Go.RowKit Go.Shelf
end Go.Proofs.Ytcfepoopkfhojaa
/- Slices of bytes, rows of them, Sums: the operations of a drawn region; contracts said by what they hold. -/
namespace Go.Proofs.Ytcfepoopkfhojaa
open Go.ChangeShapes Go.WideShapes Go.ChangeAt Go.RowKit Go.Shelf
theorem infoSl : ∃ i, Try.prog.info? 23 = some i ∧ i.zero = some (.slice none 0 0) ∧ i.size = 1 := by
  have h0 : (Try.prog.info? 23).isSome = true := by kernel_rfl
  have h1 : (Try.prog.info? 23).map (·.size) = some 1 := by kernel_rfl
  have h2 : (Try.prog.info? 23).bind (·.zero) = some (.slice none 0 0) := by kernel_rfl
  cases h : Try.prog.info? 23 with
  | none => rw [h] at h0; cases h0
  | some i =>
    rw [h] at h1 h2
    exact ⟨i, rfl, h2, Option.some.inj h1⟩
def IsP (w : World) (L : List (List UInt8)) (v : Value) : Prop := ∃ A c, v = .slice A L.length c ∧ L.length ≤ c ∧ c ≤ maxLen ∧ PRd w A L
theorem IsP.step {w w' : World} {L : List (List UInt8)} {v : Value} (h : IsP w L v) (hb : Below w.heap.size w w') : IsP w' L v := by
  obtain ⟨A, c, h1, h2, h3, h4⟩ := h
  exact ⟨A, c, h1, h2, h3, h4.step hb⟩
theorem Kc.prd' {B : Nat} {w w' : World} {A : Option Addr} {L : List (List UInt8)} (k : Kc B w w') (h : PRd w A L) : PRd w' A L := fun hl => by
  obtain ⟨b, o, e, h1, h3⟩ := h hl
  refine ⟨b, o, e, Nat.lt_of_lt_of_le h1 k.below.size, fun j l hj => ?_⟩
  obtain ⟨A', c', q1, q2, q3, q4, q5⟩ := h3 j l hj
  exact ⟨A', c', k.isCells q1, q2, q3, q4, k.rd q5⟩
def StK.parts (L : List (List UInt8)) : StK := ⟨fun w v => IsP w L v, fun _ _ _ _ hb h => by
  obtain ⟨A, c, h1, h2, h3, h4⟩ := h
  exact ⟨A, c, h1, h2, h3, hb.prd' h4⟩⟩
theorem IsP.below {w w' : World} {L : List (List UInt8)} {v : Value} {N : Nat} (h : IsP w L v) (hb : Below N w w') (hN : w.heap.size ≤ N) : IsP w' L v := h.step (hb.mono hN)
theorem IsB.below {w w' : World} {l : List UInt8} {v : Value} {N : Nat} (h : IsB w l v) (hb : Below N w w') (hN : w.heap.size ≤ N) : IsB w' l v := h.step (hb.mono hN)
theorem Rd.isB' {w : World} {A : Option Addr} {l : List UInt8} {n c : Nat} (h : Rd w A l) (hn : l.length = n) (hc : n ≤ c) (hm : c ≤ maxLen) (hz : A = none → c = 0) : IsB w l (.slice A n c) := by
  subst hn
  exact ⟨A, c, rfl, hc, hm, hz, h⟩
theorem Byt.isB {w : World} {b : Nat} {v : Value} {l : List UInt8} (h : Byt w b v l) : IsB w l v := by
  obtain ⟨A, c, e, h1, h2, h3, _⟩ := id h.slice
  subst e
  exact ⟨A, c, rfl, h1, h2, h.none0, h3⟩
theorem IsB.nil (w : World) : IsB w [] (.slice none 0 0) := ⟨none, 0, rfl, Nat.le_refl _, by unfold maxLen; omega, fun _ => rfl, fun h => absurd h (by simp)⟩
theorem part_rd {w : World} {g : Nat} {c : Array Value} (hB : Blk w g 23 c) {L : List (List UInt8)} (hL : ∀ (j : Nat) (l : List UInt8), L[j]? = some l → ∃ v, c[j]? = some v ∧ IsB w l v) : PRd w (some ⟨g, 0, none⟩) L := fun _ =>
  ⟨g, 0, rfl, hB.lt, fun j l hj => by
    obtain ⟨v, hv, A, c', e, h1, h2, h3, h4⟩ := hL j l hj
    exact ⟨A, c', by rw [Nat.zero_add, ← e]; exact hB.cell hv, h1, h2, h3, h4⟩⟩
theorem isb2 {w : World} {l1 l2 : List UInt8} {v1 v2 : Value} (h1 : IsB w l1 v1) (h2 : IsB w l2 v2) : ∀ (j : Nat) (l : List UInt8) (v : Value), [l1, l2][j]? = some l → [v1, v2][j]? = some v → IsB w l v
  | 0, l, v, hl, hv => by cases hl; cases hv; exact h1
  | 1, l, v, hl, hv => by cases hl; cases hv; exact h2
  | j + 2, l, v, hl, hv => by cases hl
theorem new_parts {w : World} {vs : List Value} {L : List (List UInt8)} (hn : vs.length = L.length) (hm : L.length ≤ 1000) (h : ∀ (j : Nat) (l : List UInt8) (v : Value), L[j]? = some l → vs[j]? = some v → IsB w l v) : IsP (w.alloc (.cells vs.toArray 23)) L (.slice (some ⟨w.heap.size, 0, none⟩) L.length L.length) := by
  refine ⟨_, _, rfl, Nat.le_refl _, by unfold maxLen; omega, part_rd (Blk.new w 23 vs.toArray) fun j l hj => ?_⟩
  have hjl := (List.getElem?_eq_some_iff.1 hj).1
  have hv : vs[j]? = some (vs[j]'(by omega)) := List.getElem?_eq_getElem (by omega)
  exact ⟨vs[j]'(by omega), by rw [List.getElem?_toArray]; exact hv, (h j l _ hj hv).step (zma w _)⟩
section
variable {Q : Exit → Act → World → Prop} {a : Act} {w : World} {o : Oper} {B : Nat} {ops : Array Oper}
theorem hop_parts (hw : Region.wanted o (yielded ops a.tmps) = true) (hB : B ≤ w.heap.size) {n : Nat} {ps : Array (Nat × Operand)} (ho : o.op = .buildSlice 62 n ps) {vs : List Value} {L : List (List UInt8)} (hn : vs.length = n) (hL : L.length = n) (hm : n ≤ 1000) (hn0 : 0 < n)
    (hf : Instr.fill (fun i => some (i * 1, 1)) ((Array.range (n * 1)).map ((Value.slice none 0 0).cells[· % (Value.slice none 0 0).cells.size]!)) (ps.map fun (i, x) => (i, a.eval x)).toList = some vs.toArray)
    (h : ∀ (j : Nat) (l : List UInt8) (v : Value), L[j]? = some l → vs[j]? = some v → IsB w l v) :
    if Region.wanted o (yielded ops a.tmps) = true then o.wp Try.prog a w (fun a' w' => ∃ v, a' = a.put o.dst v ∧ Kc B w w' ∧ (StK.parts L).F w' v) Q else (StK.parts L).F w undef := by
  obtain ⟨i, i1, i2, i3⟩ := infoSl
  refine hop_growK (F := (StK.parts L).F) hw (.slice (some ⟨w.heap.size, 0, none⟩) L.length L.length) (w1 := w.alloc (.cells vs.toArray 23)) ?_ (Kc.of_below hB (zma w _)) (new_parts (by rw [hn, hL]) (by omega) h)
  unfold execOp
  simp only [ho, Sem.run_bind, run_buildSlice w 62 23 n _ vs.toArray i (.slice none 0 0) Try.underlying62 i1 i2 (by rw [i3]; omega) (by rw [i3]; omega) (by rw [i3]; exact hf), Result.andThen_ok, Sem.run_pure, hL]
theorem hop_parts2 (hw : Region.wanted o (yielded ops a.tmps) = true) (hB : B ≤ w.heap.size) (x1 x2 : Operand) (ho : o.op = .buildSlice 62 2 #[(0, x1), (1, x2)]) {l1 l2 : List UInt8} (h1 : IsB w l1 (a.eval x1)) (h2 : IsB w l2 (a.eval x2)) :
    if Region.wanted o (yielded ops a.tmps) = true then o.wp Try.prog a w (fun a' w' => ∃ v, a' = a.put o.dst v ∧ Kc B w w' ∧ (StK.parts [l1, l2]).F w' v) Q else (StK.parts [l1, l2]).F w undef := by
  obtain ⟨A1, c1, e1, _⟩ := id h1
  obtain ⟨A2, c2, e2, _⟩ := id h2
  refine hop_parts (n := 2) hw hB ho (vs := [a.eval x1, a.eval x2]) (L := [l1, l2]) rfl rfl (by decide) (by decide) ?_ (isb2 h1 h2)
  simp only [List.map_toArray, List.map_cons, List.map_nil, e1, e2]
  kernel_rfl
end
theorem mac_b {w : World} {v u : Value} {key : List UInt8} {L : List (List UInt8)} (hv : IsB w key v) (hu : IsP w L u) :
    Calls Try.prog 57 #[v, u] w fun e w' => e = .returned (.agg (zk (outF (macW key L)))) ∧ Below w.heap.size w w' := by
  obtain ⟨A, c, rfl, h1, h2, h3, h4⟩ := hv
  obtain ⟨B, d, rfl, k1, k2, k3⟩ := hu
  exact mac_any A key _ c rfl h1 h2 h3 B L _ d rfl k1 k2 w h4 k3
theorem of_b {w : World} {u : Value} {L : List (List UInt8)} (hu : IsP w L u) :
    Calls Try.prog 49 #[u] w fun e w' => e = .returned (.agg (zk (outF (macW [] L)))) ∧ Below w.heap.size w w' := by
  obtain ⟨B, d, rfl, k1, k2, k3⟩ := hu
  exact of_any B L _ d rfl k1 k2 w k3
end Go.Proofs.Ytcfepoopkfhojaa
namespace Go.Proofs.Ytcfepoopkfhojaa
open Go.ChangeShapes Go.WideShapes Go.ChangeAt Go.RowKit
theorem zz {o : Oper} {a : Act} {w : World} (h : o.op = .alloc 28) : (execOp a.eval o).run Try.prog w = .ok (.value (.pointer (some ⟨w.heap.size, 0, none⟩))) (w.alloc (.cells (numA 0) 28)) := by
  rw [← z0b]
  unfold execOp
  simp only [h]
  kernel_rfl
theorem zdc {c : Array Value} {k n : Nat} (h0 : c[k + 0]? = some (numF n 0)) (h1 : c[k + 1]? = some (numF n 1)) (h2 : c[k + 2]? = some (numF n 2)) (h3 : c[k + 3]? = some (numF n 3)) (h4 : c[k + 4]? = some (numF n 4)) (h5 : c[k + 5]? = some (numF n 5)) (h6 : c[k + 6]? = some (numF n 6)) (h7 : c[k + 7]? = some (numF n 7)) :
    ∀ (j : Nat) (v : Value), (numA n)[j]? = some v → c[k + j]? = some v := fun j v h => by
  have hj := (Array.getElem?_eq_some_iff.1 h).1
  rw [zcc] at hj
  have : j = 0 ∨ j = 1 ∨ j = 2 ∨ j = 3 ∨ j = 4 ∨ j = 5 ∨ j = 6 ∨ j = 7 := by omega
  rcases this with rfl | rfl | rfl | rfl | rfl | rfl | rfl | rfl <;> (rw [← h]; first | exact h0 | exact h1 | exact h2 | exact h3 | exact h4 | exact h5 | exact h6 | exact h7)
theorem zec {o : Oper} {a : Act} {w : World} (h : o.op = .build 28 #[]) : (execOp a.eval o).run Try.prog w = .ok (.value (numV 0)) w := by
  have e : (execOp a.eval o).run Try.prog w = .ok (.value (.agg #[Value.int .u32 0, .int .u32 0, .int .u32 0, .int .u32 0, .int .u32 0, .int .u32 0, .int .u32 0, .int .u32 0])) w := by
    unfold execOp
    simp only [h, List.map_toArray, List.map_nil]
    kernel_rfl
  rw [e, z0b]
end Go.Proofs.Ytcfepoopkfhojaa
namespace Go.Proofs.Ytcfepoopkfhojaa
open Go.ChangeShapes Go.WideShapes Go.ChangeAt Go.RowKit
def notLate (L : List Oper) (m : Nat) (late : List Nat) (t : Tmp) : Bool := match zub (L.take m) t with | some k => !late.contains k | none => true
def lateOp (L : List Oper) (m : Nat) (late : List Nat) (j : Nat) : Bool := match L[j]? with
  | some o => decide (j < m) && o.guard.isNone && o.dst.isSome && (match o.op with | .extract (.tmp t) _ => (zub (L.take m) t).isSome && notLate L m late t | _ => false)
  | none => false
def storeOp (L : List Oper) (m : Nat) (late : List Nat) : Bool := match L[m]? with
  | some o => o.dst.isNone && (match o.op with | .store _ (.tmp x) (.tmp y) => notLate L m late x && notLate L m late y | _ => false)
  | none => false
def relOkL (L : List Oper) (m n : Nat) (late : List Nat) : Bool :=
  Region.noSelect L.toArray && backB L.toArray &&
  ((List.range m).all fun i => match (L.take m)[i]? with
    | none => true
    | some o => (match o.dst with
        | none => true
        | some d => decide (d < n) && zub (L.take m) d == some i) &&
      (o.looksAt L.toArray).all fun t => match zub (L.take m) t with
        | none => true
        | some j => o.after.any fun e => Region.binds .any e && e.on == j) &&
  ((L.drop m).all fun t => t.guard.isNone) && ((List.range L.length).all fun i => decide (i < m) || (List.range i).all fun j => Region.waitsFor .any L.toArray i j || (i == m && late.contains j)) &&
  (late.all fun j => lateOp L m late j) && storeOp L m late
theorem run_extL {P : Program} {a : Act} {w : World} {o : Oper} (x : Operand) (i : Nat) (ho : o.op = .extract x i) {vs : Array Value} (hx : a.eval x = .tuple vs) {v : Value} (hv : vs[i]? = some v) : (execOp a.eval o).run P w = .ok (.value v) w := by
  unfold execOp
  simp only [ho, hx]
  simp [Instr.extract, hv]
theorem wp_region_relL {P : Program} {id : Nat} {Q : Exit → Act → World → Prop} {a0 : Act} {W : World} {L : List Oper} (m n : Nat) (late : List Nat) (c : Nat → Value) (hn : a0.tmps.size = n) (hm : P.follows .mixedOrders = true) (hok : relOkL L m n late = true) (Y : Nat → World → Value → Prop)
    (hY : ∀ i w w' v, Kc W.heap.size w w' → Y i w v → Y i w' v) (hop : HopAllT P L m Q Y a0 W (L.take m) 0)
    (hlY : ∀ j ∈ late, ∀ w v, Y j w v ↔ v = c j)
    (hlS : ∀ j ∈ late, ∀ o t i k, L[j]? = some o → o.op = .extract (.tmp t) i → zub (L.take m) t = some k → ∀ w v, Y k w v → ∃ vs, v = .tuple vs ∧ vs[i]? = some (c j))
    (hend : ∀ (p : Nat → Value) (w : World), Below W.heap.size W w → YAll Y p w (L.take m) 0 → ∀ om, L[m]? = some om → ∃ w', (execOp (ztb p (L.take m) 0 a0).eval om).run P w = .ok .skip w' ∧ wpList P L.toArray Q (L.drop (m + 1)) (ztb p (L.take m) 0 a0) w') : (Code.region id L.toArray true).wp P Q a0 W := by
  unfold relOkL at hok
  simp only [Bool.and_eq_true, List.all_eq_true, Option.isNone_iff_eq_none, Bool.or_eq_true, decide_eq_true_eq, beq_iff_eq, List.contains_iff_mem] at hok
  obtain ⟨⟨⟨⟨⟨⟨hsel, hE⟩, hall⟩, hT1⟩, hT2⟩, hL⟩, hSt⟩ := hok
  have htake : ∀ (i : Nat) (o : Oper), (L.take m)[i]? = some o → i < m ∧ L[i]? = some o := fun i o h => by
    rw [List.getElem?_take] at h
    split at h
    · exact ⟨by assumption, h⟩
    · cases h
  have hintake : ∀ (i : Nat) (o : Oper), i < m → L[i]? = some o → (L.take m)[i]? = some o := fun i o h1 h2 => by
    rw [List.getElem?_take, if_pos h1]; exact h2
  have hdst : ∀ (i : Nat) (o : Oper) (d : Tmp), (L.take m)[i]? = some o → o.dst = some d → d < n ∧ zub (L.take m) d = some i := fun i o d ho hd => by
    have h1 := hall i (List.mem_range.2 (htake i o ho).1)
    simp only [ho, hd, Bool.and_eq_true, decide_eq_true_eq, beq_iff_eq] at h1
    exact h1.1
  have hread : ∀ (i : Nat) (o : Oper) (t : Tmp) (j : Nat), (L.take m)[i]? = some o → t ∈ o.looksAt L.toArray → zub (L.take m) t = some j → ∃ e ∈ o.after, Region.binds .any e = true ∧ e.on = j := fun i o t j ho ht hj => by
    have h1 := hall i (List.mem_range.2 (htake i o ho).1)
    simp only [ho, Bool.and_eq_true, List.all_eq_true] at h1
    have h2 := h1.2 t ht
    simp only [hj, Array.any_eq_true, Bool.and_eq_true, beq_iff_eq] at h2
    obtain ⟨x, hx, hb, he⟩ := h2
    exact ⟨_, Array.getElem_mem hx, hb, he⟩
  have hdis : ∀ (i j : Nat) (oi oj : Oper) (d : Tmp), (L.take m)[i]? = some oi → (L.take m)[j]? = some oj → j ≠ i → oi.dst = some d → oj.dst ≠ some d := fun i j oi oj d hi hj hne hd e => by
    have h1 := (hdst i oi d hi hd).2
    have h2 := (hdst j oj d hj e).2
    rw [h1] at h2
    exact hne (Option.some.inj h2).symm
  -- the store
  obtain ⟨om, hom, hod, ty, sx, sy, hos, hx0, hy0⟩ : ∃ om, L[m]? = some om ∧ om.dst = none ∧ ∃ ty x y, om.op = .store ty (.tmp x) (.tmp y) ∧ notLate L m late x = true ∧ notLate L m late y = true := by
    unfold storeOp at hSt
    cases h : L[m]? with
    | none => rw [h] at hSt; cases hSt
    | some o =>
      rw [h] at hSt
      simp only [Bool.and_eq_true, Option.isNone_iff_eq_none] at hSt
      obtain ⟨h1, h2⟩ := hSt
      refine ⟨o, rfl, h1, ?_⟩
      split at h2
      · rename_i ty x y e
        simp only [Bool.and_eq_true] at h2
        exact ⟨ty, x, y, e, h2.1, h2.2⟩
      · cases h2
  have hml : m < L.length := (List.getElem?_eq_some_iff.1 hom).1
  -- late operations
  have hlate : ∀ j ∈ late, ∃ o d t i k, L[j]? = some o ∧ j < m ∧ o.guard = none ∧ o.dst = some d ∧ o.op = .extract (.tmp t) i ∧ zub (L.take m) t = some k ∧ k ∉ late := by
    intro j hj
    have h := hL j hj
    unfold lateOp at h
    cases ho : L[j]? with
    | none => rw [ho] at h; cases h
    | some o =>
      rw [ho] at h
      simp only [Bool.and_eq_true, decide_eq_true_eq, Option.isNone_iff_eq_none] at h
      obtain ⟨⟨⟨h1, h2⟩, h3⟩, h4⟩ := h
      obtain ⟨d, hd⟩ := Option.isSome_iff_exists.1 h3
      split at h4
      · rename_i t i e
        simp only [Bool.and_eq_true] at h4
        obtain ⟨k, hk⟩ := Option.isSome_iff_exists.1 h4.1
        have h5 := h4.2
        unfold notLate at h5
        rw [hk] at h5
        simp only [Bool.not_eq_true', ← Bool.not_eq_true, List.contains_iff_mem] at h5
        exact ⟨o, d, t, i, k, rfl, h1, h2, hd, e, hk, h5⟩
      · cases h4
  have hnot : ∀ t, notLate L m late t = true → ∀ j, j ∈ late → ∀ oj, (L.take m)[j]? = some oj → oj.dst ≠ some t := by
    intro t ht j hj oj hoj e
    have h1 := (hdst j oj t hoj e).2
    unfold notLate at ht
    rw [h1] at ht
    simp only [Bool.not_eq_true', ← Bool.not_eq_true, List.contains_iff_mem] at ht
    exact ht hj
  -- what is ready at or behind the store
  have htail : ∀ (listed : Array Bool) (i : Nat), listed.size = L.toArray.size → i ∈ Region.ready .any L.toArray listed → m ≤ i → ∀ j, j < i → ¬ (i = m ∧ j ∈ late) → listed.getD j true = true := by
    intro listed i hs hi hmi j hj hnl
    obtain ⟨hiu, o, ho, hwait⟩ := mem_ready.1 hi
    have hil : i < L.length := by simpa using (Array.getElem?_eq_some_iff.1 ho).1
    have h3 := hT2 i (List.mem_range.2 hil)
    rcases h3 with h3 | h3
    · omega
    have h4 := h3 j (List.mem_range.2 hj)
    rcases h4 with h4 | h4
    · obtain ⟨o', ho', e, he, hb, hon⟩ := Region.waitsFor_spec h4
      have : o' = o := Option.some.inj (ho'.symm.trans ho)
      subst this
      have h5 := hwait e he hb
      rw [hon, ← getD_listed (by simp at hs; omega)] at h5
      exact h5
    · exact absurd h4 hnl
  let A (listed : Array Bool) (a : Act) (w : World) : Prop := ((∀ j, m ≤ j → j < L.length → listed.getD j true = false) ∧ Below W.heap.size W w ∧ a.tmps.size = n ∧ a.defers = a0.defers ∧
    (∀ t : Tmp, (∀ (j : Nat) (oj : Oper), (L.take m)[j]? = some oj → listed.getD j true = true → oj.dst ≠ some t) → a.eval (.tmp t) = a0.eval (.tmp t)) ∧
    (∀ (j : Nat) (oj : Oper) (d : Tmp), (L.take m)[j]? = some oj → listed.getD j true = true → oj.dst = some d → Y j w (a.eval (.tmp d))))
  let B (listed : Array Bool) (a : Act) (w : World) : Prop := (∀ j, j < L.length → j ∉ late → (listed.getD j true = true ↔ j < m + 1)) ∧ ∃ full : Act, full.tmps.size = n ∧ a.tmps.size = n ∧ a.defers = full.defers ∧
    (∀ t : Tmp, (∀ (j : Nat) (oj : Oper), j ∈ late → (L.take m)[j]? = some oj → listed.getD j true = false → oj.dst ≠ some t) → a.eval (.tmp t) = full.eval (.tmp t)) ∧
    (∀ j ∈ late, ∀ o d, L[j]? = some o → o.dst = some d → full.eval (.tmp d) = c j) ∧
    (∀ j ∈ late, ∀ o t i, L[j]? = some o → o.op = .extract (.tmp t) i → ∃ vs, full.eval (.tmp t) = .tuple vs ∧ vs[i]? = some (c j)) ∧ wpList P L.toArray Q (L.drop (m + 1)) full w
  let C (listed : Array Bool) (a : Act) (w : World) : Prop := ∃ k, m + 1 ≤ k ∧ (∀ j, j < L.length → (listed.getD j true = true ↔ j < k)) ∧ wpList P L.toArray Q (L.drop k) a w
  have hBC : ∀ listed a w, B listed a w → (∀ j ∈ late, listed.getD j true = true) → C listed a w := by
    rintro listed a w ⟨h1, full, h2, h3, h4, h5, -, -, h8⟩ hl
    refine ⟨m + 1, Nat.le_refl _, fun j hj => ?_, ?_⟩
    · by_cases hjl : j ∈ late
      · obtain ⟨_, _, _, _, _, _, hjm, _⟩ := hlate j hjl
        exact ⟨fun _ => by omega, fun _ => hl j hjl⟩
      · exact h1 j hj hjl
    · have : a = full := act_ext (h3.trans h2.symm) h4 fun t _ => h5 t fun j oj hj _ hf _ => by rw [hl j hj] at hf; cases hf
      rw [this]; exact h8
  refine wp_region_inv hm (fun listed a w => A listed a w ∨ B listed a w ∨ C listed a w) ?_ ?_ ?_
  · refine .inl ⟨fun j _ hj => by simp [hj], zra W, hn, rfl, fun _ _ => rfl, fun j oj d hj hl _ => ?_⟩
    have hjl := (List.getElem?_eq_some_iff.1 (htake j oj hj).2).1
    simp [hjl] at hl
  · rintro listed a w i hs hinv hi
    obtain ⟨hiu, o, ho, hwait⟩ := mem_ready.1 hi
    have ho' : L[i]? = some o := by simpa using ho
    have hil := (List.getElem?_eq_some_iff.1 ho').1
    have hsl : listed.size = L.length := by simpa using hs
    have hset1 : (listed.setIfInBounds i true).getD i true = true := by rw [Array.getD_eq_getD_getElem?, Array.getElem?_setIfInBounds_self]; simp [hsl, hil]
    by_cases him : i < m
    · rcases hinv with ⟨htl, hB, hz, hd, hbase, hYs⟩ | ⟨hlB, full, f1, f2, f3, f4, f5, f6, f7⟩ | ⟨k, hmk, hlk, _⟩
      · have ht' := hintake i o him ho'
        have hh := hop_atT (L.take m) 0 hop i o ht'
        rw [Nat.zero_add] at hh
        have hslots : ∀ t ∈ o.looksAt L.toArray, SlotOk (L.take m) Y a0 a w t := fun t ht => by
          unfold SlotOk
          cases hj : zub (L.take m) t with
          | none => exact hbase t fun j oj hoj _ => zbc hj j oj hoj
          | some j =>
            obtain ⟨oj, hoj, hdj⟩ := depOf_some hj
            obtain ⟨e, he, hb, hon⟩ := hread i o t j ht' ht hj
            have h1 := hwait e he hb
            rw [hon] at h1
            refine hYs j oj t hoj ?_ hdj
            have hjl : j < listed.size := by rw [hsl]; exact (List.getElem?_eq_some_iff.1 (htake j oj hoj).2).1
            simpa [hjl] using h1
        have hh := hh a w hB hslots
        have hset : ∀ (v : Value) (w' : World), Kc W.heap.size w w' → Y i w' v → ((∀ j, m ≤ j → j < L.length → (listed.setIfInBounds i true).getD j true = false) ∧ Below W.heap.size W w' ∧ (a.put o.dst v).tmps.size = n ∧ (a.put o.dst v).defers = a0.defers ∧
            (∀ t : Tmp, (∀ (j : Nat) (oj : Oper), (L.take m)[j]? = some oj → (listed.setIfInBounds i true).getD j true = true → oj.dst ≠ some t) → (a.put o.dst v).eval (.tmp t) = a0.eval (.tmp t)) ∧
            (∀ (j : Nat) (oj : Oper) (d : Tmp), (L.take m)[j]? = some oj → (listed.setIfInBounds i true).getD j true = true → oj.dst = some d → Y j w' ((a.put o.dst v).eval (.tmp d)))) := fun v w' hb hy => by
          refine ⟨fun j h1 h2 => by rw [getD_set_ne true (show i ≠ j by omega)]; exact htl j h1 h2, hB.trans hb.below, by rw [put_size]; exact hz, by rw [put_defers]; exact hd, fun t ht => ?_, fun j oj d hoj hl hdj => ?_⟩
          · rw [zlb (ht i o ht' (hset1))]
            refine hbase t fun j oj hoj hl => ht j oj hoj ?_
            by_cases e : i = j
            · subst e; rw [hl] at hiu; cases hiu
            · rw [getD_set_ne true e]; exact hl
          · by_cases e : i = j
            · subst e
              obtain rfl : o = oj := Option.some.inj (ht'.symm.trans hoj)
              rw [hdj, z6b (by rw [hz]; exact (hdst i o d ht' hdj).1)]
              exact hy
            · rw [zlb (hdis j i oj o d hoj ht' e hdj)]
              rw [getD_set_ne true e] at hl
              exact hY j w w' _ hb (hYs j oj d hoj hl hdj)
        unfold wpOp
        simp only [ho]
        by_cases hw : Region.wanted o (yielded L.toArray a.tmps) = true
        · rw [if_pos hw] at hh ⊢
          exact .inl (Oper.wp_mono (fun a' w' ⟨v, e, hb, hy⟩ => by rw [e]; exact .inl (hset v w' hb hy)) hh)
        · rw [if_neg hw] at hh ⊢
          exact .inl (hset undef w (Kc.refl _ _) hh)
      · -- a late extract, behind the store
        have hjl : i ∈ late := by
          apply Classical.byContradiction
          intro h
          have := (hlB i hil h).2 (by omega)
          rw [this] at hiu; cases hiu
        obtain ⟨o2, d, t, ix, k, ho2, _, hg, hdd, hop2, hk, hkl⟩ := hlate i hjl
        obtain rfl : o2 = o := Option.some.inj (ho2.symm.trans ho')
        obtain ⟨vs, hvs, hvc⟩ := f6 i hjl o2 t ix ho' hop2
        have hev : a.eval (.tmp t) = .tuple vs := by
          rw [f4 t (fun j oj hj hoj _ e => ?_)]
          · exact hvs
          · have := (hdst j oj t hoj e).2
            rw [hk] at this
            exact hkl (Option.some.inj this ▸ hj)
        have hrun := run_extL (P := P) (a := a) (w := w) (.tmp t) ix hop2 hev hvc
        have ht' := hintake i o2 him ho'
        unfold wpOp
        simp only [ho]
        rw [if_pos (by simp [Region.wanted, hg])]
        refine .inl ?_
        unfold Oper.wp
        rw [hrun]
        refine .inr (.inl ⟨fun j hj hjn => ?_, full, f1, by rw [put_size]; exact f2, by rw [put_defers]; exact f3, fun t2 ht2 => ?_, f5, f6, f7⟩)
        · by_cases e : i = j
          · subst e; exact absurd hjl hjn
          · rw [getD_set_ne true e]; exact hlB j hj hjn
        · by_cases e : t2 = d
          · subst e
            rw [hdd, z6b (by rw [f2]; exact (hdst i o2 t2 ht' hdd).1)]
            exact (f5 i hjl o2 t2 ho' hdd).symm
          · rw [zlb (by rw [hdd]; exact fun h => e (Option.some.inj h).symm)]
            refine f4 t2 fun j oj hj hoj hf => ?_
            by_cases e2 : i = j
            · subst e2
              obtain rfl : o2 = oj := Option.some.inj (ht'.symm.trans hoj)
              rw [hdd]; exact fun h => e (Option.some.inj h).symm
            · exact ht2 j oj hj hoj (by rw [getD_set_ne true e2]; exact hf)
      · have := (hlk i hil).2 (by omega)
        rw [this] at hiu; cases hiu
    · have hmi : m ≤ i := Nat.le_of_not_lt him
      have hahead := htail listed i hs hi hmi
      by_cases hime : i = m
      · subst hime
        obtain rfl : om = o := Option.some.inj (hom.symm.trans ho')
        rcases hinv with ⟨htl, hB, hz, hd, hbase, hYs⟩ | ⟨hlB, _⟩ | ⟨k, hmk, hlk, _⟩
        · have hahead' : ∀ j, j < i → j ∉ late → listed.getD j true = true := fun j h1 h2 => hahead j h1 (fun h => h2 h.2)
          let p : Nat → Value := fun j => if j ∈ late then c j else a.eval (match ((L.take i)[j]?).bind (·.dst) with | some d => .tmp d | none => .const undef)
          have hya : YAll Y p w (L.take i) 0 := yall_of (L.take i) 0 fun j oj hoj hdn => by
            rw [Nat.zero_add]
            by_cases hjl : j ∈ late
            · simp only [p, if_pos hjl]; exact (hlY j hjl w _).2 rfl
            · cases hdo : oj.dst with
              | none => exact absurd hdo hdn
              | some d =>
                simp only [p, if_neg hjl, hoj, hdo, Option.bind_some]
                exact hYs j oj d hoj (hahead' j (htake j oj hoj).1 hjl) hdo
          obtain ⟨w', hrun, hwp⟩ := hend p w hB hya om ho'
          obtain ⟨z1, z2⟩ := lay_size p (L.take i) 0 a0
          have hfe : ∀ (j : Nat) (oj : Oper) (d : Tmp), (L.take i)[j]? = some oj → oj.dst = some d → (ztb p (L.take i) 0 a0).eval (.tmp d) = p j := fun j oj d hoj hdo => by
            have := lay_at p (L.take i) 0 j a0 oj hoj hdo (by rw [hn]; exact (hdst j oj d hoj hdo).1) fun q oq hq hne => hdis j q oj oq d hoj hq hne hdo
            rwa [Nat.zero_add] at this
          have hagree : ∀ t : Tmp, (∀ (j : Nat) (oj : Oper), j ∈ late → (L.take i)[j]? = some oj → listed.getD j true = false → oj.dst ≠ some t) → a.eval (.tmp t) = (ztb p (L.take i) 0 a0).eval (.tmp t) := by
            intro t ht
            cases hj : zub (L.take i) t with
            | none => rw [lay_base _ (L.take i) 0 a0 (zbc hj)]; exact hbase t fun j oj hoj _ => zbc hj j oj hoj
            | some j =>
              obtain ⟨oj, hoj, hdj⟩ := depOf_some hj
              rw [hfe j oj t hoj hdj]
              by_cases hjl : j ∈ late
              · simp only [p, if_pos hjl]
                cases hlj : listed.getD j true with
                | false => exact absurd hdj (ht j oj hjl hoj hlj)
                | true => exact (hlY j hjl w _).1 (hYs j oj t hoj hlj hdj)
              · simp only [p, if_neg hjl, hoj, hdj, Option.bind_some]
          have hex : (execOp a.eval om).run P w = .ok .skip w' := by
            rw [← hrun]
            unfold execOp
            simp only [hos]
            rw [hagree sx fun j oj hj hoj _ => hnot sx hx0 j hj oj hoj, hagree sy fun j oj hj hoj _ => hnot sy hy0 j hj oj hoj]
          unfold wpOp
          simp only [ho]
          have hg := hT1 om (by rw [List.drop_eq_getElem_cons hml]; rw [List.getElem?_eq_getElem hml] at ho'; rw [Option.some.inj ho']; exact List.mem_cons_self)
          rw [if_pos (by simp [Region.wanted, hg])]
          refine .inl ?_
          unfold Oper.wp
          rw [hex]
          refine .inr (.inl ⟨fun j hj hjn => ?_, _, z1.trans hn, by rw [put_size]; exact hz, by rw [put_defers, hd, z2], fun t ht => ?_, fun j hj oj d hoj hdo => ?_, fun j hj oj t ix hoj hop2 => ?_, hwp⟩)
          · by_cases hji : i = j
            · subst hji; exact ⟨fun _ => by omega, fun _ => hset1⟩
            · rw [getD_set_ne true hji]
              refine ⟨fun h => ?_, fun h => hahead' j (by omega) hjn⟩
              apply Classical.byContradiction
              intro h2
              rw [htl j (by omega) hj] at h; cases h
          · rw [zlb (by rw [hod]; exact fun h => by cases h)]
            refine hagree t fun j oj hj hoj hf => ht j oj hj hoj ?_
            rw [getD_set_ne true (by have := (htake j oj hoj).1; omega)]; exact hf
          · obtain ⟨_, _, _, _, _, _, hjm, _⟩ := hlate j hj
            rw [hfe j oj d (hintake j oj hjm hoj) hdo]
            simp only [p, if_pos hj]
          · obtain ⟨o3, _, t3, ix3, k, ho3, _, _, _, hop3, hk, hkl⟩ := hlate j hj
            obtain rfl : o3 = oj := Option.some.inj (ho3.symm.trans hoj)
            have e3 := hop3.symm.trans hop2
            injection e3 with e4 e5
            injection e4 with e6
            subst e6; subst e5
            obtain ⟨ok, hok2, hdk⟩ := depOf_some hk
            obtain ⟨vs, e1, e2⟩ := hlS j hj o3 t3 ix3 k hoj hop2 hk w _ (hYs k ok t3 hok2 (hahead' k (htake k ok hok2).1 hkl) hdk)
            refine ⟨vs, ?_, e2⟩
            rw [← hagree t3 fun q oq hq hoq _ => hnot t3 (by unfold notLate; rw [hk]; simp only [Bool.not_eq_true', ← Bool.not_eq_true, List.contains_iff_mem]; exact hkl) q hq oq hoq]
            exact e1
        · have hmn : i ∉ late := fun h => by obtain ⟨_, _, _, _, _, _, hjm, _⟩ := hlate i h; omega
          have := (hlB i hil hmn).2 (by omega)
          rw [this] at hiu; cases hiu
        · have := (hlk i hil).2 (by omega)
          rw [this] at hiu; cases hiu
      · have hk : (∀ j, j < L.length → (listed.getD j true = true ↔ j < i)) ∧ wpList P L.toArray Q (L.drop i) a w := by
          have hall2 : ∀ j, j < i → listed.getD j true = true := fun j h1 => hahead j h1 (fun h => hime h.1)
          have hC : C listed a w := by
            rcases hinv with ⟨htl, _⟩ | hB | hC
            · have h1 := hall2 m (by omega)
              rw [htl m (Nat.le_refl _) hml] at h1; cases h1
            · refine hBC _ _ _ hB fun j hj => ?_
              obtain ⟨_, _, _, _, _, _, hjm, _⟩ := hlate j hj
              exact hall2 j (by omega)
            · exact hC
          obtain ⟨k, hmk, hlk, hwp⟩ := hC
          obtain rfl : k = i := by
            refine Nat.le_antisymm (Nat.le_of_not_lt fun hlt => ?_) (Nat.le_of_not_lt fun hlt => ?_)
            · have := (hlk i hil).2 hlt
              rw [this] at hiu; cases hiu
            · have := (hlk k (by omega)).1 (hall2 k hlt)
              omega
          exact ⟨hlk, hwp⟩
        obtain ⟨hlk, hwp⟩ := hk
        have hdr : L.drop i = L[i] :: L.drop (i + 1) := List.drop_eq_getElem_cons hil
        have hoe : L[i] = o := by rw [List.getElem?_eq_getElem hil] at ho'; exact Option.some.inj ho'
        rw [hoe] at hdr
        have hg := hT1 o (by
          have h6 : L.drop i = (L.drop m).drop (i - m) := by rw [List.drop_drop]; congr 1; omega
          have h7 : o ∈ L.drop i := by rw [hdr]; exact List.mem_cons_self
          rw [h6] at h7
          exact List.mem_of_mem_drop h7)
        have hset : ∀ j, j < L.length → ((listed.setIfInBounds i true).getD j true = true ↔ j < i + 1) := by
          intro j hj
          by_cases hji : j = i
          · subst hji; simp [hsl, hj]
          · rw [getD_set_ne true (fun e => hji e.symm), hlk j hj]; omega
        rw [hdr] at hwp
        unfold wpList at hwp
        unfold wpOp
        simp only [ho]
        have hw' : ∀ g, Region.wanted o g = true := fun g => by simp [Region.wanted, hg]
        simp only [hw', if_true] at hwp ⊢
        exact hwp.imp (Oper.wp_mono fun a' w' h' => .inr (.inr ⟨i + 1, by omega, hset, h'⟩)) (fun h => h)
  · rintro listed a w hs hinv hr
    have hsl : listed.size = L.length := by simpa using hs
    have hlisted : ∀ j, j < L.length → listed.getD j true = true := fun j hj => by
      cases h : listed.getD j true with
      | true => rfl
      | false => exact absurd hr (z5a hE hs j (by simpa using hj) h)
    have hC : C listed a w := by
      rcases hinv with ⟨htl, _⟩ | hB | hC
      · have h1 := hlisted m hml
        rw [htl m (Nat.le_refl _) hml] at h1; cases h1
      · refine hBC _ _ _ hB fun j hj => ?_
        obtain ⟨_, _, _, _, _, _, hjm, _⟩ := hlate j hj
        exact hlisted j (by omega)
      · exact hC
    obtain ⟨k, h1, hlk, h2⟩ := hC
    have hk : L.length ≤ k := Nat.le_of_not_lt fun hlt => absurd ((hlk k hlt).1 (hlisted k hlt)) (Nat.lt_irrefl _)
    rw [List.drop_eq_nil_of_le hk] at h2
    exact h2
theorem wp_region_stL {P : Program} {id : Nat} {Q : Exit → Act → World → Prop} {a0 : Act} {W : World} {L : List Oper} (S : List StK) (m n e t i k : Nat) (vs : Array Value) (v : Value) (hn : a0.tmps.size = n) (hm : P.follows .mixedOrders = true) (hok : relOkL L m n [e] = true)
    (h1 : (L[e]?).map (·.op) = some (.extract (.tmp t) i)) (h2 : zub (L.take m) t = some k) (h3 : ∀ w u, stYK S k w u → u = .tuple vs) (h4 : vs[i]? = some v) (h5 : ∀ w u, stYK S e w u ↔ u = v)
    {om : Oper} (h0 : L[m]? = some om) (hop : HopAllT P L m Q (stYK S) a0 W (L.take m) 0)
    (hend : ∀ (p : Nat → Value) (w : World), Below W.heap.size W w → YAll (stYK S) p w (L.take m) 0 → ∃ w', (execOp (ztb p (L.take m) 0 a0).eval om).run P w = .ok .skip w' ∧ wpList P L.toArray Q (L.drop (m + 1)) (ztb p (L.take m) 0 a0) w') : (Code.region id L.toArray true).wp P Q a0 W := by
  refine wp_region_relL m n [e] (fun _ => v) hn hm hok (stYK S) (fun i w w' v hb h => ((S[i]?).getD StK.any).h _ w w' v hb h) hop ?_ ?_ ?_
  · intro j hj; obtain rfl := List.mem_singleton.1 hj; exact h5
  · intro j hj o t2 i2 k2 ho hop2 hk w u hu
    obtain rfl := List.mem_singleton.1 hj
    rw [ho] at h1
    have e1 := (Option.some.inj h1)
    simp only at e1
    have e3 := e1.symm.trans hop2
    injection e3 with e4 e5
    injection e4 with e6
    subst e6; subst e5
    rw [h2] at hk
    obtain rfl := Option.some.inj hk
    exact ⟨vs, h3 w u hu, h4⟩
  · intro p w hb hp om2 hom2
    obtain rfl := Option.some.inj (h0.symm.trans hom2)
    exact hend p w hb hp
end Go.Proofs.Ytcfepoopkfhojaa
namespace Go.Proofs.Ytcfepoopkfhojaa
open Go.ChangeShapes Go.WideShapes Go.ChangeAt Go.RowKit Go.Shelf
variable {ds : List Deferred}
section
variable {P : Program}
theorem relOkL_dst {L : List Oper} {m n : Nat} {late : List Nat} (hok : relOkL L m n late = true) : ∀ (i : Nat) (o : Oper) (d : Nat), (L.take m)[i]? = some o → o.dst = some d → d < n := by
  unfold relOkL at hok
  simp only [Bool.and_eq_true, List.all_eq_true] at hok
  obtain ⟨⟨⟨⟨⟨⟨-, -⟩, hall⟩, -⟩, -⟩, -⟩, -⟩ := hok
  intro i o d ho hd
  have hi : i < m := by
    rw [List.getElem?_take] at ho
    split at ho
    · assumption
    · cases ho
  have h1 := hall i (List.mem_range.2 hi)
  simp only [ho, hd, Bool.and_eq_true, decide_eq_true_eq] at h1
  exact h1.1.1
theorem region_fxL {id : Nat} {Q : Exit → Act → World → Prop} {a0 : Act} {W : World} {L : List Oper} {n : Nat} {V : List (Nat × Value)} (F : Fx n a0 V ds) (S : List StK) (m e t i k : Nat) (vs : Array Value) (v : Value) (hm : P.follows .mixedOrders = true) (hok : relOkL L m n [e] = true)
    (h1 : (L[e]?).map (·.op) = some (.extract (.tmp t) i)) (h2 : zub (L.take m) t = some k) (h3 : ∀ w u, stYK S k w u → u = .tuple vs) (h4 : vs[i]? = some v) (h5 : ∀ w u, stYK S e w u ↔ u = v)
    {om : Oper} (h0 : L[m]? = some om) (hop : HopAllT P L m Q (stYK S) a0 W (L.take m) 0)
    (hend : ∀ (p : Nat → Value) (a : Act) (w : World), Kc W.heap.size W w → Fx n a (layV p (L.take m) 0 V) ds → YAll (stYK S) p w (L.take m) 0 → ∃ w', (execOp a.eval om).run P w = .ok .skip w' ∧ wpList P L.toArray Q (L.drop (m + 1)) a w') : (Code.region id L.toArray true).wp P Q a0 W :=
  wp_region_stL S m n e t i k vs v F.size hm hok h1 h2 h3 h4 h5 h0 hop fun p w hb hY => hend p _ w (Kc.of_below (Nat.le_refl _) hb) (F.lay p (L.take m) 0 a0 V (relOkL_dst hok)) hY
theorem st_ex {ops : Array Oper} {Q : Exit → Act → World → Prop} {a : Act} {w w0 : World} {rest : List Oper} {o : Oper} {G : Option Nat} {R : List (Nat × Res)} (M : Mx G w0 w R) {k g off : Nat} {t : TypeId} {c : Array Value} (hk : look R k = some (blkR g t c)) (ty : TypeId) (x y : Operand) (ho : o.op = .store ty x y) (hx : a.eval x = .pointer (some ⟨g, off, none⟩)) {v : Value} (hy : a.eval y = v)
    (s c' : Array Value) (hv : v.cells = s) (hos : off + s.size ≤ c.size) (h1 : s.all (·.oneCell') = true) (hc' : (c.toList.take off ++ s.toList ++ c.toList.drop (off + s.size)).toArray = c') (hi : (P.info? ty).map (·.size) = some s.size)
    (h : ∀ w', Mx G w0 w' ((k, blkR g t c') :: R) → wpList P ops Q rest a w') : ∃ w', (execOp a.eval o).run P w = .ok .skip w' ∧ wpList P ops Q rest a w' :=
  ⟨_, y_st ty x y ho hx hy (M.blk hk) s c' hv hos h1 hc' hi, h _ (M.put hk (zeb _ _ _) (setRow_heap w g c c' t (0, 0) (M.blk hk)))⟩
end
end Go.Proofs.Ytcfepoopkfhojaa
/- sentinelref3: Bytes, Stretch, Stream; sponge.Stretch. -/
namespace Go.Proofs.Ytcfepoopkfhojaa
open Go.ChangeShapes Go.WideShapes Go.ChangeAt Go.RowKit Go.Shelf
theorem Byt.mono {w : World} {b b' : Nat} {v : Value} {l : List UInt8} (h : Byt w b v l) (hb : b' ≤ b) : Byt w b' v l := by
  refine ⟨h.1, ?_⟩
  rcases h.2 with hn | ⟨g, c, cur, e, hbg, rest⟩
  · exact .inl hn
  · exact .inr ⟨g, c, cur, e, Nat.le_trans hb hbg, rest⟩
def sumY (y : Nat → Int) : List UInt8 := (List.range 16).map fun j => UInt8.ofNat (y j).toNat
theorem zfc (y : Nat → Int) : (sumY y).length = 16 := by simp [sumY]
theorem sumY_val {z : Int} (h : 0 ≤ z ∧ z < 256) : (((UInt8.ofNat z.toNat).toNat : Nat) : Int) = z := by
  have e : (UInt8.ofNat z.toNat).toNat = z.toNat := by simp; omega
  rw [e, Int.toNat_of_nonneg h.1]
theorem sumY_take (y : Nat → Int) {k : Nat} (hk : k < 16) : (sumY y).take (k + 1) = (sumY y).take k ++ [UInt8.ofNat (y k).toNat] := by
  have h : k < (sumY y).length := by rw [zfc]; exact hk
  rw [List.take_succ_eq_append_getElem h]
  congr 2
  simp [sumY]
theorem arr16_at' (y : Nat → Int) {j : Nat} (hj : j < 16) : (zk y)[j]? = some (.int .u8 (y j)) := by
  have : j = 0 ∨ j = 1 ∨ j = 2 ∨ j = 3 ∨ j = 4 ∨ j = 5 ∨ j = 6 ∨ j = 7 ∨ j = 8 ∨ j = 9 ∨ j = 10 ∨ j = 11 ∨ j = 12 ∨ j = 13 ∨ j = 14 ∨ j = 15 := by omega
  rcases this with rfl | rfl | rfl | rfl | rfl | rfl | rfl | rfl | rfl | rfl | rfl | rfl | rfl | rfl | rfl | rfl <;> rfl
theorem arr16_put (y : Nat → Int) (v : Int) {k : Nat} (hk : k < 16) : (zk y).setIfInBounds k (.int .u8 v) = zk (fun j => if j = k then v else y j) := by
  have : k = 0 ∨ k = 1 ∨ k = 2 ∨ k = 3 ∨ k = 4 ∨ k = 5 ∨ k = 6 ∨ k = 7 ∨ k = 8 ∨ k = 9 ∨ k = 10 ∨ k = 11 ∨ k = 12 ∨ k = 13 ∨ k = 14 ∨ k = 15 := by omega
  rcases this with rfl | rfl | rfl | rfl | rfl | rfl | rfl | rfl | rfl | rfl | rfl | rfl | rfl | rfl | rfl | rfl <;> simp [zk]
theorem arr16_congr {y z : Nat → Int} (h : ∀ j, j < 16 → y j = z j) : zk y = zk z := by
  simp [zk, h 0, h 1, h 2, h 3, h 4, h 5, h 6, h 7, h 8, h 9, h 10, h 11, h 12, h 13, h 14, h 15]
theorem srbytes_any (y : Nat → Int) (hy : ∀ k, 0 ≤ y k ∧ y k < 256) (w : World) :
    Calls Try.prog 22 #[.agg (zk y)] w fun e w' => ∃ v, e = .returned v ∧ Byt w' w.heap.size v (sumY y) ∧ Below w.heap.size w w' := by
  have HT := hid (fun k (hk : k < 16) => sumY_take y hk)
  have HV := hid (fun k => sumY_val (hy k))
  have HL := hid (zfc y)
  have z0 := Blk.new w 37 (zk y)
  have b0 := zma w (.cells (zk y) 37)
  have s0 : (w.alloc (.cells (zk y) 37)).heap.size = w.heap.size + 1 := by simp
  go_enter Try.func22, Try.ntmps22
  go_wp2
  generalize World.alloc _ _ = W at *
  go_loopw [3, 4] (fun v i wr => ∃ k : Nat, k ≤ 16 ∧ i = .int .i64 k ∧ Byt wr (w.heap.size + 1) v ((sumY y).take k) ∧ Below (w.heap.size + 1) W wr) (fun _ i _ => 16 - (intOf i).toNat)
  case atStart => exact ⟨0, by omega, rfl, Byt.nil _ _, Below.refl _ _⟩
  case round =>
    obtain ⟨k, hk, rfl, hv, hB⟩ := hrel
    by_cases hlt : k < 16
    · have et := HT.out k hlt
      have hvk := HV.out k
      have hle : ((sumY y).take k).length ≤ 16 := by rw [List.length_take, HL.out]; omega
      obtain ⟨x, hx⟩ : ∃ x, x = UInt8.ofNat (y k).toNat := ⟨_, rfl⟩
      rw [← hx] at et hvk
      have hrd : Rd (wr.alloc (.cells #[Value.int .u8 (y k)] 5)) (some ⟨wr.heap.size, 0, none⟩) [x] := by
        have := rd_one x wr
        rw [hvk] at this
        exact this
      have hz := hB.size
      have hck : wr.cell? ⟨w.heap.size, k, none⟩ = some (.int .u8 (y k)) := (Blk.cell (z0.below hB (by omega)) (arr16_at' y hlt))
      generalize y k = Y at *
      clear hx hvk HT HV z0
      go_wp2_with (refine wpList_append_bytes rfl (.tmp 9) (.tmp 13) rfl (w.heap.size + 1) _ _ [x] rfl (hv.alloc _) _ 1 1 rfl rfl (fun h => by cases h) hrd (by simp <;> omega) (by simp; omega) ?_; intro v' w' h1 h2 h3)
      go_roundw
      case rel => exact ⟨k + 1, by omega, by go_num, by rw [et]; exact h1, hB.trans (step_app3 h2 (by omega))⟩
      case measure => simp [intOf]; omega
    · obtain rfl : k = 16 := by omega
      rw [List.take_of_length_le (by rw [HL.out]; omega)] at hv
      go_wp2
      go_ret
      exact ⟨_, rfl, hv.mono (by omega), b0.trans (hB.mono (by omega))⟩
def xorB (a b : Int) : Int := bits .xor .u8 a b
theorem xorB_bd (a b : Int) : 0 ≤ xorB a b ∧ xorB a b < 256 := by
  have := wrap_within .u8 (bits .xor .u8 a b)
  unfold xorB bits
  rw [IntKind.wrap_u8]
  omega
def strU (p s : List UInt8) : Nat → W8
  | 0 => macW p [s]
  | k + 1 => macW p [sumL (strU p s k)]
def strA (p s : List UInt8) : Nat → Nat → Int
  | 0, j => outF (strU p s 0) j
  | k + 1, j => xorB (strA p s k j) (outF (strU p s (k + 1)) j)
theorem strA_bd (p s : List UInt8) : ∀ k j, 0 ≤ strA p s k j ∧ strA p s k j < 256
  | 0, j => outF_bd _ _
  | k + 1, j => xorB_bd _ _
def midA (a b : Nat → Int) (k j : Nat) : Int := if j < k then xorB (a j) (b j) else a j
theorem midA_set (a b : Nat → Int) {k : Nat} (hk : k < 16) : (zk (midA a b k)).setIfInBounds k (.int .u8 (xorB (a k) (b k))) = zk (midA a b (k + 1)) := by
  rw [arr16_put _ _ hk]
  refine arr16_congr fun j _ => ?_
  unfold midA
  by_cases e : j = k
  · subst e; rw [if_pos rfl, if_pos (by omega)]
  · rw [if_neg e]
    by_cases h : j < k
    · rw [if_pos h, if_pos (by omega)]
    · rw [if_neg h, if_neg (by omega)]
theorem midA_zero (a b : Nat → Int) : zk a = zk (midA a b 0) := arr16_congr fun j _ => by unfold midA; rw [if_neg (by omega)]
theorem midA_full (a b : Nat → Int) : zk (midA a b 16) = zk (fun j => xorB (a j) (b j)) := arr16_congr fun j hj => by unfold midA; rw [if_pos hj]
attribute [irreducible] xorB
end Go.Proofs.Ytcfepoopkfhojaa
namespace Go.Proofs.Ytcfepoopkfhojaa
def NoDiv (n : Int) : Prop := ∀ d : Int, 2 ≤ d → d * d ≤ n → n % d ≠ 0
open Classical in
noncomputable def primeB (n : Int) : Bool := decide (2 ≤ n ∧ n < 2147483648 ∧ NoDiv n)
open Classical in
theorem primeB_yes {n : Int} (h0 : 2 ≤ n) (h1 : n < 2147483648) (h : NoDiv n) : primeB n = true := by unfold primeB; exact decide_eq_true ⟨h0, h1, h⟩
open Classical in
theorem primeB_no {n : Int} (h : ¬ (2 ≤ n ∧ n < 2147483648 ∧ NoDiv n)) : primeB n = false := by unfold primeB; exact decide_eq_false h
def okN (n D : Nat) : Nat → Bool
  | 0 => true
  | f + 1 => (n % (D - f) != 0) && okN n D f
theorem okN_spec {n D : Nat} : ∀ f, okN n D f = true → ∀ d, D - f < d → d ≤ D → n % d ≠ 0
  | 0, _, d, h1, h2 => by omega
  | f + 1, h, d, h1, h2 => by
    unfold okN at h
    simp only [Bool.and_eq_true, bne_iff_ne, ne_eq] at h
    by_cases e : d = D - f
    · rw [e]; exact h.1
    · exact okN_spec f h.2 d (by omega) h2
theorem okN_bad {n D : Nat} : ∀ f, okN n D f = false → ∃ d, D - f < d ∧ d ≤ D ∧ n % d = 0 ∨ ∃ g, g < f ∧ n % (D - g) = 0
  | 0, h => by cases h
  | f + 1, h => by
    unfold okN at h
    by_cases e : n % (D - f) = 0
    · exact ⟨0, .inr ⟨f, by omega, e⟩⟩
    · have h2 : okN n D f = false := by simpa [e] using h
      obtain ⟨d, h3 | ⟨g, h4, h5⟩⟩ := okN_bad f h2
      · exact ⟨d, .inl ⟨by omega, h3.2.1, h3.2.2⟩⟩
      · exact ⟨0, .inr ⟨g, by omega, h5⟩⟩
def primeF (n D : Nat) : Bool := okN n D (D - 1)
theorem primeF_yes {n D : Nat} (h2 : 2 ≤ n) (hn : n < 2147483648) (hD : n < (D + 1) * (D + 1)) (h : primeF n D = true) : primeB (n : Int) = true := by
  refine primeB_yes (by omega) (by omega) fun d h1 h3 => ?_
  obtain ⟨e, rfl⟩ := Int.eq_ofNat_of_zero_le (show 0 ≤ d by omega)
  have h3' : e * e ≤ n := by exact_mod_cast h3
  have he : e ≤ D := by
    refine Nat.le_of_lt_succ (Nat.lt_of_not_le fun hle => ?_)
    have : (D + 1) * (D + 1) ≤ e * e := Nat.mul_le_mul hle hle
    omega
  have := okN_spec _ h e (by omega) he
  intro h4
  exact this (by exact_mod_cast h4)
theorem primeF_no {n d : Nat} (h2 : 2 ≤ d) (hd : d * d ≤ n) (h : n % d = 0) : primeB (n : Int) = false := by
  refine primeB_no fun ⟨_, _, hp⟩ => hp (d : Int) (by omega) (by exact_mod_cast hd) (by exact_mod_cast h)
def compF (n D : Nat) : Bool := !(okN n D (D - 1))
theorem compF_no {n D : Nat} (hD : D * D ≤ n) (h : compF n D = true) : primeB (n : Int) = false := by
  unfold compF at h
  have h1 : okN n D (D - 1) = false := by simpa using h
  obtain ⟨d, h3 | ⟨g, h4, h5⟩⟩ := okN_bad _ h1
  · have : d * d ≤ D * D := Nat.mul_le_mul h3.2.1 h3.2.1
    exact primeF_no (by omega) (by omega) h3.2.2
  · have : (D - g) * (D - g) ≤ D * D := Nat.mul_le_mul (by omega) (by omega)
    exact primeF_no (d := D - g) (by omega) (by omega) h5
end Go.Proofs.Ytcfepoopkfhojaa
namespace Go.Proofs.Ytcfepoopkfhojaa
open Go.ChangeShapes Go.WideShapes Go.ChangeAt Go.RowKit
theorem sq_le {D : Int} (h : 2 ≤ D) : D ≤ D * D := by
  have := Int.mul_le_mul_of_nonneg_left (show (1 : Int) ≤ D by omega) (show (0 : Int) ≤ D by omega)
  omega
theorem sq_bd {D n : Int} (h : 2 ≤ D) (hs : (D - 1) * (D - 1) ≤ n) (hn : n < 2147483648) : 0 ≤ D * D ∧ D * D < 1099511627776 ∧ D ≤ 46342 := by
  have h3 : D ≤ 46342 := by
    refine Int.le_of_not_gt fun hgt => ?_
    have := Int.mul_le_mul (show (46342 : Int) ≤ D - 1 by omega) (show (46342 : Int) ≤ D - 1 by omega) (by omega) (show (0 : Int) ≤ D - 1 by omega)
    omega
  have h4 := Int.mul_le_mul h3 h3 (show (0 : Int) ≤ D by omega) (by omega)
  have h5 := Int.mul_nonneg (show (0 : Int) ≤ D by omega) (show (0 : Int) ≤ D by omega)
  exact ⟨h5, by omega, h3⟩
theorem rprime_any (n : Int) (h0 : -9223372036854775808 ≤ n) (h1 : n < 9223372036854775808) (w : World) :
    Calls Try.prog 46 #[.int .i64 n] w fun e w' => e = .returned (.bool (primeB n)) ∧ w = w' := by
  obtain ⟨V, hV⟩ : ∃ V, Hid (primeB n = V) := ⟨_, hid rfl⟩
  rw [hV.out]
  by_cases ha : n < 2
  · obtain rfl : V = false := by rw [← hV.out]; exact primeB_no (by omega)
    go_enter Try.func46, Try.ntmps46
    go_wp2
    go_ret
    exact ⟨rfl, rfl⟩
  by_cases hb : n < 2147483648
  · have h2 : 2 ≤ n := by omega
    clear h0 h1 ha
    go_enter Try.func46, Try.ntmps46
    go_wp2_with fail
    go_loopw [3] (fun d wr => ∃ D : Int, 2 ≤ D ∧ Hid ((D - 1) * (D - 1) ≤ n) ∧ d = .int .i64 D ∧ Hid (∀ e : Int, 2 ≤ e → e < D → n % e ≠ 0) ∧ w = wr) (fun d _ => (n + 2 - intOf d).toNat)
    case atStart => exact ⟨2, by omega, hid (by omega), rfl, hid (fun e g1 g2 => absurd g2 (by omega)), rfl⟩
    case round =>
      obtain ⟨D, hD, hs, rfl, hn, rfl⟩ := hrel
      obtain ⟨q0, q1, q2⟩ := sq_bd hD hs.out hb
      obtain ⟨s, hsq⟩ : ∃ s, Hid (D * D = s) := ⟨_, hid rfl⟩
      rw [hsq.out] at q0 q1
      have hds : D * D = s := hsq.out
      have hz : (D == 0) = false := by rw [beq_eq_false_iff_ne]; omega
      by_cases hle : s ≤ n
      · have hlt : D < n + 2 := by have := sq_le hD; have := hsq.out; omega
        obtain ⟨R, hR⟩ : ∃ R, Hid (n % D = R) := ⟨_, hid rfl⟩
        have ht : n.tmod D = R := by rw [Int.tmod_eq_emod_of_nonneg (by omega)]; exact hR.out
        by_cases hr : R = 0
        · subst hr
          obtain rfl : V = false := by rw [← hV.out]; exact primeB_no (fun h => h.2.2 D hD (by rw [hsq.out]; exact hle) hR.out)
          go_wp2_with fail
          go_ret
          exact ⟨rfl, rfl⟩
        · have hr' : (R == 0) = false := beq_eq_false_iff_ne.2 hr
          go_wp2_with fail
          go_roundw
          case rel => exact ⟨D + 1, by omega, hid (by rw [Int.add_sub_cancel, hsq.out]; exact hle), by go_num, hid (fun e g1 g2 => by
            by_cases e1 : e = D
            · subst e1; rw [hR.out]; exact hr
            · exact hn.out e g1 (by omega)), (by first | rfl | trivial)⟩
          case measure => simp [intOf] <;> omega
      · obtain rfl : V = true := by
          rw [← hV.out]
          refine primeB_yes h2 hb fun d g1 g2 => hn.out d g1 (Int.lt_of_not_ge fun hge => ?_)
          have := Int.mul_le_mul hge hge (show (0 : Int) ≤ D by omega) (show (0 : Int) ≤ d by omega)
          have := hsq.out
          omega
        go_wp2_with fail
        go_ret
        exact ⟨rfl, rfl⟩
  · obtain rfl : V = false := by rw [← hV.out]; exact primeB_no (by omega)
    go_enter Try.func46, Try.ntmps46
    go_wp2
    go_ret
    exact ⟨rfl, rfl⟩
end Go.Proofs.Ytcfepoopkfhojaa
