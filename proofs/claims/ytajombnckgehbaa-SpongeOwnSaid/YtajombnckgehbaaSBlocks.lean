/- (*Sponge).blocks$1: the iterator, under whatever takes a block. -/
import Derived.Test.YtajombnckgehbaaSFeed
namespace Go.Proofs.Ytajombnckgehbaa
set_option linter.unusedVariables false
set_option linter.unusedSimpArgs false
open Go.ChangeShapes Go.WideShapes Go.ChangeAt Go.RowKit Go.Shelf
attribute [local go_sem] Oper.semAt_some

theorem size_u8 : (Try.prog.info? 5).map (·.size) = some 1 := by kernel_rfl
theorem elem_u8s : Try.prog.elem 29 = 5 := by kernel_rfl
theorem sizeOf_u8 (w : World) : (sizeOf 5).run Try.prog w = .ok 1 w := by kernel_rfl
def cutA (A : Option Addr) (c k : Nat) : Option Addr := if c = k then A else A.map (·.add k)
theorem slice_from (w : World) (A : Option Addr) (n c k : Nat) (hk : k ≤ n) : (Instr.sliceAt 29 (.slice A n c) (some (.int .i64 (k : Int))) none none).run Try.prog w = .ok (.slice (cutA A c k) (n - k) (c - k)) w := by
  have hu : Try.prog.underlying 29 = some (.slice (Try.prog.elem 29)) := by rw [elem_u8s]; exact Try.underlying29
  rw [run_sliceAt_slice _ _ _ _ _ _ hu, run_slice_l _ _ _ _ _ hu .i64 k (by omega) (by omega), elem_u8s, sizeOf_u8]
  simp only [Result.andThen_ok, sliced, Int.toNat_natCast, Nat.mul_one, cutA]
theorem Src.cut {N p : Nat} {w : World} {A : Option Addr} {r : List UInt8} (h : Src N p w A r) {c k : Nat} (hc : r.length ≤ c) : Src N p w (cutA A c k) (r.drop k) := fun hp => by
  rw [List.length_drop] at hp
  obtain ⟨b, o, e, h1, h2, h3⟩ := h (by omega)
  refine ⟨b, o + k, ?_, h1, h2, fun j x hx => ?_⟩
  · unfold cutA
    rw [if_neg (by omega), e]
    simp only [Option.map_some, addr_add]
  · rw [List.getElem?_drop] at hx
    have := h3 (k + j) x hx
    rwa [show o + (k + j) = o + k + j by omega] at this
/-- The bytes that are left, read off the world: the loop's measure. -/
def restW (bx : Nat) (w : World) : Nat := match w.cell? ⟨bx, 0, none⟩ with
  | some (.slice _ n _) => n
  | _ => 0
theorem copy_wait (W : World) (N p : Nat) (A : Option Addr) (r : List UInt8) (n c : Nat) (hr : r.length = n) (hS : Src N p W A r) (s : W8) (y : Nat → Int) (h k m mc : Nat) (hb : Blk W p 62 (arrS s y (h : Int))) (hk : k = min m n) (hm : h + m = 16) (hA : A = none → c = 0) :
    ∃ W2, (Builtin.copy_ #[29, 29] 3 #[.slice (some ⟨p, 8 + h, none⟩) m mc, .slice A n c]).run Try.prog W = .ok (.int .i64 (k : Int)) W2 ∧ Blk W2 p 62 (arrS s (laid y h (r.take k)) (h : Int)) ∧ W.grownBy W2 (some p) := by
  subst hr
  by_cases h0 : r.length = 0
  · obtain rfl : r = [] := List.eq_nil_of_length_eq_zero h0
    obtain rfl : k = 0 := by simpa using hk
    refine ⟨W, run_copy_none (P := Try.prog) W 29 29 3 5 _ A m mc 0 c Try.underlying29 size_u8 (by simp), ?_, World.grownBy.refl _ _⟩
    have e : laid y h (([] : List UInt8).take 0) = y := by funext j; unfold laid; rw [if_neg (by simp)]
    rw [e]; exact hb
  · obtain ⟨b, o, rfl, h1, h2, h3⟩ := hS (by omega)
    have hk2 : (r.take k).length = k := by rw [List.length_take]; omega
    have hrun := run_copy_row (P := Try.prog) W 29 29 3 5 p (8 + h) m mc ⟨b, o, none⟩ r.length c (arrS s y (h : Int)) 62 ((r.take k).map bv) Try.underlying29 size_u8 hb (by rw [List.length_map, hk2, hk, Nat.min_comm])
      (fun j v hj => by
        rw [List.getElem?_map] at hj
        obtain ⟨x, hx, rfl⟩ := Option.map_eq_some_iff.1 hj
        rw [List.getElem?_take] at hx
        split at hx
        · rw [addr_add]; exact h3 j x hx
        · cases hx) (by rw [List.length_map, hk2]; show 8 + h + k ≤ 25; omega) (fun v hv => by
        obtain ⟨x, _, rfl⟩ := List.mem_map.1 hv
        rfl)
    rw [List.length_map, hk2] at hrun
    refine ⟨_, hrun, ?_, grown_setRow _ _ _⟩
    have := setRow_heap W p (arrS s y (h : Int)) ((arrS s y (h : Int)).toList.take (8 + h) ++ (r.take k).map bv ++ (arrS s y (h : Int)).toList.drop (8 + h + k)).toArray 62 (0, 0) hb
    have e := arrS_copy s y (h : Int) h (r.take k) (by omega)
    rw [List.length_map, hk2] at e
    unfold Blk
    rw [this, e]
theorem Kp.undrew {N p : Nat} {a b : World} (h : Kp N p a.drew b) : Kp N p a b := ⟨h.os, h.tape, h.output, h.size, h.block⟩
theorem Kp.set {N p : Nat} {w : World} {a : Addr} (v : Value) (h : a.block = p ∨ N ≤ a.block) (hN : N ≤ w.heap.size) : Kp N p w (w.setCell a v) :=
  Kp.grown (grown_set (World.grownBy.refl w (some a.block)) rfl v) hN h
theorem RecAt.set {l D : Nat} {o1 o2 : Obj} {w : World} {a : Addr} (h : RecAt l D o1 o2 w) (v : Value) (hl : l ≠ a.block) (hD : D ≠ a.block) : RecAt l D o1 o2 (w.setCell a v) :=
  ⟨(Below.heap_setCell w a v l hl).trans h.1, (Below.heap_setCell w a v D hD).trans h.2.1, h.2.2⟩
theorem RecAt.grown {l D r : Nat} {o1 o2 : Obj} {w w' : World} (h : RecAt l D o1 o2 w) (hg : w.grownBy w' (some r)) (hl : l ≠ r) (hD : D ≠ r) : RecAt l D o1 o2 w' :=
  ⟨(hg.block l (Array.getElem?_eq_some_iff.1 h.1).1 (fun e => by cases e; exact hl rfl)).trans h.1, (hg.block D (Array.getElem?_eq_some_iff.1 h.2.1).1 (fun e => by cases e; exact hD rfl)).trans h.2.1, h.2.2⟩
theorem arrS_sub16 (s : W8) (y : Nat → Int) (h : Int) : ∀ (j : Nat) (v : Value), (arr16 y)[j]? = some v → (arrS s y h)[8 + j]? = some v := by
  intro j v hv
  have hj : j < 16 := (Array.getElem?_eq_some_iff.1 hv).1
  have : j = 0 ∨ j = 1 ∨ j = 2 ∨ j = 3 ∨ j = 4 ∨ j = 5 ∨ j = 6 ∨ j = 7 ∨ j = 8 ∨ j = 9 ∨ j = 10 ∨ j = 11 ∨ j = 12 ∨ j = 13 ∨ j = 14 ∨ j = 15 := by omega
  rcases this with rfl | rfl | rfl | rfl | rfl | rfl | rfl | rfl | rfl | rfl | rfl | rfl | rfl | rfl | rfl | rfl <;> exact hv
theorem load_wait {w : World} {p : Nat} {s : W8} {y : Nat → Int} {h : Int} (hb : Blk w p 62 (arrS s y h)) : (Instr.loadAt 34 (.pointer (some ⟨p, 8, none⟩))).run Try.prog w = .ok (.agg (arr16 y)) w :=
  run_load_sub w _ p 8 _ _ (arr16 y) _ hb (arrS_sub16 s y h) Try.underlying34 rfl size16
set_option maxHeartbeats 8000000 in
set_option maxRecDepth 100000 in
theorem blocks1_any (N p bx b2 l D : Nat) (o1 o2 : Obj) (W0 : World) (s0 : W8) (l0 : List UInt8) (A0 : Option Addr) (c0 : Nat) (r0 : List UInt8) (hbx : N ≤ bx) (hb2 : N ≤ b2) (hl : N ≤ l) (hD : N ≤ D) (hx2 : bx ≠ b2) (hxl : bx ≠ l) (hxD : bx ≠ D) (hpN : p < N) (hNW : N ≤ W0.heap.size)
    (hS0 : SpAt W0 p s0 l0) (hR0 : Src N p W0 A0 r0) (hB0 : Blk W0 bx 29 #[.slice A0 r0.length c0]) (hP0 : Blk W0 b2 30 #[.pointer (some ⟨p, 0, none⟩)]) (hc0 : r0.length ≤ c0) (hm0 : c0 ≤ maxLen) (hA0 : A0 = none → c0 = 0) (hrec : RecAt l D o1 o2 W0)
    (hY : ∀ (s : W8) (y : Nat → Int) (W : World), s.ok → (∀ k, 0 ≤ y k ∧ y k < 256) → Blk W p 62 (arrS s y 0) → RecAt l D o1 o2 W → Kp N p W0 W →
      YieldAt Fence.wide 1 Try.prog l #[.agg (arr16 y)] W fun e W' => e = .returned (.bool true) ∧ RecAt l D o1 o2 W' ∧ (Kp N p W W' ∧ W'.heap[bx]? = W.heap[bx]? ∧ W'.heap[b2]? = W.heap[b2]? ∧ Blk W' p 62 (arrS (takeW y s) y 0))) :
    CallsIn Fence.wide 2 Try.prog 50 #[.func (.yield l) #[] #[], .pointer (some ⟨bx, 0, none⟩), .pointer (some ⟨b2, 0, none⟩)] W0 fun e W' => (∃ v, e = .returned v) ∧ RecAt l D o1 o2 W' ∧ SpAt W' p (feed s0 (l0 ++ r0)).1 (feed s0 (l0 ++ r0)).2 ∧ Kp N p W0 W' := by
  obtain ⟨T, hT⟩ : ∃ T, T = feed s0 (l0 ++ r0) := ⟨_, rfl⟩
  rw [← hT]
  have HT := hid hT
  clear hT
  refine callsIn_wide.2 ?_
  go_enter Try.func50, Try.ntmps50
  go_wp2
  go_loopw [4] (fun z wr => ∃ (s : W8) (l' : List UInt8) (A : Option Addr) (c : Nat) (r : List UInt8), SpAt wr p s l' ∧ Src N p W0 A r ∧ Blk wr bx 29 #[.slice A r.length c] ∧ Blk wr b2 30 #[.pointer (some ⟨p, 0, none⟩)] ∧ r.length ≤ c ∧ c ≤ maxLen ∧ (A = none → c = 0) ∧ RecAt l D o1 o2 wr ∧ Kp N p W0 wr ∧ Hid (T = feed s (l' ++ r))) (fun _ wr => restW bx wr)
  case atStart => exact ⟨s0, l0, A0, c0, r0, hS0, hR0, hB0, hP0, hc0, hm0, hA0, hrec, Kp.refl _ _ _, HT⟩
  case round =>
    obtain ⟨s, l', A, c, r, hS, hR, hB, hP, hc, hm, hA, hre, hK, hTr⟩ := hrel
    clear hS0 hR0 hB0 hP0 hc0 hm0 hA0 hrec HT
    obtain ⟨n, hn⟩ : ∃ n, r.length = n := ⟨_, rfl⟩
    rw [hn] at hB hc
    unfold maxLen at hm
    have cB : wr.cell? ⟨bx, 0, none⟩ = some (.slice A n c) := hB.cell (k := 0) rfl
    have fB := hB.frozen 0
    have cP : wr.cell? ⟨b2, 0, none⟩ = some (.pointer (some ⟨p, 0, none⟩)) := hP.cell (k := 0) rfl
    obtain ⟨y, hy, hyl, hb, hsok, hl16⟩ := hS
    obtain ⟨h, hh⟩ : ∃ h, l'.length = h := ⟨_, rfl⟩
    rw [hh] at hb hl16
    by_cases h0 : n = 0
    · subst h0
      obtain rfl : r = [] := List.eq_nil_of_length_eq_zero hn
      have HH := hid hh
      have HN := hid hn
      clear hh hn
      go_wp2
      go_end0
      refine ⟨⟨_, rfl⟩, hre, ?_, hK⟩
      rw [hTr.out, List.append_nil, feed_lt (by rw [HH.out]; exact hl16)]
      exact ⟨y, hy, hyl, by rw [HH.out]; exact hb, hsok, by rw [HH.out]; exact hl16⟩
    · have h1n : 0 < n := by omega
      obtain ⟨k, m, hm16, hk⟩ : ∃ k m : Nat, h + m = 16 ∧ k = min m n := ⟨_, 16 - h, by omega, rfl⟩
      have hkn : k ≤ n := by omega
      have hkm : k ≤ m := by omega
      have hk0 : 0 < k := by omega
      obtain ⟨W2, hcp, hb2', hg2⟩ := copy_wait wr.drew N p A r n c hn (fun hp => (hR.kp hK) hp) s y h k m m hb.drew hk hm16 hA
      have hc24 : wr.cell? ⟨p, 24, none⟩ = some (.int .i64 (h : Int)) := hb.cell (k := 24) rfl
      have hh0 : (0 : Int) ≤ (h : Int) := Int.natCast_nonneg _
      have hh1 : (h : Int) ≤ 16 := by omega
      have hm1 : 16 - h = m := by omega
      have h16 : ¬ 16 = h := by omega
      have hpb : p ≠ bx := by omega
      have hpb' : bx ≠ p := by omega
      have hsl := fun w => slice_from w A n c k hkn
      have bB2 : Blk W2 bx 29 #[.slice A n c] := (hg2.block bx (by have := hB.lt; simpa using this) (fun e => by cases e; omega)).trans hB
      have bP2 : Blk W2 b2 30 #[.pointer (some ⟨p, 0, none⟩)] := (hg2.block b2 (by have := hP.lt; simpa using this) (fun e => by cases e; omega)).trans hP
      have cB2 : W2.cell? ⟨bx, 0, none⟩ = some (.slice A n c) := bB2.cell (k := 0) rfl
      have fB2 := bB2.frozen 0
      have cP2 : W2.cell? ⟨b2, 0, none⟩ = some (.pointer (some ⟨p, 0, none⟩)) := bP2.cell (k := 0) rfl
      have cH2 : W2.cell? ⟨p, 24, none⟩ = some (.int .i64 (h : Int)) := hb2'.cell (k := 24) rfl
      have fH2 := hb2'.frozen 24
      have HCP := hid hcp
      have HH := hid hh
      have HN := hid hn
      have HK := hid hk
      clear hcp hh hn hk h0
      go_wp2_with fail
      go_region_held3 (fun w' => w'.cell? ⟨bx, 0, none⟩ = some (.slice A n c) ∧ w'.cell? ⟨b2, 0, none⟩ = some (.pointer (some ⟨p, 0, none⟩)) ∧ w'.cell? ⟨p, 24, none⟩ = some (.int .i64 (h : Int))) (first | go_keep | exact ⟨cB2, cP2, cH2⟩)
        ((refine step_copy (by rfl) _ _ _ _ (by rfl) (by rfl) (by rfl) HCP.out ?_))
      have hcase : (h + k < 16 ∧ k = n) ∨ h + k = 16 := by have := HK.out; omega
      have hNr : N ≤ wr.heap.size := Nat.le_trans hNW hK.size
      have hN2 : N ≤ W2.heap.size := Nat.le_trans hNr hg2.size
      have r2 : RecAt l D o1 o2 W2 := RecAt.grown (w := wr.drew) hre hg2 (by omega) (by omega)
      have K2 : Kp N p W0 W2 := hK.trans (Kp.undrew (Kp.grown hg2 hNr (.inl rfl)))
      obtain ⟨Y, hY2⟩ : ∃ Y, Y = laid y h (r.take k) := ⟨_, rfl⟩
      have Yb : ∀ j, 0 ≤ Y j ∧ Y j < 256 := fun j => by rw [hY2]; exact laid_bd hy h _ j
      have Yl : ∀ j, j < (l' ++ r.take k).length → Y j = byI (l' ++ r.take k) j := fun j hj => by
        rw [hY2, ← HH.out]
        exact laid_at hyl j hj
      rw [← hY2] at hb2'
      have YB := hid Yb
      have YL := hid Yl
      clear HCP hY2 Yb Yl hyl hy
      obtain ⟨W3, hW3⟩ : ∃ W3, W3 = W2.setCell ⟨bx, 0, none⟩ (.slice (cutA A c k) (n - k) (c - k)) := ⟨_, rfl⟩
      have b3 : Blk W3 p 62 (arrS s Y (h : Int)) := by rw [hW3]; exact (Below.heap_setCell W2 _ _ p hpb).trans hb2'
      have B3 : Blk W3 bx 29 #[.slice (cutA A c k) (n - k) (c - k)] := by rw [hW3]; exact bB2.set 0 _ rfl
      have P3 : Blk W3 b2 30 #[.pointer (some ⟨p, 0, none⟩)] := by rw [hW3]; exact (Below.heap_setCell W2 _ _ b2 (fun e => hx2 e.symm)).trans bP2
      have r3 : RecAt l D o1 o2 W3 := by rw [hW3]; exact r2.set _ (fun e => hxl e.symm) (fun e => hxD e.symm)
      have K3 : Kp N p W0 W3 := by rw [hW3]; exact K2.trans (Kp.set _ (.inr hbx) hN2)
      have hN3 : N ≤ W3.heap.size := Nat.le_trans hNW K3.size
      have HW3 := hid hW3
      have b4 := fun v => b3.set 24 (.int .i64 v) (arrS_have s Y (h : Int) v)
      have B4 := fun v => (Below.heap_setCell W3 ⟨p, 24, none⟩ (.int .i64 v) bx hpb').trans B3
      have P4 := fun v => (Below.heap_setCell W3 ⟨p, 24, none⟩ (.int .i64 v) b2 (by simp only; omega)).trans P3
      have r4 := fun v => r3.set (a := ⟨p, 24, none⟩) (.int .i64 v) (by simp only; omega) (by simp only; omega)
      have K4 := fun v => K3.trans (Kp.set (a := ⟨p, 24, none⟩) (.int .i64 v) (.inl rfl) hN3)
      have B4 := hid B4
      have P4 := hid P4
      have b4 := hid b4
      have r4 := hid r4
      have K4 := hid K4
      clear hW3 r2 K2 b3 B3 P3 r3 K3
      rcases hcase with ⟨hlt, hkn2⟩ | heq
      · have hd : decide ((h : Int) + (k : Int) < 16) = true := by rw [decide_eq_true_iff]; omega
        have HKN := hid hkn2
        clear hkn2
        go_wp2
        refine bodyPost_ret (results_none rfl _ _ _) rfl ⟨⟨_, rfl⟩, ?_, ?_, ?_⟩
        · rw [← HW3.out]; exact r4.out _
        · have et : r.take k = r := List.take_of_length_le (by rw [HN.out, HKN.out]; exact Nat.le_refl _)
          have el : (l' ++ r).length = h + k := by rw [List.length_append, HH.out, HN.out, HKN.out]
          rw [hTr.out, feed_lt (by rw [el]; exact hlt), ← HW3.out]
          refine ⟨Y, YB.out, fun j hj => by have := YL.out j; rw [et] at this; exact this hj, ?_, hsok, by rw [el]; exact hlt⟩
          rw [el]
          have := b4.out ((h : Int) + (k : Int))
          rw [show ((h + k : Nat) : Int) = (h : Int) + (k : Int) by omega]
          exact this
        · rw [← HW3.out]; exact K4.out _
      · have hd : decide ((h : Int) + (k : Int) < 16) = false := by rw [decide_eq_false_iff_not]; omega
        go_upto_region 6 with (fail)
        have b5 : Blk ((W3.setCell ⟨p, 24, none⟩ (.int .i64 ((h : Int) + (k : Int)))).setCell ⟨p, 24, none⟩ (.int .i64 0)) p 62 (arrS s Y 0) := (b4.out _).set 24 _ (arrS_have s Y _ 0)
        have B5 := (Below.heap_setCell (W3.setCell ⟨p, 24, none⟩ (.int .i64 ((h : Int) + (k : Int)))) ⟨p, 24, none⟩ (.int .i64 0) bx hpb').trans (B4.out _)
        have P5 := (Below.heap_setCell (W3.setCell ⟨p, 24, none⟩ (.int .i64 ((h : Int) + (k : Int)))) ⟨p, 24, none⟩ (.int .i64 0) b2 (by simp only; omega)).trans (P4.out _)
        have r5 := (r4.out ((h : Int) + (k : Int))).set (a := ⟨p, 24, none⟩) (.int .i64 0) (by simp only; omega) (by simp only; omega)
        have K5 := (K4.out ((h : Int) + (k : Int))).trans (Kp.set (a := ⟨p, 24, none⟩) (.int .i64 0) (.inl rfl) (Nat.le_trans hNW (K4.out _).size))
        rw [HW3.out] at b5 B5 P5 r5 K5
        clear b4 B4 P4 r4 K4 HW3 hd
        generalize World.setCell (World.setCell (World.setCell _ _ _) _ _) _ _ = W5 at *
        refine (wpIn_wide (n := 2)).1 ?_
        have c5 : W5.cell? ⟨b2, 0, none⟩ = some (.pointer (some ⟨p, 0, none⟩)) := Blk.cell (k := 0) P5 rfl
        have hld := load_wait b5
        obtain ⟨fn, tmps, assign, body, hyy, hRo⟩ := hY s Y W5 hsok YB.out b5 r5 K5
        gi_wp2_with (refine wpListIn_load_run rfl _ _ rfl rfl hld ?_)
        refine hRo.mono ?_
        rintro e W6 ⟨rfl, r6, K6, e6x, e6b, b6⟩
        gi_wp2
        go_wp2
        go_roundw
        case rel =>
          have ed : (r.drop k).length = n - k := by rw [List.length_drop, HN.out]
          have el : (l' ++ r.take k).length = 16 := by rw [List.length_append, HH.out, List.length_take, HN.out]; omega
          refine ⟨takeW Y s, [], cutA A c k, c - k, r.drop k, ⟨Y, YB.out, fun j hj => absurd hj (by simp), b6, ok_takeW hsok, by decide⟩, hR.cut (by rw [HN.out]; exact hc), ?_, e6b.trans P5, by rw [ed]; omega, by unfold maxLen; omega, fun h => ?_, r6, K5.trans K6, hid ?_⟩
          · rw [ed]; exact e6x.trans B5
          · unfold cutA at h
            split at h
            · omega
            · have : A = none := by cases A <;> simp_all
              have := hA this; omega
          · rw [hTr.out, List.nil_append]
            have e1 : l' ++ r = (l' ++ r.take k) ++ r.drop k := by rw [List.append_assoc, List.take_append_drop]
            rw [e1, feed_block el, takeW_congr s (fun j hj => (YL.out j (by rw [el]; exact hj)).symm)]
        case measure =>
          have c6 : W6.cell? ⟨bx, 0, none⟩ = some (.slice (cutA A c k) (n - k) (c - k)) := Blk.cell (k := 0) (e6x.trans B5) rfl
          have f1 : restW bx W6 = n - k := by unfold restW; rw [c6]
          have f2 : restW bx wr = n := by unfold restW; rw [cB]
          rw [f1, f2]; omega
end Go.Proofs.Ytajombnckgehbaa
