/- sponge.counted, its iterator, each of it into a sponge. -/
import Derived.Test.YtajombnckgehbaaSWrite
namespace Go.Proofs.Ytajombnckgehbaa
set_option linter.unusedVariables false
set_option linter.unusedSimpArgs false
open Go.ChangeShapes Go.WideShapes Go.ChangeAt Go.RowKit Go.Shelf
attribute [local go_sem] Oper.semAt_some

/-- A number in eight bytes. -/
def eightL (n : Nat) : List UInt8 := (List.range 8).map fun j => UInt8.ofNat (byt (n : Int) j).toNat
theorem eightL_len (n : Nat) : (eightL n).length = 8 := by simp [eightL]
theorem eight_src (n : Nat) (hn : (n : Int) < 9223372036854775808) (p : Nat) (w : World) (hp : p < w.heap.size) :
    Calls Try.prog 44 #[.int .i64 (n : Int)] w fun e w' => e = .returned (.slice (some ⟨w.heap.size, 0, none⟩) 8 8) ∧ Below w.heap.size w w' ∧ Rd w' (some ⟨w.heap.size, 0, none⟩) (eightL n) := by
  refine (eight_any (n : Int) (Int.natCast_nonneg _) hn w).mono ?_
  rintro e w' ⟨rfl, hb, hr⟩
  refine ⟨rfl, hb, fun _ => ⟨_, rfl, hr.lt, fun j b hj => ?_⟩⟩
  have hj8 : j < 8 := by have := (List.getElem?_eq_some_iff.1 hj).1; rwa [eightL_len] at this
  rw [addr_add, Nat.zero_add, hr.cell hj8]
  unfold eightL at hj
  rw [List.getElem?_map, List.getElem?_range hj8] at hj
  obtain rfl := Option.some.inj hj
  unfold bv
  have := byt_bd (n : Int) j
  have e : (UInt8.ofNat (byt (n : Int) j).toNat).toNat = (byt (n : Int) j).toNat := by simp; omega
  rw [e, Int.toNat_of_nonneg this.1]
/-- Each part behind how many bytes it has. -/
def cat : List (List UInt8) → List UInt8
  | [] => []
  | l :: L => eightL l.length ++ l ++ cat L
theorem cat_append (L M : List (List UInt8)) : cat (L ++ M) = cat L ++ cat M := by
  induction L with
  | nil => rfl
  | cons l L ih => simp only [List.cons_append, cat, ih, List.append_assoc]
theorem cat_snoc (L : List (List UInt8)) (l : List UInt8) : cat (L ++ [l]) = cat L ++ eightL l.length ++ l := by
  rw [cat_append]; simp [cat]
/-- A slice of slices of bytes. -/
def PSrc (N p : Nat) (w : World) (A : Option Addr) (L : List (List UInt8)) : Prop :=
  0 < L.length → ∃ b o, A = some ⟨b, o, none⟩ ∧ b < N ∧ b ≠ p ∧ ∀ j l, L[j]? = some l → ∃ A' c', w.cell? ⟨b, o + j, none⟩ = some (.slice A' l.length c') ∧ l.length ≤ c' ∧ c' ≤ maxLen ∧ (A' = none → c' = 0) ∧ Src N p w A' l
theorem PSrc.kp {N p : Nat} {w w' : World} {A : Option Addr} {L : List (List UInt8)} (h : PSrc N p w A L) (k : Kp N p w w') : PSrc N p w' A L := fun hl => by
  obtain ⟨b, o, e, h1, h2, h3⟩ := h hl
  refine ⟨b, o, e, h1, h2, fun j l hj => ?_⟩
  obtain ⟨A', c', q1, q2, q3, q4, q5⟩ := h3 j l hj
  exact ⟨A', c', (cell_same (k.block b h1 h2)).trans q1, q2, q3, q4, q5.kp k⟩
theorem Src.mono {N M p : Nat} {w : World} {A : Option Addr} {l : List UInt8} (h : Src N p w A l) (hM : N ≤ M) : Src M p w A l := fun hl => by
  obtain ⟨b, o, e, h1, h2⟩ := h hl
  exact ⟨b, o, e, by omega, h2⟩
theorem PSrc.mono {N M p : Nat} {w : World} {A : Option Addr} {L : List (List UInt8)} (h : PSrc N p w A L) (hM : N ≤ M) : PSrc M p w A L := fun hl => by
  obtain ⟨b, o, e, h1, h2, h3⟩ := h hl
  refine ⟨b, o, e, by omega, h2, fun j l hj => ?_⟩
  obtain ⟨A', c', q1, q2, q3, q4, q5⟩ := h3 j l hj
  exact ⟨A', c', q1, q2, q3, q4, q5.mono hM⟩
def SpF (w : World) (p : Nat) (T : W8 × List UInt8) : Prop := SpAt w p T.1 T.2
set_option maxHeartbeats 8000000 in
set_option maxRecDepth 100000 in
theorem counted1_any (N p bx l D : Nat) (o1 o2 : Obj) (W0 : World) (s0 : W8) (l0 : List UInt8) (A : Option Addr) (c : Nat) (L : List (List UInt8)) (hbx : bx < N) (hbp : bx ≠ p) (hl : N ≤ l) (hD : N ≤ D) (hpN : p < N) (hNW : N ≤ W0.heap.size)
    (hS0 : SpAt W0 p s0 l0) (hR0 : PSrc N p W0 A L) (hB0 : Blk W0 bx 39 #[.slice A L.length c]) (hc0 : L.length ≤ c) (hm0 : c ≤ maxLen) (hrec : RecAt l D o1 o2 W0)
    (hY : ∀ (s : W8) (l' : List UInt8) (A' : Option Addr) (c' : Nat) (b : List UInt8) (W : World), SpAt W p s l' → Src W.heap.size p W A' b → b.length ≤ c' → c' ≤ maxLen → (A' = none → c' = 0) → RecAt l D o1 o2 W → Kp N p W0 W →
      YieldAt Fence.wide 1 Try.prog l #[.slice A' b.length c'] W fun e W' => e = .returned (.bool true) ∧ RecAt l D o1 o2 W' ∧ (Kp N p W W' ∧ SpAt W' p (feed s (l' ++ b)).1 (feed s (l' ++ b)).2)) :
    CallsIn Fence.wide 2 Try.prog 49 #[.func (.yield l) #[] #[], .pointer (some ⟨bx, 0, none⟩)] W0 fun e W' => (∃ v, e = .returned v) ∧ RecAt l D o1 o2 W' ∧ SpAt W' p (feed s0 (l0 ++ cat L)).1 (feed s0 (l0 ++ cat L)).2 ∧ Kp N p W0 W' := by
  refine callsIn_wide.2 ?_
  obtain ⟨m, hm⟩ : ∃ m, L.length = m := ⟨_, rfl⟩
  rw [hm] at hB0 hc0
  unfold maxLen at hm0
  have cB : W0.cell? ⟨bx, 0, none⟩ = some (.slice A m c) := hB0.cell (k := 0) rfl
  have HM := hid hm
  have EMP := hid (show cat (L.take 0) = [] from rfl)
  clear hm
  go_enter Try.func49, Try.ntmps49
  go_wp2
  go_loopw [7] (fun i wr => ∃ k : Nat, k ≤ m ∧ i = .int .i64 k ∧ SpF wr p (feed s0 (l0 ++ cat (L.take k))) ∧ RecAt l D o1 o2 wr ∧ Kp N p W0 wr) (fun i _ => m - (intOf i).toNat)
  case atStart => exact ⟨0, by omega, rfl, by
    rw [EMP.out, List.append_nil]
    have h16 : l0.length < 16 := by obtain ⟨y, _, _, _, _, h⟩ := hS0; exact h
    rw [feed_lt h16]; exact hS0, hrec, Kp.refl _ _ _⟩
  case round =>
    obtain ⟨k, hk, rfl, hS, hre, hK⟩ := hrel
    clear hS0 hrec hB0
    by_cases hlt : k < m
    · obtain ⟨q, hq⟩ : ∃ q, L[k]? = some q := ⟨_, List.getElem?_eq_getElem (by rw [HM.out]; exact hlt)⟩
      obtain ⟨bb, o, rfl, h1, h2, h3⟩ := (hR0.kp hK) (by rw [HM.out]; omega)
      obtain ⟨A', c', q1, q2, q3, q4, q5⟩ := h3 k q hq
      obtain ⟨n, hn⟩ : ∃ n, q.length = n := ⟨_, rfl⟩
      rw [hn] at q1
      have hnb : (n : Int) < 9223372036854775808 := by unfold maxLen at q3; omega
      have hn0 : (0 : Int) ≤ (n : Int) := Int.natCast_nonneg _
      have HQ := hid hq
      have HN := hid hn
      have hSp := hS.lt
      clear h3 hq hn
      go_upto_region 3 with (fail)
      refine (wpIn_wide (n := 2)).1 ?_
      gi_wp2_with (refine ⟨trivial, ?_⟩; gi_at_call 44; refine (callsIn_wide.2 (eight_src n hnb p _ hSp)).mono ?_; rintro e W1 ⟨rfl, b1, rd1⟩; obtain ⟨fn1, tmps1, assign1, body1, hy1, hRo1⟩ := hY _ _ (some ⟨wr.heap.size, 0, none⟩) 8 (eightL n) W1 (hS.of_block (b1.block p hSp)) (Src.of_rd rd1 (fun b o e => by cases e; omega)) (by rw [eightL_len]; exact Nat.le_refl _) (by unfold maxLen; omega) (fun h => by cases h) (hre.kept (KeepsOthers.of_grownBy (grownBy_of_below b1 none) (fun j o e => by cases e))) (hK.trans (Kp.below (b1.mono (Nat.le_trans hNW hK.size)))); rw [eightL_len] at hy1)
      clear cB
      refine hRo1.mono ?_
      rintro e W2 ⟨rfl, r2, K2, S2⟩
      clear hRo1 hy1 hre
      have K02 : Kp N p W0 W2 := (hK.trans (Kp.below (b1.mono (Nat.le_trans hNW hK.size)))).trans K2
      have Kr2 : Kp N p wr W2 := (Kp.below (b1.mono (Nat.le_trans hNW hK.size))).trans K2
      obtain ⟨fn2, tmps2, assign2, body2, hy2, hRo2⟩ := hY _ _ A' c' q W2 S2 ((q5.kp Kr2).mono (Nat.le_trans hNW K02.size)) q2 q3 q4 r2 K02
      rw [HN.out] at hy2
      gi_wp2
      refine hRo2.mono ?_
      rintro e W3 ⟨rfl, r3, K3, S3⟩
      gi_wp2
      go_wp2
      go_roundw
      case rel =>
        refine ⟨k + 1, by omega, by go_num, ?_, r3, K02.trans K3⟩
        have e1 : L.take (k + 1) = L.take k ++ [q] := by rw [List.take_add_one, HQ.out]; rfl
        have e2 : feed s0 (l0 ++ cat (L.take (k + 1))) = feed (feed (feed s0 (l0 ++ cat (L.take k))).1 ((feed s0 (l0 ++ cat (L.take k))).2 ++ eightL n)).1 ((feed (feed s0 (l0 ++ cat (L.take k))).1 ((feed s0 (l0 ++ cat (L.take k))).2 ++ eightL n)).2 ++ q) := by
          rw [e1, cat_snoc, HN.out, ← feed_append]
          simp only [List.append_assoc]
          rw [← feed_append]
          simp only [List.append_assoc]
        rw [e2]
        exact S3
      case measure => simp [intOf]; omega
    · obtain rfl : k = m := by omega
      go_wp2
      go_end0
      refine ⟨⟨_, rfl⟩, hre, ?_, hK⟩
      have := hS
      rw [List.take_of_length_le (by rw [HM.out]; exact Nat.le_refl _)] at this
      exact this

/-! each(counted(parts...), s.Write). -/
set_option maxHeartbeats 1000000 in
set_option maxRecDepth 100000 in
theorem counted_any (A : Option Addr) (n c : Nat) (w : World) :
    Calls Try.prog 39 #[.slice A n c] w fun e w' => e = .returned (.func (.func 49) #[] #[.pointer (some ⟨w.heap.size, 0, none⟩)]) ∧ w' = w.alloc (.cells #[.slice A n c] 39) := by
  go_enter Try.func39, Try.ntmps39
  go_wp2
  go_ret
  exact ⟨rfl, rfl⟩
structure Piece where
  s : W8
  l : List UInt8
  A : Option Addr
  c : Nat
  b : List UInt8
set_option maxHeartbeats 8000000 in
set_option maxRecDepth 100000 in
theorem each_any (p bx : Nat) (s : W8) (l : List UInt8) (A : Option Addr) (c : Nat) (L : List (List UInt8)) (hc : L.length ≤ c) (hm : c ≤ maxLen) (w : World) (hbp : bx ≠ p) (hS : SpAt w p s l) (hR : PSrc w.heap.size p w A L) (hB : Blk w bx 39 #[.slice A L.length c]) :
    Calls Try.prog 38 #[.func (.func 49) #[] #[.pointer (some ⟨bx, 0, none⟩)], .func (.func 21) #[.pointer (some ⟨p, 0, none⟩)] #[]] w fun e w' => e = .returned (.tuple #[]) ∧ w.grownBy w' (some p) ∧ SpAt w' p (feed s (l ++ cat L)).1 (feed s (l ++ cat L)).2 := by
  have hp := hS.lt
  have hbl := hB.lt
  refine (callsIn_wide (n := 3)).1 ?_
  refine callsIn_of_wp_marks (n := 3) Try.func38 rfl trivial ?_ rfl
  simp only [Try.ntmps38, List.size_toArray, List.length_cons, List.length_nil, Nat.reduceAdd, Nat.reduceSub, Array.replicate_succ, Array.replicate_zero, List.push_toArray, List.append_toArray, List.nil_append, List.cons_append]
  gi_wp2
  obtain ⟨w3, hw3⟩ : ∃ w3, w3 = w.alloc (.cells #[.func (.func 21) #[.pointer (some ⟨p, 0, none⟩)] #[]] 33) := ⟨_, rfl⟩
  have hz : w3.heap.size = w.heap.size + 1 := by rw [hw3]; simp
  have B0 : Blk w3 w.heap.size 33 #[.func (.func 21) #[.pointer (some ⟨p, 0, none⟩)] #[]] := by rw [hw3]; exact Blk.new w _ _
  have b3 : Below w.heap.size w w3 := by rw [hw3]; exact step_alloc w _
  rw [← hw3]
  clear hw3
  have S3 : SpAt w3 p s l := hS.of_block (b3.block p hp)
  have R3 : PSrc (w.heap.size + 1) p w3 A L := (hR.kp (Kp.below b3)).mono (by omega)
  refine wpIn_range (n := 3) rfl (by omega) (gf := 49) (lb := #[.pointer (some ⟨bx, 0, none⟩)]) rfl trivial (enters_of Try.func49 (by kernel_rfl) rfl)
    (α := Piece) (fun x => #[.slice x.A x.b.length x.c]) (fun _ => rfl)
    (fun x W => SpAt W p x.s x.l ∧ Src W.heap.size p W x.A x.b ∧ x.b.length ≤ x.c ∧ x.c ≤ maxLen ∧ (x.A = none → x.c = 0) ∧ Blk W w.heap.size 33 #[.func (.func 21) #[.pointer (some ⟨p, 0, none⟩)] #[]])
    (fun x W W' => Kp (w.heap.size + 1) p W W' ∧ SpAt W' p (feed x.s (x.l ++ x.b)).1 (feed x.s (x.l ++ x.b)).2)
    (fun W => SpAt W p (feed s (l ++ cat L)).1 (feed s (l ++ cat L)).2 ∧ Kp (w.heap.size + 1) p w3 W) ?round ?iter ?done
  case iter =>
    intro Lr D o1 o2 W1 hD hL hW1 hrec hY
    rw [hz] at hD hL
    have z1 : W1.heap.size = w.heap.size + 3 := by rw [hW1]; simp; omega
    have b1 : Below w3.heap.size w3 W1 := by rw [hW1]; exact ((Below.refl _ _).alloc (Nat.le_refl _) _).alloc (by simp) _
    have K31 : Kp (w.heap.size + 1) p w3 W1 := Kp.below (b1.mono (by omega))
    refine (counted1_any (w.heap.size + 1) p bx Lr D o1 o2 W1 s l A c L (by omega) hbp (by omega) (by omega) (by omega) (by omega) (S3.of_block (b1.block p (by omega))) (R3.kp K31) ((b1.block bx (by omega)).trans ((b3.block bx hbl).trans hB)) hc hm hrec ?_).mono ?_
    · intro s' l' A' c' b W hs' hsrc hb1 hb2 hb3 hr' hK'
      exact hY ⟨s', l', A', c', b⟩ W ⟨hs', hsrc, hb1, hb2, hb3, ((hK'.block w.heap.size (by omega) (by omega)).trans (b1.block _ (by omega))).trans B0⟩ hr'
    · rintro e W' ⟨h1, h2, h3, h4⟩
      exact ⟨h1, h2, h3, K31.trans h4⟩
  case done =>
    intro Lr D o W hD hL ⟨hf, hk⟩ hlt hnc hdd
    gi_wp2
    have pL : p ≠ Lr := by omega
    have pD : p ≠ D := by omega
    refine ⟨by simp, .inl ⟨_, _, rfl, run_takeDeferred hdd, ?_⟩⟩
    refine ⟨_, results_none rfl _ _ _, rfl, ?_, ?_⟩
    · refine Kp.grownBy ?_
      have k1 : Kp w.heap.size p w3 W := hk.mono (by omega)
      have k2 := Kp.putObj (N := w.heap.size) (p := p) W o (by omega : w.heap.size ≤ Lr) hlt
      have hDl : D < (W.putObj Lr o).heap.size := (Array.getElem?_eq_some_iff.1 hdd).1
      exact ((Kp.below b3).trans k1).trans (k2.trans (Kp.putObj _ _ (by omega) hDl))
    · exact (hf.of_block (World.putObj_heap_other pL)).of_block (World.putObj_heap_other pD)
  case round =>
    rintro Lr ⟨s', l', A', c', b'⟩ W hlo hlt ⟨hs', hsrc, hb1, hb2, hb3, hB0⟩
    dsimp only at hs' hsrc hb1 hb2 hb3
    obtain ⟨n, hn⟩ : ∃ n, b'.length = n := ⟨_, rfl⟩
    dsimp only
    rw [hn] at hb1 ⊢
    gi_wp2
    refine ⟨KeepsOthers.refl W, fun o hnc => ?_⟩
    have pL : p ≠ Lr := by omega
    have hz2 : (W.putObj Lr o).heap.size = W.heap.size := by simp [World.putObj]
    have hB2 := hB0.putObj (hB0.ne_rec hnc) o
    have hS2 := hs'.of_block (World.putObj_heap_other (w := W) (r := Lr) (o := o) pL)
    have hsrc2 : Src (W.putObj Lr o).heap.size p (W.putObj Lr o) A' b' := by
      rw [hz2]
      intro hl
      obtain ⟨bb, oo, e, h1, h2, h3⟩ := hsrc hl
      refine ⟨bb, oo, e, h1, h2, fun j x hx => ?_⟩
      have hne : bb ≠ Lr := by
        rintro rfl
        have h4 := h3 0 b'[0] (List.getElem?_eq_getElem hl)
        obtain ⟨ob, ho, hc⟩ : ∃ ob, W.heap[bb]? = some ob ∧ ob.isCells = true := by
          unfold World.cell? at h4
          cases ho : W.heap[bb]? with
          | none => rw [ho] at h4; simp at h4
          | some ob => refine ⟨ob, rfl, ?_⟩; rw [ho] at h4; cases ob <;> simp_all [Obj.isCells]
        have := hnc ob ho
        rw [hc] at this; cases this
      exact (cell_same (World.putObj_heap_other hne)).trans (h3 j x hx)
    have K2 : Kp (w.heap.size + 1) p W (W.putObj Lr o) := Kp.putObj W o (by omega) hlt
    generalize W.putObj Lr o = W2 at *
    have d2 : W2.cell? ⟨w.heap.size, 0, none⟩ = some (.func (.func 21) #[.pointer (some ⟨p, 0, none⟩)] #[]) := Blk.cell (k := 0) hB2 rfl
    gi_wp2_with (refine ⟨trivial, ?_⟩; gi_at_call 21; refine (CallsIn.inRound Lr (callsIn_wide.2 (write_any p s' l' A' b' n c' hn hb1 hb2 hb3 W2 hS2 hsrc2))).mono ?_; rintro e W3 ⟨rfl, g3, S3'⟩)
    obtain ⟨y2, _, _, hblk, _⟩ := hS2
    refine ⟨KeepsOthers.of_grownBy g3 (fun j o' e hj => by cases e; have := hj.symm.trans hblk; cases this; rfl), fun o' => ?_⟩
    have hs3 := g3.size
    exact ⟨(K2.trans (Kp.grown g3 (by omega) (.inl rfl))).trans (Kp.putObj W3 o' (by omega) (by omega)), S3'.of_block (World.putObj_heap_other pL)⟩
end Go.Proofs.Ytajombnckgehbaa
