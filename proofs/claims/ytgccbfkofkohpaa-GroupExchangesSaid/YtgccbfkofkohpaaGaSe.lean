/- (*Sponge).Write: what a sponge is when it has taken bytes. -/
import Derived.Test.YtgccbfkofkohpaaGaSd
namespace Go.Proofs.Ytgccbfkofkohpaa
set_option linter.unusedVariables false
set_option maxRecDepth 20000
set_option linter.unusedSimpArgs false
open Go.ChangeShapes Go.WideShapes Go.ChangeAt Go.RowKit Go.Shelf
attribute [local go_sem] Oper.semAt_some

set_option maxHeartbeats 1000000 in
set_option maxRecDepth 100000 in
theorem blocks_any (p : Nat) (A : Option Addr) (n c : Nat) (w : World) :
    Calls Try.prog 114 #[.pointer (some ⟨p, 0, none⟩), .slice A n c] w fun e w' => e = .returned (.func (.func 118) #[] #[.pointer (some ⟨w.heap.size + 1, 0, none⟩), .pointer (some ⟨w.heap.size, 0, none⟩)]) ∧
      w' = (w.alloc (.cells #[.pointer (some ⟨p, 0, none⟩)] 126)).alloc (.cells #[.slice A n c] 43) := by
  go_enter Try.func114, Try.ntmps114
  go_wp2
  go_ret
  exact ⟨rfl, rfl⟩
theorem Blk.putObj {w : World} {b l : Nat} {t : TypeId} {c : Array Value} (h : Blk w b t c) (hl : b ≠ l) (o : Obj) : Blk (w.putObj l o) b t c := (World.putObj_heap_other hl).trans h
theorem Blk.ne_rec {w : World} {b l : Nat} {t : TypeId} {c : Array Value} (h : Blk w b t c) (hl : NotCells w l) : b ≠ l := by
  rintro rfl
  have := hl _ h
  cases this
theorem Kp.putObj {N p : Nat} (w : World) {l : Nat} (o : Obj) (hl : N ≤ l) (h : l < w.heap.size) : Kp N p w (w.putObj l o) :=
  Kp.below ((Below.refl N w).grown (grownBy_putObj' w l o) (by omega) (fun k e => by cases e; exact hl))
theorem store16 (w : World) (y : Nat → Int) (cs : Array Value) (hcs : cs.size = 16) : (Instr.storeAt 60 (.pointer (some ⟨w.heap.size, 0, none⟩)) (.agg (arr16 y))).run Try.prog (w.alloc (.cells cs 60)) = .ok () ((w.alloc (.cells cs 60)).setRow w.heap.size (arr16 y)) :=
  run_store_blk (P := Try.prog) _ _ w.heap.size (arr16 y) (by simp [arr16, Value.oneCell']) cs (by rw [hcs]; rfl) (heap_alloc_new w _) size16
set_option maxHeartbeats 8000000 in
set_option maxRecDepth 100000 in
theorem write_any (p : Nat) (s : W8) (l : List UInt8) (A : Option Addr) (b : List UInt8) (n c : Nat) (hn : b.length = n) (hc : n ≤ c) (hm : c ≤ maxLen) (hA : A = none → c = 0) (w : World) (hS : SpAt w p s l) (hR : Src w.heap.size p w A b) :
    Calls Try.prog 108 #[.pointer (some ⟨p, 0, none⟩), .slice A n c] w fun e w' => e = .returned (.tuple #[]) ∧ w.grownBy w' (some p) ∧ SpAt w' p (feed s (l ++ b)).1 (feed s (l ++ b)).2 := by
  have hp := hS.lt
  refine (callsIn_wide (n := 3)).1 ?_
  refine callsIn_of_wp_marks (n := 3) Try.func108 rfl trivial ?_ rfl
  simp only [Try.ntmps108, List.size_toArray, List.length_cons, List.length_nil, Nat.reduceAdd, Nat.reduceSub, Array.replicate_succ, Array.replicate_zero, List.push_toArray, List.append_toArray, List.nil_append, List.cons_append]
  gi_wp2_with (refine ⟨trivial, ?_⟩; gi_at_call 114; refine (callsIn_wide.2 (blocks_any p A n c _)).mono ?_; rintro e w1 ⟨rfl, rfl⟩)
  obtain ⟨w3, hw3⟩ : ∃ w3, w3 = ((w.alloc (.cells #[.pointer (some ⟨p, 0, none⟩)] 126)).alloc (.cells #[.pointer (some ⟨p, 0, none⟩)] 126)).alloc (.cells #[.slice A n c] 43) := ⟨_, rfl⟩
  have hz : w3.heap.size = w.heap.size + 3 := by rw [hw3]; simp
  have B0 : Blk w3 w.heap.size 126 #[.pointer (some ⟨p, 0, none⟩)] := by rw [hw3]; exact ((Blk.new w _ _).alloc _).alloc _
  have B1 : Blk w3 (w.heap.size + 1) 126 #[.pointer (some ⟨p, 0, none⟩)] := by
    rw [hw3]
    have := Blk.new (w.alloc (.cells #[.pointer (some ⟨p, 0, none⟩)] 126)) 126 #[.pointer (some ⟨p, 0, none⟩)]
    rw [World.size_alloc] at this
    exact this.alloc _
  have B2 : Blk w3 (w.heap.size + 2) 43 #[.slice A n c] := by
    rw [hw3]
    have := Blk.new ((w.alloc (.cells #[.pointer (some ⟨p, 0, none⟩)] 126)).alloc (.cells #[.pointer (some ⟨p, 0, none⟩)] 126)) 43 #[.slice A n c]
    rw [World.size_alloc, World.size_alloc] at this
    exact this
  have b3 : Below w.heap.size w w3 := by rw [hw3]; exact (((Below.refl _ _).alloc (Nat.le_refl _) _).alloc (by simp) _).alloc (by simp; omega) _
  rw [← hw3]
  clear hw3
  have S3 : SpAt w3 p s l := hS.of_block (b3.block p hp)
  have R3 : Src (w.heap.size + 1) p w3 A b := fun h => by
    obtain ⟨bb, o, e, h1, h2, h3⟩ := hR h
    exact ⟨bb, o, e, by omega, h2, fun j x hx => (cell_same (b3.block bb h1)).trans (h3 j x hx)⟩
  refine wpIn_range (n := 3) rfl (by omega) (gf := 118) (lb := #[.pointer (some ⟨w.heap.size + 1 + 1, 0, none⟩), .pointer (some ⟨w.heap.size + 1, 0, none⟩)]) rfl trivial (enters_of Try.func118 (by kernel_rfl) rfl)
    (α := W8 × (Nat → Int)) (fun x => #[.agg (arr16 x.2)]) (fun _ => rfl)
    (fun x W => x.1.ok ∧ (∀ k, 0 ≤ x.2 k ∧ x.2 k < 256) ∧ Blk W p 138 (arrS x.1 x.2 0) ∧ Blk W w.heap.size 126 #[.pointer (some ⟨p, 0, none⟩)])
    (fun x W W' => Kp (w.heap.size + 1) p W W' ∧ W'.heap[w.heap.size + 2]? = W.heap[w.heap.size + 2]? ∧ W'.heap[w.heap.size + 1]? = W.heap[w.heap.size + 1]? ∧ Blk W' p 138 (arrS (takeW x.2 x.1) x.2 0))
    (fun W => SpAt W p (feed s (l ++ b)).1 (feed s (l ++ b)).2 ∧ Kp (w.heap.size + 1) p w3 W) ?round ?iter ?done
  case iter =>
    intro L D o1 o2 W1 hD hL hW1 hrec hY
    rw [hz] at hD hL
    have z1 : W1.heap.size = w.heap.size + 5 := by rw [hW1]; simp; omega
    have b1 : Below w3.heap.size w3 W1 := by rw [hW1]; exact ((Below.refl _ _).alloc (Nat.le_refl _) _).alloc (by simp) _
    have R1 : Src (w.heap.size + 1) p W1 A b := R3.kp (Kp.below (b1.mono (by omega)))
    have K31 : Kp (w.heap.size + 1) p w3 W1 := Kp.below (b1.mono (by omega))
    refine (blocks1_any (w.heap.size + 1) p (w.heap.size + 2) (w.heap.size + 1) L D o1 o2 W1 s l A c b (by omega) (by omega) (by omega) (by omega) (by omega) (by omega) (by omega) (by omega) (by omega) (S3.of_block (b1.block p (by omega))) R1 ?_ ((b1.block _ (by omega)).trans B1) (by rw [hn]; exact hc) hm hA hrec ?_).mono ?_
    · rw [hn]; exact (b1.block _ (by omega)).trans B2
    · intro s' y W hs' hy hb' hr' hK'
      exact hY (s', y) W ⟨hs', hy, hb', ((hK'.block w.heap.size (by omega) (by omega)).trans (b1.block _ (by omega))).trans B0⟩ hr'
    · rintro e W' ⟨h1, h2, h3, h4⟩
      exact ⟨h1, h2, h3, K31.trans h4⟩
  case done =>
    intro L D o W hD hL ⟨hf, hk⟩ hlt hnc hdd
    gi_wp2
    have pL : p ≠ L := by omega
    have pD : p ≠ D := by omega
    refine ⟨by simp, .inl ⟨_, _, rfl, run_takeDeferred hdd, ?_⟩⟩
    refine ⟨_, results_none rfl _ _ _, rfl, ?_, ?_⟩
    · refine Kp.grownBy ?_
      have k1 : Kp w.heap.size p w3 W := hk.mono (by omega)
      have k2 := Kp.putObj (N := w.heap.size) (p := p) W o (by omega : w.heap.size ≤ L) hlt
      have hDl : D < (W.putObj L o).heap.size := (Array.getElem?_eq_some_iff.1 hdd).1
      exact ((Kp.below b3).trans k1).trans (k2.trans (Kp.putObj _ _ (by omega) hDl))
    · exact (hf.of_block (World.putObj_heap_other pL)).of_block (World.putObj_heap_other pD)
  case round =>
    rintro L ⟨s', y⟩ W hlo hlt ⟨hs', hy, hb', hB0⟩
    gi_wp2_with (refine wpListIn_store_run rfl _ _ _ rfl rfl rfl (store16 W y _ rfl) ?_)
    obtain ⟨W1, hW1⟩ : ∃ W1, W1 = (W.alloc (.cells #[Value.int .u8 0, .int .u8 0, .int .u8 0, .int .u8 0, .int .u8 0, .int .u8 0, .int .u8 0, .int .u8 0, .int .u8 0, .int .u8 0, .int .u8 0, .int .u8 0, .int .u8 0, .int .u8 0, .int .u8 0, .int .u8 0] 60)).setRow W.heap.size (arr16 y) := ⟨_, rfl⟩
    have c1 : Blk W1 W.heap.size 60 (arr16 y) := by rw [hW1]; exact setRow_heap _ _ _ _ _ (0, 0) (heap_alloc_new W _)
    have g1 : Below W.heap.size W W1 := by rw [hW1]; exact step_new (grown_setRow _ _ _)
    rw [← hW1]
    have k1 : KeepsOthers W W1 := KeepsOthers.of_grownBy (grownBy_of_below g1 none) (fun j o e => by cases e)
    refine ⟨k1, fun o hnc => ?_⟩
    clear hW1
    have hb1 : Blk W1 p 138 (arrS s' y 0) := hb'.step g1
    have hB1 : Blk W1 w.heap.size 126 #[.pointer (some ⟨p, 0, none⟩)] := hB0.step g1
    have hb2 := hb1.putObj (hb1.ne_rec hnc) o
    have hB2 := hB1.putObj (hB1.ne_rec hnc) o
    have c2 := c1.putObj (c1.ne_rec hnc) o
    have hz2 : (W1.putObj L o).heap.size = W1.heap.size := by simp [World.putObj]
    have K2 : Kp (w.heap.size + 1) p W (W1.putObj L o) := (Kp.below (g1.mono (by omega))).trans (Kp.putObj W1 o (by omega) (by have := g1.size; omega))
    have E1 : (W1.putObj L o).heap[w.heap.size + 1]? = W.heap[w.heap.size + 1]? := (World.putObj_heap_other (by omega)).trans (g1.block _ (by omega))
    have E2 : (W1.putObj L o).heap[w.heap.size + 2]? = W.heap[w.heap.size + 2]? := (World.putObj_heap_other (by omega)).trans (g1.block _ (by omega))
    have hL1 : L < (W1.putObj L o).heap.size := by rw [hz2]; have := g1.size; omega
    generalize W1.putObj L o = W2 at *
    have d2 : W2.cell? ⟨w.heap.size, 0, none⟩ = some (.pointer (some ⟨p, 0, none⟩)) := Blk.cell (k := 0) hB2 rfl
    have hld := run_load_blk W2 60 W.heap.size _ (arr16 y) _ c2 Try.underlying60 rfl size16
    gi_wp2_with (first | (refine wpListIn_load_run rfl _ (.tmp 4) rfl rfl hld ?_) | (refine ⟨trivial, ?_⟩; gi_at_call 115; refine (CallsIn.inRound L (callsIn_wide.2 (take_any s' hs' y y hy 0 p W2 hb2))).mono ?_; rintro e W3 ⟨rfl, g3, b3'⟩))
    refine ⟨KeepsOthers.of_grownBy g3 (fun j o' e hj => by cases e; have := hj.symm.trans hb2; cases this; rfl), fun o' => ?_⟩
    have hs3 := g3.size
    have pL : p ≠ L := by omega
    refine ⟨(K2.trans (Kp.grown g3 (by omega) (.inl rfl))).trans (Kp.putObj W3 o' (by omega) (by omega)), ?_, ?_, b3'.putObj pL o'⟩
    · exact (World.putObj_heap_other (by omega)).trans ((g3.block _ (by omega) (fun e => by cases e; omega)).trans E2)
    · exact (World.putObj_heap_other (by omega)).trans ((g3.block _ (by omega) (fun e => by cases e; omega)).trans E1)
end Go.Proofs.Ytgccbfkofkohpaa
namespace Go.Proofs.Ytgccbfkofkohpaa
set_option linter.unusedVariables false
set_option maxRecDepth 20000
set_option linter.unusedSimpArgs false
open Go.ChangeShapes Go.WideShapes Go.ChangeAt Go.RowKit Go.Shelf
attribute [local go_sem] Oper.semAt_some

/-- A number in eight bytes. -/
def eightL (n : Nat) : List UInt8 := (List.range 8).map fun j => UInt8.ofNat (byt (n : Int) j).toNat
theorem eightL_len (n : Nat) : (eightL n).length = 8 := by simp [eightL]
theorem eight_src (n : Nat) (hn : (n : Int) < 9223372036854775808) (p : Nat) (w : World) (hp : p < w.heap.size) :
    Calls Try.prog 61 #[.int .i64 (n : Int)] w fun e w' => e = .returned (.slice (some ⟨w.heap.size, 0, none⟩) 8 8) ∧ Below w.heap.size w w' ∧ Rd w' (some ⟨w.heap.size, 0, none⟩) (eightL n) := by
  refine (eight_any (n : Int) (Int.natCast_nonneg _) hn w).mono ?_
  rintro e w' ⟨rfl, hb, hr⟩
  refine ⟨rfl, hb, fun _ => ⟨_, rfl, hr.lt, fun j b hj => ?_⟩⟩
  have hj8 : j < 8 := by have := (List.getElem?_eq_some_iff.1 hj).1; rwa [eightL_len] at this
  rw [addr_add, Nat.zero_add, hr.cell hj8]
  unfold eightL at hj
  rw [List.getElem?_map, List.getElem?_range hj8] at hj
  obtain rfl := Option.some.inj hj
  unfold bv
  have := byt_bd (n : Int) j
  have e : (UInt8.ofNat (byt (n : Int) j).toNat).toNat = (byt (n : Int) j).toNat := by simp; omega
  rw [e, Int.toNat_of_nonneg this.1]
/-- Each part behind how many bytes it has. -/
def cat : List (List UInt8) → List UInt8
  | [] => []
  | l :: L => eightL l.length ++ l ++ cat L
theorem cat_append (L M : List (List UInt8)) : cat (L ++ M) = cat L ++ cat M := by
  induction L with
  | nil => rfl
  | cons l L ih => simp only [List.cons_append, cat, ih, List.append_assoc]
theorem cat_snoc (L : List (List UInt8)) (l : List UInt8) : cat (L ++ [l]) = cat L ++ eightL l.length ++ l := by
  rw [cat_append]; simp [cat]
/-- A slice of slices of bytes. -/
def PSrc (N p : Nat) (w : World) (A : Option Addr) (L : List (List UInt8)) : Prop :=
  0 < L.length → ∃ b o, A = some ⟨b, o, none⟩ ∧ b < N ∧ b ≠ p ∧ ∀ j l, L[j]? = some l → ∃ A' c', w.cell? ⟨b, o + j, none⟩ = some (.slice A' l.length c') ∧ l.length ≤ c' ∧ c' ≤ maxLen ∧ (A' = none → c' = 0) ∧ Src N p w A' l
theorem PSrc.kp {N p : Nat} {w w' : World} {A : Option Addr} {L : List (List UInt8)} (h : PSrc N p w A L) (k : Kp N p w w') : PSrc N p w' A L := fun hl => by
  obtain ⟨b, o, e, h1, h2, h3⟩ := h hl
  refine ⟨b, o, e, h1, h2, fun j l hj => ?_⟩
  obtain ⟨A', c', q1, q2, q3, q4, q5⟩ := h3 j l hj
  exact ⟨A', c', (cell_same (k.block b h1 h2)).trans q1, q2, q3, q4, q5.kp k⟩
theorem Src.mono {N M p : Nat} {w : World} {A : Option Addr} {l : List UInt8} (h : Src N p w A l) (hM : N ≤ M) : Src M p w A l := fun hl => by
  obtain ⟨b, o, e, h1, h2⟩ := h hl
  exact ⟨b, o, e, by omega, h2⟩
theorem PSrc.mono {N M p : Nat} {w : World} {A : Option Addr} {L : List (List UInt8)} (h : PSrc N p w A L) (hM : N ≤ M) : PSrc M p w A L := fun hl => by
  obtain ⟨b, o, e, h1, h2, h3⟩ := h hl
  refine ⟨b, o, e, by omega, h2, fun j l hj => ?_⟩
  obtain ⟨A', c', q1, q2, q3, q4, q5⟩ := h3 j l hj
  exact ⟨A', c', q1, q2, q3, q4, q5.mono hM⟩
def SpF (w : World) (p : Nat) (T : W8 × List UInt8) : Prop := SpAt w p T.1 T.2
set_option maxHeartbeats 8000000 in
set_option maxRecDepth 100000 in
theorem counted1_any (N p bx l D : Nat) (o1 o2 : Obj) (W0 : World) (s0 : W8) (l0 : List UInt8) (A : Option Addr) (c : Nat) (L : List (List UInt8)) (hbx : bx < N) (hbp : bx ≠ p) (hl : N ≤ l) (hD : N ≤ D) (hpN : p < N) (hNW : N ≤ W0.heap.size)
    (hS0 : SpAt W0 p s0 l0) (hR0 : PSrc N p W0 A L) (hB0 : Blk W0 bx 63 #[.slice A L.length c]) (hc0 : L.length ≤ c) (hm0 : c ≤ maxLen) (hrec : RecAt l D o1 o2 W0)
    (hY : ∀ (s : W8) (l' : List UInt8) (A' : Option Addr) (c' : Nat) (b : List UInt8) (W : World), SpAt W p s l' → Src W.heap.size p W A' b → b.length ≤ c' → c' ≤ maxLen → (A' = none → c' = 0) → RecAt l D o1 o2 W → Kp N p W0 W →
      YieldAt Fence.wide 1 Try.prog l #[.slice A' b.length c'] W fun e W' => e = .returned (.bool true) ∧ RecAt l D o1 o2 W' ∧ (Kp N p W W' ∧ SpAt W' p (feed s (l' ++ b)).1 (feed s (l' ++ b)).2)) :
    CallsIn Fence.wide 2 Try.prog 113 #[.func (.yield l) #[] #[], .pointer (some ⟨bx, 0, none⟩)] W0 fun e W' => (∃ v, e = .returned v) ∧ RecAt l D o1 o2 W' ∧ SpAt W' p (feed s0 (l0 ++ cat L)).1 (feed s0 (l0 ++ cat L)).2 ∧ Kp N p W0 W' := by
  refine callsIn_wide.2 ?_
  obtain ⟨m, hm⟩ : ∃ m, L.length = m := ⟨_, rfl⟩
  rw [hm] at hB0 hc0
  unfold maxLen at hm0
  have cB : W0.cell? ⟨bx, 0, none⟩ = some (.slice A m c) := hB0.cell (k := 0) rfl
  have HM := hid hm
  have EMP := hid (show cat (L.take 0) = [] from rfl)
  clear hm
  go_enter Try.func113, Try.ntmps113
  go_wp2
  go_loopw [7] (fun i wr => ∃ k : Nat, k ≤ m ∧ i = .int .i64 k ∧ SpF wr p (feed s0 (l0 ++ cat (L.take k))) ∧ RecAt l D o1 o2 wr ∧ Kp N p W0 wr) (fun i _ => m - (intOf i).toNat)
  case atStart => exact ⟨0, by omega, rfl, by
    rw [EMP.out, List.append_nil]
    have h16 : l0.length < 16 := by obtain ⟨y, _, _, _, _, h⟩ := hS0; exact h
    rw [feed_lt h16]; exact hS0, hrec, Kp.refl _ _ _⟩
  case round =>
    obtain ⟨k, hk, rfl, hS, hre, hK⟩ := hrel
    clear hS0 hrec hB0
    by_cases hlt : k < m
    · obtain ⟨q, hq⟩ : ∃ q, L[k]? = some q := ⟨_, List.getElem?_eq_getElem (by rw [HM.out]; exact hlt)⟩
      obtain ⟨bb, o, rfl, h1, h2, h3⟩ := (hR0.kp hK) (by rw [HM.out]; omega)
      obtain ⟨A', c', q1, q2, q3, q4, q5⟩ := h3 k q hq
      obtain ⟨n, hn⟩ : ∃ n, q.length = n := ⟨_, rfl⟩
      rw [hn] at q1
      have hnb : (n : Int) < 9223372036854775808 := by unfold maxLen at q3; omega
      have hn0 : (0 : Int) ≤ (n : Int) := Int.natCast_nonneg _
      have HQ := hid hq
      have HN := hid hn
      have hSp := hS.lt
      clear h3 hq hn
      go_upto_region 3 with (fail)
      refine (wpIn_wide (n := 2)).1 ?_
      gi_wp2_with (refine ⟨trivial, ?_⟩; gi_at_call 61; refine (callsIn_wide.2 (eight_src n hnb p _ hSp)).mono ?_; rintro e W1 ⟨rfl, b1, rd1⟩; obtain ⟨fn1, tmps1, assign1, body1, hy1, hRo1⟩ := hY _ _ (some ⟨wr.heap.size, 0, none⟩) 8 (eightL n) W1 (hS.of_block (b1.block p hSp)) (Src.of_rd rd1 (fun b o e => by cases e; omega)) (by rw [eightL_len]; exact Nat.le_refl _) (by unfold maxLen; omega) (fun h => by cases h) (hre.kept (KeepsOthers.of_grownBy (grownBy_of_below b1 none) (fun j o e => by cases e))) (hK.trans (Kp.below (b1.mono (Nat.le_trans hNW hK.size)))); rw [eightL_len] at hy1)
      clear cB
      refine hRo1.mono ?_
      rintro e W2 ⟨rfl, r2, K2, S2⟩
      clear hRo1 hy1 hre
      have K02 : Kp N p W0 W2 := (hK.trans (Kp.below (b1.mono (Nat.le_trans hNW hK.size)))).trans K2
      have Kr2 : Kp N p wr W2 := (Kp.below (b1.mono (Nat.le_trans hNW hK.size))).trans K2
      obtain ⟨fn2, tmps2, assign2, body2, hy2, hRo2⟩ := hY _ _ A' c' q W2 S2 ((q5.kp Kr2).mono (Nat.le_trans hNW K02.size)) q2 q3 q4 r2 K02
      rw [HN.out] at hy2
      gi_wp2
      refine hRo2.mono ?_
      rintro e W3 ⟨rfl, r3, K3, S3⟩
      gi_wp2
      go_wp2
      go_roundw
      case rel =>
        refine ⟨k + 1, by omega, by go_num, ?_, r3, K02.trans K3⟩
        have e1 : L.take (k + 1) = L.take k ++ [q] := by rw [List.take_add_one, HQ.out]; rfl
        have e2 : feed s0 (l0 ++ cat (L.take (k + 1))) = feed (feed (feed s0 (l0 ++ cat (L.take k))).1 ((feed s0 (l0 ++ cat (L.take k))).2 ++ eightL n)).1 ((feed (feed s0 (l0 ++ cat (L.take k))).1 ((feed s0 (l0 ++ cat (L.take k))).2 ++ eightL n)).2 ++ q) := by
          rw [e1, cat_snoc, HN.out, ← feed_append]
          simp only [List.append_assoc]
          rw [← feed_append]
          simp only [List.append_assoc]
        rw [e2]
        exact S3
      case measure => simp [intOf]; omega
    · obtain rfl : k = m := by omega
      go_wp2
      go_end0
      refine ⟨⟨_, rfl⟩, hre, ?_, hK⟩
      have := hS
      rw [List.take_of_length_le (by rw [HM.out]; exact Nat.le_refl _)] at this
      exact this

/-! each(counted(parts...), s.Write). -/
set_option maxHeartbeats 1000000 in
set_option maxRecDepth 100000 in
theorem counted_any (A : Option Addr) (n c : Nat) (w : World) :
    Calls Try.prog 107 #[.slice A n c] w fun e w' => e = .returned (.func (.func 113) #[] #[.pointer (some ⟨w.heap.size, 0, none⟩)]) ∧ w' = w.alloc (.cells #[.slice A n c] 63) := by
  go_enter Try.func107, Try.ntmps107
  go_wp2
  go_ret
  exact ⟨rfl, rfl⟩
structure Piece where
  s : W8
  l : List UInt8
  A : Option Addr
  c : Nat
  b : List UInt8
set_option maxHeartbeats 8000000 in
set_option maxRecDepth 100000 in
theorem each_any (p bx : Nat) (s : W8) (l : List UInt8) (A : Option Addr) (c : Nat) (L : List (List UInt8)) (hc : L.length ≤ c) (hm : c ≤ maxLen) (w : World) (hbp : bx ≠ p) (hS : SpAt w p s l) (hR : PSrc w.heap.size p w A L) (hB : Blk w bx 63 #[.slice A L.length c]) :
    Calls Try.prog 106 #[.func (.func 113) #[] #[.pointer (some ⟨bx, 0, none⟩)], .func (.func 108) #[.pointer (some ⟨p, 0, none⟩)] #[]] w fun e w' => e = .returned (.tuple #[]) ∧ w.grownBy w' (some p) ∧ SpAt w' p (feed s (l ++ cat L)).1 (feed s (l ++ cat L)).2 := by
  have hp := hS.lt
  have hbl := hB.lt
  refine (callsIn_wide (n := 3)).1 ?_
  refine callsIn_of_wp_marks (n := 3) Try.func106 rfl trivial ?_ rfl
  simp only [Try.ntmps106, List.size_toArray, List.length_cons, List.length_nil, Nat.reduceAdd, Nat.reduceSub, Array.replicate_succ, Array.replicate_zero, List.push_toArray, List.append_toArray, List.nil_append, List.cons_append]
  gi_wp2
  obtain ⟨w3, hw3⟩ : ∃ w3, w3 = w.alloc (.cells #[.func (.func 108) #[.pointer (some ⟨p, 0, none⟩)] #[]] 132) := ⟨_, rfl⟩
  have hz : w3.heap.size = w.heap.size + 1 := by rw [hw3]; simp
  have B0 : Blk w3 w.heap.size 132 #[.func (.func 108) #[.pointer (some ⟨p, 0, none⟩)] #[]] := by rw [hw3]; exact Blk.new w _ _
  have b3 : Below w.heap.size w w3 := by rw [hw3]; exact step_alloc w _
  rw [← hw3]
  clear hw3
  have S3 : SpAt w3 p s l := hS.of_block (b3.block p hp)
  have R3 : PSrc (w.heap.size + 1) p w3 A L := (hR.kp (Kp.below b3)).mono (by omega)
  refine wpIn_range (n := 3) rfl (by omega) (gf := 113) (lb := #[.pointer (some ⟨bx, 0, none⟩)]) rfl trivial (enters_of Try.func113 (by kernel_rfl) rfl)
    (α := Piece) (fun x => #[.slice x.A x.b.length x.c]) (fun _ => rfl)
    (fun x W => SpAt W p x.s x.l ∧ Src W.heap.size p W x.A x.b ∧ x.b.length ≤ x.c ∧ x.c ≤ maxLen ∧ (x.A = none → x.c = 0) ∧ Blk W w.heap.size 132 #[.func (.func 108) #[.pointer (some ⟨p, 0, none⟩)] #[]])
    (fun x W W' => Kp (w.heap.size + 1) p W W' ∧ SpAt W' p (feed x.s (x.l ++ x.b)).1 (feed x.s (x.l ++ x.b)).2)
    (fun W => SpAt W p (feed s (l ++ cat L)).1 (feed s (l ++ cat L)).2 ∧ Kp (w.heap.size + 1) p w3 W) ?round ?iter ?done
  case iter =>
    intro Lr D o1 o2 W1 hD hL hW1 hrec hY
    rw [hz] at hD hL
    have z1 : W1.heap.size = w.heap.size + 3 := by rw [hW1]; simp; omega
    have b1 : Below w3.heap.size w3 W1 := by rw [hW1]; exact ((Below.refl _ _).alloc (Nat.le_refl _) _).alloc (by simp) _
    have K31 : Kp (w.heap.size + 1) p w3 W1 := Kp.below (b1.mono (by omega))
    refine (counted1_any (w.heap.size + 1) p bx Lr D o1 o2 W1 s l A c L (by omega) hbp (by omega) (by omega) (by omega) (by omega) (S3.of_block (b1.block p (by omega))) (R3.kp K31) ((b1.block bx (by omega)).trans ((b3.block bx hbl).trans hB)) hc hm hrec ?_).mono ?_
    · intro s' l' A' c' b W hs' hsrc hb1 hb2 hb3 hr' hK'
      exact hY ⟨s', l', A', c', b⟩ W ⟨hs', hsrc, hb1, hb2, hb3, ((hK'.block w.heap.size (by omega) (by omega)).trans (b1.block _ (by omega))).trans B0⟩ hr'
    · rintro e W' ⟨h1, h2, h3, h4⟩
      exact ⟨h1, h2, h3, K31.trans h4⟩
  case done =>
    intro Lr D o W hD hL ⟨hf, hk⟩ hlt hnc hdd
    gi_wp2
    have pL : p ≠ Lr := by omega
    have pD : p ≠ D := by omega
    refine ⟨by simp, .inl ⟨_, _, rfl, run_takeDeferred hdd, ?_⟩⟩
    refine ⟨_, results_none rfl _ _ _, rfl, ?_, ?_⟩
    · refine Kp.grownBy ?_
      have k1 : Kp w.heap.size p w3 W := hk.mono (by omega)
      have k2 := Kp.putObj (N := w.heap.size) (p := p) W o (by omega : w.heap.size ≤ Lr) hlt
      have hDl : D < (W.putObj Lr o).heap.size := (Array.getElem?_eq_some_iff.1 hdd).1
      exact ((Kp.below b3).trans k1).trans (k2.trans (Kp.putObj _ _ (by omega) hDl))
    · exact (hf.of_block (World.putObj_heap_other pL)).of_block (World.putObj_heap_other pD)
  case round =>
    rintro Lr ⟨s', l', A', c', b'⟩ W hlo hlt ⟨hs', hsrc, hb1, hb2, hb3, hB0⟩
    dsimp only at hs' hsrc hb1 hb2 hb3
    obtain ⟨n, hn⟩ : ∃ n, b'.length = n := ⟨_, rfl⟩
    dsimp only
    rw [hn] at hb1 ⊢
    gi_wp2
    refine ⟨KeepsOthers.refl W, fun o hnc => ?_⟩
    have pL : p ≠ Lr := by omega
    have hz2 : (W.putObj Lr o).heap.size = W.heap.size := by simp [World.putObj]
    have hB2 := hB0.putObj (hB0.ne_rec hnc) o
    have hS2 := hs'.of_block (World.putObj_heap_other (w := W) (r := Lr) (o := o) pL)
    have hsrc2 : Src (W.putObj Lr o).heap.size p (W.putObj Lr o) A' b' := by
      rw [hz2]
      intro hl
      obtain ⟨bb, oo, e, h1, h2, h3⟩ := hsrc hl
      refine ⟨bb, oo, e, h1, h2, fun j x hx => ?_⟩
      have hne : bb ≠ Lr := by
        rintro rfl
        have h4 := h3 0 b'[0] (List.getElem?_eq_getElem hl)
        obtain ⟨ob, ho, hc⟩ : ∃ ob, W.heap[bb]? = some ob ∧ ob.isCells = true := by
          unfold World.cell? at h4
          cases ho : W.heap[bb]? with
          | none => rw [ho] at h4; simp at h4
          | some ob => refine ⟨ob, rfl, ?_⟩; rw [ho] at h4; cases ob <;> simp_all [Obj.isCells]
        have := hnc ob ho
        rw [hc] at this; cases this
      exact (cell_same (World.putObj_heap_other hne)).trans (h3 j x hx)
    have K2 : Kp (w.heap.size + 1) p W (W.putObj Lr o) := Kp.putObj W o (by omega) hlt
    generalize W.putObj Lr o = W2 at *
    have d2 : W2.cell? ⟨w.heap.size, 0, none⟩ = some (.func (.func 108) #[.pointer (some ⟨p, 0, none⟩)] #[]) := Blk.cell (k := 0) hB2 rfl
    gi_wp2_with (refine ⟨trivial, ?_⟩; gi_at_call 108; refine (CallsIn.inRound Lr (callsIn_wide.2 (write_any p s' l' A' b' n c' hn hb1 hb2 hb3 W2 hS2 hsrc2))).mono ?_; rintro e W3 ⟨rfl, g3, S3'⟩)
    obtain ⟨y2, _, _, hblk, _⟩ := hS2
    refine ⟨KeepsOthers.of_grownBy g3 (fun j o' e hj => by cases e; have := hj.symm.trans hblk; cases this; rfl), fun o' => ?_⟩
    have hs3 := g3.size
    exact ⟨(K2.trans (Kp.grown g3 (by omega) (.inl rfl))).trans (Kp.putObj W3 o' (by omega) (by omega)), S3'.of_block (World.putObj_heap_other pL)⟩
end Go.Proofs.Ytgccbfkofkohpaa
namespace Go.Proofs.Ytgccbfkofkohpaa
set_option linter.unusedVariables false
set_option maxRecDepth 20000
set_option linter.unusedSimpArgs false
open Go.ChangeShapes Go.WideShapes Go.ChangeAt Go.RowKit Go.Shelf

def zeroW : W8 := ⟨0, 0, 0, 0, 0, 0, 0, 0⟩
theorem zeroW_ok : zeroW.ok := by unfold W8.ok zeroW; decide
def pad16 (L : List UInt8) : List UInt8 := L ++ List.replicate ((16 - L.length % 16) % 16) 0
theorem pad16_mod (L : List UInt8) : (pad16 L).length % 16 = 0 := by unfold pad16; rw [List.length_append, List.length_replicate]; omega
theorem feed_mod (s : W8) (L : List UInt8) : (feed s L).2.length = L.length % 16 := by
  induction h : L.length using Nat.strongRecOn generalizing s L with
  | _ n ih =>
    by_cases h16 : L.length < 16
    · rw [feed_lt h16, ← h, Nat.mod_eq_of_lt h16]
    · rw [feed_ge (by omega)]
      have := ih (L.drop 16).length (by rw [List.length_drop]; omega) (takeW (byI L) s) (L.drop 16) rfl
      rw [this, List.length_drop]
      omega
theorem feed_full {s : W8} {L : List UInt8} (h : L.length % 16 = 0) : feed s L = ((feed s L).1, []) := by
  have := feed_mod s L
  rw [h] at this
  exact Prod.ext rfl (List.eq_nil_of_length_eq_zero this)
/-- The words of a sponge that took a key. -/
def initW (key : List UInt8) : W8 := (feed zeroW (pad16 (eightL key.length ++ key))).1
theorem initW_ok (key : List UInt8) : (initW key).ok := feed_ok zeroW_ok _
theorem make_zeros (n : Nat) (hn : n ≤ 1000) (w : World) : (Instr.makeSlice 43 (.int .i64 (n : Int)) (.int .i64 (n : Int))).run Try.prog w = .ok (.slice (some ⟨w.heap.size, 0, none⟩) n n) (w.alloc (.cells (madeCells #[.int .u8 0] n) 5)) := by
  obtain ⟨i, h1, h2, h3, h4⟩ := info_u8
  exact run_make_row 43 5 i (.int .u8 0) Try.underlying43 h1 h2 h3 rfl .i64 .i64 n (by rw [h4]; omega) (by omega) w
theorem rd_zeros (n : Nat) (w : World) : Rd (w.alloc (.cells (madeCells #[.int .u8 0] n) 5)) (some ⟨w.heap.size, 0, none⟩) (List.replicate n 0) := fun hp => by
  have hr := World.rowIs_made w (.int .u8 0) n 5
  refine ⟨_, rfl, hr.lt, fun j b hj => ?_⟩
  have hjn : j < n := by have := (List.getElem?_eq_some_iff.1 hj).1; rwa [List.length_replicate] at this
  rw [List.getElem?_replicate, if_pos hjn] at hj
  obtain rfl := Option.some.inj hj
  rw [addr_add, Nat.zero_add, hr.cell hjn]; rfl
set_option maxHeartbeats 4000000 in
set_option maxRecDepth 100000 in
theorem new_any (A : Option Addr) (key : List UInt8) (n c : Nat) (hn : key.length = n) (hc : n ≤ c) (hm : c ≤ maxLen) (hA : A = none → c = 0) (w : World) (hR : Rd w A key) :
    Calls Try.prog 105 #[.slice A n c] w fun e w' => ∃ p, e = .returned (.pointer (some ⟨p, 0, none⟩)) ∧ w.heap.size ≤ p ∧ SpAt w' p (initW key) [] ∧ Below w.heap.size w w' := by
  go_enter Try.func105, Try.ntmps105
  go_wp2_with fail
  obtain ⟨Wa, hWa⟩ : ∃ Wa, Wa = (w.alloc (.cells #[Value.int .u32 0, .int .u32 0, .int .u32 0, .int .u32 0, .int .u32 0, .int .u32 0, .int .u32 0, .int .u32 0, .int .u8 0, .int .u8 0, .int .u8 0, .int .u8 0, .int .u8 0, .int .u8 0, .int .u8 0, .int .u8 0, .int .u8 0, .int .u8 0, .int .u8 0, .int .u8 0, .int .u8 0, .int .u8 0, .int .u8 0, .int .u8 0, .int .i64 0] 138)).alloc (.cells #[.slice A n c] 43) := ⟨_, rfl⟩
  rw [← hWa]
  have za : Wa.heap.size = w.heap.size + 2 := by rw [hWa]; simp
  have ba : Below w.heap.size w Wa := by rw [hWa]; exact ((Below.refl _ _).alloc (Nat.le_refl _) _).alloc (by simp) _
  have Sa : SpAt Wa w.heap.size zeroW [] := ⟨fun _ => 0, fun _ => (show (0:Int) ≤ 0 ∧ (0:Int) < 256 from ⟨by omega, by omega⟩), fun k hk => absurd hk (by simp), by rw [hWa]; exact (Blk.new w 138 (arrS zeroW (fun _ => 0) 0)).alloc _, zeroW_ok, by decide⟩
  have Ka : Blk Wa (w.heap.size + 1) 43 #[.slice A n c] := by
    rw [hWa]
    have := Blk.new (w.alloc (.cells #[Value.int .u32 0, .int .u32 0, .int .u32 0, .int .u32 0, .int .u32 0, .int .u32 0, .int .u32 0, .int .u32 0, .int .u8 0, .int .u8 0, .int .u8 0, .int .u8 0, .int .u8 0, .int .u8 0, .int .u8 0, .int .u8 0, .int .u8 0, .int .u8 0, .int .u8 0, .int .u8 0, .int .u8 0, .int .u8 0, .int .u8 0, .int .u8 0, .int .i64 0] 138)) 43 #[.slice A n c]
    rw [World.size_alloc] at this
    exact this
  have ra : Src (w.heap.size) w.heap.size w A key := fun hl => by
    obtain ⟨b, o, e, h1, h2⟩ := hR.at hl
    exact ⟨b, o, e, h1, by omega, h2⟩
  clear hWa
  refine (counted_any _ 1 1 _).mono ?_
  rintro e w1 ⟨rfl, hw1⟩
  have S1 : SpAt w1 w.heap.size zeroW [] := Sa.of_block (by rw [hw1]; exact Below.heap_alloc _ _ _ (by omega))
  have b1 : Below w.heap.size w w1 := by rw [hw1]; exact ba.alloc (by omega) _
  have B1 : Blk w1 Wa.heap.size 63 #[.slice (some ⟨w.heap.size + 1, 0, none⟩) 1 1] := by rw [hw1]; exact Blk.new Wa _ _
  have P1 : PSrc w1.heap.size w.heap.size w1 (some ⟨w.heap.size + 1, 0, none⟩) [key] := fun _ => by
    have hs1 : w1.heap.size = w.heap.size + 3 := by rw [hw1]; simp; omega
    have Kb : Blk w1 (w.heap.size + 1) 43 #[.slice A n c] := by rw [hw1]; exact Ka.alloc _
    refine ⟨w.heap.size + 1, 0, rfl, by omega, by omega, fun j l hj => ?_⟩
    obtain rfl : j = 0 := by
      have := (List.getElem?_eq_some_iff.1 hj).1
      simp at this; omega
    obtain rfl : key = l := Option.some.inj hj
    exact ⟨A, c, by rw [hn]; exact Kb.cell (k := 0) rfl, by rw [hn]; exact hc, hm, hA, (ra.kp (Kp.below b1)).mono (by omega)⟩
  clear hw1 Sa Ka ra ba
  rw [za] at B1 ⊢
  clear za
  go_wp2_with fail
  refine (each_any w.heap.size (w.heap.size + 2) zeroW [] (some ⟨w.heap.size + 1, 0, none⟩) 1 [key] (by simp) (by unfold maxLen; omega) w1 (by omega) S1 P1 B1).mono ?_
  rintro e w2 ⟨rfl, g2, S2⟩
  have b2 : Below w.heap.size w w2 := below_of_grown b1 g2 b1.size (Nat.le_refl _)
  have hT : feed zeroW ([] ++ cat [key]) = feed zeroW (eightL key.length ++ key) := by simp [cat]
  rw [hT] at S2
  obtain ⟨T, hTT⟩ : ∃ T, T = feed zeroW (eightL key.length ++ key) := ⟨_, rfl⟩
  have hmod := feed_mod zeroW (eightL key.length ++ key)
  rw [← hTT] at S2 hmod
  have hfin : initW key = (feed T.1 (T.2 ++ List.replicate ((16 - (eightL key.length ++ key).length % 16) % 16) 0)).1 := by
    unfold initW pad16
    rw [feed_append, ← hTT]
  have HF := hid hfin
  have hpad := pad16_mod (eightL key.length ++ key)
  have hfull : (feed T.1 (T.2 ++ List.replicate ((16 - (eightL key.length ++ key).length % 16) % 16) 0)).2 = [] := by
    rw [hTT, ← feed_append]
    have := feed_full (s := zeroW) (L := pad16 (eightL key.length ++ key)) hpad
    unfold pad16 at this
    rw [this]
  have HE := hid hfull
  clear hfin hfull hpad hT hTT S1 P1 B1
  obtain ⟨s, l⟩ := T
  dsimp only at S2 hmod HF HE
  rw [← hmod] at HF HE
  clear hmod
  obtain ⟨h, hh⟩ : ∃ h, l.length = h := ⟨_, rfl⟩
  rw [hh] at HF HE
  have hlt := S2.lt
  have S2' := S2
  obtain ⟨y, hy, hyl, hb, hsok, hl16⟩ := S2
  rw [hh] at hb hl16
  have hc24 : w2.cell? ⟨w.heap.size, 24, none⟩ = some (.int .i64 (h : Int)) := hb.cell (k := 24) rfl
  clear hb hy hyl
  by_cases h0 : h = 0
  · subst h0
    obtain rfl : l = [] := List.eq_nil_of_length_eq_zero hh
    have e1 : feed s ([] ++ List.replicate ((16 - 0) % 16) 0) = (s, []) := feed_lt (by simp)
    have HF2 : Hid (initW key = s) := hid (by rw [HF.out, e1])
    clear HF HE e1 hh
    go_wp2
    go_ret
    exact ⟨_, rfl, Nat.le_refl _, by rw [HF2.out]; exact S2', b2⟩
  · obtain ⟨m, hm16, hm0⟩ : ∃ m, h + m = 16 ∧ 0 < m := ⟨16 - h, by omega, by omega⟩
    have hI : (16 : Int) - (h : Int) = (m : Int) := by omega
    have e2 : (16 - h) % 16 = m := by omega
    rw [e2] at HF HE
    have hpos : decide (0 < h) = true := by rw [decide_eq_true_iff]; omega
    have hpn : 0 < h := by omega
    have hmk := make_zeros m (by omega)
    have HH := hid hh
    clear hh e2 h0
    go_wp2_with fail
    clear hmk
    have bz := step_alloc w2 (.cells (madeCells #[.int .u8 0] m) 5)
    refine (write_any w.heap.size s l (some ⟨w2.heap.size, 0, none⟩) (List.replicate m 0) m m (by simp) (Nat.le_refl _) (by unfold maxLen; omega) (fun h => by cases h) _ (S2'.of_block (bz.block _ hlt)) (Src.of_rd (rd_zeros m w2) (fun b o e => by cases e; omega))).mono ?_
    rintro e w3 ⟨rfl, g3, S3⟩
    rw [HE.out, ← HF.out] at S3
    have b3 : Below w.heap.size w w3 := below_of_grown (b2.trans (bz.mono b2.size)) g3 (Nat.le_trans b2.size bz.size) (Nat.le_refl _)
    go_wp2
    go_ret
    exact ⟨_, rfl, Nat.le_refl _, S3, b3⟩
end Go.Proofs.Ytgccbfkofkohpaa
