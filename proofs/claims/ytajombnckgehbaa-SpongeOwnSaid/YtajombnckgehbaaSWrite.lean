/- (*Sponge).Write: what a sponge is when it has taken bytes. -/
import Derived.Test.YtajombnckgehbaaSBlocks
namespace Go.Proofs.Ytajombnckgehbaa
set_option linter.unusedVariables false
set_option linter.unusedSimpArgs false
open Go.ChangeShapes Go.WideShapes Go.ChangeAt Go.RowKit Go.Shelf
attribute [local go_sem] Oper.semAt_some

set_option maxHeartbeats 1000000 in
set_option maxRecDepth 100000 in
theorem blocks_any (p : Nat) (A : Option Addr) (n c : Nat) (w : World) :
    Calls Try.prog 40 #[.pointer (some ⟨p, 0, none⟩), .slice A n c] w fun e w' => e = .returned (.func (.func 50) #[] #[.pointer (some ⟨w.heap.size + 1, 0, none⟩), .pointer (some ⟨w.heap.size, 0, none⟩)]) ∧
      w' = (w.alloc (.cells #[.pointer (some ⟨p, 0, none⟩)] 30)).alloc (.cells #[.slice A n c] 29) := by
  go_enter Try.func40, Try.ntmps40
  go_wp2
  go_ret
  exact ⟨rfl, rfl⟩
theorem Blk.putObj {w : World} {b l : Nat} {t : TypeId} {c : Array Value} (h : Blk w b t c) (hl : b ≠ l) (o : Obj) : Blk (w.putObj l o) b t c := (World.putObj_heap_other hl).trans h
theorem Blk.ne_rec {w : World} {b l : Nat} {t : TypeId} {c : Array Value} (h : Blk w b t c) (hl : NotCells w l) : b ≠ l := by
  rintro rfl
  have := hl _ h
  cases this
theorem Kp.putObj {N p : Nat} (w : World) {l : Nat} (o : Obj) (hl : N ≤ l) (h : l < w.heap.size) : Kp N p w (w.putObj l o) :=
  Kp.below ((Below.refl N w).grown (grownBy_putObj' w l o) (by omega) (fun k e => by cases e; exact hl))
theorem store16 (w : World) (y : Nat → Int) (cs : Array Value) (hcs : cs.size = 16) : (Instr.storeAt 34 (.pointer (some ⟨w.heap.size, 0, none⟩)) (.agg (arr16 y))).run Try.prog (w.alloc (.cells cs 34)) = .ok () ((w.alloc (.cells cs 34)).setRow w.heap.size (arr16 y)) :=
  run_store_blk (P := Try.prog) _ _ w.heap.size (arr16 y) (by simp [arr16, Value.oneCell']) cs (by rw [hcs]; rfl) (heap_alloc_new w _) size16
set_option maxHeartbeats 8000000 in
set_option maxRecDepth 100000 in
theorem write_any (p : Nat) (s : W8) (l : List UInt8) (A : Option Addr) (b : List UInt8) (n c : Nat) (hn : b.length = n) (hc : n ≤ c) (hm : c ≤ maxLen) (hA : A = none → c = 0) (w : World) (hS : SpAt w p s l) (hR : Src w.heap.size p w A b) :
    Calls Try.prog 21 #[.pointer (some ⟨p, 0, none⟩), .slice A n c] w fun e w' => e = .returned (.tuple #[]) ∧ w.grownBy w' (some p) ∧ SpAt w' p (feed s (l ++ b)).1 (feed s (l ++ b)).2 := by
  have hp := hS.lt
  refine (callsIn_wide (n := 3)).1 ?_
  refine callsIn_of_wp_marks (n := 3) Try.func21 rfl trivial ?_ rfl
  simp only [Try.ntmps21, List.size_toArray, List.length_cons, List.length_nil, Nat.reduceAdd, Nat.reduceSub, Array.replicate_succ, Array.replicate_zero, List.push_toArray, List.append_toArray, List.nil_append, List.cons_append]
  gi_wp2_with (refine ⟨trivial, ?_⟩; gi_at_call 40; refine (callsIn_wide.2 (blocks_any p A n c _)).mono ?_; rintro e w1 ⟨rfl, rfl⟩)
  obtain ⟨w3, hw3⟩ : ∃ w3, w3 = ((w.alloc (.cells #[.pointer (some ⟨p, 0, none⟩)] 30)).alloc (.cells #[.pointer (some ⟨p, 0, none⟩)] 30)).alloc (.cells #[.slice A n c] 29) := ⟨_, rfl⟩
  have hz : w3.heap.size = w.heap.size + 3 := by rw [hw3]; simp
  have B0 : Blk w3 w.heap.size 30 #[.pointer (some ⟨p, 0, none⟩)] := by rw [hw3]; exact ((Blk.new w _ _).alloc _).alloc _
  have B1 : Blk w3 (w.heap.size + 1) 30 #[.pointer (some ⟨p, 0, none⟩)] := by
    rw [hw3]
    have := Blk.new (w.alloc (.cells #[.pointer (some ⟨p, 0, none⟩)] 30)) 30 #[.pointer (some ⟨p, 0, none⟩)]
    rw [World.size_alloc] at this
    exact this.alloc _
  have B2 : Blk w3 (w.heap.size + 2) 29 #[.slice A n c] := by
    rw [hw3]
    have := Blk.new ((w.alloc (.cells #[.pointer (some ⟨p, 0, none⟩)] 30)).alloc (.cells #[.pointer (some ⟨p, 0, none⟩)] 30)) 29 #[.slice A n c]
    rw [World.size_alloc, World.size_alloc] at this
    exact this
  have b3 : Below w.heap.size w w3 := by rw [hw3]; exact (((Below.refl _ _).alloc (Nat.le_refl _) _).alloc (by simp) _).alloc (by simp; omega) _
  rw [← hw3]
  clear hw3
  have S3 : SpAt w3 p s l := hS.of_block (b3.block p hp)
  have R3 : Src (w.heap.size + 1) p w3 A b := fun h => by
    obtain ⟨bb, o, e, h1, h2, h3⟩ := hR h
    exact ⟨bb, o, e, by omega, h2, fun j x hx => (cell_same (b3.block bb h1)).trans (h3 j x hx)⟩
  refine wpIn_range (n := 3) rfl (by omega) (gf := 50) (lb := #[.pointer (some ⟨w.heap.size + 1 + 1, 0, none⟩), .pointer (some ⟨w.heap.size + 1, 0, none⟩)]) rfl trivial (enters_of Try.func50 (by kernel_rfl) rfl)
    (α := W8 × (Nat → Int)) (fun x => #[.agg (arr16 x.2)]) (fun _ => rfl)
    (fun x W => x.1.ok ∧ (∀ k, 0 ≤ x.2 k ∧ x.2 k < 256) ∧ Blk W p 62 (arrS x.1 x.2 0) ∧ Blk W w.heap.size 30 #[.pointer (some ⟨p, 0, none⟩)])
    (fun x W W' => Kp (w.heap.size + 1) p W W' ∧ W'.heap[w.heap.size + 2]? = W.heap[w.heap.size + 2]? ∧ W'.heap[w.heap.size + 1]? = W.heap[w.heap.size + 1]? ∧ Blk W' p 62 (arrS (takeW x.2 x.1) x.2 0))
    (fun W => SpAt W p (feed s (l ++ b)).1 (feed s (l ++ b)).2 ∧ Kp (w.heap.size + 1) p w3 W) ?round ?iter ?done
  case iter =>
    intro L D o1 o2 W1 hD hL hW1 hrec hY
    rw [hz] at hD hL
    have z1 : W1.heap.size = w.heap.size + 5 := by rw [hW1]; simp; omega
    have b1 : Below w3.heap.size w3 W1 := by rw [hW1]; exact ((Below.refl _ _).alloc (Nat.le_refl _) _).alloc (by simp) _
    have R1 : Src (w.heap.size + 1) p W1 A b := R3.kp (Kp.below (b1.mono (by omega)))
    have K31 : Kp (w.heap.size + 1) p w3 W1 := Kp.below (b1.mono (by omega))
    refine (blocks1_any (w.heap.size + 1) p (w.heap.size + 2) (w.heap.size + 1) L D o1 o2 W1 s l A c b (by omega) (by omega) (by omega) (by omega) (by omega) (by omega) (by omega) (by omega) (by omega) (S3.of_block (b1.block p (by omega))) R1 ?_ ((b1.block _ (by omega)).trans B1) (by rw [hn]; exact hc) hm hA hrec ?_).mono ?_
    · rw [hn]; exact (b1.block _ (by omega)).trans B2
    · intro s' y W hs' hy hb' hr' hK'
      exact hY (s', y) W ⟨hs', hy, hb', ((hK'.block w.heap.size (by omega) (by omega)).trans (b1.block _ (by omega))).trans B0⟩ hr'
    · rintro e W' ⟨h1, h2, h3, h4⟩
      exact ⟨h1, h2, h3, K31.trans h4⟩
  case done =>
    intro L D o W hD hL ⟨hf, hk⟩ hlt hnc hdd
    gi_wp2
    have pL : p ≠ L := by omega
    have pD : p ≠ D := by omega
    refine ⟨by simp, .inl ⟨_, _, rfl, run_takeDeferred hdd, ?_⟩⟩
    refine ⟨_, results_none rfl _ _ _, rfl, ?_, ?_⟩
    · refine Kp.grownBy ?_
      have k1 : Kp w.heap.size p w3 W := hk.mono (by omega)
      have k2 := Kp.putObj (N := w.heap.size) (p := p) W o (by omega : w.heap.size ≤ L) hlt
      have hDl : D < (W.putObj L o).heap.size := (Array.getElem?_eq_some_iff.1 hdd).1
      exact ((Kp.below b3).trans k1).trans (k2.trans (Kp.putObj _ _ (by omega) hDl))
    · exact (hf.of_block (World.putObj_heap_other pL)).of_block (World.putObj_heap_other pD)
  case round =>
    rintro L ⟨s', y⟩ W hlo hlt ⟨hs', hy, hb', hB0⟩
    gi_wp2_with (refine wpListIn_store_run rfl _ _ _ rfl rfl rfl (store16 W y _ rfl) ?_)
    obtain ⟨W1, hW1⟩ : ∃ W1, W1 = (W.alloc (.cells #[Value.int .u8 0, .int .u8 0, .int .u8 0, .int .u8 0, .int .u8 0, .int .u8 0, .int .u8 0, .int .u8 0, .int .u8 0, .int .u8 0, .int .u8 0, .int .u8 0, .int .u8 0, .int .u8 0, .int .u8 0, .int .u8 0] 34)).setRow W.heap.size (arr16 y) := ⟨_, rfl⟩
    have c1 : Blk W1 W.heap.size 34 (arr16 y) := by rw [hW1]; exact setRow_heap _ _ _ _ _ (0, 0) (heap_alloc_new W _)
    have g1 : Below W.heap.size W W1 := by rw [hW1]; exact step_new (grown_setRow _ _ _)
    rw [← hW1]
    have k1 : KeepsOthers W W1 := KeepsOthers.of_grownBy (grownBy_of_below g1 none) (fun j o e => by cases e)
    refine ⟨k1, fun o hnc => ?_⟩
    clear hW1
    have hb1 : Blk W1 p 62 (arrS s' y 0) := hb'.step g1
    have hB1 : Blk W1 w.heap.size 30 #[.pointer (some ⟨p, 0, none⟩)] := hB0.step g1
    have hb2 := hb1.putObj (hb1.ne_rec hnc) o
    have hB2 := hB1.putObj (hB1.ne_rec hnc) o
    have c2 := c1.putObj (c1.ne_rec hnc) o
    have hz2 : (W1.putObj L o).heap.size = W1.heap.size := by simp [World.putObj]
    have K2 : Kp (w.heap.size + 1) p W (W1.putObj L o) := (Kp.below (g1.mono (by omega))).trans (Kp.putObj W1 o (by omega) (by have := g1.size; omega))
    have E1 : (W1.putObj L o).heap[w.heap.size + 1]? = W.heap[w.heap.size + 1]? := (World.putObj_heap_other (by omega)).trans (g1.block _ (by omega))
    have E2 : (W1.putObj L o).heap[w.heap.size + 2]? = W.heap[w.heap.size + 2]? := (World.putObj_heap_other (by omega)).trans (g1.block _ (by omega))
    have hL1 : L < (W1.putObj L o).heap.size := by rw [hz2]; have := g1.size; omega
    generalize W1.putObj L o = W2 at *
    have d2 : W2.cell? ⟨w.heap.size, 0, none⟩ = some (.pointer (some ⟨p, 0, none⟩)) := Blk.cell (k := 0) hB2 rfl
    have hld := run_load_blk W2 34 W.heap.size _ (arr16 y) _ c2 Try.underlying34 rfl size16
    gi_wp2_with (first | (refine wpListIn_load_run rfl _ (.tmp 4) rfl rfl hld ?_) | (refine ⟨trivial, ?_⟩; gi_at_call 41; refine (CallsIn.inRound L (callsIn_wide.2 (take_any s' hs' y y hy 0 p W2 hb2))).mono ?_; rintro e W3 ⟨rfl, g3, b3'⟩))
    refine ⟨KeepsOthers.of_grownBy g3 (fun j o' e hj => by cases e; have := hj.symm.trans hb2; cases this; rfl), fun o' => ?_⟩
    have hs3 := g3.size
    have pL : p ≠ L := by omega
    refine ⟨(K2.trans (Kp.grown g3 (by omega) (.inl rfl))).trans (Kp.putObj W3 o' (by omega) (by omega)), ?_, ?_, b3'.putObj pL o'⟩
    · exact (World.putObj_heap_other (by omega)).trans ((g3.block _ (by omega) (fun e => by cases e; omega)).trans E2)
    · exact (World.putObj_heap_other (by omega)).trans ((g3.block _ (by omega) (fun e => by cases e; omega)).trans E1)
end Go.Proofs.Ytajombnckgehbaa
