/- limb.less and limb.along at debt: contracts. -/
import Derived.Test.YtgccbfkofkohpaaMul
import Derived.Test.YtgccbfkofkohpaaGaNum
namespace Go.Proofs.Ytgccbfkofkohpaa
set_option linter.unusedVariables false
set_option maxRecDepth 20000
set_option linter.unusedSimpArgs false
open Go.ChangeShapes Go.WideShapes Go.ChangeAt Go.RowKit

/-! The product that is taken off: its carries and its digits; the difference: its borrows and its digits. -/
def cP (d : Int) (y : Nat → Int) : Nat → Int
  | 0 => 0
  | k + 1 => (cP d y k + d * y k) / 4294967296
def pP (d : Int) (y : Nat → Int) (k : Nat) : Int := (cP d y k + d * y k) % 4294967296
theorem pP_bd (d : Int) (y : Nat → Int) (k : Nat) : 0 ≤ pP d y k ∧ pP d y k < 4294967296 := by unfold pP; omega
theorem cP_bd {d : Int} {y : Nat → Int} (hd : 0 ≤ d ∧ d < 4294967296) (hy : ∀ k, 0 ≤ y k ∧ y k < 4294967296) : ∀ k, 0 ≤ cP d y k ∧ cP d y k < 4294967296
  | 0 => by simp [cP]
  | k + 1 => by
    have h1 := cP_bd hd hy k
    have h3 := prod_bd hd (hy k)
    simp only [cP]; omega
theorem valP (d : Int) (y : Nat → Int) : ∀ m, valI (pP d y) m + cP d y m * 4294967296 ^ m = d * valI y m
  | 0 => by simp [valI, cP]
  | m + 1 => by
    have ih := valP d y m
    have e : pP d y m + cP d y (m + 1) * 4294967296 = cP d y m + d * y m := by simp only [pP, cP]; omega
    simp only [valI, Int.pow_succ]
    generalize (4294967296 : Int) ^ m = P at *
    grind

theorem results_tmp_row {P : Program} {fn : Func} {p q : Tmp} {ty : TypeId} (h : fn.results = #[.tmp q, .cell p ty]) {tmps : Array Value} {w : World} {g : Nat} {t : TypeId} {cs : Array Value} {d : TypeDesc}
    (hp : tmps.getD p undef = .pointer (some ⟨g, 0, none⟩)) (hg : w.heap[g]? = some (.cells cs t (0, 0)))
    (hu : P.underlying ty = some d) (hd : (match d with | .struct _ | .array _ _ => true | _ => false) = true) (hi : (P.info? ty).map (·.size) = some cs.size) :
    (results fn tmps).run P w = .ok (.tuple #[tmps.getD q undef, .agg cs]) w := by
  have hp' : tmps[p]?.getD undef = .pointer (some ⟨g, 0, none⟩) := by simpa using hp
  simp [results, h, hp', asAddr, run_loadVar_row w g t ty cs (0, 0) d hg hu hd hi]
theorem grown_al {a b : World} {row : Option Nat} (h : a.grownBy b row) (o : Obj) : a.grownBy (b.alloc o) row :=
  ⟨h.os, h.tape, h.output, by simp; have := h.size; omega, fun i hi hn => (Below.heap_alloc b o i (Nat.lt_of_lt_of_le hi h.size)).trans (h.block i hi hn)⟩
theorem heap_new2 (w : World) (o o' : Obj) : ((w.alloc o).alloc o').heap[w.heap.size + 1]? = some o' := by
  have := heap_alloc_new (w.alloc o) o'
  rwa [World.size_alloc] at this
theorem heap_new1 (w : World) (o o' : Obj) : ((w.alloc o).alloc o').heap[w.heap.size]? = some o := (Below.heap_alloc (w.alloc o) o' _ (by simp)).trans (heap_alloc_new w o)
set_option maxHeartbeats 400000 in
theorem less_any (d : Int) (w : World) :
    Calls Try.prog 102 #[.int .u32 d] w fun e w' => e = .returned (.func (.func 112) #[] #[.pointer (some ⟨w.heap.size, 0, none⟩)]) ∧ w.alloc (.cells #[.int .u32 d] 24) = w' := by
  go_enter Try.func102, Try.ntmps102
  go_wp2
  go_ret
  exact ⟨rfl, rfl⟩
set_option maxHeartbeats 400000 in
theorem less1_any (d x y c l : Int) (hd : 0 ≤ d ∧ d < 4294967296) (hx : 0 ≤ x ∧ x < 4294967296) (hy : 0 ≤ y ∧ y < 4294967296) (hc : 0 ≤ c ∧ c < 4294967296) (hl : 0 ≤ l ∧ l ≤ 1) (p : Addr) (w : World) (hp : w.cell? p = some (.int .u32 d)) :
    Calls Try.prog 112 #[.int .u32 x, .int .u32 y, .agg #[.int .u64 c, .int .u32 l], .pointer (some p)] w fun e w' =>
      e = .returned (.tuple #[.int .u32 ((x - (c + d * y) % 4294967296 - l) % 4294967296), .agg #[.int .u64 ((c + d * y) / 4294967296), .int .u32 (-((x - (c + d * y) % 4294967296 - l) / 4294967296))]]) ∧ Below w.heap.size w w' := by
  obtain ⟨h1, h2⟩ := prod_bd hd hy
  have hq : 0 ≤ (c + d * y) % 4294967296 ∧ (c + d * y) % 4294967296 < 4294967296 := by omega
  obtain ⟨hd0, hd1⟩ := hd
  obtain ⟨hx0, hx1⟩ := hx
  obtain ⟨hy0, hy1⟩ := hy
  obtain ⟨hc0, hc1⟩ := hc
  obtain ⟨hl0, hl1⟩ := hl
  have c2 : ((w.alloc (.cells #[.int .u64 c, .int .u32 l] 119)).alloc (.cells #[.int .u64 0, .int .u32 0] 119)).cell? p = some (.int .u32 d) := by
    exact (grown_al (grown_al (World.grownBy.refl w none) _) _).cell hp (by simp)
  go_enter Try.func112, Try.ntmps112
  go_wp2_with fail
  refine (sub32_any _ _ _ hx0 hx1 (by omega) (by omega) hl0 hl1 _).mono ?_
  rintro e w1 ⟨rfl, rfl⟩
  go_wp2_with fail
  go_region
  go_wp2
  refine bodyPost_ret (results_tmp_row rfl rfl (heap_new2 _ _ _) Try.underlying119 rfl (by kernel_rfl)) rfl ⟨rfl, ?_⟩
  exact (((Below.refl _ _).alloc (Nat.le_refl _) _).alloc (by simp) _).drew
theorem cell_heap {w : World} {b k : Nat} {cs : Array Value} {t : TypeId} {v : Value} (h : w.heap[b]? = some (.cells cs t (0, 0))) (e : cs[k]? = some v) : w.cell? ⟨b, k, none⟩ = some v := by
  have : w.rowIs b t cs.size (fun i => cs.getD i undef) := ⟨cs, h, rfl, fun i hi => by simp [hi]⟩
  have hk : k < cs.size := (Array.getElem?_eq_some_iff.1 e).1
  rw [this.cell hk]
  simp [e]
theorem grown_drw {a b : World} {row : Option Nat} (h : a.grownBy b row) : a.grownBy b.drew row := ⟨h.os, h.tape, h.output, h.size, h.block⟩
theorem grown_of_below {a w : World} {row : Option Nat} (h : Below a.heap.size a w) : a.grownBy w row := ⟨h.os, h.tape, h.output, h.size, fun i hi _ => h.block i hi⟩
def pairF (u v : Value) (i : Nat) : Value := if i = 0 then u else v
theorem pair_row {w : World} {b : Nat} {u v : Value} {t : TypeId} (h : w.heap[b]? = some (.cells #[u, v] t (0, 0))) : w.rowIs b t 2 (pairF u v) :=
  ⟨#[u, v], h, rfl, fun i hi => by
    have : i = 0 ∨ i = 1 := by omega
    rcases this with rfl | rfl <;> rfl⟩
theorem pair_heap {w : World} {b : Nat} {t : TypeId} {f : Nat → Value} (h : w.rowIs b t 2 f) : w.heap[b]? = some (.cells #[f 0, f 1] t (0, 0)) := by
  obtain ⟨c, hb, hs, hc⟩ := h
  have : c = #[f 0, f 1] := by
    apply Array.ext_getElem?
    intro i
    by_cases hi : i < 2
    · rw [hc i hi]
      have : i = 0 ∨ i = 1 := by omega
      rcases this with rfl | rfl <;> rfl
    · rw [Array.getElem?_eq_none (by omega), Array.getElem?_eq_none (by simp; omega)]
  rw [hb, this]
theorem pair_set {w : World} {b : Nat} {u v u' v' : Value} {t : TypeId} (h : w.heap[b]? = some (.cells #[u, v] t (0, 0))) : ((w.setCell ⟨b, 0, none⟩ u').setCell ⟨b, 1, none⟩ v').heap[b]? = some (.cells #[u', v'] t (0, 0)) := by
  have := pair_heap (((pair_row h).set 0 u').set 1 v')
  simpa using this
theorem grown_new {a w : World} {row : Option Nat} (h : a.grownBy w row) {p : Addr} (hp : a.heap.size ≤ p.block) (u : Value) : a.grownBy (w.setCell p u) row :=
  ⟨h.os, h.tape, h.output, by simpa [World.setCell] using h.size, fun i hi hne => (Below.heap_setCell w p u i (by rintro rfl; omega)).trans (h.block i hi hne)⟩
theorem frozen_heap {w : World} {b k : Nat} {cs : Array Value} {t : TypeId} (h : w.heap[b]? = some (.cells cs t (0, 0))) : w.frozen? ⟨b, k, none⟩ = false := by
  have : w.rowIs b t cs.size (fun i => cs.getD i undef) := ⟨cs, h, rfl, fun i hi => by simp [hi]⟩
  exact this.frozen k
set_option maxHeartbeats 400000 in
theorem along_debt (b o n cap b2 o2 m cap2 N : Nat) (T : TypeId) (f : Nat → Value) (x y : Nat → Int) (d : Int) (p : Addr) (w : World)
   (hm : m ≤ n) (hn : n ≤ maxLen) (hN : o + n ≤ N) (hb : w.rowIs b T N f) (hf : ∀ k, k < m → f (o + k) = .int .u32 (x k))
   (hy : ∀ k, k < m → w.cell? ⟨b2, o2 + k, none⟩ = some (.int .u32 (y k))) (hne : b2 ≠ b) (hb2 : b2 < w.heap.size) (hp : w.cell? p = some (.int .u32 d)) (hpb : p.block ≠ b)
   (bx : ∀ k, 0 ≤ x k ∧ x k < 4294967296) (by_ : ∀ k, 0 ≤ y k ∧ y k < 4294967296) (hd : 0 ≤ d ∧ d < 4294967296) :
    Calls Try.prog 101 #[.slice (some ⟨b, o, none⟩) n cap, .slice (some ⟨b2, o2, none⟩) m cap2, .agg #[.int .u64 0, .int .u32 0], .func (.func 112) #[] #[.pointer (some p)]] w fun e w' =>
      e = .returned (.agg #[.int .u64 (cP d y m), .int .u32 (bwI x (pP d y) m)]) ∧ w.grownBy w' (some b) ∧ w'.rowIs b T N (fun j => if o ≤ j ∧ j < o + m then .int .u32 (zS x (pP d y) (j - o)) else f j) := by
  unfold maxLen at hn
  go_enter Try.func101, Try.ntmps101
  go_wp2
  go_loopw [13] (fun i wr => ∃ k : Nat, k ≤ m ∧ i = .int .i64 k ∧ wr.heap[w.heap.size]? = some (.cells #[.int .u64 (cP d y k), .int .u32 (bwI x (pP d y) k)] 119 (0, 0)) ∧ wr.heap[w.heap.size + 1]? = some (.cells #[.int .u64 0, .int .u32 0] 119 (0, 0)) ∧ w.grownBy wr (some b) ∧ wr.rowIs b T N (fun j => if o ≤ j ∧ j < o + k then .int .u32 (zS x (pP d y) (j - o)) else f j)) (fun i _ => m - (intOf i).toNat)
  case atStart => exact ⟨0, Nat.zero_le _, rfl, by simpa [cP, bwI] using heap_new1 w _ _, heap_new2 w _ _, grown_al (grown_al (World.grownBy.refl _ _) _) _, ((hb.alloc _).alloc _).congr (fun i _ => by rw [if_neg (by omega)])⟩
  case round =>
    obtain ⟨k, hk, rfl, h1, h2, hg, hr⟩ := hrel
    have hcy := cP_bd hd by_ k
    have hbw := bwI_bd bx (pP_bd d y) k
    have hbl := hb.lt
    have hsz := hg.size
    have c1 : k < m → wr.cell? ⟨b2, o2 + k, none⟩ = some (.int .u32 (y k)) := fun h => hg.cell (hy k h) (fun e => hne (by simpa using e))
    have c2 : k < m → wr.cell? ⟨b, o + k, none⟩ = some (.int .u32 (x k)) := fun h => by rw [hr.cell (by omega), if_neg (by omega), hf k h]
    have c3 : wr.frozen? ⟨b, o + k, none⟩ = false := hr.frozen _
    have c4 := hg.cell hp (fun e => hpb (by simpa using e))
    have d0 : wr.cell? ⟨w.heap.size, 0, none⟩ = some (.int .u64 (cP d y k)) := cell_heap h1 rfl
    have d1 : wr.cell? ⟨w.heap.size, 1, none⟩ = some (.int .u32 (bwI x (pP d y) k)) := cell_heap h1 rfl
    have d2 : wr.cell? ⟨w.heap.size + 1, 0, none⟩ = some (.int .u64 0) := cell_heap h2 rfl
    have d3 : wr.cell? ⟨w.heap.size + 1, 1, none⟩ = some (.int .u32 0) := cell_heap h2 rfl
    have d4 : wr.frozen? ⟨w.heap.size + 1, 0, none⟩ = false := frozen_heap h2
    have d5 : wr.frozen? ⟨w.heap.size + 1, 1, none⟩ = false := frozen_heap h2
    have d6 : wr.frozen? ⟨w.heap.size, 0, none⟩ = false := frozen_heap h1
    have d7 : wr.frozen? ⟨w.heap.size, 1, none⟩ = false := frozen_heap h1
    have hw1 : w.heap.size + 1 < wr.heap.size := (Array.getElem?_eq_some_iff.1 h2).1
    have hxk := bx k
    have hyk := by_ k
    have HX := hid hxk
    have HY := hid hyk
    have HC := hid hcy
    have HD := hid hd
    have HL := hid hbw
    clear hf hy bx by_ hxk hyk hcy hd hbw
    have nbb : b ≠ w.heap.size := by omega
    go_wp2_with fail
    · go_region_with (first | (go_at_call 112; refine (less1_any d _ _ _ _ HD.out HX.out HY.out HC.out HL.out p _ (by exact c4)).mono ?_; rintro e w1 ⟨rfl, hB⟩; have e1 : w1.frozen? ⟨b, o + k, none⟩ = false := (hB.frozen (p := ⟨b, o + k, none⟩) (by simp <;> omega)).trans c3; have e2 : w1.cell? ⟨b, o + k, none⟩ = some (.int .u32 (x k)) := (hB.cell (p := ⟨b, o + k, none⟩) (by simp <;> omega)).trans (c2 (by omega)); have e3 : w1.frozen? ⟨w.heap.size, 0, none⟩ = false := (hB.frozen (p := ⟨w.heap.size, 0, none⟩) (by simp <;> omega)).trans d6; have e4 : w1.frozen? ⟨w.heap.size, 1, none⟩ = false := (hB.frozen (p := ⟨w.heap.size, 1, none⟩) (by simp <;> omega)).trans d7; have e5 : w1.cell? ⟨w.heap.size, 0, none⟩ = some (.int .u64 (cP d y k)) := (hB.cell (p := ⟨w.heap.size, 0, none⟩) (by simp <;> omega)).trans d0; have e6 : w1.cell? ⟨w.heap.size, 1, none⟩ = some (.int .u32 (bwI x (pP d y) k)) := (hB.cell (p := ⟨w.heap.size, 1, none⟩) (by simp <;> omega)).trans d1))
      all_goals
        have f1 := (hB.block w.heap.size (by simp <;> omega)).trans h1
        have f2 := (hB.block (w.heap.size + 1) (by simp <;> omega)).trans h2
        have fr := hr.drew.of_block (hB.block b (by simp <;> omega))
        have fg := (grown_trans' (grown_drw hg) (grown_of_below (row := some b) hB))
        go_wp2
        go_roundw
        case rel =>
          refine ⟨k + 1, by omega, by go_num, ?_, ?_, ?_, ?_⟩
          · exact pair_set (by rw [Below.heap_setCell _ _ _ _ (by simp <;> omega)]; exact f1)
          · rw [Below.heap_setCell _ _ _ _ (by simp <;> omega), Below.heap_setCell _ _ _ _ (by simp <;> omega), Below.heap_setCell _ _ _ _ (by simp <;> omega)]
            exact f2
          · exact grown_new (grown_new (grown_set fg rfl _) (by simp) _) (by simp) _
          · refine ((((fr.set (o + k) _).setOther (by simp <;> omega) _).setOther (by simp <;> omega) _)).congr fun j hj => ?_
            by_cases e : j = o + k
            · subst e
              rw [if_pos rfl, if_pos (by omega), Nat.add_sub_cancel_left, zS, pP]
            · rw [if_neg e]
              by_cases h1 : o ≤ j ∧ j < o + k
              · rw [if_pos h1, if_pos (by omega)]
              · rw [if_neg h1, if_neg (by omega)]
        case measure => simp [intOf]; omega
    · have : k = m := by omega
      subst this
      refine bodyPost_ret (results_cell_row rfl _ _ _ _ _ _ _ rfl (pair_set h2) Try.underlying119 rfl (by kernel_rfl)) rfl ⟨rfl, ?_, ?_⟩
      · exact grown_new (grown_new hg (by simp) _) (by simp) _
      · exact (hr.setOther (by simp <;> omega) _).setOther (by simp <;> omega) _
end Go.Proofs.Ytgccbfkofkohpaa
