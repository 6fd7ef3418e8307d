/- Slices of bytes, rows of them, Sums: the operations of a drawn region; contracts said by what they hold. -/
import Derived.Test.YtgccbfkofkohpaaGaSh
namespace Go.Proofs.Ytgccbfkofkohpaa
set_option linter.unusedVariables false
set_option maxRecDepth 20000
set_option linter.unusedSimpArgs false
open Go.ChangeShapes Go.WideShapes Go.ChangeAt Go.RowKit Go.Shelf

theorem infoSl : ∃ i, Try.prog.info? 43 = some i ∧ i.zero = some (.slice none 0 0) ∧ i.size = 1 := by
  have h0 : (Try.prog.info? 43).isSome = true := by kernel_rfl
  have h1 : (Try.prog.info? 43).map (·.size) = some 1 := by kernel_rfl
  have h2 : (Try.prog.info? 43).bind (·.zero) = some (.slice none 0 0) := by kernel_rfl
  cases h : Try.prog.info? 43 with
  | none => rw [h] at h0; cases h0
  | some i =>
    rw [h] at h1 h2
    exact ⟨i, rfl, h2, Option.some.inj h1⟩
/-- A slice of slices of bytes. -/
def IsP (w : World) (L : List (List UInt8)) (v : Value) : Prop := ∃ A c, v = .slice A L.length c ∧ L.length ≤ c ∧ c ≤ maxLen ∧ PRd w A L
theorem IsP.step {w w' : World} {L : List (List UInt8)} {v : Value} (h : IsP w L v) (hb : Below w.heap.size w w') : IsP w' L v := by
  obtain ⟨A, c, h1, h2, h3, h4⟩ := h
  exact ⟨A, c, h1, h2, h3, h4.step hb⟩
theorem Kc.prd' {B : Nat} {w w' : World} {A : Option Addr} {L : List (List UInt8)} (k : Kc B w w') (h : PRd w A L) : PRd w' A L := fun hl => by
  obtain ⟨b, o, e, h1, h3⟩ := h hl
  refine ⟨b, o, e, Nat.lt_of_lt_of_le h1 k.below.size, fun j l hj => ?_⟩
  obtain ⟨A', c', q1, q2, q3, q4, q5⟩ := h3 j l hj
  exact ⟨A', c', k.isCells q1, q2, q3, q4, k.rd q5⟩
def StK.parts (L : List (List UInt8)) : StK := ⟨fun w v => IsP w L v, fun _ _ _ _ hb h => by
  obtain ⟨A, c, h1, h2, h3, h4⟩ := h
  exact ⟨A, c, h1, h2, h3, hb.prd' h4⟩⟩
theorem IsP.below {w w' : World} {L : List (List UInt8)} {v : Value} {N : Nat} (h : IsP w L v) (hb : Below N w w') (hN : w.heap.size ≤ N) : IsP w' L v := h.step (hb.mono hN)
theorem IsB.below {w w' : World} {l : List UInt8} {v : Value} {N : Nat} (h : IsB w l v) (hb : Below N w w') (hN : w.heap.size ≤ N) : IsB w' l v := h.step (hb.mono hN)
theorem Rd.isB' {w : World} {A : Option Addr} {l : List UInt8} {n c : Nat} (h : Rd w A l) (hn : l.length = n) (hc : n ≤ c) (hm : c ≤ maxLen) (hz : A = none → c = 0) : IsB w l (.slice A n c) := by
  subst hn
  exact ⟨A, c, rfl, hc, hm, hz, h⟩
theorem Byt.isB {w : World} {b : Nat} {v : Value} {l : List UInt8} (h : Byt w b v l) : IsB w l v := by
  obtain ⟨A, c, e, h1, h2, h3, _⟩ := id h.slice
  subst e
  exact ⟨A, c, rfl, h1, h2, h.none0, h3⟩
theorem IsB.nil (w : World) : IsB w [] (.slice none 0 0) := ⟨none, 0, rfl, Nat.le_refl _, by unfold maxLen; omega, fun _ => rfl, fun h => absurd h (by simp)⟩
theorem part_rd {w : World} {g : Nat} {c : Array Value} (hB : Blk w g 43 c) {L : List (List UInt8)} (hL : ∀ (j : Nat) (l : List UInt8), L[j]? = some l → ∃ v, c[j]? = some v ∧ IsB w l v) : PRd w (some ⟨g, 0, none⟩) L := fun _ =>
  ⟨g, 0, rfl, hB.lt, fun j l hj => by
    obtain ⟨v, hv, A, c', e, h1, h2, h3, h4⟩ := hL j l hj
    exact ⟨A, c', by rw [Nat.zero_add, ← e]; exact hB.cell hv, h1, h2, h3, h4⟩⟩
theorem isb1 {w : World} {l1 : List UInt8} {v1 : Value} (h1 : IsB w l1 v1) : ∀ (j : Nat) (l : List UInt8) (v : Value), [l1][j]? = some l → [v1][j]? = some v → IsB w l v
  | 0, l, v, hl, hv => by cases hl; cases hv; exact h1
  | j + 1, l, v, hl, hv => by cases hl
theorem isb2 {w : World} {l1 l2 : List UInt8} {v1 v2 : Value} (h1 : IsB w l1 v1) (h2 : IsB w l2 v2) : ∀ (j : Nat) (l : List UInt8) (v : Value), [l1, l2][j]? = some l → [v1, v2][j]? = some v → IsB w l v
  | 0, l, v, hl, hv => by cases hl; cases hv; exact h1
  | 1, l, v, hl, hv => by cases hl; cases hv; exact h2
  | j + 2, l, v, hl, hv => by cases hl
theorem isb3 {w : World} {l1 l2 l3 : List UInt8} {v1 v2 v3 : Value} (h1 : IsB w l1 v1) (h2 : IsB w l2 v2) (h3 : IsB w l3 v3) : ∀ (j : Nat) (l : List UInt8) (v : Value), [l1, l2, l3][j]? = some l → [v1, v2, v3][j]? = some v → IsB w l v
  | 0, l, v, hl, hv => by cases hl; cases hv; exact h1
  | 1, l, v, hl, hv => by cases hl; cases hv; exact h2
  | 2, l, v, hl, hv => by cases hl; cases hv; exact h3
  | j + 3, l, v, hl, hv => by cases hl
/-- A new row of parts. -/
theorem new_parts {w : World} {vs : List Value} {L : List (List UInt8)} (hn : vs.length = L.length) (hm : L.length ≤ 1000) (h : ∀ (j : Nat) (l : List UInt8) (v : Value), L[j]? = some l → vs[j]? = some v → IsB w l v) : IsP (w.alloc (.cells vs.toArray 43)) L (.slice (some ⟨w.heap.size, 0, none⟩) L.length L.length) := by
  refine ⟨_, _, rfl, Nat.le_refl _, by unfold maxLen; omega, part_rd (Blk.new w 43 vs.toArray) fun j l hj => ?_⟩
  have hjl := (List.getElem?_eq_some_iff.1 hj).1
  have hv : vs[j]? = some (vs[j]'(by omega)) := List.getElem?_eq_getElem (by omega)
  exact ⟨vs[j]'(by omega), by rw [List.getElem?_toArray]; exact hv, (h j l _ hj hv).step (step_alloc w _)⟩
section
variable {Q : Exit → Act → World → Prop} {a : Act} {w : World} {o : Oper} {B : Nat} {ops : Array Oper}
theorem hop_parts (hw : Region.wanted o (yielded ops a.tmps) = true) (hB : B ≤ w.heap.size) {n : Nat} {ps : Array (Nat × Operand)} (ho : o.op = .buildSlice 63 n ps) {vs : List Value} {L : List (List UInt8)} (hn : vs.length = n) (hL : L.length = n) (hm : n ≤ 1000) (hn0 : 0 < n)
    (hf : Instr.fill (fun i => some (i * 1, 1)) ((Array.range (n * 1)).map ((Value.slice none 0 0).cells[· % (Value.slice none 0 0).cells.size]!)) (ps.map fun (i, x) => (i, a.eval x)).toList = some vs.toArray)
    (h : ∀ (j : Nat) (l : List UInt8) (v : Value), L[j]? = some l → vs[j]? = some v → IsB w l v) :
    if Region.wanted o (yielded ops a.tmps) = true then o.wp Try.prog a w (fun a' w' => ∃ v, a' = a.put o.dst v ∧ Kc B w w' ∧ (StK.parts L).F w' v) Q else (StK.parts L).F w undef := by
  obtain ⟨i, i1, i2, i3⟩ := infoSl
  refine hop_growK (F := (StK.parts L).F) hw (.slice (some ⟨w.heap.size, 0, none⟩) L.length L.length) (w1 := w.alloc (.cells vs.toArray 43)) ?_ (Kc.of_below hB (step_alloc w _)) (new_parts (by rw [hn, hL]) (by omega) h)
  unfold execOp
  simp only [ho, Sem.run_bind, run_buildSlice w 63 43 n _ vs.toArray i (.slice none 0 0) Try.underlying63 i1 i2 (by rw [i3]; omega) (by rw [i3]; omega) (by rw [i3]; exact hf), Result.andThen_ok, Sem.run_pure, hL]
theorem hop_parts1 (hw : Region.wanted o (yielded ops a.tmps) = true) (hB : B ≤ w.heap.size) (x1 : Operand) (ho : o.op = .buildSlice 63 1 #[(0, x1)]) {l1 : List UInt8} (h1 : IsB w l1 (a.eval x1)) :
    if Region.wanted o (yielded ops a.tmps) = true then o.wp Try.prog a w (fun a' w' => ∃ v, a' = a.put o.dst v ∧ Kc B w w' ∧ (StK.parts [l1]).F w' v) Q else (StK.parts [l1]).F w undef := by
  obtain ⟨A1, c1, e1, _⟩ := id h1
  refine hop_parts (n := 1) hw hB ho (vs := [a.eval x1]) (L := [l1]) rfl rfl (by decide) (by decide) ?_ (isb1 h1)
  simp only [List.map_toArray, List.map_cons, List.map_nil, e1]
  kernel_rfl
theorem hop_parts2 (hw : Region.wanted o (yielded ops a.tmps) = true) (hB : B ≤ w.heap.size) (x1 x2 : Operand) (ho : o.op = .buildSlice 63 2 #[(0, x1), (1, x2)]) {l1 l2 : List UInt8} (h1 : IsB w l1 (a.eval x1)) (h2 : IsB w l2 (a.eval x2)) :
    if Region.wanted o (yielded ops a.tmps) = true then o.wp Try.prog a w (fun a' w' => ∃ v, a' = a.put o.dst v ∧ Kc B w w' ∧ (StK.parts [l1, l2]).F w' v) Q else (StK.parts [l1, l2]).F w undef := by
  obtain ⟨A1, c1, e1, _⟩ := id h1
  obtain ⟨A2, c2, e2, _⟩ := id h2
  refine hop_parts (n := 2) hw hB ho (vs := [a.eval x1, a.eval x2]) (L := [l1, l2]) rfl rfl (by decide) (by decide) ?_ (isb2 h1 h2)
  simp only [List.map_toArray, List.map_cons, List.map_nil, e1, e2]
  kernel_rfl
theorem hop_parts3 (hw : Region.wanted o (yielded ops a.tmps) = true) (hB : B ≤ w.heap.size) (x1 x2 x3 : Operand) (ho : o.op = .buildSlice 63 3 #[(0, x1), (1, x2), (2, x3)]) {l1 l2 l3 : List UInt8} (h1 : IsB w l1 (a.eval x1)) (h2 : IsB w l2 (a.eval x2)) (h3 : IsB w l3 (a.eval x3)) :
    if Region.wanted o (yielded ops a.tmps) = true then o.wp Try.prog a w (fun a' w' => ∃ v, a' = a.put o.dst v ∧ Kc B w w' ∧ (StK.parts [l1, l2, l3]).F w' v) Q else (StK.parts [l1, l2, l3]).F w undef := by
  obtain ⟨A1, c1, e1, _⟩ := id h1
  obtain ⟨A2, c2, e2, _⟩ := id h2
  obtain ⟨A3, c3, e3, _⟩ := id h3
  refine hop_parts (n := 3) hw hB ho (vs := [a.eval x1, a.eval x2, a.eval x3]) (L := [l1, l2, l3]) rfl rfl (by decide) (by decide) ?_ (isb3 h1 h2 h3)
  simp only [List.map_toArray, List.map_cons, List.map_nil, e1, e2, e3]
  kernel_rfl
theorem run_slTo (x h : Operand) (ho : o.op = .slice 43 x none (some h) none) {l : List UInt8} (hx : IsB w l (a.eval x)) {K : Nat} {z : Int} (hh : a.eval h = .int .i64 z) (hz : z = (K : Int)) (hK : K ≤ l.length) : ∃ v, (execOp a.eval o).run Try.prog w = .ok (.value v) w ∧ IsB w (l.take K) v := by
  subst hz
  obtain ⟨A, c, e, h1, h2, h3, h4⟩ := hx
  refine ⟨.slice A K c, ?_, (h4.take K).isB' (by rw [List.length_take]; omega) (by omega) h2 h3⟩
  unfold execOp
  simp only [ho, e, hh]
  simp [slice_h w A l.length c K (by omega), hh]
theorem run_slFrom (x k : Operand) (ho : o.op = .slice 43 x (some k) none none) {l : List UInt8} (hx : IsB w l (a.eval x)) {K : Nat} {z : Int} (hh : a.eval k = .int .i64 z) (hz : z = (K : Int)) (hK : K ≤ l.length) : ∃ v, (execOp a.eval o).run Try.prog w = .ok (.value v) w ∧ IsB w (l.drop K) v := by
  subst hz
  obtain ⟨A, c, e, h1, h2, h3, h4⟩ := hx
  have hrd : Rd w (cutA A c K) (l.drop K) := by
    have := ((h4.src (p := w.heap.size) (Nat.le_refl _)).cut (k := K) h1).rd (Nat.le_refl _)
    exact this
  refine ⟨.slice (cutA A c K) (l.length - K) (c - K), ?_, hrd.isB' (by rw [List.length_drop]) (by omega) (by omega) ?_⟩
  · unfold execOp
    simp only [ho, e, hh]
    simp [slice_from w A l.length c K hK, hh]
  · unfold cutA
    split
    · intro _; omega
    · intro e2
      rw [Option.map_eq_none_iff] at e2
      have := h3 e2
      omega
theorem hop_slTo (hw : Region.wanted o (yielded ops a.tmps) = true) (x h : Operand) (ho : o.op = .slice 43 x none (some h) none) {l : List UInt8} (hx : IsB w l (a.eval x)) {K : Nat} {z : Int} (hh : a.eval h = .int .i64 z) (hz : z = (K : Int)) (hK : K ≤ l.length) :
    if Region.wanted o (yielded ops a.tmps) = true then o.wp Try.prog a w (fun a' w' => ∃ v, a' = a.put o.dst v ∧ Kc B w w' ∧ (StK.bytes (l.take K)).F w' v) Q else (StK.bytes (l.take K)).F w undef := by
  obtain ⟨v, h1, h2⟩ := run_slTo x h ho hx hh hz hK
  exact hop_runK (F := (StK.bytes (l.take K)).F) hw v h1 h2
theorem hop_slFrom (hw : Region.wanted o (yielded ops a.tmps) = true) (x k : Operand) (ho : o.op = .slice 43 x (some k) none none) {l : List UInt8} (hx : IsB w l (a.eval x)) {K : Nat} {z : Int} (hh : a.eval k = .int .i64 z) (hz : z = (K : Int)) (hK : K ≤ l.length) :
    if Region.wanted o (yielded ops a.tmps) = true then o.wp Try.prog a w (fun a' w' => ∃ v, a' = a.put o.dst v ∧ Kc B w w' ∧ (StK.bytes (l.drop K)).F w' v) Q else (StK.bytes (l.drop K)).F w undef := by
  obtain ⟨v, h1, h2⟩ := run_slFrom x k ho hx hh hz hK
  exact hop_runK (F := (StK.bytes (l.drop K)).F) hw v h1 h2
theorem sum_newB (ho : o.op = .alloc 61) : (execOp a.eval o).run Try.prog w = .ok (.value (.pointer (some ⟨w.heap.size, 0, none⟩))) (w.alloc (.cells #[Value.int .u8 0, .int .u8 0, .int .u8 0, .int .u8 0, .int .u8 0, .int .u8 0, .int .u8 0, .int .u8 0, .int .u8 0, .int .u8 0, .int .u8 0, .int .u8 0, .int .u8 0, .int .u8 0, .int .u8 0, .int .u8 0] 61)) := by
  unfold execOp
  simp only [ho]
  kernel_rfl
end
theorem mac_b {w : World} {v u : Value} {key : List UInt8} {L : List (List UInt8)} (hv : IsB w key v) (hu : IsP w L u) :
    Calls Try.prog 91 #[v, u] w fun e w' => e = .returned (.agg (arr16 (outF (macW key L)))) ∧ Below w.heap.size w w' := by
  obtain ⟨A, c, rfl, h1, h2, h3, h4⟩ := hv
  obtain ⟨B, d, rfl, k1, k2, k3⟩ := hu
  exact mac_any A key _ c rfl h1 h2 h3 B L _ d rfl k1 k2 w h4 k3
theorem of_b {w : World} {u : Value} {L : List (List UInt8)} (hu : IsP w L u) :
    Calls Try.prog 58 #[u] w fun e w' => e = .returned (.agg (arr16 (outF (macW [] L)))) ∧ Below w.heap.size w w' := by
  obtain ⟨B, d, rfl, k1, k2, k3⟩ := hu
  exact of_any B L _ d rfl k1 k2 w k3
/-- A call that yields a known value. -/
theorem call_eq {P : Program} {f : FuncId} {args : Array Value} {w : World} {v : Value} (h : Calls P f args w fun e w' => e = .returned v ∧ Below w.heap.size w w') : Calls P f args w fun e w' => ∃ u, e = .returned u ∧ Below w.heap.size w w' ∧ u = v :=
  h.mono fun e w' h => ⟨v, h.1, h.2, rfl⟩
end Go.Proofs.Ytgccbfkofkohpaa
