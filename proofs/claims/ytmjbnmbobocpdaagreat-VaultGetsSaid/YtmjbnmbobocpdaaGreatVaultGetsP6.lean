/- What VaultGets stands on, part 6. -/
import Derived.Laws.StructEq
import Derived.Great.BuildSlice
import Derived.Lib.SmallJoins
import Derived.Deep.RegionHeld3
import Derived.Deep.Upon
import Derived.Lib.AppendZerosOnto
import Derived.Deep.CutRange
import Derived.Test.YtmjbnmbobocpdaaGreatVaultGetsP1
import Derived.Test.YtmjbnmbobocpdaaGreatVaultGetsP2
import Derived.Test.YtmjbnmbobocpdaaGreatVaultGetsP3
import Derived.Test.YtmjbnmbobocpdaaGreatVaultGetsP4
import Derived.Test.YtmjbnmbobocpdaaGreatVaultGetsP5
set_option maxRecDepth 100000
set_option maxHeartbeats 8000000
set_option linter.unusedVariables false
set_option linter.unusedSimpArgs false
/- sponge.Stream, slices.Clip. -/
namespace Go.Proofs.YtmjbnmbobocpdaaGreat
open Go.ChangeShapes Go.WideShapes Go.ChangeAt Go.RowKit Go.Shelf
theorem add_zero' (a : Addr) : a.add 0 = a := by obtain ⟨b, o, s⟩ := a; simp [Addr.add]
theorem map_add_zero (A : Option Addr) (k : Nat) : A.map (·.add (0 * k)) = A := by cases A <;> simp [add_zero']
theorem slice_h (w : World) (A : Option Addr) (n c k : Nat) (hk : k ≤ c) : (Instr.sliceAt 23 (.slice A n c) none (some (.int .i64 (k : Int))) none).run Tryz.prog w = .ok (.slice A k c) w := by
  have hu : Tryz.prog.underlying 23 = some (.slice (Tryz.prog.elem 23)) := by rw [elem_u8s]; exact Tryz.underlying23
  rw [run_sliceAt_slice _ _ _ _ _ _ hu, run_slice_h _ _ _ _ _ hu .i64 k (by omega) (by omega), elem_u8s, sizeOf_u8]
  simp only [Result.andThen_ok, sliced, Int.toNat_natCast, map_add_zero, ite_self, Nat.sub_zero]
theorem slice_sum (w : World) (g : Nat) : (Instr.sliceAt 65 (.pointer (some ⟨g, 0, none⟩)) none none none).run Tryz.prog w = .ok (.slice (some ⟨g, 0, none⟩) 16 16) w := by
  have hl : Tryz.prog.arrayLen 65 = 16 := by kernel_rfl
  have he : Tryz.prog.elem 65 = 5 := by kernel_rfl
  have hu : Tryz.prog.underlying 65 = some (.array (Tryz.prog.arrayLen 65) (Tryz.prog.elem 65)) := by rw [hl, he]; exact Tryz.underlying65
  rw [run_sliceAt_array_all w 65 ⟨g, 0, none⟩ hu, he, sizeOf_u8]
  simp only [Result.andThen_ok, slicedAt, hl]
  simp [add_zero']
theorem Rd.take {w : World} {A : Option Addr} {l : List UInt8} (h : Rd w A l) (k : Nat) : Rd w A (l.take k) := fun hp => by
  have hp' : 0 < l.length := by rw [List.length_take] at hp; omega
  obtain ⟨ad, e, hb, hc⟩ := h hp'
  refine ⟨ad, e, hb, fun j b hj => hc j b ?_⟩
  rw [List.getElem?_take] at hj
  split at hj
  · exact hj
  · cases hj
end Go.Proofs.YtmjbnmbobocpdaaGreat
namespace Go.Proofs.YtmjbnmbobocpdaaGreat
open Go.ChangeShapes Go.WideShapes Go.ChangeAt Go.RowKit Go.Shelf
section
variable {a : Act} {w : World} {o : Oper}
theorem run_lit (zs : List UInt8) (hz : 0 < zs.length) (hs : zs.length ≤ 1000) (parts : Array (Nat × Operand)) (ho : o.op = .buildSlice 23 zs.length parts)
    (hf : Instr.fill (fun i => some (i * 1, 1)) ((Array.range (zs.length * 1)).map ((Value.int .u8 0).cells[· % (Value.int .u8 0).cells.size]!)) (parts.map fun (i, x) => (i, a.eval x)).toList = some (bvs zs)) :
    (execOp a.eval o).run Tryz.prog w = .ok (.value (.slice (some ⟨w.heap.size, 0, none⟩) zs.length zs.length)) (w.alloc (.cells (bvs zs) 5)) := by
  obtain ⟨i, h1, h2, h3, _⟩ := info_u8
  unfold execOp
  simp only [ho, Sem.run_bind, run_buildSlice w 23 5 zs.length _ (bvs zs) i (.int .u8 0) Tryz.underlying23 h1 h2 (by rw [h3]; omega) (by rw [h3]; omega) (by rw [h3]; exact hf), Result.andThen_ok, Sem.run_pure]
end
end Go.Proofs.YtmjbnmbobocpdaaGreat
namespace Go.Proofs.YtmjbnmbobocpdaaGreat
open Go.ChangeShapes Go.WideShapes Go.ChangeAt Go.RowKit Go.Shelf
theorem hop_lit {ops : Array Oper} {Q : Exit → Act → World → Prop} {a : Act} {w : World} {o : Oper} {B : Nat} (hw : Region.wanted o (yielded ops a.tmps) = true) (hB : B ≤ w.heap.size) (zs : List UInt8) (hz : 0 < zs.length) (hs : zs.length ≤ 1000) (parts : Array (Nat × Operand)) (ho : o.op = .buildSlice 23 zs.length parts)
    (hf : Instr.fill (fun i => some (i * 1, 1)) ((Array.range (zs.length * 1)).map ((Value.int .u8 0).cells[· % (Value.int .u8 0).cells.size]!)) (parts.map fun (i, x) => (i, a.eval x)).toList = some (bvs zs)) :
    if Region.wanted o (yielded ops a.tmps) = true then o.wp Tryz.prog a w (fun a' w' => ∃ v, a' = a.put o.dst v ∧ Kc B w w' ∧ (StK.lit B zs).F w' v) Q else (StK.lit B zs).F w undef :=
  hop_growK (F := (StK.lit B zs).F) hw _ (run_lit zs hz hs parts ho hf) (Kc.of_below hB (zpa w _)) ⟨w.heap.size, (0, 0), rfl, hB, hs, heap_alloc_new w _⟩
theorem LitB.isB {B : Nat} {w : World} {l : List UInt8} {v : Value} (h : LitB B w l v) : IsB w l v := by
  obtain ⟨g, fr, h1, h2, h4, h3⟩ := h
  refine ⟨_, _, h1, Nat.le_refl _, by unfold maxLen; omega, (fun h => by cases h), fun hp => ⟨_, rfl, zxa h3, fun j b hj => ?_⟩⟩
  rw [zca, Nat.zero_add]
  simp only [World.cell?, h3]
  simp [bvs, hj]
theorem run_convB {B : Nat} {a : Act} {w : World} {o : Oper} (x : Operand) (ho : o.op = .convert 23 23 x) {l : List UInt8} (hx : LitB B w l (a.eval x)) : ∃ w', (execOp a.eval o).run Tryz.prog w = .ok (.value (a.eval x)) w' ∧ Kc B w w' ∧ LitB B w' l (a.eval x) := by
  obtain ⟨g, fr, h1, h2, h4, h3⟩ := hx
  have hsh : w.shape? g = some (5, (bvs l).size) := by unfold World.shape?; rw [h3]
  have hk : Kc B w (w.freeze ⟨g, (bvs l).size, none⟩ 1) := by
    refine ⟨⟨rfl, rfl, rfl, by simp [World.freeze], fun k hk => ?_⟩, fun g' cs t fr' hg => ?_⟩
    · simp only [World.freeze, if_neg (by decide : ¬ (1 = 0)), Array.getElem?_modify]
      rw [if_neg (show ¬ g = k by omega)]
    · simp only [World.freeze, if_neg (by decide : ¬ (1 = 0)), Array.getElem?_modify]
      by_cases e : g = g'
      · subst e
        rw [if_pos rfl, hg]
        rw [h3] at hg
        injection hg with hg
        injection hg with _ ht _
        exact ⟨_, rfl, fun hn => absurd ht.symm hn⟩
      · rw [if_neg e, hg]
        exact ⟨_, rfl, fun _ => rfl⟩
  refine ⟨w.freeze ⟨g, (bvs l).size, none⟩ 1, ?_, hk, ?_⟩
  · rw [h1]
    refine run_cv' _ _ x ho h1 ?_
    simp [convert, run_underlying Tryz.underlying23, run_underlying Tryz.underlying5, markStringish, hsh]
  · obtain ⟨fr', h3', _⟩ := hk.kept g _ _ _ h3
    exact ⟨g, fr', h1, h2, h4, h3'⟩
theorem hop_convK {ops : Array Oper} {Q : Exit → Act → World → Prop} {a : Act} {w : World} {o : Oper} {B : Nat} (hw : Region.wanted o (yielded ops a.tmps) = true) (x : Operand) (ho : o.op = .convert 23 23 x) {l : List UInt8} (hx : LitB B w l (a.eval x)) :
    if Region.wanted o (yielded ops a.tmps) = true then o.wp Tryz.prog a w (fun a' w' => ∃ v, a' = a.put o.dst v ∧ Kc B w w' ∧ (StK.lit B l).F w' v) Q else (StK.lit B l).F w undef := by
  obtain ⟨wc, h1, h2, h3⟩ := run_convB x ho hx
  exact hop_growK (F := (StK.lit B l).F) hw _ h1 h2 h3
end Go.Proofs.YtmjbnmbobocpdaaGreat
namespace Go.Proofs.YtmjbnmbobocpdaaGreat
open Go.ChangeShapes Go.WideShapes Go.ChangeAt Go.RowKit Go.Shelf
end Go.Proofs.YtmjbnmbobocpdaaGreat
namespace Go.Proofs.YtmjbnmbobocpdaaGreat
open Go.ChangeShapes Go.WideShapes Go.ChangeAt Go.RowKit Go.Shelf
theorem Byt.own {w : World} {base : Nat} {v : Value} {l : List UInt8} (h : Byt w base v l) (hl : 0 < l.length) :
    ∃ g c, v = .slice (some ⟨g, 0, none⟩) l.length c ∧ base ≤ g ∧ g < w.heap.size ∧ l.length ≤ c ∧ c ≤ maxLen ∧ (∀ k, w.frozen? ⟨g, k, none⟩ = false) ∧ (∀ j x, l[j]? = some x → w.cell? ⟨g, j, none⟩ = some (bv x)) := by
  have hlt := h.lt
  rcases h.2 with ⟨_, h0⟩ | ⟨g, c, cur, e, hb, hg, hn, hc, hs, ht⟩
  · omega
  · refine ⟨g, c, e, hb, zxa hg, hn, hc, fun k => by simp [World.frozen?, hg], fun j x hj => by have := h.cells (g := g) (by rw [e]; rfl) j (bv x) (by rw [List.getElem?_map, hj]; rfl); rwa [zca, Nat.zero_add] at this⟩
theorem Rd.isB {w : World} {A : Option Addr} {l : List UInt8} {n c : Nat} (h : Rd w A l) (hn : l.length = n) (hc : n ≤ c) (hm : c ≤ maxLen) (hA : A = none → c = 0) : IsB w l (.slice A n c) :=
  ⟨A, c, by rw [hn], by rw [hn]; exact hc, hm, hA, h⟩
end Go.Proofs.YtmjbnmbobocpdaaGreat
namespace Go.Proofs.YtmjbnmbobocpdaaGreat
open Go.ChangeShapes Go.WideShapes Go.ChangeAt Go.RowKit Go.Shelf
end Go.Proofs.YtmjbnmbobocpdaaGreat
/- Slices of bytes, rows of them, Sums: the operations of a drawn region; contracts said by what they hold. -/
namespace Go.Proofs.YtmjbnmbobocpdaaGreat
open Go.ChangeShapes Go.WideShapes Go.ChangeAt Go.RowKit Go.Shelf
theorem infoSl : ∃ i, Tryz.prog.info? 23 = some i ∧ i.zero = some (.slice none 0 0) ∧ i.size = 1 := by
  have h0 : (Tryz.prog.info? 23).isSome = true := by kernel_rfl
  have h1 : (Tryz.prog.info? 23).map (·.size) = some 1 := by kernel_rfl
  have h2 : (Tryz.prog.info? 23).bind (·.zero) = some (.slice none 0 0) := by kernel_rfl
  cases h : Tryz.prog.info? 23 with
  | none => rw [h] at h0; cases h0
  | some i =>
    rw [h] at h1 h2
    exact ⟨i, rfl, h2, Option.some.inj h1⟩
def IsP (w : World) (L : List (List UInt8)) (v : Value) : Prop := ∃ A c, v = .slice A L.length c ∧ L.length ≤ c ∧ c ≤ maxLen ∧ PRd w A L
theorem IsP.step {w w' : World} {L : List (List UInt8)} {v : Value} (h : IsP w L v) (hb : Below w.heap.size w w') : IsP w' L v := by
  obtain ⟨A, c, h1, h2, h3, h4⟩ := h
  exact ⟨A, c, h1, h2, h3, h4.step hb⟩
theorem Kc.prd' {B : Nat} {w w' : World} {A : Option Addr} {L : List (List UInt8)} (k : Kc B w w') (h : PRd w A L) : PRd w' A L := fun hl => by
  obtain ⟨b, o, e, h1, h3⟩ := h hl
  refine ⟨b, o, e, Nat.lt_of_lt_of_le h1 k.below.size, fun j l hj => ?_⟩
  obtain ⟨A', c', q1, q2, q3, q4, q5⟩ := h3 j l hj
  exact ⟨A', c', k.isCells q1, q2, q3, q4, k.rd q5⟩
def StK.parts (L : List (List UInt8)) : StK := ⟨fun w v => IsP w L v, fun _ _ _ _ hb h => by
  obtain ⟨A, c, h1, h2, h3, h4⟩ := h
  exact ⟨A, c, h1, h2, h3, hb.prd' h4⟩⟩
theorem IsP.below {w w' : World} {L : List (List UInt8)} {v : Value} {N : Nat} (h : IsP w L v) (hb : Below N w w') (hN : w.heap.size ≤ N) : IsP w' L v := h.step (hb.mono hN)
theorem IsB.below {w w' : World} {l : List UInt8} {v : Value} {N : Nat} (h : IsB w l v) (hb : Below N w w') (hN : w.heap.size ≤ N) : IsB w' l v := h.step (hb.mono hN)
theorem Rd.isB' {w : World} {A : Option Addr} {l : List UInt8} {n c : Nat} (h : Rd w A l) (hn : l.length = n) (hc : n ≤ c) (hm : c ≤ maxLen) (hz : A = none → c = 0) : IsB w l (.slice A n c) := by
  subst hn
  exact ⟨A, c, rfl, hc, hm, hz, h⟩
theorem Byt.isB {w : World} {b : Nat} {v : Value} {l : List UInt8} (h : Byt w b v l) : IsB w l v := by
  obtain ⟨A, c, e, h1, h2, h3, _⟩ := id h.slice
  subst e
  exact ⟨A, c, rfl, h1, h2, h.none0, h3⟩
theorem IsB.nil (w : World) : IsB w [] (.slice none 0 0) := ⟨none, 0, rfl, Nat.le_refl _, by unfold maxLen; omega, fun _ => rfl, fun h => absurd h (by simp)⟩
theorem part_rd {w : World} {g : Nat} {c : Array Value} (hB : Blk w g 23 c) {L : List (List UInt8)} (hL : ∀ (j : Nat) (l : List UInt8), L[j]? = some l → ∃ v, c[j]? = some v ∧ IsB w l v) : PRd w (some ⟨g, 0, none⟩) L := fun _ =>
  ⟨g, 0, rfl, hB.lt, fun j l hj => by
    obtain ⟨v, hv, A, c', e, h1, h2, h3, h4⟩ := hL j l hj
    exact ⟨A, c', by rw [Nat.zero_add, ← e]; exact hB.cell hv, h1, h2, h3, h4⟩⟩
theorem isb3 {w : World} {l1 l2 l3 : List UInt8} {v1 v2 v3 : Value} (h1 : IsB w l1 v1) (h2 : IsB w l2 v2) (h3 : IsB w l3 v3) : ∀ (j : Nat) (l : List UInt8) (v : Value), [l1, l2, l3][j]? = some l → [v1, v2, v3][j]? = some v → IsB w l v
  | 0, l, v, hl, hv => by cases hl; cases hv; exact h1
  | 1, l, v, hl, hv => by cases hl; cases hv; exact h2
  | 2, l, v, hl, hv => by cases hl; cases hv; exact h3
  | j + 3, l, v, hl, hv => by cases hl
theorem new_parts {w : World} {vs : List Value} {L : List (List UInt8)} (hn : vs.length = L.length) (hm : L.length ≤ 1000) (h : ∀ (j : Nat) (l : List UInt8) (v : Value), L[j]? = some l → vs[j]? = some v → IsB w l v) : IsP (w.alloc (.cells vs.toArray 23)) L (.slice (some ⟨w.heap.size, 0, none⟩) L.length L.length) := by
  refine ⟨_, _, rfl, Nat.le_refl _, by unfold maxLen; omega, part_rd (Blk.new w 23 vs.toArray) fun j l hj => ?_⟩
  have hjl := (List.getElem?_eq_some_iff.1 hj).1
  have hv : vs[j]? = some (vs[j]'(by omega)) := List.getElem?_eq_getElem (by omega)
  exact ⟨vs[j]'(by omega), by rw [List.getElem?_toArray]; exact hv, (h j l _ hj hv).step (zpa w _)⟩
section
variable {Q : Exit → Act → World → Prop} {a : Act} {w : World} {o : Oper} {B : Nat} {ops : Array Oper}
theorem hop_parts (hw : Region.wanted o (yielded ops a.tmps) = true) (hB : B ≤ w.heap.size) {n : Nat} {ps : Array (Nat × Operand)} (ho : o.op = .buildSlice 68 n ps) {vs : List Value} {L : List (List UInt8)} (hn : vs.length = n) (hL : L.length = n) (hm : n ≤ 1000) (hn0 : 0 < n)
    (hf : Instr.fill (fun i => some (i * 1, 1)) ((Array.range (n * 1)).map ((Value.slice none 0 0).cells[· % (Value.slice none 0 0).cells.size]!)) (ps.map fun (i, x) => (i, a.eval x)).toList = some vs.toArray)
    (h : ∀ (j : Nat) (l : List UInt8) (v : Value), L[j]? = some l → vs[j]? = some v → IsB w l v) :
    if Region.wanted o (yielded ops a.tmps) = true then o.wp Tryz.prog a w (fun a' w' => ∃ v, a' = a.put o.dst v ∧ Kc B w w' ∧ (StK.parts L).F w' v) Q else (StK.parts L).F w undef := by
  obtain ⟨i, i1, i2, i3⟩ := infoSl
  refine hop_growK (F := (StK.parts L).F) hw (.slice (some ⟨w.heap.size, 0, none⟩) L.length L.length) (w1 := w.alloc (.cells vs.toArray 23)) ?_ (Kc.of_below hB (zpa w _)) (new_parts (by rw [hn, hL]) (by omega) h)
  unfold execOp
  simp only [ho, Sem.run_bind, run_buildSlice w 68 23 n _ vs.toArray i (.slice none 0 0) Tryz.underlying68 i1 i2 (by rw [i3]; omega) (by rw [i3]; omega) (by rw [i3]; exact hf), Result.andThen_ok, Sem.run_pure, hL]
theorem hop_parts3 (hw : Region.wanted o (yielded ops a.tmps) = true) (hB : B ≤ w.heap.size) (x1 x2 x3 : Operand) (ho : o.op = .buildSlice 68 3 #[(0, x1), (1, x2), (2, x3)]) {l1 l2 l3 : List UInt8} (h1 : IsB w l1 (a.eval x1)) (h2 : IsB w l2 (a.eval x2)) (h3 : IsB w l3 (a.eval x3)) :
    if Region.wanted o (yielded ops a.tmps) = true then o.wp Tryz.prog a w (fun a' w' => ∃ v, a' = a.put o.dst v ∧ Kc B w w' ∧ (StK.parts [l1, l2, l3]).F w' v) Q else (StK.parts [l1, l2, l3]).F w undef := by
  obtain ⟨A1, c1, e1, _⟩ := id h1
  obtain ⟨A2, c2, e2, _⟩ := id h2
  obtain ⟨A3, c3, e3, _⟩ := id h3
  refine hop_parts (n := 3) hw hB ho (vs := [a.eval x1, a.eval x2, a.eval x3]) (L := [l1, l2, l3]) rfl rfl (by decide) (by decide) ?_ (isb3 h1 h2 h3)
  simp only [List.map_toArray, List.map_cons, List.map_nil, e1, e2, e3]
  kernel_rfl
end
theorem of_b {w : World} {u : Value} {L : List (List UInt8)} (hu : IsP w L u) :
    Calls Tryz.prog 126 #[u] w fun e w' => e = .returned (.agg (zia (outF (macW [] L)))) ∧ Below w.heap.size w w' := by
  obtain ⟨B, d, rfl, k1, k2, k3⟩ := hu
  exact of_any B L _ d rfl k1 k2 w k3
end Go.Proofs.YtmjbnmbobocpdaaGreat
namespace Go.Proofs.YtmjbnmbobocpdaaGreat
open Go.ChangeShapes Go.WideShapes Go.ChangeAt Go.RowKit Go.Shelf
theorem zeros_cells (k : Nat) : (Builtin.zeroCells (Value.int .u8 0).cells k) = ((List.replicate k (0 : UInt8)).map bv).toArray := by
  unfold Builtin.zeroCells
  apply Array.ext'
  have e : (Value.int .u8 0).cells = #[Value.int .u8 0] := rfl
  simp [e, bv]
  refine List.ext_getElem (by simp) (fun i h1 h2 => ?_)
  simp [Nat.mod_one]
theorem run_append_zeros (w : World) (base : Nat) (v : Value) (l : List UInt8) (hown : Byt w base v l) (ty : TypeId) (k : Nat) (hle : l.length + k ≤ 1000000) (hbase : base ≤ w.heap.size) :
    ∃ v' w', (Builtin.append_ #[23, 3] ty #[v, .int .i64 (k : Int)]).run Tryz.prog w = .ok v' w' ∧ Byt w' base v' (l ++ List.replicate k 0) ∧ Below base w w' := by
  obtain ⟨i, hi1, hi2, hi3, hi4⟩ := info_u8
  have hlen : ((l ++ List.replicate k (0 : UInt8)).map bv).length = (l ++ List.replicate k (0 : UInt8)).length * 1 := by simp
  have hw : IntKind.i64.wrap (k : Int) = k := by rw [IntKind.wrap_i64]; omega
  have hw0 : IntKind.i64.wrap 0 = 0 := by rw [IntKind.wrap_i64]; rfl
  have hneg : ¬ ((k : Int) < 0) := by omega
  have h48i : ¬ (281474976710656 < (k : Int) * (i.bytes : Int)) := by rw [hi4]; omega
  by_cases hk : k = 0
  · subst hk
    rcases hown.2 with ⟨rfl, h0⟩ | ⟨g, c, cur, rfl, hb, hg, hn, hc, hs, ht⟩
    · have : l = [] := List.eq_nil_of_length_eq_zero (by simpa using h0)
      subst this
      refine ⟨.slice none 0 0, w, ?_, by simpa using Byt.nil w base, Below.refl _ _⟩
      simp [Builtin.append_, run_underlying Tryz.underlying23, run_underlying Tryz.underlying3, sizeOf, typeInfo, hi1, asInt, asIntOf, hw0]
    · refine ⟨.slice (some ⟨g, 0, none⟩) l.length c, w, ?_, by rw [List.replicate_zero, List.append_nil]; exact hown, Below.refl _ _⟩
      simp [Builtin.append_, run_underlying Tryz.underlying23, run_underlying Tryz.underlying3, sizeOf, typeInfo, hi1, asInt, asIntOf, hw0, hn, storeCells]
  have hkp : 0 < k := by omega
  have grownB : ∀ (old : Nat), old < l.length + k → Byt (w.drew.alloc (.cells ((l.map bv).toArray ++ Builtin.zeroCells (Value.int .u8 0).cells k ++ Builtin.zeroCells (Value.int .u8 0).cells (grownCap w (l.length + k) old 5 - (l.length + k))) 5)) base (.slice (some ⟨w.heap.size, 0, none⟩) (l.length + k) (grownCap w (l.length + k) old 5)) (l ++ List.replicate k 0) := fun old ho => by
    have hge := grownCap_ge w (l.length + k) old 5
    have hcm : grownCap w (l.length + k) old 5 ≤ maxLen := grownCap_le_maxLen w (l.length + k) old _ (by unfold maxLen; omega)
    have e1 : (l ++ List.replicate k (0 : UInt8)).length = l.length + k := by simp
    refine ⟨hlen, .inr ⟨w.heap.size, _, _, by rw [e1], hbase, heap_alloc_new w.drew _, by rw [e1]; exact hge, hcm, ?_, ?_⟩⟩
    · rw [zeros_cells, zeros_cells]
      simp only [Array.size_append, List.size_toArray, List.length_map, List.length_replicate, Nat.mul_one]
      omega
    · rw [zeros_cells, zeros_cells]
      simp only [Array.toList_append, List.append_assoc, e1, Nat.mul_one, List.map_append]
      rw [← List.append_assoc]
      exact List.take_left' (by simp)
  rcases hown.2 with ⟨rfl, h0⟩ | ⟨g, c, cur, rfl, hb, hg, hn, hc, hs, ht⟩
  · have : l = [] := List.eq_nil_of_length_eq_zero (by simpa using h0)
    subst this
    have hr := Lib.run_append_nil_zeros (P := Tryz.prog) w 23 3 ty 5 i (.int .u8 0) .i64 .i64 Tryz.underlying23 Tryz.underlying3 hi1 hi2 k hkp (by rw [hi3]; omega) (by omega) (by rw [hi4]; omega)
    have hg := grownB 0 (by simp; omega)
    simp only [List.map_nil, List.length_nil, Nat.zero_add, Array.empty_append] at hg
    refine ⟨_, _, hr, hg, ((Below.refl base w).drew).alloc (by simpa using hbase) _⟩
  · by_cases hroom : l.length + k ≤ c
    · have hst := run_storeCells_at Tryz.prog g (l.length * 1) 5 ((List.replicate k (0 : UInt8)).map bv) 0 cur w hg (by simp; omega) (fun u hu => by obtain ⟨b, -, rfl⟩ := List.mem_map.1 hu; rfl)
      simp only [Nat.add_zero, Nat.mul_one] at hst
      have hz : Builtin.zeroCells (Value.int .u8 0).cells k = ((List.replicate k (0 : UInt8)).map bv).toArray := zeros_cells k
      have e1 : (l ++ List.replicate k (0 : UInt8)).length = l.length + k := by simp
      have hgr : w.grownBy (w.setRow g (cur.toList.take l.length ++ (List.replicate k (0 : UInt8)).map bv ++ cur.toList.drop (l.length + ((List.replicate k (0 : UInt8)).map bv).length)).toArray) (some g) := ⟨rfl, rfl, rfl, by simp, fun q _ hq => setRow_other w g q _ (fun e => hq (by rw [e]))⟩
      refine ⟨.slice (some ⟨g, 0, none⟩) (l.length + k) c, _, ?_, ⟨hlen, .inr ⟨g, c, _, by rw [e1], hb, setRow_heap w g cur _ 5 _ hg, by rw [e1]; exact hroom, hc, ?_, ?_⟩⟩, (Below.refl base w).grown hgr hbase (fun q e => by cases e; exact hb)⟩
      · have h48 : ¬ (281474976710656 < (k : Int)) := by omega
        simp [Builtin.append_, run_underlying Tryz.underlying23, run_underlying Tryz.underlying3, sizeOf, typeInfo, zeroValue, hi1, hi2, hi3, asInt, asIntOf, hw, hneg, hi4, hroom, hk, h48, Addr.add_lit, hz]
        simp only [List.map_replicate] at hst ⊢
        simp [hst]
      · simp only [List.size_toArray, List.length_append, List.length_take, List.length_drop, Array.length_toList, List.length_map, List.length_replicate]
        omega
      · rw [Nat.mul_one] at ht ⊢
        rw [ht, e1, List.map_append]
        exact List.take_left' (by simp)
    · have hold : (Builtin.firstCells i.size l.length (.slice (some ⟨g, 0, none⟩) l.length c)).run Tryz.prog w.drew = .ok (l.map bv).toArray w.drew := by
        refine run_firstCells_some (P := Tryz.prog) w.drew i.size l.length ⟨g, 0, none⟩ l.length c (l.map bv) (by rw [hi3]; simp) (fun j u hj => ?_)
        have := hown.cells (g := g) rfl j u hj
        exact this
      have hr := Lib.run_append_grow_zeros (P := Tryz.prog) w 23 3 ty 5 i (.int .u8 0) .i64 .i64 Tryz.underlying23 Tryz.underlying3 hi1 hi2 (some ⟨g, 0, none⟩) l.length c (l.map bv) hold k hkp (by rw [hi3]; omega) (by omega) (by omega) (by rw [hi4]; omega) (growslice_fits (by omega) (by rw [hi4]; omega))
      exact ⟨_, _, hr, grownB c (by omega), ((Below.refl base w).drew).alloc (by simpa using hbase) _⟩
end Go.Proofs.YtmjbnmbobocpdaaGreat
namespace Go.Proofs.YtmjbnmbobocpdaaGreat
open Go.ChangeShapes Go.WideShapes Go.ChangeAt Go.RowKit
theorem run_appZ {G : Option Nat} {w0 w : World} {R : List (Nat × Res)} {a : Act} {o : Oper} (M : Mx G w0 w R) (i : Nat) (s x : Operand) (ho : o.op = .call { callee := .builtin .append, args := #[s, x], argTypes := #[23, 3] })
    (hs : a.eval s = zN) {z : Int} (hx : a.eval x = .int .i64 z) (n : Nat) (hz : z = (n : Int)) (hn : n ≤ 1000000) :
    ∃ v w', (execOp a.eval o).run Tryz.prog w = .ok (.value v) w' ∧ Mx G w0 w' ((i, ownR (List.replicate n (0 : UInt8)) v) :: R) := by
  subst hz
  obtain ⟨v', w', hrun, hb, hB⟩ := run_append_zeros w w.heap.size (zN) [] (Byt.nil w _) o.type n (by simpa using hn) (Nat.le_refl _)
  refine ⟨v', w', ?_, M.newO hB i (by simpa using hb)⟩
  unfold execOp
  simp only [ho, resolve, invoke, builtin, Sem.run_bind, Sem.run_pure, Result.andThen_ok, List.map_toArray, List.map_cons, List.map_nil, hs, hx, hrun]
theorem run_slK {a : Act} {w : World} {o : Oper} (x h : Operand) (ho : o.op = .slice 23 x none (some h) none) {A : Option Addr} {n c K : Nat} {z : Int} (hx : a.eval x = .slice A n c) (hh : a.eval h = .int .i64 z) (hz : z = (K : Int)) (hK : K ≤ c) : (execOp a.eval o).run Tryz.prog w = .ok (.value (.slice A K c)) w := by
  subst hz
  unfold execOp
  simp only [ho, hx, hh]
  simp [slice_h w A n c K hK, hh]
theorem run_cap {a : Act} {w : World} {o : Oper} (x : Operand) (ho : o.op = .call { callee := .builtin .cap, args := #[x], argTypes := #[23] }) {A : Option Addr} {n c : Nat} (hx : a.eval x = .slice A n c) : (execOp a.eval o).run Tryz.prog w = .ok (.value (.int .i64 (c : Int))) w := by
  simp only [execOp, ho, resolve, Sem.run_bind, Sem.run_pure, Result.andThen_ok, invoke, List.map_toArray, List.map_cons, List.map_nil, hx]
  simp [builtin, go_sem, run_cap_slice w 23 o.type A n c Tryz.underlying23, Result.andThen, goInt]
theorem run_capN {a : Act} {w : World} {o : Oper} (x : Operand) (ho : o.op = .call { callee := .builtin .cap, args := #[x], argTypes := #[23] }) (hx : a.eval x = zN) : (execOp a.eval o).run Tryz.prog w = .ok (.value (.int .i64 0)) w := run_cap x ho hx
theorem byt_zero {w : World} {b : Nat} {A : Option Addr} {n c : Nat} {l : List UInt8} (h : Byt w b (.slice A n c) l) : Byt w b (.slice A 0 c) [] := by
  refine ⟨by simp, ?_⟩
  rcases h.2 with ⟨e, h0⟩ | ⟨g, c', cur, e, hb, hg, hn, hc, hs, ht⟩
  · cases e; exact .inl ⟨rfl, rfl⟩
  · cases e; exact .inr ⟨g, _, cur, rfl, hb, hg, Nat.zero_le _, hc, hs, by simp⟩
theorem grow_nil (N : Nat) (hN : N ≤ 1000000) (w : World) :
  Calls Tryz.prog 121 #[zN, .int .i64 (N : Int)] w fun e w' => ∃ v, e = .returned v ∧ Byt w' w.heap.size v [] ∧ Below w.heap.size w w' := by
 refine zi (args := [zN, .int .i64 (N : Int)]) 27 Tryz.func121 rfl rfl rfl ?_
 intro fa F
 have M := Mx.start w
 refine zS fun _ hK1 => ?_
 refine zR ?_
 refine rm rfl F fun _ F2 => ?_
 refine hK1 _ _ ?_
 refine zS fun _ hK3 => ?_
 refine zS fun _ hK4 => ?_
 refine zR ?_
 refine rm rfl F2 fun _ F5 => ?_
 refine zc (w' := w) (zb rfl) rfl F5 rfl (.bool false) (zgb _ _ _ _ rfl (F5.get (t := 5) rfl) rfl (decide_eq_false (show ¬ ((N : Int) < 0) by omega))) fun _ F6 => ?_
 clear F5
 refine hK4 _ _ ?_
 refine wp_cond_false (F6.get (t := 6) rfl) ?_
 refine wp_skip ?_
 refine hK3 _ _ ?_
 refine zS fun _ hK7 => ?_
 refine zS fun _ hK8 => ?_
 refine zR ?_
 refine rm rfl F6 fun _ F9 => ?_
 refine rm rfl F9 fun _ F10 => ?_
 refine zc (w' := w) (zb rfl) rfl F10 rfl (.int .i64 0) (run_capN _ rfl (F10.get (t := 9) rfl)) fun _ F11 => ?_
 clear F10
 refine rm rfl F11 fun _ F12 => ?_
 refine zc (w' := w) (zb rfl) rfl F12 rfl (.int .i64 0) (zob _ rfl (F12.get (t := 11) rfl) (zla _) rfl) fun _ F13 => ?_
 clear F12
 refine zc (w' := w) (zb rfl) rfl F13 rfl (.int .i64 0) (y_subI _ _ _ _ rfl (F13.get (t := 10) rfl) (F13.get (t := 12) rfl) rfl (by omega)) fun _ F14 => ?_
 clear F13
 refine zc (w' := w) (zb rfl) rfl F14 rfl (.int .i64 ((N : Int) - 0)) (y_subI _ _ _ _ rfl (F14.get (t := 8) rfl) (F14.get (t := 13) rfl) rfl (by omega)) fun _ F15 => ?_
 clear F14
 refine rm rfl F15 fun _ F16 => ?_
 refine hK8 _ _ ?_
 refine zS fun _ hK17 => ?_
 refine zR ?_
 refine rm rfl F16 fun _ F18 => ?_
 by_cases h19 : 0 < ((N : Int) - 0)
 ·refine zc (w' := w) (zb rfl) rfl F18 rfl (.bool true) (y_gtr _ _ _ _ rfl (F18.get (t := 15) rfl) rfl (decide_eq_true h19)) fun _ F20 => ?_
  clear F18
  refine hK17 _ _ ?_
  refine wp_cond_true (F20.get (t := 16) rfl) ?_
  refine zR ?_
  refine rm rfl F20 fun _ F21 => ?_
  refine rm rfl F21 fun _ F22 => ?_
  refine zc (w' := w) (zb rfl) rfl F22 rfl (.int .i64 0) (run_capN _ rfl (F22.get (t := 18) rfl)) fun _ F23 => ?_
  clear F22
  refine zc (w' := w) (zb rfl) rfl F23 rfl (zN) (run_slK _ _ rfl (F23.get (t := 17) rfl) (F23.get (t := 19) rfl) (K := 0) rfl (Nat.le_refl _)) fun _ F24 => ?_
  clear F23
  refine rm rfl F24 fun _ F25 => ?_
  refine zdb (zb rfl) rfl F25 rfl (run_appZ M 0 _ _ rfl (F25.get (t := 20) rfl) (F25.get (t := 21) rfl) N (by omega) (by omega)) ?_
  intro v26 a26 w26 F26 M26
  clear F25 M
  obtain ⟨A26, c26, rfl⟩ := (M26.isO (k := 0) rfl).shape
  refine rm rfl F26 fun _ F27 => ?_
  refine zc (w' := w26) (zb rfl) rfl F27 rfl (.int .i64 0) (zob _ rfl (F27.get (t := 23) rfl) (zla _) rfl) fun _ F28 => ?_
  clear F27
  refine zc (w' := w26) (zb rfl) rfl F28 rfl (.slice A26 0 c26) (run_slK _ _ rfl (F28.get (t := 22) rfl) (F28.get (t := 24) rfl) (K := 0) rfl (Nat.zero_le _)) fun _ F29 => ?_
  clear F28
  refine rm rfl F29 fun _ F30 => ?_
  refine hK7 _ _ ?_
  refine zS fun _ hK31 => ?_
  refine zR ?_
  refine rm rfl F30 fun _ F32 => ?_
  refine rm rfl F32 fun _ F33 => ?_
  refine hK31 _ _ ?_
  refine wp_ret ?_
  try simp only [Exit.then, Exit.inBlock, Exit.jump]
  exact bodyPost_ret (res1 rfl (F33.get rfl)) F33.defers ⟨_, rfl, byt_zero (M26.byt (k := 0) rfl), M26.below⟩
 ·refine zc (w' := w) (zb rfl) rfl F18 rfl (.bool false) (y_gtr _ _ _ _ rfl (F18.get (t := 15) rfl) rfl (decide_eq_false h19)) fun _ F34 => ?_
  clear F18
  refine hK17 _ _ ?_
  refine wp_cond_false (F34.get (t := 16) rfl) ?_
  refine wp_skip ?_
  refine hK7 _ _ ?_
  refine zS fun _ hK35 => ?_
  refine zR ?_
  refine rm rfl F34 fun _ F36 => ?_
  refine rm rfl F36 fun _ F37 => ?_
  refine hK35 _ _ ?_
  refine wp_ret ?_
  try simp only [Exit.then, Exit.inBlock, Exit.jump]
  exact bodyPost_ret (res1 rfl (F37.get rfl)) F37.defers ⟨_, rfl, Byt.nil _ _, M.below⟩
end Go.Proofs.YtmjbnmbobocpdaaGreat
namespace Go.Proofs.YtmjbnmbobocpdaaGreat
open Go.ChangeShapes Go.WideShapes Go.ChangeAt Go.RowKit Go.Shelf
section
variable {a : Act} {w : World} {o : Oper}
theorem size_of_info {T : TypeId} {s : Nat} (h : (Tryz.prog.info? T).map (·.size) = some s) (w : World) : (sizeOf T).run Tryz.prog w = .ok s w := by
  cases hq : Tryz.prog.info? T with
  | none => simp [hq] at h
  | some i => simp [sizeOf, typeInfo, hq]; simpa [hq] using h
theorem y_ixG (T : TypeId) {s : Nat} (hu : Tryz.prog.underlying T = some (.slice (Tryz.prog.elem T))) (hs : (Tryz.prog.info? (Tryz.prog.elem T)).map (·.size) = some s) (x k : Operand) (ho : o.op = .indexAddr T x k) {b q n c i : Nat} {z : Int} (hx : a.eval x = .slice (some ⟨b, q, none⟩) n c) (hk : a.eval k = .int .i64 z) (hz : z = (i : Int)) (hi : i < n) {j : Nat} (hj : q + i * s = j) : (execOp a.eval o).run Tryz.prog w = .ok (.value (.pointer (some ⟨b, j, none⟩))) w := by
  subst hz hj
  have hrun : (Instr.indexAt T (.slice (some ⟨b, q, none⟩) n c) (.int .i64 (i : Int))).run Tryz.prog w = .ok (.pointer (some ⟨b, q + i * s, none⟩)) w := by
    rw [run_indexAt_slice (h := hu), if_pos ⟨by omega, by omega⟩, size_of_info hs]
    simp only [Result.andThen_ok, Int.toNat_natCast, zca]
  unfold execOp
  simp only [ho, hx, hk, Sem.run_bind, hrun, Result.andThen_ok, Sem.run_pure]
theorem y_lnG (T : TypeId) (hu : Tryz.prog.underlying T = some (.slice (Tryz.prog.elem T))) (x : Operand) (ho : o.op = .call { callee := .builtin .len, args := #[x], argTypes := #[T] }) {A : Option Addr} {n c : Nat} (hx : a.eval x = .slice A n c) {z : Int} (hz : (n : Int) = z) : (execOp a.eval o).run Tryz.prog w = .ok (.value (.int .i64 z)) w := by
  subst hz
  exact run_ln x _ ho hx hu
theorem y_litG (T E : TypeId) {s : Nat} {zv : Value} (hu : Tryz.prog.underlying T = some (.slice E)) (hs : (Tryz.prog.info? E).map (·.size) = some s) (hz : (Tryz.prog.info? E).bind (·.zero) = some zv) {n : Nat} {ps : Array (Nat × Operand)} (ho : o.op = .buildSlice T n ps) (vs : Array Value) (h0 : 0 < n * s) (hm : n * s ≤ 1000000)
    (hf : Instr.fill (fun i => some (i * s, s)) ((Array.range (n * s)).map (zv.cells[· % zv.cells.size]!)) (ps.map fun (i, x) => (i, a.eval x)).toList = some vs) :
    (execOp a.eval o).run Tryz.prog w = .ok (.value (.slice (some ⟨w.heap.size, 0, none⟩) n n)) (w.alloc (.cells vs E)) := by
  obtain ⟨i, hi⟩ : ∃ i, Tryz.prog.info? E = some i := by
    cases hq : Tryz.prog.info? E with
    | none => rw [hq] at hs; cases hs
    | some i => exact ⟨i, rfl⟩
  rw [hi] at hs hz
  have e : i.size = s := Option.some.inj hs
  subst e
  unfold execOp
  simp only [ho, Sem.run_bind, run_buildSlice w T E n _ vs i zv hu hi hz (by omega) (by omega) hf, Result.andThen_ok, Sem.run_pure]
end
theorem Mx.slcB {G : Option Nat} {w0 w : World} {R : List (Nat × Res)} (M : Mx G w0 w R) {k g n : Nat} {t : TypeId} {c : Array Value} {v : Value} (hk : look R k = some (slcR t n c v)) (hv : v = .slice (some ⟨g, 0, none⟩) n n) : Mx G w0 w ((k, blkR g t c) :: R) := by
  subst hv
  obtain ⟨g', e, hc⟩ := M.at_ k _ hk
  have eg : g = g' := by cases e; rfl
  subst eg
  have M2 : Mx G w0 w R := M
  refine ⟨M.grown, fun i r e => ?_, fun i r e => ?_, fun i r e => ?_, fun i r e => ?_, fun i j r s e1 e2 hij hw => ?_⟩
  · rw [zu] at e; split at e
    · cases e; exact hc
    · exact M.at_ i r e
  · rw [zu] at e; split at e
    · cases e; exact blkR_dep
    · exact M.dep i r e
  · rw [zu] at e; split at e
    · cases e; exact fun b hb => M.lt k _ hk b ⟨n, n, by cases hb; rfl⟩
    · exact M.lt i r e
  · rw [zu] at e; split at e
    · cases e; exact fun hw b hb => M.own k _ hk hw b ⟨n, n, by cases hb; rfl⟩
    · exact M.own i r e
  · rw [zu] at e1 e2
    by_cases h1 : k = i
    · rw [if_pos h1] at e1; cases e1
      subst h1
      rw [if_neg hij] at e2
      exact fun b hb => M.dis k j _ s hk e2 hij hw b ⟨n, n, by cases hb; rfl⟩
    · rw [if_neg h1] at e1
      by_cases h2 : k = j
      · rw [if_pos h2] at e2; cases e2
        subst h2
        exact fun b hb hb2 => M.dis i k r _ e1 hk hij hw b hb ⟨n, n, by cases hb2; rfl⟩
      · rw [if_neg h2] at e2
        exact M.dis i j r s e1 e2 hij hw
end Go.Proofs.YtmjbnmbobocpdaaGreat
namespace Go.Proofs.YtmjbnmbobocpdaaGreat
open Go.ChangeShapes Go.WideShapes Go.ChangeAt Go.RowKit
theorem eitherR_off {R : List (Nat × Res)} {i : Nat} {c : Bool} {r r2 s : Res} (hc : c = false) (h : look R i = some (zeb c r s)) : look R i = some (zeb c r2 s) := by subst hc; exact h
theorem IsB.slc {w : World} {l : List UInt8} {v : Value} (h : IsB w l v) : ∃ A n c, v = .slice A n c := by
  obtain ⟨A, c, rfl⟩ := h.shape
  exact ⟨_, _, _, rfl⟩
theorem fill_s3 {v0 v1 v2 : Value} (h0 : ∃ A n c, v0 = .slice A n c) (h1 : ∃ A n c, v1 = .slice A n c) (h2 : ∃ A n c, v2 = .slice A n c) : Instr.fill (fun i => some (i * 1, 1)) ((Array.range (3 * 1)).map ((zN).cells[· % (zN).cells.size]!)) [(0, v0), (1, v1), (2, v2)] = some #[v0, v1, v2] := by
  obtain ⟨_, _, _, rfl⟩ := h0
  obtain ⟨_, _, _, rfl⟩ := h1
  obtain ⟨_, _, _, rfl⟩ := h2
  kernel_rfl
theorem condR_off {R : List (Nat × Res)} {i : Nat} {b : Bool} {r r2 : Res} (hb : b = false) (h : look R i = some (zya b r)) : look R i = some (zya b r2) := by subst hb; exact h
theorem run_lenT {a : Act} {w : World} {o : Oper} (T : TypeId) (hu : Tryz.prog.underlying T = some (.slice (Tryz.prog.elem T))) (x : Operand) (ho : o.op = .call { callee := .builtin .len, args := #[x], argTypes := #[T] }) {A : Option Addr} {n c : Nat} (hx : a.eval x = .slice A n c) : (execOp a.eval o).run Tryz.prog w = .ok (.value (.int .i64 (n : Int))) w := y_lnG T hu x ho hx rfl
theorem y_ixP {a : Act} {w : World} {o : Oper} {A : Option Addr} {c : Nat} {L : List (List UInt8)} (y k : Operand) (ho : o.op = .indexAddr 68 y k) (hx : a.eval y = .slice A L.length c) (hB : IsP w L (.slice A L.length c)) {z : Int} {i : Nat} (hk : a.eval k = .int .i64 z) (hz : z = (i : Int)) (hi : i < L.length) : (execOp a.eval o).run Tryz.prog w = .ok (.value (ixV (.slice A L.length c) i)) w := by
  subst hz
  obtain ⟨A', c', e, h1, h2, h3⟩ := hB
  injection e with e1 e2 e3
  subst e1 e3
  obtain ⟨b, q, rfl, hb, hc⟩ := h3 (by omega)
  unfold execOp
  simp only [ho, hx, hk]
  have h0 : ¬ ((i : Int) < 0) := by omega
  have h5 : (i : Int) < (L.length : Int) := by omega
  simp [go_sem, h0, h5, hi, ixV, zca]
theorem part_ld {w : World} {A : Option Addr} {c : Nat} {L : List (List UInt8)} {l : List UInt8} (hB : IsP w L (.slice A L.length c)) {i : Nat} (hl : L[i]? = some l) :
    ∃ B d, IsB w l (.slice B l.length d) ∧ ∀ (a : Act) (o : Oper) (y : Operand), o.op = .load 23 y → a.eval y = ixV (.slice A L.length c) i → (execOp a.eval o).run Tryz.prog w = .ok (.value (.slice B l.length d)) w := by
  obtain ⟨A', c', e, h1, h2, h3⟩ := hB
  injection e with e1 e2 e3
  subst e1 e3
  have hi : i < L.length := (List.getElem?_eq_some_iff.1 hl).1
  obtain ⟨b, q, rfl, hb, hc⟩ := h3 (by omega)
  obtain ⟨B, d, hcell, q2, q3, q4, q5⟩ := hc i l hl
  refine ⟨B, d, ⟨B, d, rfl, q2, q3, q4, q5⟩, fun a o y ho hx => ?_⟩
  have hx' : a.eval y = .pointer (some ⟨b, q + i, none⟩) := by rw [hx]; simp [ixV, zca]
  have h6 : (isAgg 23).run Tryz.prog w = .ok false w := by
    unfold isAgg
    simp only [Sem.run_bind, run_underlying Tryz.underlying23, Result.andThen_ok]
    rfl
  unfold execOp
  simp only [ho, hx', Instr.loadAt, Instr.sureAddr, loadVar, Sem.run_bind, Sem.run_pure, Result.andThen_ok, h6, Bool.false_eq_true, if_false]
  simp [hcell, Result.andThen]
theorem flat_take {L : List (List UInt8)} {j : Nat} {l : List UInt8} (h : L[j]? = some l) : (L.take (j + 1)).flatten = (L.take j).flatten ++ l := by
  obtain ⟨h1, h2⟩ := List.getElem?_eq_some_iff.1 h
  rw [List.take_succ_eq_append_getElem h1, h2]; simp
theorem flat_le (L : List (List UInt8)) (j : Nat) : (L.take j).flatten.length ≤ L.flatten.length := by
  have h : L.flatten = (L.take j).flatten ++ (L.drop j).flatten := by rw [← List.flatten_append, List.take_append_drop]
  rw [h, List.length_append]; omega
theorem part_le {L : List (List UInt8)} {j : Nat} {l : List UInt8} (h : L[j]? = some l) : (L.take j).flatten.length + l.length ≤ L.flatten.length := by
  have := flat_le L (j + 1)
  rw [flat_take h, List.length_append] at this
  exact this
theorem vconcat_any (L : List (List UInt8)) (u : Value) (hl : L.flatten.length ≤ 1000000) (w : World) (hu : IsP w L u) :
  Calls Tryz.prog 91 #[u] w fun e w' => ∃ v, e = .returned v ∧ Byt w' w.heap.size v L.flatten ∧ Below w.heap.size w w' := by
 obtain ⟨A0, c0, rfl, hc1, hc2, hP⟩ := id hu
 have hcat : (L.take L.length).flatten = L.flatten := by rw [List.take_length]
 have hLm : L.length ≤ 9223372036854775807 := by
  have := hc2
  unfold maxLen at this
  omega
 refine zi (args := [.slice A0 L.length c0]) 36 Tryz.func91 rfl rfl rfl ?_
 intro fa F
 have M := Mx.start w
 refine zS fun _ hK1 => ?_
 refine zR ?_
 refine rm rfl F fun _ F2 => ?_
 refine hK1 _ _ ?_
 refine zS fun _ hK3 => ?_
 refine zR ?_
 refine rm rfl F2 fun _ F4 => ?_
 refine hK3 _ _ ?_
 refine zS fun _ hK5 => ?_
 refine zS fun _ hK6 => ?_
 refine zR ?_
 refine rm rfl F4 fun _ F7 => ?_
 refine zc (w' := w) (zb rfl) rfl F7 rfl (.int .i64 (L.length : Int)) (run_lenT 68 Tryz.underlying68 _ rfl (F7.get (t := 9) rfl)) fun _ F8 => ?_
 clear F7
 refine rm rfl F8 fun _ F9 => ?_
 refine hK6 _ _ ?_
 refine wp_block ?_
 refine zyb (α := Nat × Nat) (n := 36) (G := none) (w0 := w) (fun x => [(0, .slice A0 L.length c0), (2, zN), (9, .slice A0 L.length c0), (10, .int .i64 (L.length : Int)), (11, .int .i64 (x.1 : Int)), (3, .int .i64 (x.2 : Int))]) (fun x => []) (fun k x => k = (L.length - x.1) ∧ (x.1 ≤ L.length ∧ x.2 = (L.take x.1).flatten.length)) _ ⟨0, 0⟩ ⟨rfl, ⟨Nat.zero_le _, by simp⟩⟩ (F9.sub ⟨rfl, rfl, rfl, rfl, rfl, rfl, trivial⟩) (M.sub trivial) ?_
 clear F9 M
 rintro k10 ⟨jn, nt⟩ a10 w10 K10 ⟨ek10, I10⟩ F10 M10 hK10
 replace F10 : Fx 36 a10 [(0, .slice A0 L.length c0), (2, zN), (9, .slice A0 L.length c0), (10, .int .i64 (L.length : Int)), (11, .int .i64 (jn : Int)), (3, .int .i64 (nt : Int))] := F10
 replace M10 : Mx _ _ w10 [] := M10
 replace I10 : jn ≤ L.length ∧ nt = (L.take jn).flatten.length := I10
 replace ek10 : k10 = (L.length - jn) := ek10
 obtain ⟨hj, hnt⟩ := I10
 by_cases hlt : jn < L.length
 ·obtain ⟨l1, hl1⟩ : ∃ l, L[jn]? = some l := ⟨_, List.getElem?_eq_getElem hlt⟩
  have hle1 := part_le hl1
  obtain ⟨B1, d1, hB1, hld⟩ := part_ld (hu.step M10.below) hl1
  refine zS fun _ hK11 => ?_
  refine zR ?_
  refine zc (w' := w10) (zb rfl) rfl F10 rfl (.bool true) (zgb _ _ _ _ rfl (F10.get (t := 11) rfl) (F10.get (t := 10) rfl) (decide_eq_true (show (jn : Int) < (L.length : Int) by omega))) fun _ F12 => ?_
  clear F10
  refine hK11 _ _ ?_
  refine zS fun _ hK13 => ?_
  refine wp_cond_true (F12.get (t := 12) rfl) ?_
  refine wp_skip ?_
  refine hK13 _ _ ?_
  refine zS fun _ hK14 => ?_
  refine wp_block ?_
  refine zS fun _ hK15 => ?_
  refine zR ?_
  refine zc (w' := w10) (zb rfl) rfl F12 rfl (ixV (.slice A0 L.length c0) jn) (y_ixP _ _ rfl (F12.get (t := 9) rfl) (hu.step M10.below) (F12.get (t := 11) rfl) rfl hlt) fun _ F16 => ?_
  clear F12
  refine zc (w' := w10) (zb rfl) rfl F16 rfl (.slice B1 l1.length d1) (hld _ _ _ rfl (F16.get (t := 13) rfl)) fun _ F17 => ?_
  clear F16
  refine rm rfl F17 fun _ F18 => ?_
  refine hK15 _ _ ?_
  refine zS fun _ hK19 => ?_
  refine zR ?_
  refine rm rfl F18 fun _ F20 => ?_
  refine rm rfl F20 fun _ F21 => ?_
  refine zc (w' := w10) (zb rfl) rfl F21 rfl (.int .i64 (l1.length : Int)) (zob _ rfl (F21.get (t := 16) rfl) hB1 rfl) fun _ F22 => ?_
  clear F21
  refine zc (w' := w10) (zb rfl) rfl F22 rfl (.int .i64 ((nt + l1.length : Nat) : Int)) (zqa _ _ _ _ rfl (F22.get (t := 15) rfl) (F22.get (t := 17) rfl) (by omega) (by omega)) fun _ F23 => ?_
  clear F22
  refine rm rfl F23 fun _ F24 => ?_
  refine hK19 _ _ ?_
  refine zS fun _ hK25 => ?_
  refine zR ?_
  refine rm rfl F24 fun _ F26 => ?_
  refine zc (w' := w10) (zb rfl) rfl F26 rfl (.bool false) (zgb _ _ _ _ rfl (F26.get (t := 19) rfl) rfl (decide_eq_false (show ¬ ((nt + l1.length : Nat) : Int) < 0 by omega))) fun _ F27 => ?_
  clear F26
  refine hK25 _ _ ?_
  refine wp_cond_false (F27.get (t := 20) rfl) ?_
  refine wp_skip ?_
  refine hK14 _ _ ?_
  refine zR ?_
  refine zc (w' := w10) (zb rfl) rfl F27 rfl (.int .i64 ((jn + 1 : Nat) : Int)) (zqa _ _ _ _ rfl (F27.get (t := 11) rfl) rfl (by omega) (by omega)) fun _ F28 => ?_
  clear F27
  refine rm rfl F28 fun _ F29 => ?_
  subst ek10
  exact hK10 _ ⟨(jn + 1), (nt + l1.length)⟩ _ _ (by omega) ⟨rfl, ⟨by omega, by rw [flat_take hl1, List.length_append, hnt]⟩⟩ (F29.sub ⟨rfl, rfl, rfl, rfl, rfl, rfl, trivial⟩) (M10.sub trivial)
 ·have hjL : jn = L.length := by omega
  refine zS fun _ hK30 => ?_
  refine zR ?_
  refine zc (w' := w10) (zb rfl) rfl F10 rfl (.bool false) (zgb _ _ _ _ rfl (F10.get (t := 11) rfl) (F10.get (t := 10) rfl) (decide_eq_false (show ¬ (jn : Int) < (L.length : Int) by omega))) fun _ F31 => ?_
  clear F10
  refine hK30 _ _ ?_
  refine zS fun _ hK32 => ?_
  refine wp_cond_false (F31.get (t := 12) rfl) ?_
  refine wp_exit ?_
  simp only [Exit.then, Exit.inBlock, ↓reduceIte, Nat.reduceEqDiff]
  refine hK5 _ _ ?_
  refine zS fun _ hK33 => ?_
  refine zR ?_
  refine rm rfl F31 fun _ F34 => ?_
  refine zg (zb rfl) rfl F34 rfl rfl (zE Tryz.func121 rfl) #[zN, .int .i64 (nt : Int)] (zha rfl (F34.get (t := 23) rfl)) ((grow_nil nt (by rw [hnt]; exact Nat.le_trans (flat_le _ _) hl) w10)) ?_
  rintro v35 w35 a35 h35 F35
  have M35 := M10.newO h35.2 0 h35.1
  clear M10 h35
  obtain ⟨A35, c35, rfl⟩ := (M35.isO (k := 0) rfl).shape
  refine rm rfl F35 fun _ F36 => ?_
  refine hK33 _ _ ?_
  refine zS fun _ hK37 => ?_
  refine zS fun _ hK38 => ?_
  refine zR ?_
  refine rm rfl F36 fun _ F39 => ?_
  refine zc (w' := w35) (zb rfl) rfl F39 rfl (.int .i64 (L.length : Int)) (run_lenT 68 Tryz.underlying68 _ rfl (F39.get (t := 25) rfl)) fun _ F40 => ?_
  clear F39
  refine rm rfl F40 fun _ F41 => ?_
  refine hK38 _ _ ?_
  refine wp_block ?_
  refine zyb (α := Nat × Value) (n := 36) (G := none) (w0 := w) (fun x => [(25, .slice A0 L.length c0), (26, .int .i64 (L.length : Int)), (27, .int .i64 (x.1 : Int)), (6, x.2)]) (fun x => [(0, ownR ((L.take x.1).flatten) x.2)]) (fun k x => k = (L.length - x.1) ∧ (x.1 ≤ L.length)) _ ⟨0, (.slice A35 (([] : List UInt8)).length c35)⟩ ⟨rfl, (Nat.zero_le _)⟩ (F41.sub ⟨rfl, rfl, rfl, rfl, trivial⟩) (M35.sub ⟨rfl, trivial⟩) ?_
  clear F41 M35
  rintro k42 ⟨jn, ev⟩ a42 w42 K42 ⟨ek42, I42⟩ F42 M42 hK42
  replace F42 : Fx 36 a42 [(25, .slice A0 L.length c0), (26, .int .i64 (L.length : Int)), (27, .int .i64 (jn : Int)), (6, ev)] := F42
  replace M42 : Mx _ _ w42 [(0, ownR ((L.take jn).flatten) ev)] := M42
  replace I42 : jn ≤ L.length := I42
  replace ek42 : k42 = (L.length - jn) := ek42
  have hj := I42
  by_cases hlt : jn < L.length
  ·obtain ⟨l1, hl1⟩ : ∃ l, L[jn]? = some l := ⟨_, List.getElem?_eq_getElem hlt⟩
   have hle1 := part_le hl1
   obtain ⟨B1, d1, hB1, hld⟩ := part_ld (hu.step M42.below) hl1
   refine zS fun _ hK43 => ?_
   refine zR ?_
   refine zc (w' := w42) (zb rfl) rfl F42 rfl (.bool true) (zgb _ _ _ _ rfl (F42.get (t := 27) rfl) (F42.get (t := 26) rfl) (decide_eq_true (show (jn : Int) < (L.length : Int) by omega))) fun _ F44 => ?_
   clear F42
   refine hK43 _ _ ?_
   refine zS fun _ hK45 => ?_
   refine wp_cond_true (F44.get (t := 28) rfl) ?_
   refine wp_skip ?_
   refine hK45 _ _ ?_
   refine zS fun _ hK46 => ?_
   refine wp_block ?_
   refine zS fun _ hK47 => ?_
   refine zR ?_
   refine zc (w' := w42) (zb rfl) rfl F44 rfl (ixV (.slice A0 L.length c0) jn) (y_ixP _ _ rfl (F44.get (t := 25) rfl) (hu.step M42.below) (F44.get (t := 27) rfl) rfl hlt) fun _ F48 => ?_
   clear F44
   refine zc (w' := w42) (zb rfl) rfl F48 rfl (.slice B1 l1.length d1) (hld _ _ _ rfl (F48.get (t := 29) rfl)) fun _ F49 => ?_
   clear F48
   refine rm rfl F49 fun _ F50 => ?_
   refine hK47 _ _ ?_
   refine zR ?_
   refine rm rfl F50 fun _ F51 => ?_
   refine rm rfl F51 fun _ F52 => ?_
   refine zdb (zb rfl) rfl F52 rfl (run_app M42 (k := 0) rfl _ _ rfl (F52.get (t := 31) rfl) (F52.get (t := 32) rfl) hB1 (by omega)) ?_
   intro v53 a53 w53 F53 M53
   clear F52 M42
   obtain ⟨A53, c53, rfl⟩ := (M53.isO (k := 0) rfl).shape
   refine rm rfl F53 fun _ F54 => ?_
   refine hK46 _ _ ?_
   refine zR ?_
   refine zc (w' := w53) (zb rfl) rfl F54 rfl (.int .i64 ((jn + 1 : Nat) : Int)) (zqa _ _ _ _ rfl (F54.get (t := 27) rfl) rfl (by omega) (by omega)) fun _ F55 => ?_
   clear F54
   refine rm rfl F55 fun _ F56 => ?_
   subst ek42
   exact hK42 _ ⟨(jn + 1), (.slice A53 ((((L.take jn).flatten) ++ l1)).length c53)⟩ _ _ (by omega) ⟨rfl, (by omega)⟩ (F56.sub ⟨rfl, rfl, rfl, rfl, trivial⟩) (M53.sub ⟨(by rw [flat_take hl1]; rfl), trivial⟩)
  ·have hjL : jn = L.length := by omega
   refine zS fun _ hK57 => ?_
   refine zR ?_
   refine zc (w' := w42) (zb rfl) rfl F42 rfl (.bool false) (zgb _ _ _ _ rfl (F42.get (t := 27) rfl) (F42.get (t := 26) rfl) (decide_eq_false (show ¬ (jn : Int) < (L.length : Int) by omega))) fun _ F58 => ?_
   clear F42
   refine hK57 _ _ ?_
   refine zS fun _ hK59 => ?_
   refine wp_cond_false (F58.get (t := 28) rfl) ?_
   refine wp_exit ?_
   simp only [Exit.then, Exit.inBlock, ↓reduceIte, Nat.reduceEqDiff]
   refine hK37 _ _ ?_
   refine zS fun _ hK60 => ?_
   refine zR ?_
   refine rm rfl F58 fun _ F61 => ?_
   refine rm rfl F61 fun _ F62 => ?_
   refine hK60 _ _ ?_
   refine wp_ret ?_
   try simp only [Exit.then, Exit.inBlock, Exit.jump]
   exact bodyPost_ret (res1 rfl (F62.get rfl)) F62.defers ⟨_, rfl, (by have h := M42.byt (k := 0) rfl; rw [hjL, hcat] at h; exact h), M42.below⟩
end Go.Proofs.YtmjbnmbobocpdaaGreat
namespace Go.Proofs.YtmjbnmbobocpdaaGreat
open Go.ChangeShapes Go.WideShapes Go.ChangeAt Go.RowKit
section
structure CelN where
  s : List UInt8
  n : List UInt8
  f : Bool
structure VltN where
  c : Nat → CelN
  fl : Bool
  lf : Int
  dd : Bool
def nilC : CelN := ⟨[], [], false⟩
def putC (c : Nat → CelN) (p : Nat) (x : CelN) : Nat → CelN := fun i => if i = p then x else c i
theorem z6b (c : Nat → CelN) (p : Nat) (x : CelN) : putC c p x p = x := if_pos rfl
theorem putC_ne (c : Nat → CelN) {p i : Nat} (x : CelN) (h : i ≠ p) : putC c p x i = c i := if_neg h
def bodyL (t : Int) (s : List UInt8) : List UInt8 := zw t ++ [zy (s.length : Int)] ++ s
theorem bodyL_len (t : Int) (s : List UInt8) : (bodyL t s).length = 9 + s.length := by
  unfold bodyL; rw [List.length_append, List.length_append, z4a]; rfl
def saysL (b : List UInt8) : List UInt8 := (b.take (b.length - 16)).drop 9
theorem saysL_len (b : List UInt8) : (saysL b).length = b.length - 25 := by
  unfold saysL; rw [List.length_drop, List.length_take]; omega
def turnL (b : List UInt8) : Int := numI (b.take 8)
variable (H : Nat → List UInt8 → List UInt8)
def zoa (p : Nat) (t : Int) (s : List UInt8) : List UInt8 := bodyL t s ++ H p (bodyL t s)
def zpb (p : Nat) (b : List UInt8) : Bool := decide (25 ≤ b.length) && decide (zoa H p (turnL b) (saysL b) = b)
theorem saidL_len (hH : ∀ p b, (H p b).length = 16) (p : Nat) (t : Int) (s : List UInt8) : (zoa H p t s).length = 25 + s.length := by
  unfold zoa; rw [List.length_append, bodyL_len, hH]; omega
theorem saidL_take8 (p : Nat) (t : Int) (s : List UInt8) : (zoa H p t s).take 8 = zw t := by
  unfold zoa bodyL
  rw [List.append_assoc, List.append_assoc, List.take_left' (z4a t)]
theorem saidL_says (hH : ∀ p b, (H p b).length = 16) (p : Nat) (t : Int) (s : List UInt8) : saysL (zoa H p t s) = s := by
  unfold saysL
  rw [saidL_len H hH]
  unfold zoa
  rw [List.take_left' (by rw [bodyL_len]; omega)]
  unfold bodyL
  rw [List.drop_left' (by rw [List.length_append, z4a]; rfl)]
theorem saidL_turn (p : Nat) {t : Int} (h0 : 0 ≤ t) (h1 : t < 9223372036854775808) (s : List UInt8) : turnL (zoa H p t s) = t := by
  unfold turnL; rw [saidL_take8, numI_eight h0 h1]
theorem good_said (hH : ∀ p b, (H p b).length = 16) (p : Nat) {t : Int} (h0 : 0 ≤ t) (h1 : t < 9223372036854775808) (s : List UInt8) : zpb H p (zoa H p t s) = true := by
  unfold zpb
  rw [saidL_turn H p h0 h1, saidL_says H hH]
  simp [saidL_len H hH]
def secB (V : VltN) (q : Nat) : Bool := zpb H (q + 1) (V.c (q + 1)).s && (!zpb H q (V.c q).s || decide (turnL (V.c q).s < turnL (V.c (q + 1)).s))
def anyB (V : VltN) (q : Nat) : Bool := secB H V q || zpb H q (V.c q).s
def fallB (V : VltN) : Bool := V.fl && decide (V.lf = 0)
def layV6 (V : VltN) (p : Nat) (b : List UInt8) : VltN := { V with lf := IntKind.i64.wrap (V.lf - 1), c := putC V.c p ⟨(V.c p).s, b, true⟩ }
def keepV (V : VltN) (p : Nat) : VltN := { V with lf := IntKind.i64.wrap (V.lf - 1), c := putC V.c p ⟨(V.c p).n, [], false⟩ }
def deadV (V : VltN) : VltN := { V with dd := true }
def wrtV (V : VltN) (p : Nat) (b : List UInt8) : VltN × Bool :=
  if fallB V = true then (deadV V, false) else if fallB (layV6 V p b) = true then (deadV (layV6 V p b), false) else (keepV (layV6 V p b) p, true)
def tornN (k : Int) (n : Nat) : Nat := (min (max k 0) (n : Int)).toNat
def tornC (c : CelN) (n : Nat) : CelN := ⟨c.n.take n ++ c.s.drop n, [], false⟩
end
end Go.Proofs.YtmjbnmbobocpdaaGreat
/- sentinelref3: Bytes, Stretch, Stream; sponge.Stretch. -/
namespace Go.Proofs.YtmjbnmbobocpdaaGreat
open Go.ChangeShapes Go.WideShapes Go.ChangeAt Go.RowKit Go.Shelf
theorem Byt.mono {w : World} {b b' : Nat} {v : Value} {l : List UInt8} (h : Byt w b v l) (hb : b' ≤ b) : Byt w b' v l := by
  refine ⟨h.1, ?_⟩
  rcases h.2 with hn | ⟨g, c, cur, e, hbg, rest⟩
  · exact .inl hn
  · exact .inr ⟨g, c, cur, e, Nat.le_trans hb hbg, rest⟩
def sumY (y : Nat → Int) : List UInt8 := (List.range 16).map fun j => UInt8.ofNat (y j).toNat
theorem sumY_len (y : Nat → Int) : (sumY y).length = 16 := by simp [sumY]
theorem sumY_val {z : Int} (h : 0 ≤ z ∧ z < 256) : (((UInt8.ofNat z.toNat).toNat : Nat) : Int) = z := by
  have e : (UInt8.ofNat z.toNat).toNat = z.toNat := by simp; omega
  rw [e, Int.toNat_of_nonneg h.1]
end Go.Proofs.YtmjbnmbobocpdaaGreat
namespace Go.Proofs.YtmjbnmbobocpdaaGreat
open Go.ChangeShapes Go.WideShapes Go.ChangeAt Go.RowKit Go.Shelf
def JQ {α : Type} (G : Option Nat) (w0 : World) (PRE : (Nat → Bool) → Prop) (RL : α → (Nat → Bool) → (Nat → Value) → List (Nat × Res)) (S : Nat → Bool) (p : Nat → Value) (w : World) : Prop := PRE S ∧ ∃ x, Mx G w0 w (RL x S p)
theorem JQ.mk {α : Type} {G : Option Nat} {w0 : World} {PRE : (Nat → Bool) → Prop} {RL : α → (Nat → Bool) → (Nat → Value) → List (Nat × Res)} {S : Nat → Bool} {p : Nat → Value} {w : World} (h : PRE S) (x : α) (M : Mx G w0 w (RL x S p)) : JQ G w0 PRE RL S p w := ⟨h, x, M⟩
def ifp (A : Option Addr) (n : Nat) (g : Nat) : Prop := 0 < n ∧ ∃ o, A = some ⟨g, o, none⟩
def intR (A : Option Addr) (n : Nat) (x : Nat → Int) : Res := ⟨false, ifp A n, fun w => RdI w A n x⟩
theorem RdI.same {u u' : World} {A : Option Addr} {n : Nat} {x : Nat → Int} (hs : Same (ifp A n) u u') (h : RdI u A n x) : RdI u' A n x :=
  ⟨h.1, h.2.1, fun hn => by
    obtain ⟨b, o, e, h1, h2⟩ := h.2.2 hn
    refine ⟨b, o, e, Nat.lt_of_lt_of_le h1 hs.size, fun k hk => ?_⟩
    have hb := hs.at_ b _ ⟨hn, o, e⟩ (Array.getElem?_eq_getElem h1)
    rw [← h2 k hk]
    simp only [World.cell?, hb, Array.getElem?_eq_getElem h1]⟩
section
variable {G : Option Nat} {w0 w : World} {R : List (Nat × Res)}
theorem Mx.argI (M : Mx G w0 w R) (i : Nat) {A : Option Addr} {n : Nat} {x : Nat → Int} (h : RdI w0 A n x) (hG : ∀ g, G = some g → ¬ ifp A n g) : Mx G w0 w ((i, intR A n x) :: R) :=
  M.arg i _ (RdI.same (u := w0) ⟨fun g o hg ho => (M.grown.block g (Array.getElem?_eq_some_iff.1 ho).1 (fun e => hG g e.symm hg)).trans ho, M.grown.size⟩ h) (fun _ _ hs h => RdI.same hs h) rfl fun g hg => by
    refine ⟨?_, fun e => hG g e hg⟩
    obtain ⟨hn, o, e⟩ := hg
    obtain ⟨b, q, e2, h1, -⟩ := h.2.2 hn
    rw [e] at e2
    cases e2
    exact h1
theorem Mx.rdI (M : Mx G w0 w R) {k : Nat} {A : Option Addr} {n : Nat} {x : Nat → Int} (h : look R k = some (intR A n x)) : RdI w A n x := M.at_ k _ h
end
section
variable {a : Act} {w : World} {o : Oper} {A : Option Addr} {n c : Nat} {x : Nat → Int}
theorem y_ixJ (y k : Operand) (ho : o.op = .indexAddr 22 y k) (hx : a.eval y = .slice A n c) (hB : RdI w A n x) {z : Int} {i : Nat} (hk : a.eval k = .int .i64 z) (hz : z = (i : Int)) (hi : i < n) : (execOp a.eval o).run Tryz.prog w = .ok (.value (ixV (.slice A n c) i)) w := by
  subst hz
  obtain ⟨b, q, rfl, hb, hc⟩ := hB.2.2 (by omega)
  unfold execOp
  simp only [ho, hx, hk]
  have h0 : ¬ ((i : Int) < 0) := by omega
  have h5 : (i : Int) < (n : Int) := by omega
  simp [go_sem, h0, h5, hi, ixV, zca]
theorem y_ldJ (y : Operand) (ho : o.op = .load 3 y) {i : Nat} (hx : a.eval y = ixV (.slice A n c) i) (hB : RdI w A n x) (hi : i < n) : (execOp a.eval o).run Tryz.prog w = .ok (.value (.int .i64 (x i))) w := by
  obtain ⟨g, q, rfl, hb, hc⟩ := hB.2.2 (by omega)
  have hcell := hc i hi
  have hx' : a.eval y = .pointer (some ⟨g, q + i, none⟩) := by rw [hx]; simp [ixV, zca]
  have h6 : (isAgg 3).run Tryz.prog w = .ok false w := by
    unfold isAgg
    simp only [Sem.run_bind, run_underlying Tryz.underlying3, Result.andThen_ok]
    rfl
  unfold execOp
  simp only [ho, hx', Instr.loadAt, Instr.sureAddr, loadVar, Sem.run_bind, Sem.run_pure, Result.andThen_ok, h6, Bool.false_eq_true, if_false]
  simp [hcell, Result.andThen]
end
end Go.Proofs.YtmjbnmbobocpdaaGreat
namespace Go.Proofs.YtmjbnmbobocpdaaGreat
open Go.ChangeShapes Go.WideShapes Go.ChangeAt Go.RowKit Go.Shelf
variable {ds : List Deferred}
section
variable {P : Program}
theorem relOkU_dst {L : List Oper} {m n : Nat} (hok : relOkU L m n = true) : ∀ (i : Nat) (o : Oper) (d : Nat), (L.take m)[i]? = some o → o.dst = some d → d < n := by
  unfold relOkU at hok
  simp only [Bool.and_eq_true, List.all_eq_true] at hok
  intro i o d ho hd
  have hi : i < m := by
    rw [List.getElem?_take] at ho
    split at ho
    · assumption
    · cases ho
  have hall := hok.2
  have h1 := hall i (List.mem_range.2 hi)
  simp only [ho, hd, Bool.and_eq_true, decide_eq_true_eq] at h1
  exact h1.1.1
theorem region_fxU {id : Nat} {Q : Exit → Act → World → Prop} {a0 : Act} {W : World} {L : List Oper} {n : Nat} {V : List (Nat × Value)} (F : Fx n a0 V ds) (S : List StK) (m : Nat) (hok : relOkU L m n = true) (hml : (decide (m ≤ L.length)) = true)
    (hop : HopAllT P L m Q (stYK S) a0 W (L.take m) 0)
    (hend : ∀ (p : Nat → Value) (a : Act) (w : World), Kc W.heap.size W w → Fx n a (layV p (L.take m) 0 V) ds → YAll (stYK S) p w (L.take m) 0 → wpList P L.toArray Q (L.drop m) a w) : (Code.region id L.toArray false).wp P Q a0 W :=
  wp_region_stU S m n F.size hok hml hop fun p w hb hY => hend p _ w (Kc.of_below (Nat.le_refl _) hb) (F.lay p (L.take m) 0 a0 V (relOkU_dst hok)) hY
end
end Go.Proofs.YtmjbnmbobocpdaaGreat
namespace Go.Proofs.YtmjbnmbobocpdaaGreat
open Go.ChangeShapes Go.WideShapes Go.ChangeAt Go.RowKit
theorem y_sliceSum {a : Act} {w : World} {o : Oper} (x : Operand) (ho : o.op = .slice 65 x none none none) {g : Nat} (hx : a.eval x = .pointer (some ⟨g, 0, none⟩)) : (execOp a.eval o).run Tryz.prog w = .ok (.value (.slice (some ⟨g, 0, none⟩) 16 16)) w := by
  have h := slice_sum w g
  unfold execOp
  simp only [ho, hx]
  simp only [Option.map_none, Sem.run_bind]
  rw [h]; rfl
theorem arr16_get (y : Nat → Int) {j : Nat} (h : j < 16) : (zia y)[j]? = some (.int .u8 (y j)) := by
  have : j = 0 ∨ j = 1 ∨ j = 2 ∨ j = 3 ∨ j = 4 ∨ j = 5 ∨ j = 6 ∨ j = 7 ∨ j = 8 ∨ j = 9 ∨ j = 10 ∨ j = 11 ∨ j = 12 ∨ j = 13 ∨ j = 14 ∨ j = 15 := by omega
  rcases this with rfl | rfl | rfl | rfl | rfl | rfl | rfl | rfl | rfl | rfl | rfl | rfl | rfl | rfl | rfl | rfl <;> rfl
theorem arr16_rd {w : World} {g : Nat} {y : Nat → Int} {t : TypeId} (h : w.heap[g]? = some (.cells (zia y) t (0, 0))) (hy : ∀ k, 0 ≤ y k ∧ y k < 256) : Rd w (some ⟨g, 0, none⟩) (sumY y) := fun _ => by
  refine ⟨_, rfl, zxa h, fun j b hj => ?_⟩
  have hj16 : j < 16 := by have := (List.getElem?_eq_some_iff.1 hj).1; rwa [sumY_len] at this
  rw [zca, Nat.zero_add]
  unfold sumY at hj
  rw [List.getElem?_map, List.getElem?_range hj16] at hj
  obtain rfl := Option.some.inj hj
  have hc : w.cell? ⟨g, j, none⟩ = some (.int .u8 (y j)) := by simp [World.cell?, h, arr16_get y hj16]
  rw [hc]
  unfold bv
  rw [sumY_val (hy j)]
theorem isb_sum {w : World} {g : Nat} {y : Nat → Int} {t : TypeId} (hy : ∀ k, 0 ≤ y k ∧ y k < 256) (h : w.heap[g]? = some (.cells (zia y) t (0, 0))) : IsB w (sumY y) (.slice (some ⟨g, 0, none⟩) 16 16) :=
  ⟨some ⟨g, 0, none⟩, 16, (by rw [sumY_len]), (by rw [sumY_len]; exact Nat.le_refl _), (by unfold maxLen; decide), (fun e => by cases e), arr16_rd h hy⟩
theorem isP3 {w : World} {u v1 v2 v3 : Value} {l1 l2 l3 : List UInt8} (h : (slcR 23 3 #[v1, v2, v3] u).F w) (h1 : IsB w l1 v1) (h2 : IsB w l2 v2) (h3 : IsB w l3 v3) : IsP w [l1, l2, l3] u := by
  obtain ⟨g, rfl, hg⟩ := h
  refine ⟨some ⟨g, 0, none⟩, 3, rfl, Nat.le_refl _, by unfold maxLen; decide, fun _ => ⟨g, 0, rfl, zxa hg, fun j l hj => ?_⟩⟩
  match j, hj with
  | 0, hj =>
    obtain rfl : l1 = l := Option.some.inj hj
    obtain ⟨A, c, rfl, q1, q2, q3, q4⟩ := h1
    exact ⟨A, c, by simp [World.cell?, hg], q1, q2, q3, q4⟩
  | 1, hj =>
    obtain rfl : l2 = l := Option.some.inj hj
    obtain ⟨A, c, rfl, q1, q2, q3, q4⟩ := h2
    exact ⟨A, c, by simp [World.cell?, hg], q1, q2, q3, q4⟩
  | 2, hj =>
    obtain rfl : l3 = l := Option.some.inj hj
    obtain ⟨A, c, rfl, q1, q2, q3, q4⟩ := h3
    exact ⟨A, c, by simp [World.cell?, hg], q1, q2, q3, q4⟩
  | n + 3, hj => exact absurd hj (by simp)
theorem isP2 {w : World} {u v1 v2 : Value} {l1 l2 : List UInt8} (h : (slcR 23 2 #[v1, v2] u).F w) (h1 : IsB w l1 v1) (h2 : IsB w l2 v2) : IsP w [l1, l2] u := by
  obtain ⟨g, rfl, hg⟩ := h
  refine ⟨some ⟨g, 0, none⟩, 2, rfl, Nat.le_refl _, by unfold maxLen; decide, fun _ => ⟨g, 0, rfl, zxa hg, fun j l hj => ?_⟩⟩
  match j, hj with
  | 0, hj =>
    obtain rfl : l1 = l := Option.some.inj hj
    obtain ⟨A, c, rfl, q1, q2, q3, q4⟩ := h1
    exact ⟨A, c, by simp [World.cell?, hg], q1, q2, q3, q4⟩
  | 1, hj =>
    obtain rfl : l2 = l := Option.some.inj hj
    obtain ⟨A, c, rfl, q1, q2, q3, q4⟩ := h2
    exact ⟨A, c, by simp [World.cell?, hg], q1, q2, q3, q4⟩
  | n + 2, hj => exact absurd hj (by simp)
theorem concat3 (l1 l2 l3 : List UInt8) (u : Value) (hl : l1.length + l2.length + l3.length ≤ 1000000) (w : World) (hu : IsP w [l1, l2, l3] u) :
    Calls Tryz.prog 91 #[u] w fun e w' => ∃ v, e = .returned v ∧ Byt w' w.heap.size v (l1 ++ l2 ++ l3) ∧ Below w.heap.size w w' := by
  have e : [l1, l2, l3].flatten = l1 ++ l2 ++ l3 := by simp
  have := vconcat_any [l1, l2, l3] u (by rw [e]; simp only [List.length_append]; omega) w hu
  rwa [e] at this
theorem concat2 (l1 l2 : List UInt8) (u : Value) (hl : l1.length + l2.length ≤ 1000000) (w : World) (hu : IsP w [l1, l2] u) :
    Calls Tryz.prog 91 #[u] w fun e w' => ∃ v, e = .returned v ∧ Byt w' w.heap.size v (l1 ++ l2) ∧ Below w.heap.size w w' := by
  have e : [l1, l2].flatten = l1 ++ l2 := by simp
  have := vconcat_any [l1, l2] u (by rw [e]; simp only [List.length_append]; omega) w hu
  rwa [e] at this
theorem eightI_b (n : Int) (w : World) : Calls Tryz.prog 67 #[.int .i64 n] w fun e w' => ∃ u, e = .returned u ∧ Below w.heap.size w w' ∧ (StK.bytes (zw n)).F w' u :=
  (eightI_any n w).mono fun e w' ⟨v, h1, h2, h3⟩ => ⟨v, h1, h3, Byt.isb h2⟩
def cellB : List UInt8 := [99, 101, 108, 108]
def zj (p : Nat) (b : List UInt8) : List UInt8 := sumY (outF (macW [] [cellB, zw (p : Int), b]))
theorem sealH_len (p : Nat) (b : List UInt8) : (zj p b).length = 16 := sumY_len _
theorem cbytes_any (p : Nat) (t : Int) (s : List UInt8) (sv : Value) (hs : s.length ≤ 1000) (w : World) (hB : IsB w s sv) :
  Calls Tryz.prog 99 #[.agg #[.int .i64 (p : Int), .int .i64 t, sv]] w fun e w' => ∃ v, e = .returned v ∧ Byt w' w.heap.size v (zoa zj p t s) ∧ Below w.heap.size w w' := by
 obtain ⟨As, cs, rfl⟩ := hB.shape
 have h8 := z4a t
 refine zi (args := [.agg (#[.int .i64 (p : Int), .int .i64 t, .slice As s.length cs])]) 28 Tryz.func99 rfl rfl rfl ?_
 intro fa F
 have M := Mx.start w
 replace M := M.argB 0 hB (fun g e => by cases e)
 refine zS fun _ hK1 => ?_
 refine zR ?_
 refine zh (zb rfl) rfl F rfl M 1 (t := 128) (c := #[.int .i64 (p : Int), .int .i64 t, .slice As s.length cs]) (by unfold execOp; simp only [(F.get (t := 0) rfl)]; kernel_rfl) ?_
 intro g2 a2 w2 F2 M2
 clear F M
 refine rm rfl F2 fun _ F3 => ?_
 refine hK1 _ _ ?_
 refine zS fun _ hK4 => ?_
 refine zsa F3 [fun vE => vE = .pointer (some ⟨g2, 1, none⟩), fun vE => vE = .int .i64 t, fun _ => True, fun vE => vE = .pointer (some ⟨g2, 2, none⟩), fun vE => vE = .slice As s.length cs, fun vE => vE = .int .i64 (s.length : Int), fun vE => vE = .int .u8 (((zy (s.length : Int)).toNat : Nat) : Int), fun _ => True, fun vE => vE = .pointer (some ⟨g2, 2, none⟩), fun vE => vE = .slice As s.length cs, fun _ => True, fun _ => True] (JQ none w (fun SV => SV 10 = true → SV 2 = true ∧ SV 7 = true) (fun (xJ : Unit) SV pV => [(0, bytR s (.slice As s.length cs)), (1, blkR g2 128 (#[.int .i64 (p : Int), .int .i64 t, .slice As s.length cs])), (2, zya (SV 2) (ownR (zw t) (pV 2))), (3, zya (SV 7) (ownR [(zy (s.length : Int))] (pV 7))), (4, zya (SV 10) (slcR 23 3 (#[(pV 2), (pV 7), .slice As s.length cs]) (pV 10))), (5, zya (SV 11) (ownR ((zw t) ++ [(zy (s.length : Int))] ++ s) (pV 11)))])) 12 rfl (by kernel_rfl) rfl ⟨trivial, trivial, trivial, trivial, trivial, trivial, trivial, trivial, trivial, trivial, trivial, trivial, trivial⟩ (fun p => JQ.mk (fun h => absurd h (by decide)) () ((((((M2.step (zga _)).triv 2).triv 3).triv 4).triv 5).sub ⟨rfl, rfl, rfl, rfl, rfl, rfl, trivial⟩)) ⟨?_, ?_, ?_, ?_, ?_, ?_, ?_, ?_, ?_, ?_, ?_, ?_, trivial⟩ ?_
 ·intro ua uw SV pV M0 hk hn hd
  obtain ⟨HP, xJ, M⟩ := M0
  replace M : Mx none w uw _ := M
  have e1 : ua.eval (.tmp 1) = .pointer (some ⟨g2, 0, none⟩) := (show ua.eval (.tmp 1) = _ from hd 1 (by decide)).trans (F3.get (t := 1) rfl)
  exact zd (zb rfl) (.pointer (some ⟨g2, 1, none⟩)) (y_fa (off := 1) rfl e1 (by kernel_rfl) rfl) rfl ((JQ.mk HP () (M.sub ⟨rfl, rfl, rfl, rfl, rfl, rfl, trivial⟩)))
 ·intro ua uw SV pV M0 hk hn hd
  obtain ⟨HP, xJ, M⟩ := M0
  replace M : Mx none w uw _ := M
  obtain ⟨s0, f5, q5⟩ := (show SV 0 = true ∧ ua.eval (.tmp 5) = pV 0 ∧ stE _ 0 (pV 0) from hd 5 (by decide))
  have e5 : ua.eval (.tmp 5) = .pointer (some ⟨g2, 1, none⟩) := f5.trans q5
  exact zd (zb rfl) (.int .i64 t) (zba _ _ rfl e5 (M.blk (k := 1) rfl) rfl Tryz.underlying3 rfl) rfl ((JQ.mk HP () (M.sub ⟨rfl, rfl, rfl, rfl, rfl, rfl, trivial⟩)))
 ·intro ua uw SV pV M0 hk hn hd
  obtain ⟨HP, xJ, M⟩ := M0
  replace M : Mx none w uw _ := M
  obtain ⟨s1, f6, q6⟩ := (show SV 1 = true ∧ ua.eval (.tmp 6) = pV 1 ∧ stE _ 1 (pV 1) from hd 6 (by decide))
  have e6 : ua.eval (.tmp 6) = .int .i64 t := f6.trans q6
  exact zwa (zb rfl) rfl #[.int .i64 t] (zx e6) (zE Tryz.func67 rfl) (((eightI_any t uw)).mono fun e w2 h => (by obtain ⟨u, h1, h2, h3⟩ := h; exact ⟨u, h1, trivial, (JQ.mk (fun h => ⟨rfl, (HP h).2⟩) () ((M.newO h3 2 h2).sub ⟨rfl, rfl, rfl, rfl, (condR_off (hn 10 (by kernel_rfl)) rfl), rfl, trivial⟩))⟩))
 ·intro ua uw SV pV M0 hk hn hd
  obtain ⟨HP, xJ, M⟩ := M0
  replace M : Mx none w uw _ := M
  have e1 : ua.eval (.tmp 1) = .pointer (some ⟨g2, 0, none⟩) := (show ua.eval (.tmp 1) = _ from hd 1 (by decide)).trans (F3.get (t := 1) rfl)
  exact zd (zb rfl) (.pointer (some ⟨g2, 2, none⟩)) (y_fa (off := 2) rfl e1 (by kernel_rfl) rfl) rfl ((JQ.mk HP () (M.sub ⟨rfl, rfl, rfl, rfl, rfl, rfl, trivial⟩)))
 ·intro ua uw SV pV M0 hk hn hd
  obtain ⟨HP, xJ, M⟩ := M0
  replace M : Mx none w uw _ := M
  obtain ⟨s3, f8, q8⟩ := (show SV 3 = true ∧ ua.eval (.tmp 8) = pV 3 ∧ stE _ 3 (pV 3) from hd 8 (by decide))
  have e8 : ua.eval (.tmp 8) = .pointer (some ⟨g2, 2, none⟩) := f8.trans q8
  exact zd (zb rfl) (.slice As s.length cs) (zba _ _ rfl e8 (M.blk (k := 1) rfl) rfl Tryz.underlying23 rfl) rfl ((JQ.mk HP () (M.sub ⟨rfl, rfl, rfl, rfl, rfl, rfl, trivial⟩)))
 ·intro ua uw SV pV M0 hk hn hd
  obtain ⟨HP, xJ, M⟩ := M0
  replace M : Mx none w uw _ := M
  obtain ⟨s4, f9, q9⟩ := (show SV 4 = true ∧ ua.eval (.tmp 9) = pV 4 ∧ stE _ 4 (pV 4) from hd 9 (by decide))
  have e9 : ua.eval (.tmp 9) = .slice As s.length cs := f9.trans q9
  exact zd (zb rfl) (.int .i64 (s.length : Int)) (zob _ rfl e9 (M.isb (k := 0) rfl) rfl) rfl ((JQ.mk HP () (M.sub ⟨rfl, rfl, rfl, rfl, rfl, rfl, trivial⟩)))
 ·intro ua uw SV pV M0 hk hn hd
  obtain ⟨HP, xJ, M⟩ := M0
  replace M : Mx none w uw _ := M
  obtain ⟨s5, f10, q10⟩ := (show SV 5 = true ∧ ua.eval (.tmp 10) = pV 5 ∧ stE _ 5 (pV 5) from hd 10 (by decide))
  have e10 : ua.eval (.tmp 10) = .int .i64 (s.length : Int) := f10.trans q10
  exact zd (zb rfl) (.int .u8 (((zy (s.length : Int)).toNat : Nat) : Int)) (y_cvI _ _ _ rfl e10 Tryz.underlying3 Tryz.underlying5 (byteI_wrap _)) rfl ((JQ.mk HP () (M.sub ⟨rfl, rfl, rfl, rfl, rfl, rfl, trivial⟩)))
 ·intro ua uw SV pV M0 hk hn hd
  obtain ⟨HP, xJ, M⟩ := M0
  replace M : Mx none w uw _ := M
  obtain ⟨s6, f11, q11⟩ := (show SV 6 = true ∧ ua.eval (.tmp 11) = pV 6 ∧ stE _ 6 (pV 6) from hd 11 (by decide))
  have e11 : ua.eval (.tmp 11) = .int .u8 (((zy (s.length : Int)).toNat : Nat) : Int) := f11.trans q11
  exact hopM_exM (zb rfl) (run_litO M 3 [(zy (s.length : Int))] 1 rfl (by decide) (by decide) rfl (by simp only [List.map_toArray, List.map_cons, List.map_nil, e11]; kernel_rfl)) fun v w2 h2 => ⟨trivial, (JQ.mk (fun h => ⟨(HP h).1, rfl⟩) () (h2.sub ⟨rfl, rfl, rfl, rfl, (condR_off (hn 10 (by kernel_rfl)) rfl), rfl, trivial⟩))⟩
 ·intro ua uw SV pV M0 hk hn hd
  obtain ⟨HP, xJ, M⟩ := M0
  replace M : Mx none w uw _ := M
  have e1 : ua.eval (.tmp 1) = .pointer (some ⟨g2, 0, none⟩) := (show ua.eval (.tmp 1) = _ from hd 1 (by decide)).trans (F3.get (t := 1) rfl)
  exact zd (zb rfl) (.pointer (some ⟨g2, 2, none⟩)) (y_fa (off := 2) rfl e1 (by kernel_rfl) rfl) rfl ((JQ.mk HP () (M.sub ⟨rfl, rfl, rfl, rfl, rfl, rfl, trivial⟩)))
 ·intro ua uw SV pV M0 hk hn hd
  obtain ⟨HP, xJ, M⟩ := M0
  replace M : Mx none w uw _ := M
  obtain ⟨s8, f13, q13⟩ := (show SV 8 = true ∧ ua.eval (.tmp 13) = pV 8 ∧ stE _ 8 (pV 8) from hd 13 (by decide))
  have e13 : ua.eval (.tmp 13) = .pointer (some ⟨g2, 2, none⟩) := f13.trans q13
  exact zd (zb rfl) (.slice As s.length cs) (zba _ _ rfl e13 (M.blk (k := 1) rfl) rfl Tryz.underlying23 rfl) rfl ((JQ.mk HP () (M.sub ⟨rfl, rfl, rfl, rfl, rfl, rfl, trivial⟩)))
 ·intro ua uw SV pV M0 hk hn hd
  obtain ⟨HP, xJ, M⟩ := M0
  replace M : Mx none w uw _ := M
  obtain ⟨s2, f7, q7⟩ := (show SV 2 = true ∧ ua.eval (.tmp 7) = pV 2 ∧ stE _ 2 (pV 2) from hd 7 (by decide))
  have e7 : ua.eval (.tmp 7) = (pV 2) := f7
  obtain ⟨s7, f12, q12⟩ := (show SV 7 = true ∧ ua.eval (.tmp 12) = pV 7 ∧ stE _ 7 (pV 7) from hd 12 (by decide))
  have e12 : ua.eval (.tmp 12) = (pV 7) := f12
  obtain ⟨s9, f14, q14⟩ := (show SV 9 = true ∧ ua.eval (.tmp 14) = pV 9 ∧ stE _ 9 (pV 9) from hd 14 (by decide))
  have e14 : ua.eval (.tmp 14) = .slice As s.length cs := f14.trans q14
  exact zd (zb rfl) _ (y_litG 68 23 (s := 1) (zv := zN) Tryz.underlying68 (by kernel_rfl) (by kernel_rfl) rfl (#[(pV 2), (pV 7), .slice As s.length cs]) (by decide) (by decide) (by simp only [List.map_toArray, List.map_cons, List.map_nil, e7, e12, e14]; exact fill_s3 (IsB.slc (M.isO (k := 2) (z3a s2 rfl))) (IsB.slc (M.isO (k := 3) (z3a s7 rfl))) (IsB.slc (M.isb (k := 0) rfl)))) trivial ((JQ.mk (fun _ => ⟨s2, s7⟩) () ((M.allocS 4 23 3 (#[(pV 2), (pV 7), .slice As s.length cs])).sub ⟨rfl, rfl, rfl, rfl, rfl, rfl, trivial⟩)))
 ·intro ua uw SV pV M0 hk hn hd
  obtain ⟨HP, xJ, M⟩ := M0
  replace M : Mx none w uw _ := M
  obtain ⟨s10, f15, q15⟩ := (show SV 10 = true ∧ ua.eval (.tmp 15) = pV 10 ∧ stE _ 10 (pV 10) from hd 15 (by decide))
  have e15 : ua.eval (.tmp 15) = (pV 10) := f15
  obtain ⟨s2, s7⟩ := HP s10
  exact zwa (zb rfl) rfl #[(pV 10)] (zx e15) (zE Tryz.func91 rfl) (((concat3 (zw t) [(zy (s.length : Int))] s ((pV 10)) (by simp only [List.length_cons, List.length_nil]; omega) uw (isP3 (M.at_ 4 _ (z3a s10 rfl)) (M.isO (k := 2) (z3a s2 rfl)) (M.isO (k := 3) (z3a s7 rfl)) (M.isb (k := 0) rfl)))).mono fun e w2 h => (by obtain ⟨u, h1, h2, h3⟩ := h; exact ⟨u, h1, trivial, (JQ.mk HP () ((M.newO h3 5 h2).sub ⟨rfl, rfl, rfl, rfl, rfl, rfl, trivial⟩))⟩))
 intro p5 a5 w5 M5 G5 y5
 obtain ⟨-, -, -, -, -, -, -, -, -, -, -, q11, -⟩ := y5
 obtain ⟨-, xJ5, M5⟩ := M5
 replace M5 : Mx _ _ w5 [(0, bytR s (.slice As s.length cs)), (1, blkR g2 128 (#[.int .i64 (p : Int), .int .i64 t, .slice As s.length cs])), (2, zya true (ownR (zw t) (p5 2))), (3, zya true (ownR [(zy (s.length : Int))] (p5 7))), (4, zya true (slcR 23 3 (#[(p5 2), (p5 7), .slice As s.length cs]) (p5 10))), (5, zya true (ownR ((zw t) ++ [(zy (s.length : Int))] ++ s) (p5 11)))] := M5
 simp only [List.take, layV, Nat.zero_add, Nat.reduceAdd] at G5
 obtain ⟨gs4x5, rs4⟩ := (show ∃ g, p5 10 = .slice (some ⟨g, 0, none⟩) 3 3 from (M5.at_ 4 _ rfl).elim fun g h => ⟨g, h.1⟩)
 have M5_4 := M5.slcB (k := 4) (g := gs4x5) rfl rs4
 clear M5
 rw [rs4] at G5
 obtain ⟨Ap5_2, cp5_2, hp5_2⟩ := (M5_4.isO (k := 2) rfl).shape
 rw [hp5_2] at M5_4
 try rw [hp5_2] at G5
 obtain ⟨Ap5_3, cp5_3, hp5_3⟩ := (M5_4.isO (k := 3) rfl).shape
 rw [hp5_3] at M5_4
 try rw [hp5_3] at G5
 obtain ⟨Ap5_5, cp5_5, hp5_5⟩ := (M5_4.isO (k := 5) rfl).shape
 rw [hp5_5] at M5_4
 try rw [hp5_5] at G5
 refine rm rfl G5 fun _ F6 => ?_
 refine hK4 _ _ ?_
 refine zS fun _ hK7 => ?_
 have hD8 := (zt (M5_4.blk (k := 1) rfl) dnil)
 refine region_fxU F6 (SK [.inr (StK.lit w5.heap.size [99, 101, 108, 108]), .inr (StK.lit w5.heap.size [99, 101, 108, 108]), .inl (.pointer (some ⟨g2, 0, none⟩)), .inl (.int .i64 (p : Int)), .inr (StK.bytes (zw (p : Int))), .inl ((.slice Ap5_5 (((zw t) ++ [(zy (s.length : Int))] ++ s)).length cp5_5)), .inr (StK.parts [[99, 101, 108, 108], (zw (p : Int)), ((zw t) ++ [(zy (s.length : Int))] ++ s)]), .inl (.agg (zia (outF (macW [] [[99, 101, 108, 108], (zw (p : Int)), ((zw t) ++ [(zy (s.length : Int))] ++ s)]))))]) 8 (by kernel_rfl) rfl ⟨?_, ?_, hop0 F6 (by kernel_rfl), hopP F6 hD8 0 (some g2) (by kernel_rfl), ?_, hop0 F6 (by kernel_rfl), ?_, ?_, trivial⟩ ?_
 ·intro ua uw hb hd
  exact hop_lit (zb rfl) hb.size [99, 101, 108, 108] (by decide) (by decide) _ rfl (by simp only [List.map_toArray, List.map_cons, List.map_nil]; kernel_rfl)
 ·intro ua uw hb hd
  have l17 : LitB w5.heap.size uw [99, 101, 108, 108] (ua.eval (.tmp 17)) := hd 17 (by decide)
  have e17 := l17.isB
  exact hop_convK (zb rfl) _ rfl l17
 ·intro ua uw hb hd
  have e20 : ua.eval (.tmp 20) = .int .i64 (p : Int) := hd 20 (by decide)
  exact z4b (F := (StK.bytes (zw (p : Int))).F) (zb rfl) hb.size rfl #[.int .i64 (p : Int)] (zx e20) (zE Tryz.func67 rfl) (eightI_b (p : Int) uw)
 ·intro ua uw hb hd
  have l18 : LitB w5.heap.size uw [99, 101, 108, 108] (ua.eval (.tmp 18)) := hd 18 (by decide)
  have e18 := l18.isB
  have e21 : IsB uw (zw (p : Int)) (ua.eval (.tmp 21)) := hd 21 (by decide)
  have e22 : ua.eval (.tmp 22) = (.slice Ap5_5 (((zw t) ++ [(zy (s.length : Int))] ++ s)).length cp5_5) := hd 22 (by decide)
  exact hop_parts3 (zb rfl) hb.size (.tmp 18) (.tmp 21) (.tmp 22) rfl e18 e21 (by rw [e22]; exact ((M5_4.step hb).isO (k := 5) rfl))
 ·intro ua uw hb hd
  have e23 : IsP uw [[99, 101, 108, 108], (zw (p : Int)), ((zw t) ++ [(zy (s.length : Int))] ++ s)] (ua.eval (.tmp 23)) := hd 23 (by decide)
  exact z4b (F := (StK.eq (.agg (zia (outF (macW [] [[99, 101, 108, 108], (zw (p : Int)), ((zw t) ++ [(zy (s.length : Int))] ++ s)]))))).F) (zb rfl) hb.size rfl #[(ua.eval (.tmp 23))] (zx rfl) (zE Tryz.func126 rfl) (call_eqS (of_b e23))
 intro p9 a9 w9 b9 G9 y9
 obtain ⟨-, -, -, -, -, -, -, q7, -⟩ := y9
 have r7 : p9 7 = .agg (zia (outF (macW [] [[99, 101, 108, 108], (zw (p : Int)), ((zw t) ++ [(zy (s.length : Int))] ++ s)]))) := q7 (by decide)
 simp only [List.take, layV, Nat.zero_add, Nat.reduceAdd, r7] at G9
 have M9 := M5_4.kc b9
 clear F6 M5_4 r7 q7
 refine zh (zb rfl) rfl G9 rfl M9 7 (t := 65) (c := zia (fun _ => 0)) (by unfold execOp; kernel_rfl) ?_
 intro g10 a10 w10 F10 M10
 clear G9 M9
 refine zm (zb rfl) rfl F10 M10 (k := 7) rfl _ _ _ rfl (F10.get (t := 4) rfl) (F10.get (t := 24) rfl) (zia (outF (macW [] [[99, 101, 108, 108], (zw (p : Int)), ((zw t) ++ [(zy (s.length : Int))] ++ s)]))) _ rfl (zL rfl) (arr16_one _) (zn rfl) (by kernel_rfl) ?_
 intro w11 M11
 clear M10
 refine hK7 _ _ ?_
 refine zS fun _ hK12 => ?_
 refine zR ?_
 refine rm rfl F10 fun _ F13 => ?_
 refine zc (w' := w11) (zb rfl) rfl F13 rfl (.slice (some ⟨g10, 0, none⟩) 16 16) (y_sliceSum _ rfl (F13.get (t := 4) rfl)) fun _ F14 => ?_
 clear F13
 refine zdb (zb rfl) rfl F14 rfl (run_app M11 (k := 5) rfl _ _ rfl (F14.get (t := 25) rfl) (F14.get (t := 26) rfl) (isb_sum (outF_bd _) (M11.blk (k := 7) rfl)) (by simp only [sumY_len, List.length_append, List.length_cons, List.length_nil]; omega)) ?_
 intro v15 a15 w15 F15 M15
 clear F14 M11
 obtain ⟨A15, c15, rfl⟩ := (M15.isO (k := 5) rfl).shape
 refine rm rfl F15 fun _ F16 => ?_
 refine hK12 _ _ ?_
 refine wp_ret ?_
 try simp only [Exit.then, Exit.inBlock, Exit.jump]
 exact bodyPost_ret (res1 rfl (F16.get rfl)) F16.defers ⟨_, rfl, M15.byt (k := 5) rfl, M15.below⟩
end Go.Proofs.YtmjbnmbobocpdaaGreat
namespace Go.Proofs.YtmjbnmbobocpdaaGreat
open Go.ChangeShapes Go.WideShapes Go.ChangeAt Go.RowKit
theorem z0a {p t : Int} {S : Value} {w : World} {l : List UInt8} (h : IsB w l S) : (#[.int .i64 p, .int .i64 t, S] : Array Value).all (·.oneCell') = true := by
  obtain ⟨A, c, rfl⟩ := h.shape
  simp [Value.oneCell']
def entP (p : Nat) (b : List UInt8) : Nat := if 25 ≤ b.length then p else 0
def entT (b : List UInt8) : Int := if 25 ≤ b.length then turnL b else 0
def entS (b : List UInt8) : List UInt8 := if 25 ≤ b.length then saysL b else []
theorem good_short {p : Nat} {b : List UInt8} (h : ¬ 25 ≤ b.length) : zpb zj p b = false := by unfold zpb; rw [decide_eq_false h]; rfl
theorem good_long {p : Nat} {b : List UInt8} (h : 25 ≤ b.length) : zpb zj p b = decide (zoa zj p (turnL b) (saysL b) = b) := by unfold zpb; rw [decide_eq_true h]; rfl
theorem IsB.back {w w' : World} {l : List UInt8} {v : Value} (h : IsB w' l v) (hb : Below w.heap.size w w') (hlt : ∀ g, bfp v g → g < w.heap.size) : IsB w l v := by
  obtain ⟨A, c, rfl, h1, h2, h3, h4⟩ := h
  refine ⟨A, c, rfl, h1, h2, h3, fun hl => ?_⟩
  obtain ⟨ad, rfl, q1, q2⟩ := h4 hl
  obtain ⟨g, o, s⟩ := ad
  have hg : g < w.heap.size := hlt g ⟨o, s, _, _, rfl, hl⟩
  have e : w'.heap[g]? = w.heap[g]? := hb.block g hg
  refine ⟨_, rfl, hg, fun j b hj => ?_⟩
  have hblk : ((⟨g, o, s⟩ : Addr).add j).block = g := by unfold Addr.add; split <;> rfl
  have := q2 j b hj
  simp only [World.cell?, hblk, e] at this ⊢
  exact this
theorem vgood_any (p : Nat) (b : List UInt8) (bv : Value) (hl : b.length ≤ 1000) (w : World) (hB : IsB w b bv) :
  Calls Tryz.prog 120 #[.int .i64 (p : Int), bv] w fun e w' => ∃ S, e = .returned (.tuple #[.agg #[.int .i64 (entP p b : Int), .int .i64 (entT b), S], .bool (zpb zj p b)]) ∧ IsB w (entS b) S ∧ (∀ g, bfp S g → bfp bv g) ∧ Below w.heap.size w w' := by
 obtain ⟨Ab, cb, rfl⟩ := hB.shape
 by_cases h25 : 25 ≤ b.length
 ·obtain ⟨E, hE⟩ : ∃ E, b.length - 16 = E := ⟨_, rfl⟩
  obtain ⟨T, hT⟩ : ∃ x, turnL b = x := ⟨_, rfl⟩
  have hs : saysL b = ((b.drop 9).take (E - 9)) := by unfold saysL; rw [hE, List.drop_take]
  obtain ⟨qG, hG⟩ : ∃ x, decide (zoa zj p T ((b.drop 9).take (E - 9)) = b) = x := ⟨_, rfl⟩
  rw [show entP p b = p from if_pos h25, show entT b = T from (if_pos h25).trans hT, show entS b = ((b.drop 9).take (E - 9)) from (if_pos h25).trans hs, show zpb zj p b = qG by rw [good_long h25, hT, hs, hG]]
  have hT8 : numI (b.take 8) = T := hT
  have hl9 : ((b.drop 9).take (E - 9)).length ≤ 1000 := by rw [List.length_take]; omega
  refine zi (args := [.int .i64 (p : Int), .slice Ab b.length cb]) 33 Tryz.func120 rfl rfl rfl ?_
  intro fa F
  have M := Mx.start w
  replace M := M.argB 0 hB (fun g e => by cases e)
  refine zS fun _ hK1 => ?_
  refine zR ?_
  refine zh (zb rfl) rfl F rfl M 1 (t := 128) (c := #[.int .i64 0, .int .i64 0, zN]) (by unfold execOp; kernel_rfl) ?_
  intro g2 a2 w2 F2 M2
  clear F M
  refine rm rfl F2 fun _ F3 => ?_
  refine hK1 _ _ ?_
  refine zS fun _ hK4 => ?_
  refine zR ?_
  refine rm rfl F3 fun _ F5 => ?_
  refine zc (w' := w2) (zb rfl) rfl F5 rfl (.int .i64 (b.length : Int)) (zob _ rfl (F5.get (t := 10) rfl) (M2.isb (k := 0) rfl) rfl) fun _ F6 => ?_
  clear F5
  refine zc (w' := w2) (zb rfl) rfl F6 rfl (.int .i64 (E : Int)) (y_subI _ _ _ _ rfl (F6.get (t := 11) rfl) rfl (by omega) (by omega)) fun _ F7 => ?_
  clear F6
  refine rm rfl F7 fun _ F8 => ?_
  refine hK4 _ _ ?_
  refine zS fun _ hK9 => ?_
  refine zS fun _ hK10 => ?_
  refine zR ?_
  refine rm rfl F8 fun _ F11 => ?_
  refine zc (w' := w2) (zb rfl) rfl F11 rfl (.bool false) (zgb _ _ _ _ rfl (F11.get (t := 13) rfl) rfl (decide_eq_false (show ¬ (E : Int) < 9 by omega))) fun _ F12 => ?_
  clear F11
  refine hK10 _ _ ?_
  refine wp_cond_false (F12.get (t := 14) rfl) ?_
  refine wp_skip ?_
  refine hK9 _ _ ?_
  refine zS fun _ hK13 => ?_
  refine zR ?_
  refine rm rfl F12 fun _ F14 => ?_
  refine wl_runE (zb rfl) rfl F14 rfl (y_slTo _ _ rfl (F14.get (t := 17) rfl) (M2.isb (k := 0) rfl) rfl (j := 8) rfl (by omega)) ?_
  intro v15 a15 h15 F15
  clear F14
  have M15 := M2.partB 2 (k := 0) rfl h15.1 h15.2
  clear M2
  obtain ⟨A15, c15, rfl⟩ := (M15.isb (k := 2) rfl).shape
  refine zg (zb rfl) rfl F15 rfl rfl (zE Tryz.func88 rfl) #[.slice A15 ((b.take 8)).length c15] (zx (F15.get (t := 18) rfl)) (zda ((hT8 ▸ number_any (b.take 8) (.slice A15 ((b.take 8)).length c15) (by rw [List.length_take]; omega) w2 (M15.isb (k := 2) rfl)))) ?_
  rintro _ w16 a16 ⟨rfl, b16⟩ F16
  have M16 := M15.step b16
  refine zB 5 [(0, .int .i64 (p : Int)), (1, .slice Ab b.length cb), (4, .pointer (some ⟨g2, 0, none⟩)), (5, .bool false), (6, .int .i64 (E : Int)), (7, .int .i64 T)] [] dnil [] F16 fun _ F17 => ?_
  clear F16
  refine hK13 _ _ ?_
  refine zS fun _ hK18 => ?_
  refine zR ?_
  refine rm rfl F17 fun _ F19 => ?_
  refine rm rfl F19 fun _ F20 => ?_
  refine rm rfl F20 fun _ F21 => ?_
  refine rm rfl F21 fun _ F22 => ?_
  refine wl_runE (zb rfl) rfl F22 rfl (y_slOf _ _ _ rfl (F22.get (t := 24) rfl) (M16.isb (k := 0) rfl) rfl (i := 9) rfl (F22.get (t := 25) rfl) (j := E) rfl (by omega) (by omega)) ?_
  intro v23 a23 h23 F23
  clear F22
  have M23 := M16.partB 3 (k := 0) rfl h23.1 h23.2
  clear M16
  obtain ⟨A23, c23, rfl⟩ := (M23.isb (k := 3) rfl).shape
  refine zc (w' := w16) (zb rfl) rfl F23 rfl (.agg (#[.int .i64 (p : Int), .int .i64 T, .slice A23 (((b.drop 9).take (E - 9))).length c23])) (by unfold execOp; simp only [List.map_toArray, List.map_cons, List.map_nil, (F23.get (t := 22) rfl), (F23.get (t := 23) rfl), (F23.get (t := 26) rfl)]; kernel_rfl) fun _ F24 => ?_
  clear F23
  refine zh (zb rfl) rfl F24 rfl M23 4 (t := 128) (c := #[.int .i64 0, .int .i64 0, zN]) (by unfold execOp; kernel_rfl) ?_
  intro g25 a25 w25 F25 M25
  clear F24 M23
  refine zm (zb rfl) rfl F25 M25 (k := 4) rfl _ _ _ rfl (F25.get (t := 9) rfl) (F25.get (t := 27) rfl) (#[.int .i64 (p : Int), .int .i64 T, .slice A23 (((b.drop 9).take (E - 9))).length c23]) _ rfl (zL rfl) (z0a (M25.isb (k := 3) rfl)) (zn rfl) (by kernel_rfl) ?_
  intro w26 M26
  clear M25
  refine hK18 _ _ ?_
  refine zS fun _ hK27 => ?_
  refine zsa F25 [fun vE => vE = .agg (#[.int .i64 (p : Int), .int .i64 T, .slice A23 (((b.drop 9).take (E - 9))).length c23]), fun vE => vE = .agg (#[.int .i64 (p : Int), .int .i64 T, .slice A23 (((b.drop 9).take (E - 9))).length c23]), fun _ => True, fun vE => vE = .slice Ab b.length cb, fun vE => vE = .bool qG] (JM none w fun SV pV => [(0, bytR b (.slice Ab b.length cb)), (1, blkR g2 128 (#[.int .i64 0, .int .i64 0, zN])), (2, bytR (b.take 8) (.slice A15 ((b.take 8)).length c15)), (3, bytR ((b.drop 9).take (E - 9)) (.slice A23 (((b.drop 9).take (E - 9))).length c23)), (4, blkR g25 128 (#[.int .i64 (p : Int), .int .i64 T, .slice A23 (((b.drop 9).take (E - 9))).length c23])), (5, zya (SV 2) (ownR (zoa zj p T ((b.drop 9).take (E - 9))) (pV 2)))]) 5 rfl (by kernel_rfl) rfl ⟨trivial, trivial, trivial, trivial, trivial, trivial⟩ (fun p => ((M26.step (zga _)).triv 5).sub ⟨rfl, rfl, rfl, rfl, rfl, rfl, trivial⟩) ⟨?_, ?_, ?_, ?_, ?_, trivial⟩ ?_
  ·intro ua uw SV pV M0 hk hn hd
   have M : Mx none w uw _ := M0
   clear M0
   have e9 : ua.eval (.tmp 9) = .pointer (some ⟨g25, 0, none⟩) := (show ua.eval (.tmp 9) = _ from hd 9 (by decide)).trans (F25.get (t := 9) rfl)
   exact zd (zb rfl) _ (zna _ _ rfl e9 (M.blk (k := 4) rfl) (#[.int .i64 (p : Int), .int .i64 T, .slice A23 (((b.drop 9).take (E - 9))).length c23]) (zra rfl) Tryz.underlying128 rfl (by kernel_rfl)) rfl (M.sub ⟨rfl, rfl, rfl, rfl, rfl, rfl, trivial⟩)
  ·intro ua uw SV pV M0 hk hn hd
   have M : Mx none w uw _ := M0
   clear M0
   have e9 : ua.eval (.tmp 9) = .pointer (some ⟨g25, 0, none⟩) := (show ua.eval (.tmp 9) = _ from hd 9 (by decide)).trans (F25.get (t := 9) rfl)
   exact zd (zb rfl) _ (zna _ _ rfl e9 (M.blk (k := 4) rfl) (#[.int .i64 (p : Int), .int .i64 T, .slice A23 (((b.drop 9).take (E - 9))).length c23]) (zra rfl) Tryz.underlying128 rfl (by kernel_rfl)) rfl (M.sub ⟨rfl, rfl, rfl, rfl, rfl, rfl, trivial⟩)
  ·intro ua uw SV pV M0 hk hn hd
   have M : Mx none w uw _ := M0
   clear M0
   obtain ⟨s1, f29, q29⟩ := (show SV 1 = true ∧ ua.eval (.tmp 29) = pV 1 ∧ stE _ 1 (pV 1) from hd 29 (by decide))
   have e29 : ua.eval (.tmp 29) = .agg (#[.int .i64 (p : Int), .int .i64 T, .slice A23 (((b.drop 9).take (E - 9))).length c23]) := f29.trans q29
   exact zwa (zb rfl) rfl #[.agg (#[.int .i64 (p : Int), .int .i64 T, .slice A23 (((b.drop 9).take (E - 9))).length c23])] (zx e29) (zE Tryz.func99 rfl) (((cbytes_any p T ((b.drop 9).take (E - 9)) (.slice A23 (((b.drop 9).take (E - 9))).length c23) hl9 uw (M.isb (k := 3) rfl))).mono fun e w2 h => (by obtain ⟨u, h1, h2, h3⟩ := h; exact ⟨u, h1, trivial, (M.newO h3 5 h2).sub ⟨rfl, rfl, rfl, rfl, rfl, rfl, trivial⟩⟩))
  ·intro ua uw SV pV M0 hk hn hd
   have M : Mx none w uw _ := M0
   clear M0
   have e1 : ua.eval (.tmp 1) = .slice Ab b.length cb := (show ua.eval (.tmp 1) = _ from hd 1 (by decide)).trans (F25.get (t := 1) rfl)
   exact zd (zb rfl) (.slice Ab b.length cb) (zaa _ (.inl rfl) e1) rfl (M.sub ⟨rfl, rfl, rfl, rfl, rfl, rfl, trivial⟩)
  ·intro ua uw SV pV M0 hk hn hd
   have M : Mx none w uw _ := M0
   clear M0
   obtain ⟨s2, f30, q30⟩ := (show SV 2 = true ∧ ua.eval (.tmp 30) = pV 2 ∧ stE _ 2 (pV 2) from hd 30 (by decide))
   have e30 : ua.eval (.tmp 30) = (pV 2) := f30
   obtain ⟨s3, f31, q31⟩ := (show SV 3 = true ∧ ua.eval (.tmp 31) = pV 3 ∧ stE _ 3 (pV 3) from hd 31 (by decide))
   have e31 : ua.eval (.tmp 31) = .slice Ab b.length cb := f31.trans q31
   exact zwa (zb rfl) rfl #[(pV 2), .slice Ab b.length cb] (zha e30 e31) (zE Tryz.func140 rfl) (((hG ▸ equal_any (zoa zj p T ((b.drop 9).take (E - 9))) b ((pV 2)) (.slice Ab b.length cb) uw (M.isO (k := 5) (z3a s2 rfl)) (M.isb (k := 0) rfl))).mono fun e w2 h => ⟨_, h.1, rfl, (M.step h.2).sub ⟨rfl, rfl, rfl, rfl, rfl, rfl, trivial⟩⟩)
  intro p28 a28 w28 M28 G28 y28
  obtain ⟨q0, -, -, -, q4, -⟩ := y28
  have r0 : p28 0 = .agg (#[.int .i64 (p : Int), .int .i64 T, .slice A23 (((b.drop 9).take (E - 9))).length c23]) := q0
  have r4 : p28 4 = .bool qG := q4
  replace M28 : Mx _ _ w28 [(0, bytR b (.slice Ab b.length cb)), (1, blkR g2 128 (#[.int .i64 0, .int .i64 0, zN])), (2, bytR (b.take 8) (.slice A15 ((b.take 8)).length c15)), (3, bytR ((b.drop 9).take (E - 9)) (.slice A23 (((b.drop 9).take (E - 9))).length c23)), (4, blkR g25 128 (#[.int .i64 (p : Int), .int .i64 T, .slice A23 (((b.drop 9).take (E - 9))).length c23])), (5, zya true (ownR (zoa zj p T ((b.drop 9).take (E - 9))) (p28 2)))] := M28
  simp only [List.take, layV, Nat.zero_add, Nat.reduceAdd, r0, r4] at G28
  obtain ⟨Ap28_5, cp28_5, hp28_5⟩ := (M28.isO (k := 5) rfl).shape
  rw [hp28_5] at M28
  try rw [hp28_5] at G28
  refine zm (zb rfl) rfl G28 M28 (k := 1) rfl _ _ _ rfl (G28.get (t := 4) rfl) (G28.get (t := 28) rfl) (#[.int .i64 (p : Int), .int .i64 T, .slice A23 (((b.drop 9).take (E - 9))).length c23]) _ rfl (zL rfl) (z0a (M28.isb (k := 3) rfl)) (zn rfl) (by kernel_rfl) ?_
  intro w29 M29
  clear M28
  refine rm rfl G28 fun _ F30 => ?_
  refine hK27 _ _ ?_
  refine wp_ret ?_
  try simp only [Exit.then, Exit.inBlock, Exit.jump]
  exact bodyPost_ret (resCT rfl (F30.get rfl) (M29.blk (k := 1) rfl) (F30.get rfl) Tryz.underlying128 rfl (by kernel_rfl)) F30.defers ⟨_, rfl, IsB.back (M29.isb (k := 3) rfl) M29.below (fun g hg => hB.lt (h23.2 g hg)), h23.2, M29.below⟩
 ·rw [show entP p b = 0 from if_neg h25, show entT b = 0 from if_neg h25, show entS b = [] from if_neg h25, good_short h25]
  refine zi (args := [.int .i64 (p : Int), .slice Ab b.length cb]) 33 Tryz.func120 rfl rfl rfl ?_
  intro fa F
  have M := Mx.start w
  replace M := M.argB 0 hB (fun g e => by cases e)
  refine zS fun _ hK1 => ?_
  refine zR ?_
  refine zh (zb rfl) rfl F rfl M 1 (t := 128) (c := #[.int .i64 0, .int .i64 0, zN]) (by unfold execOp; kernel_rfl) ?_
  intro g2 a2 w2 F2 M2
  clear F M
  refine rm rfl F2 fun _ F3 => ?_
  refine hK1 _ _ ?_
  refine zS fun _ hK4 => ?_
  refine zR ?_
  refine rm rfl F3 fun _ F5 => ?_
  refine zc (w' := w2) (zb rfl) rfl F5 rfl (.int .i64 (b.length : Int)) (zob _ rfl (F5.get (t := 10) rfl) (M2.isb (k := 0) rfl) rfl) fun _ F6 => ?_
  clear F5
  refine zc (w' := w2) (zb rfl) rfl F6 rfl (.int .i64 ((b.length : Int) - 16)) (y_subI _ _ _ _ rfl (F6.get (t := 11) rfl) rfl rfl (by omega)) fun _ F7 => ?_
  clear F6
  refine rm rfl F7 fun _ F8 => ?_
  refine hK4 _ _ ?_
  refine zS fun _ hK9 => ?_
  refine zS fun _ hK10 => ?_
  refine zR ?_
  refine rm rfl F8 fun _ F11 => ?_
  refine zc (w' := w2) (zb rfl) rfl F11 rfl (.bool true) (zgb _ _ _ _ rfl (F11.get (t := 13) rfl) rfl (decide_eq_true (show ((b.length : Int) - 16) < 9 by omega))) fun _ F12 => ?_
  clear F11
  refine hK10 _ _ ?_
  refine wp_cond_true (F12.get (t := 14) rfl) ?_
  refine zS fun _ hK13 => ?_
  refine zR ?_
  refine zc (w' := w2) (zb rfl) rfl F12 rfl (.agg (#[.int .i64 0, .int .i64 0, zN])) (by unfold execOp; kernel_rfl) fun _ F14 => ?_
  clear F12
  refine zm (zb rfl) rfl F14 M2 (k := 1) rfl _ _ _ rfl (F14.get (t := 4) rfl) (F14.get (t := 15) rfl) (#[.int .i64 0, .int .i64 0, zN]) _ rfl (zL rfl) (by simp [Value.oneCell']) (zn rfl) (by kernel_rfl) ?_
  intro w15 M15
  clear M2
  refine rm rfl F14 fun a16 F16 => ?_
  refine hK13 _ _ ?_
  refine wp_ret ?_
  try simp only [Exit.then, Exit.inBlock, Exit.jump]
  exact bodyPost_ret (resCT rfl (F16.get rfl) (M15.blk (k := 1) rfl) (F16.get rfl) Tryz.underlying128 rfl (by kernel_rfl)) F16.defers ⟨_, rfl, zla _, fun g hg => absurd hg (z5a g), M15.below⟩
end Go.Proofs.YtmjbnmbobocpdaaGreat
namespace Go.Proofs.YtmjbnmbobocpdaaGreat
open Go.ChangeShapes Go.WideShapes Go.ChangeAt Go.RowKit
section
def vltA (V : VltN) (s n : Nat → Value) : Array Value := #[s 0, n 0, .bool (V.c 0).f, s 1, n 1, .bool (V.c 1).f, s 2, n 2, .bool (V.c 2).f, s 3, n 3, .bool (V.c 3).f, s 4, n 4, .bool (V.c 4).f, s 5, n 5, .bool (V.c 5).f, s 6, n 6, .bool (V.c 6).f, s 7, n 7, .bool (V.c 7).f, s 8, n 8, .bool (V.c 8).f, s 9, n 9, .bool (V.c 9).f, s 10, n 10, .bool (V.c 10).f, s 11, n 11, .bool (V.c 11).f, s 12, n 12, .bool (V.c 12).f, s 13, n 13, .bool (V.c 13).f, s 14, n 14, .bool (V.c 14).f, s 15, n 15, .bool (V.c 15).f, s 16, n 16, .bool (V.c 16).f, s 17, n 17, .bool (V.c 17).f, .bool V.fl, .int .i64 V.lf, .bool V.dd]
def putN (s : Nat → Value) (p : Nat) (v : Value) : Nat → Value := fun i => if i = p then v else s i
theorem vlt_s (V : VltN) (s n : Nat → Value) : ∀ {j : Nat}, j < 18 → (vltA V s n)[3 * j]? = some (s j)
  | j, h => by
    match j, h with
    | 0, _ => rfl
    | 1, _ => rfl
    | 2, _ => rfl
    | 3, _ => rfl
    | 4, _ => rfl
    | 5, _ => rfl
    | 6, _ => rfl
    | 7, _ => rfl
    | 8, _ => rfl
    | 9, _ => rfl
    | 10, _ => rfl
    | 11, _ => rfl
    | 12, _ => rfl
    | 13, _ => rfl
    | 14, _ => rfl
    | 15, _ => rfl
    | 16, _ => rfl
    | 17, _ => rfl
    | k + 18, h => exact absurd h (by omega)
theorem vlt_n (V : VltN) (s n : Nat → Value) : ∀ {j : Nat}, j < 18 → (vltA V s n)[3 * j + 1]? = some (n j)
  | j, h => by
    match j, h with
    | 0, _ => rfl
    | 1, _ => rfl
    | 2, _ => rfl
    | 3, _ => rfl
    | 4, _ => rfl
    | 5, _ => rfl
    | 6, _ => rfl
    | 7, _ => rfl
    | 8, _ => rfl
    | 9, _ => rfl
    | 10, _ => rfl
    | 11, _ => rfl
    | 12, _ => rfl
    | 13, _ => rfl
    | 14, _ => rfl
    | 15, _ => rfl
    | 16, _ => rfl
    | 17, _ => rfl
    | k + 18, h => exact absurd h (by omega)
theorem vlt_f (V : VltN) (s n : Nat → Value) : ∀ {j : Nat}, j < 18 → (vltA V s n)[3 * j + 2]? = some (.bool (V.c j).f)
  | j, h => by
    match j, h with
    | 0, _ => rfl
    | 1, _ => rfl
    | 2, _ => rfl
    | 3, _ => rfl
    | 4, _ => rfl
    | 5, _ => rfl
    | 6, _ => rfl
    | 7, _ => rfl
    | 8, _ => rfl
    | 9, _ => rfl
    | 10, _ => rfl
    | 11, _ => rfl
    | 12, _ => rfl
    | 13, _ => rfl
    | 14, _ => rfl
    | 15, _ => rfl
    | 16, _ => rfl
    | 17, _ => rfl
    | k + 18, h => exact absurd h (by omega)
structure HasV (w : World) (g : Nat) (V : VltN) (s n : Nat → Value) : Prop where
  blk : w.heap[g]? = some (.cells (vltA V s n) 80 (0, 0))
  hs : ∀ i, i < 18 → IsB w (V.c i).s (s i)
  hn : ∀ i, i < 18 → IsB w (V.c i).n (n i)
def zfa (V : VltN) : Prop := ∀ i, i < 18 → (V.c i).s.length ≤ 1000 ∧ (V.c i).n.length ≤ 1000
variable {a : Act} {w : World} {o : Oper} {x y : Operand} {z : Int}
theorem y_ixC (t : TypeId) {N sz : Nat} (hN : Tryz.prog.arrayLen t = N) (he : Tryz.prog.underlying t = some (.array (Tryz.prog.arrayLen t) (Tryz.prog.elem t))) (h1 : (Tryz.prog.info? (Tryz.prog.elem t)).map (·.size) = some sz) (ho : o.op = .indexAddr t x y) {b i c : Nat} (hx : a.eval x = .pointer (some ⟨b, c, none⟩)) (hy : a.eval y = .int .i64 z) (hz : z = (i : Int)) (hi : i < N) : (execOp a.eval o).run Tryz.prog w = .ok (.value (.pointer (some ⟨b, c + i * sz, none⟩))) w := by
  subst hz hN
  have hs : (sizeOf (Tryz.prog.elem t)).run Tryz.prog w = .ok sz w := by
    cases hq : Tryz.prog.info? (Tryz.prog.elem t) with
    | none => simp [hq] at h1
    | some inf => simp [sizeOf, typeInfo, hq]; simpa [hq] using h1
  have h5 : (i : Int) < (Tryz.prog.arrayLen t : Int) := by omega
  have hrun : (Instr.indexAt t (.pointer (some ⟨b, c, none⟩)) (.int .i64 (i : Int))).run Tryz.prog w = .ok (.pointer (some ⟨b, c + i * sz, none⟩)) w := by
    rw [run_indexAt_array (h := he), if_pos ⟨by omega, h5⟩, hs]
    simp only [Result.andThen_ok, Int.toNat_natCast, zca]
  unfold execOp
  simp only [ho, hx, hy, Sem.run_bind, hrun, Result.andThen_ok, Sem.run_pure]
theorem y_ixC3 (t : TypeId) {N : Nat} (hN : Tryz.prog.arrayLen t = N) (he : Tryz.prog.underlying t = some (.array (Tryz.prog.arrayLen t) (Tryz.prog.elem t))) (h1 : (Tryz.prog.info? (Tryz.prog.elem t)).map (·.size) = some 3) (ho : o.op = .indexAddr t x y) {b i : Nat} (hx : a.eval x = .pointer (some ⟨b, 0, none⟩)) (hy : a.eval y = .int .i64 z) (hz : z = (i : Int)) (hi : i < N) : (execOp a.eval o).run Tryz.prog w = .ok (.value (.pointer (some ⟨b, 3 * i, none⟩))) w := by
  have := y_ixC (w := w) t hN he h1 ho hx hy hz hi
  rwa [Nat.zero_add, Nat.mul_comm] at this
end
end Go.Proofs.YtmjbnmbobocpdaaGreat
namespace Go.Proofs.YtmjbnmbobocpdaaGreat
open Go.ChangeShapes Go.WideShapes Go.ChangeAt Go.RowKit Go.Shelf
theorem one_slcB {w : World} {l : List UInt8} {v : Value} (h : IsB w l v) : (#[v]).all (·.oneCell') = true := by
  obtain ⟨A, c, rfl⟩ := h.shape
  simp [Value.oneCell']
theorem tdiv_in {p q : Int} (hp : -9223372036854775808 ≤ p ∧ p < 9223372036854775808) (hq : 0 < q) : -9223372036854775808 ≤ p.tdiv q ∧ p.tdiv q ≤ 9223372036854775807 := by
  by_cases h : 0 ≤ p
  · rw [Int.tdiv_eq_ediv_of_nonneg h]
    have h1 := Int.ediv_le_self q h
    have h2 := Int.ediv_nonneg h (Int.le_of_lt hq)
    omega
  · obtain ⟨r, rfl⟩ : ∃ r, p = -r := ⟨-p, by omega⟩
    rw [Int.neg_tdiv, Int.tdiv_eq_ediv_of_nonneg (by omega)]
    have h1 := Int.ediv_le_self q (show 0 ≤ r by omega)
    have h2 := Int.ediv_nonneg (show 0 ≤ r by omega) (Int.le_of_lt hq)
    omega
section
variable {P : Program} {a : Act} {w w0 : World} {o : Oper} {G : Option Nat} {R : List (Nat × Res)}
theorem run_st (M : Mx G w0 w R) {k g off : Nat} {t : TypeId} {c : Array Value} (hk : look R k = some (blkR g t c)) (ty : TypeId) (x y : Operand) (ho : o.op = .store ty x y) (hx : a.eval x = .pointer (some ⟨g, off, none⟩)) {v : Value} (hy : a.eval y = v)
    (s c' : Array Value) (hv : v.cells = s) (hos : off + s.size ≤ c.size) (h1 : s.all (·.oneCell') = true) (hc' : (c.toList.take off ++ s.toList ++ c.toList.drop (off + s.size)).toArray = c') (hi : (P.info? ty).map (·.size) = some s.size) :
    ∃ w', (execOp a.eval o).run P w = .ok .skip w' ∧ Mx G w0 w' ((k, blkR g t c') :: R) :=
  ⟨_, y_st ty x y ho hx hy (M.blk hk) s c' hv hos h1 hc' hi, M.put hk (zmb _ _ _) (setRow_heap w g c c' t (0, 0) (M.blk hk))⟩
theorem y_quoT (ty tz : TypeId) (x y : Operand) {p q z : Int} (ho : o.op = .binOp .quo ty x y tz) (hx : a.eval x = .int .i64 p) (hy : a.eval y = .int .i64 q) (hp : -9223372036854775808 ≤ p ∧ p < 9223372036854775808) (hq : 0 < q) (hz : p.tdiv q = z) : (execOp a.eval o).run Tryz.prog w = .ok (.value (.int .i64 z)) w := by
  subst hz
  have h0 : ¬ q = 0 := by omega
  have h1 : IntKind.i64.wrap (p.tdiv q) = p.tdiv q := Go.IntWalk.i64_in _ (tdiv_in hp hq)
  unfold execOp; simp only [ho, hx, hy]; simp [go_sem, h0, h1]
end
end Go.Proofs.YtmjbnmbobocpdaaGreat
