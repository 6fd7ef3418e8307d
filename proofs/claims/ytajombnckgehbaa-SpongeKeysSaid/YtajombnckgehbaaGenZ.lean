/- append(s, make([]byte, k)...): zeros behind bytes of one's own. -/
import Derived.Test.YtajombnckgehbaaSReg
import Derived.Lib.AppendZerosOnto
namespace Go.Proofs.Ytajombnckgehbaa
set_option linter.unusedVariables false
set_option linter.unusedSimpArgs false
open Go.ChangeShapes Go.WideShapes Go.ChangeAt Go.RowKit Go.Shelf
theorem zeros_cells (k : Nat) : (Builtin.zeroCells (Value.int .u8 0).cells k) = ((List.replicate k (0 : UInt8)).map bv).toArray := by
  unfold Builtin.zeroCells
  apply Array.ext'
  have e : (Value.int .u8 0).cells = #[Value.int .u8 0] := rfl
  simp [e, bv]
  refine List.ext_getElem (by simp) (fun i h1 h2 => ?_)
  simp [Nat.mod_one]
theorem run_append_zeros (w : World) (base : Nat) (v : Value) (l : List UInt8) (hown : Byt w base v l) (ty : TypeId) (k : Nat) (hle : l.length + k ≤ 1000000) (hbase : base ≤ w.heap.size) :
    ∃ v' w', (Builtin.append_ #[29, 3] ty #[v, .int .i64 (k : Int)]).run Try.prog w = .ok v' w' ∧ Byt w' base v' (l ++ List.replicate k 0) ∧ Below base w w' := by
  obtain ⟨i, hi1, hi2, hi3, hi4⟩ := info_u8
  have hlen : ((l ++ List.replicate k (0 : UInt8)).map bv).length = (l ++ List.replicate k (0 : UInt8)).length * 1 := by simp
  have hw : IntKind.i64.wrap (k : Int) = k := by rw [IntKind.wrap_i64]; omega
  have hw0 : IntKind.i64.wrap 0 = 0 := by rw [IntKind.wrap_i64]; rfl
  have hneg : ¬ ((k : Int) < 0) := by omega
  have h48i : ¬ (281474976710656 < (k : Int) * (i.bytes : Int)) := by rw [hi4]; omega
  by_cases hk : k = 0
  · subst hk
    rcases hown.2 with ⟨rfl, h0⟩ | ⟨g, c, cur, rfl, hb, hg, hn, hc, hs, ht⟩
    · have : l = [] := List.eq_nil_of_length_eq_zero (by simpa using h0)
      subst this
      refine ⟨.slice none 0 0, w, ?_, by simpa using Byt.nil w base, Below.refl _ _⟩
      simp [Builtin.append_, run_underlying Try.underlying29, run_underlying Try.underlying3, sizeOf, typeInfo, hi1, asInt, asIntOf, hw0]
    · refine ⟨.slice (some ⟨g, 0, none⟩) l.length c, w, ?_, by rw [List.replicate_zero, List.append_nil]; exact hown, Below.refl _ _⟩
      simp [Builtin.append_, run_underlying Try.underlying29, run_underlying Try.underlying3, sizeOf, typeInfo, hi1, asInt, asIntOf, hw0, hn, storeCells]
  have hkp : 0 < k := by omega
  have grownB : ∀ (old : Nat), old < l.length + k → Byt (w.drew.alloc (.cells ((l.map bv).toArray ++ Builtin.zeroCells (Value.int .u8 0).cells k ++ Builtin.zeroCells (Value.int .u8 0).cells (grownCap w (l.length + k) old 5 - (l.length + k))) 5)) base (.slice (some ⟨w.heap.size, 0, none⟩) (l.length + k) (grownCap w (l.length + k) old 5)) (l ++ List.replicate k 0) := fun old ho => by
    have hge := grownCap_ge w (l.length + k) old 5
    have hcm : grownCap w (l.length + k) old 5 ≤ maxLen := grownCap_le_maxLen w (l.length + k) old _ (by unfold maxLen; omega)
    have e1 : (l ++ List.replicate k (0 : UInt8)).length = l.length + k := by simp
    refine ⟨hlen, .inr ⟨w.heap.size, _, _, by rw [e1], hbase, heap_alloc_new w.drew _, by rw [e1]; exact hge, hcm, ?_, ?_⟩⟩
    · rw [zeros_cells, zeros_cells]
      simp only [Array.size_append, List.size_toArray, List.length_map, List.length_replicate, Nat.mul_one]
      omega
    · rw [zeros_cells, zeros_cells]
      simp only [Array.toList_append, List.append_assoc, e1, Nat.mul_one, List.map_append]
      rw [← List.append_assoc]
      exact List.take_left' (by simp)
  rcases hown.2 with ⟨rfl, h0⟩ | ⟨g, c, cur, rfl, hb, hg, hn, hc, hs, ht⟩
  · have : l = [] := List.eq_nil_of_length_eq_zero (by simpa using h0)
    subst this
    have hr := Lib.run_append_nil_zeros (P := Try.prog) w 29 3 ty 5 i (.int .u8 0) .i64 .i64 Try.underlying29 Try.underlying3 hi1 hi2 k hkp (by rw [hi3]; omega) (by omega) (by rw [hi4]; omega)
    have hg := grownB 0 (by simp; omega)
    simp only [List.map_nil, List.length_nil, Nat.zero_add, Array.empty_append] at hg
    refine ⟨_, _, hr, hg, ((Below.refl base w).drew).alloc (by simpa using hbase) _⟩
  · by_cases hroom : l.length + k ≤ c
    · have hst := run_storeCells_at Try.prog g (l.length * 1) 5 ((List.replicate k (0 : UInt8)).map bv) 0 cur w hg (by simp; omega) (fun u hu => by obtain ⟨b, -, rfl⟩ := List.mem_map.1 hu; rfl)
      simp only [Nat.add_zero, Nat.mul_one] at hst
      have hz : Builtin.zeroCells (Value.int .u8 0).cells k = ((List.replicate k (0 : UInt8)).map bv).toArray := zeros_cells k
      have e1 : (l ++ List.replicate k (0 : UInt8)).length = l.length + k := by simp
      have hgr : w.grownBy (w.setRow g (cur.toList.take l.length ++ (List.replicate k (0 : UInt8)).map bv ++ cur.toList.drop (l.length + ((List.replicate k (0 : UInt8)).map bv).length)).toArray) (some g) := ⟨rfl, rfl, rfl, by simp, fun q _ hq => setRow_other w g q _ (fun e => hq (by rw [e]))⟩
      refine ⟨.slice (some ⟨g, 0, none⟩) (l.length + k) c, _, ?_, ⟨hlen, .inr ⟨g, c, _, by rw [e1], hb, setRow_heap w g cur _ 5 _ hg, by rw [e1]; exact hroom, hc, ?_, ?_⟩⟩, (Below.refl base w).grown hgr hbase (fun q e => by cases e; exact hb)⟩
      · have h48 : ¬ (281474976710656 < (k : Int)) := by omega
        simp [Builtin.append_, run_underlying Try.underlying29, run_underlying Try.underlying3, sizeOf, typeInfo, zeroValue, hi1, hi2, hi3, asInt, asIntOf, hw, hneg, hi4, hroom, hk, h48, Addr.add_lit, hz]
        simp only [List.map_replicate] at hst ⊢
        simp [hst]
      · simp only [List.size_toArray, List.length_append, List.length_take, List.length_drop, Array.length_toList, List.length_map, List.length_replicate]
        omega
      · rw [Nat.mul_one] at ht ⊢
        rw [ht, e1, List.map_append]
        exact List.take_left' (by simp)
    · have hold : (Builtin.firstCells i.size l.length (.slice (some ⟨g, 0, none⟩) l.length c)).run Try.prog w.drew = .ok (l.map bv).toArray w.drew := by
        refine run_firstCells_some (P := Try.prog) w.drew i.size l.length ⟨g, 0, none⟩ l.length c (l.map bv) (by rw [hi3]; simp) (fun j u hj => ?_)
        have := hown.cells (g := g) rfl j u hj
        exact this
      have hr := Lib.run_append_grow_zeros (P := Try.prog) w 29 3 ty 5 i (.int .u8 0) .i64 .i64 Try.underlying29 Try.underlying3 hi1 hi2 (some ⟨g, 0, none⟩) l.length c (l.map bv) hold k hkp (by rw [hi3]; omega) (by omega) (by omega) (by rw [hi4]; omega) (growslice_fits (by omega) (by rw [hi4]; omega))
      exact ⟨_, _, hr, grownB c (by omega), ((Below.refl base w).drew).alloc (by simpa using hbase) _⟩
theorem wpList_append_zeros {ops : Array Oper} {rest : List Oper} {o : Oper} {a : Act} {w : World} {Q : Exit → Act → World → Prop} (hgd : o.guard = none) (s x : Operand)
    (ho : o.op = .call { callee := .builtin .append, args := #[s, x], argTypes := #[29, 3] }) (base : Nat) (v : Value) (l : List UInt8) (hs : a.eval s = v) (hown : Byt w base v l) (k : Nat) (hx : a.eval x = .int .i64 (k : Int)) (hle : l.length + k ≤ 1000000) (hbase : base ≤ w.heap.size)
    (h : ∀ v' w', Byt w' base v' (l ++ List.replicate k 0) → Below base w w' → wpList Try.prog ops Q rest (a.put o.dst v') w') : wpList Try.prog ops Q (o :: rest) a w := by
  obtain ⟨v', w', hr, h1, h2⟩ := run_append_zeros w base v l hown o.type k hle hbase
  exact Lib.wpList_append_run w hgd s x _ _ ho v _ hs hx v' w' hr (h v' w' h1 h2)
end Go.Proofs.Ytajombnckgehbaa
