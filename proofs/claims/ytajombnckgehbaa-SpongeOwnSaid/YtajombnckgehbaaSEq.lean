/- Sums and states that are the same; bytes that are; the operations of a drawn region that make a slice or read a Sum. -/
import Derived.Test.YtajombnckgehbaaSStream
import Derived.Test.YtajombnckgehbaaGenR
import Derived.Laws.StructEq
import Derived.Great.BuildSlice
namespace Go.Proofs.Ytajombnckgehbaa
set_option linter.unusedVariables false
set_option linter.unusedSimpArgs false
open Go.ChangeShapes Go.WideShapes Go.ChangeAt Go.RowKit Go.Shelf

theorem isAgg_u8 (w : World) : (isAgg 5).run Try.prog w = .ok false w := by kernel_rfl
theorem isAgg_u32 (w : World) : (isAgg 24).run Try.prog w = .ok false w := by kernel_rfl
theorem sizeOf_u32 (w : World) : (sizeOf 24).run Try.prog w = .ok 1 w := by kernel_rfl
theorem eq_u8 (d : Nat) (x y : Int) (w : World) : (Op.equalIn (d + 1) 5 (.int .u8 x) (.int .u8 y)).run Try.prog w = .ok (x == y) w := run_equalIn_int w d 5 .u8 .u8 x y Try.underlying5
theorem eq_u32 (d : Nat) (x y : Int) (w : World) : (Op.equalIn (d + 1) 24 (.int .u32 x) (.int .u32 y)).run Try.prog w = .ok (x == y) w := run_equalIn_int w d 24 .u32 .u32 x y Try.underlying24
theorem eq16_same (y : Nat → Int) (w : World) : (Op.equalIn 10000 35 (.agg (arr16 y)) (.agg (arr16 y))).run Try.prog w = .ok true w := by
  rw [Op.equalIn]
  simp only [Sem.run_bind, run_underlying Try.underlying35, Result.andThen_ok, sizeOf_u8]
  simp only [Std.Legacy.Range.forIn_eq_forIn_range', Std.Legacy.Range.size, List.range']
  simp [part, isAgg_u8, arr16, eq_u8]
theorem eqW_same (s : W8) (w : World) : (Op.equalIn 10000 25 (.agg (arrW s)) (.agg (arrW s))).run Try.prog w = .ok true w := by
  rw [Op.equalIn]
  simp only [Sem.run_bind, run_underlying Try.underlying25, Result.andThen_ok, sizeOf_u32]
  simp only [Std.Legacy.Range.forIn_eq_forIn_range', Std.Legacy.Range.size, List.range']
  simp [part, isAgg_u32, arrW, eq_u32]
section
variable {a : Act} {w : World} {o : Oper}
theorem run_eq16 (x y : Operand) (ho : o.op = .binOp .eql 35 x y 35) (z : Nat → Int) (hx : a.eval x = .agg (arr16 z)) (hy : a.eval y = .agg (arr16 z)) : (execOp a.eval o).run Try.prog w = .ok (.value (.bool true)) w := by
  unfold execOp
  simp only [ho, hx, hy]
  simp [go_sem, eq16_same]
theorem run_eqW (x y : Operand) (ho : o.op = .binOp .eql 25 x y 25) (s : W8) (hx : a.eval x = .agg (arrW s)) (hy : a.eval y = .agg (arrW s)) : (execOp a.eval o).run Try.prog w = .ok (.value (.bool true)) w := by
  unfold execOp
  simp only [ho, hx, hy]
  simp [go_sem, eqW_same]
theorem run_ldS (x : Operand) (ho : o.op = .load 35 x) {g : Nat} {t : TypeId} {y : Nat → Int} (hx : a.eval x = .pointer (some ⟨g, 0, none⟩)) (hb : Blk w g t (arr16 y)) : (execOp a.eval o).run Try.prog w = .ok (.value (.agg (arr16 y))) w := by
  unfold execOp
  simp only [ho, hx, Sem.run_bind, run_load_blk w 35 g t (arr16 y) _ hb Try.underlying35 rfl size35, Result.andThen_ok, Sem.run_pure]
theorem run_ldW (x : Operand) (ho : o.op = .load 25 x) {g : Nat} {t : TypeId} {s : W8} (hx : a.eval x = .pointer (some ⟨g, 0, none⟩)) (hb : Blk w g t (arrW s)) : (execOp a.eval o).run Try.prog w = .ok (.value (.agg (arrW s))) w := by
  unfold execOp
  simp only [ho, hx, Sem.run_bind, run_load_blk w 25 g t (arrW s) _ hb Try.underlying25 rfl (sizeW _), Result.andThen_ok, Sem.run_pure]
set_option maxRecDepth 100000 in
theorem run_lenB (x : Operand) (t : TypeId) (ho : o.op = .call { callee := .builtin .len, args := #[x], argTypes := #[29] }) {l : List UInt8} (hx : IsB w l (a.eval x)) : (execOp a.eval o).run Try.prog w = .ok (.value (.int .i64 (l.length : Int))) w := by
  obtain ⟨A, c, h1, _⟩ := hx
  exact run_ln x _ ho h1 Try.underlying29
set_option maxRecDepth 100000 in
/-- A slice literal of bytes. -/
theorem run_lit (zs : List UInt8) (hz : 0 < zs.length) (hs : zs.length ≤ 1000) (parts : Array (Nat × Operand)) (ho : o.op = .buildSlice 29 zs.length parts)
    (hf : Instr.fill (fun i => some (i * 1, 1)) ((Array.range (zs.length * 1)).map ((Value.int .u8 0).cells[· % (Value.int .u8 0).cells.size]!)) (parts.map fun (i, x) => (i, a.eval x)).toList = some (bvs zs)) :
    (execOp a.eval o).run Try.prog w = .ok (.value (.slice (some ⟨w.heap.size, 0, none⟩) zs.length zs.length)) (w.alloc (.cells (bvs zs) 5)) := by
  obtain ⟨i, h1, h2, h3, _⟩ := info_u8
  unfold execOp
  simp only [ho, Sem.run_bind, run_buildSlice w 29 5 zs.length _ (bvs zs) i (.int .u8 0) Try.underlying29 h1 h2 (by rw [h3]; omega) (by rw [h3]; omega) (by rw [h3]; exact hf), Result.andThen_ok, Sem.run_pure]
end
theorem isB_lit (zs : List UInt8) (hs : zs.length ≤ 1000) (w : World) : IsB (w.alloc (.cells (bvs zs) 5)) zs (.slice (some ⟨w.heap.size, 0, none⟩) zs.length zs.length) :=
  ⟨_, _, rfl, Nat.le_refl _, by unfold maxLen; omega, fun h => (by cases h), Bts.rd (t := 5) (heap_alloc_new w _)⟩
/-- An operation that yields, in a world that grew. -/
theorem hop_grow {P : Program} {Q : Exit → Act → World → Prop} {a : Act} {w w1 : World} {o : Oper} {F : World → Value → Prop} {ops : Array Oper} (hw : Region.wanted o (yielded ops a.tmps) = true) (v : Value) (hr : (execOp a.eval o).run P w = .ok (.value v) w1) (hb : Below w.heap.size w w1) (hF : F w1 v) :
    if Region.wanted o (yielded ops a.tmps) = true then o.wp P a w (fun a' w' => ∃ v, a' = a.put o.dst v ∧ Below w.heap.size w w' ∧ F w' v) Q else F w undef := by
  rw [if_pos hw]
  unfold Oper.wp
  rw [hr]
  exact ⟨v, rfl, hb, hF⟩
theorem IsB.rdB {w : World} {l : List UInt8} {A : Option Addr} {n c : Nat} (h : IsB w l (.slice A n c)) : n = l.length ∧ RdB w A l.length (byI l) := by
  obtain ⟨A', c', e, h1, h2, h3, h4⟩ := h
  injection e with e1 e2 e3
  subst e1 e2 e3
  refine ⟨rfl, Nat.le_trans h1 h2, byI_bd l, fun hp => ?_⟩
  obtain ⟨b, o, e, hb, hc⟩ := h4.at hp
  refine ⟨b, o, e, hb, fun k hk => ?_⟩
  rw [hc k l[k] (List.getElem?_eq_getElem hk)]
  unfold byI
  simp [List.getD_eq_getElem?_getD, List.getElem?_eq_getElem hk]
theorem byI_agree {l r : List UInt8} (h : l.length = r.length) : AgreeTo (byI l) (byI r) l.length ↔ l = r := by
  constructor
  · intro ha
    refine List.ext_getElem h fun k h1 h2 => ?_
    have := ha k h1
    unfold byI at this
    simp only [List.getD_eq_getElem?_getD, List.getElem?_eq_getElem h1, List.getElem?_eq_getElem h2, Option.getD_some] at this
    exact UInt8.toNat_inj.1 (by omega)
  · rintro rfl _ _; rfl
theorem same_bytes {l r : List UInt8} {v u : Value} {w : World} (hv : IsB w l v) (hu : IsB w r u) :
    Calls Try.prog 32 #[v, u] w fun e w' => e = .returned (.bool (decide (l = r))) ∧ Below w.heap.size w w' := by
  obtain ⟨A, c, rfl, _⟩ := id hv
  obtain ⟨B, d, rfl, _⟩ := id hu
  obtain ⟨_, h1⟩ := hv.rdB
  obtain ⟨_, h2⟩ := hu.rdB
  by_cases h : l.length = r.length
  · rw [← h] at h2 ⊢
    have := same_any A B l.length c d (byI l) (byI r) w h1 h2
    have e : sameB (byI l) (byI r) l.length = decide (l = r) := by
      unfold sameB
      rw [Bool.eq_iff_iff]
      simp only [decide_eq_true_eq]
      exact byI_agree h
    rwa [e] at this
  · have e : decide (l = r) = false := decide_eq_false fun e => h (by rw [e])
    rw [e]
    exact same_len A B l.length r.length c d (byI l) (byI r) w h1 h2 h
end Go.Proofs.Ytajombnckgehbaa
