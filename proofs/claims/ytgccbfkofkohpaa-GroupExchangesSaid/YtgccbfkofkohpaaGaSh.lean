/- sponge.Stream, slices.Clip. -/
import Derived.Test.YtgccbfkofkohpaaMake
import Derived.Test.YtgccbfkofkohpaaMul
import Derived.Test.YtgccbfkofkohpaaGaByte
import Derived.Test.YtgccbfkofkohpaaGaBk
import Derived.Test.YtgccbfkofkohpaaGaSg
import Derived.Test.YtgccbfkofkohpaaGenR
import Derived.Laws.StructEq
import Derived.Great.BuildSlice
import Derived.Test.YtgccbfkofkohpaaGenT
import Derived.Lib.SmallJoins
import Derived.Test.YtgccbfkofkohpaaGenFrame
import Derived.Deep.RegionHeld3
import Derived.Deep.Upon
namespace Go.Proofs.Ytgccbfkofkohpaa
set_option linter.unusedVariables false
set_option maxRecDepth 20000
set_option linter.unusedSimpArgs false
open Go.ChangeShapes Go.WideShapes Go.ChangeAt Go.RowKit Go.Shelf

theorem add_zero' (a : Addr) : a.add 0 = a := by obtain ⟨b, o, s⟩ := a; simp [Addr.add]
theorem map_add_zero (A : Option Addr) (k : Nat) : A.map (·.add (0 * k)) = A := by cases A <;> simp [add_zero']
theorem slice_h (w : World) (A : Option Addr) (n c k : Nat) (hk : k ≤ c) : (Instr.sliceAt 43 (.slice A n c) none (some (.int .i64 (k : Int))) none).run Try.prog w = .ok (.slice A k c) w := by
  have hu : Try.prog.underlying 43 = some (.slice (Try.prog.elem 43)) := by rw [elem_u8s]; exact Try.underlying43
  rw [run_sliceAt_slice _ _ _ _ _ _ hu, run_slice_h _ _ _ _ _ hu .i64 k (by omega) (by omega), elem_u8s, sizeOf_u8]
  simp only [Result.andThen_ok, sliced, Int.toNat_natCast, map_add_zero, ite_self, Nat.sub_zero]
theorem slice_hm (w : World) (A : Option Addr) (n c k : Nat) (hk : k ≤ c) : (Instr.sliceAt 43 (.slice A n c) none (some (.int .i64 (k : Int))) (some (.int .i64 (k : Int)))).run Try.prog w = .ok (.slice A k k) w := by
  have hu : Try.prog.underlying 43 = some (.slice (Try.prog.elem 43)) := by rw [elem_u8s]; exact Try.underlying43
  rw [run_sliceAt_slice _ _ _ _ _ _ hu, run_slice_hm _ _ _ _ _ hu .i64 .i64 k k (by omega) (by omega) (by omega), elem_u8s, sizeOf_u8]
  simp only [Result.andThen_ok, sliced, Int.toNat_natCast, map_add_zero, ite_self, Nat.sub_zero]
theorem slice_sum (w : World) (g : Nat) : (Instr.sliceAt 61 (.pointer (some ⟨g, 0, none⟩)) none none none).run Try.prog w = .ok (.slice (some ⟨g, 0, none⟩) 16 16) w := by
  have hl : Try.prog.arrayLen 61 = 16 := by kernel_rfl
  have he : Try.prog.elem 61 = 5 := by kernel_rfl
  have hu : Try.prog.underlying 61 = some (.array (Try.prog.arrayLen 61) (Try.prog.elem 61)) := by rw [hl, he]; exact Try.underlying61
  rw [run_sliceAt_array_all w 61 ⟨g, 0, none⟩ hu, he, sizeOf_u8]
  simp only [Result.andThen_ok, slicedAt, hl]
  simp [add_zero']
/-- A Sum's bytes. -/
def sumL (s : W8) : List UInt8 := (List.range 16).map fun j => UInt8.ofNat (outF s j).toNat
theorem sumL_len (s : W8) : (sumL s).length = 16 := by simp [sumL]
theorem sumL_val (s : W8) (j : Nat) : (((UInt8.ofNat (outF s j).toNat).toNat : Nat) : Int) = outF s j := by
  have := outF_bd s j
  have e : (UInt8.ofNat (outF s j).toNat).toNat = (outF s j).toNat := by simp; omega
  rw [e, Int.toNat_of_nonneg this.1]
theorem sumL_bvs (s : W8) : bvs (sumL s) = arr16 (outF s) := by
  unfold bvs sumL
  rw [List.map_map]
  have : (bv ∘ fun j => UInt8.ofNat (outF s j).toNat) = fun j => Value.int .u8 (outF s j) := by
    funext j
    simp only [Function.comp, bv, sumL_val]
  rw [this]
  rfl
theorem sum_rd {w : World} {g : Nat} {t : TypeId} {s : W8} (h : Blk w g t (arr16 (outF s))) : Rd w (some ⟨g, 0, none⟩) (sumL s) :=
  Bts.rd (t := t) (by unfold Bts; rw [sumL_bvs]; exact h)
def stB (key : List UInt8) : Nat → List UInt8
  | 0 => []
  | k + 1 => stB key k ++ sumL (macW key [eightL k])
theorem stB_len (key : List UInt8) (k : Nat) : (stB key k).length = 16 * k := by
  induction k with
  | zero => rfl
  | succ k ih => rw [stB, List.length_append, ih, sumL_len]; omega
theorem stB_take (key : List UInt8) (n : Nat) : ∀ k, n ≤ 16 * k → (stB key k).take n = (stB key ((n + 15) / 16)).take n := by
  have h : ∀ j k, n ≤ 16 * k → (stB key (k + j)).take n = (stB key k).take n := fun j => by
    induction j with
    | zero => intros; rfl
    | succ j ih => intro k hk; rw [← Nat.add_assoc, stB, List.take_append_of_le_length (by rw [stB_len]; omega), ih k hk]
  intro k hk
  have := h (k - (n + 15) / 16) ((n + 15) / 16) (by omega)
  rwa [show (n + 15) / 16 + (k - (n + 15) / 16) = k by omega] at this
/-- A Stream's bytes. -/
def streamL (key : List UInt8) (n : Nat) : List UInt8 := (stB key ((n + 15) / 16)).take n
theorem streamL_len (key : List UInt8) (n : Nat) : (streamL key n).length = n := by
  unfold streamL; rw [List.length_take, stB_len]; omega
theorem Rd.take {w : World} {A : Option Addr} {l : List UInt8} (h : Rd w A l) (k : Nat) : Rd w A (l.take k) := fun hp => by
  have hp' : 0 < l.length := by rw [List.length_take] at hp; omega
  obtain ⟨ad, e, hb, hc⟩ := h hp'
  refine ⟨ad, e, hb, fun j b hj => hc j b ?_⟩
  rw [List.getElem?_take] at hj
  split at hj
  · exact hj
  · cases hj
theorem eight_rd (n : Nat) (hn : (n : Int) < 9223372036854775808) (w : World) :
    Calls Try.prog 61 #[.int .i64 (n : Int)] w fun e w' => e = .returned (.slice (some ⟨w.heap.size, 0, none⟩) 8 8) ∧ Below w.heap.size w w' ∧ Rd w' (some ⟨w.heap.size, 0, none⟩) (eightL n) := by
  refine (eight_any (n : Int) (Int.natCast_nonneg _) hn w).mono ?_
  rintro e w' ⟨rfl, hb, hr⟩
  refine ⟨rfl, hb, fun _ => ⟨_, rfl, hr.lt, fun j b hj => ?_⟩⟩
  have hj8 : j < 8 := by have := (List.getElem?_eq_some_iff.1 hj).1; rwa [eightL_len] at this
  rw [addr_add, Nat.zero_add, hr.cell hj8]
  unfold eightL at hj
  rw [List.getElem?_map, List.getElem?_range hj8] at hj
  obtain rfl := Option.some.inj hj
  unfold bv
  have := byt_bd (n : Int) j
  have e : (UInt8.ofNat (byt (n : Int) j).toNat).toNat = (byt (n : Int) j).toNat := by simp; omega
  rw [e, Int.toNat_of_nonneg this.1]
/-- One part, in a slice of its own. -/
theorem prd_one {w : World} {A : Option Addr} {l : List UInt8} {n c : Nat} (hn : l.length = n) (h1 : n ≤ c) (h2 : c ≤ maxLen) (h3 : A = none → c = 0) (hR : Rd w A l) :
    PRd (w.alloc (.cells #[.slice A n c] 43)) (some ⟨w.heap.size, 0, none⟩) [l] := fun _ => by
  refine ⟨w.heap.size, 0, rfl, by simp, fun j l' hj => ?_⟩
  obtain rfl : j = 0 := by
    have := (List.getElem?_eq_some_iff.1 hj).1
    simp at this; omega
  obtain rfl : l = l' := Option.some.inj hj
  exact ⟨A, c, by rw [hn]; exact (Blk.new w 43 #[.slice A n c]).cell (k := 0) rfl, by rw [hn]; exact h1, h2, h3, hR.step (step_alloc w _)⟩
end Go.Proofs.Ytgccbfkofkohpaa
namespace Go.Proofs.Ytgccbfkofkohpaa
set_option linter.unusedVariables false
set_option maxRecDepth 20000
set_option linter.unusedSimpArgs false
open Go.ChangeShapes Go.WideShapes Go.ChangeAt Go.RowKit Go.Shelf

theorem isAgg_u8 (w : World) : (isAgg 5).run Try.prog w = .ok false w := by kernel_rfl
theorem eq_u8 (d : Nat) (x y : Int) (w : World) : (Op.equalIn (d + 1) 5 (.int .u8 x) (.int .u8 y)).run Try.prog w = .ok (x == y) w := run_equalIn_int w d 5 .u8 .u8 x y Try.underlying5
theorem eq16_same (y : Nat → Int) (w : World) : (Op.equalIn 10000 61 (.agg (arr16 y)) (.agg (arr16 y))).run Try.prog w = .ok true w := by
  rw [Op.equalIn]
  simp only [Sem.run_bind, run_underlying Try.underlying61, Result.andThen_ok, sizeOf_u8]
  simp only [Std.Legacy.Range.forIn_eq_forIn_range', Std.Legacy.Range.size, List.range']
  simp [part, isAgg_u8, arr16, eq_u8]
theorem eqW_same (s : W8) (w : World) : (Op.equalIn 10000 25 (.agg (arrW s)) (.agg (arrW s))).run Try.prog w = .ok true w := by
  rw [Op.equalIn]
  simp only [Sem.run_bind, run_underlying Try.underlying25, Result.andThen_ok, sizeOf_u32]
  simp only [Std.Legacy.Range.forIn_eq_forIn_range', Std.Legacy.Range.size, List.range']
  simp [part, isAgg_u32, arrW, eq_u32]
section
variable {a : Act} {w : World} {o : Oper}
theorem run_eq16 (x y : Operand) (ho : o.op = .binOp .eql 61 x y 61) (z : Nat → Int) (hx : a.eval x = .agg (arr16 z)) (hy : a.eval y = .agg (arr16 z)) : (execOp a.eval o).run Try.prog w = .ok (.value (.bool true)) w := by
  unfold execOp
  simp only [ho, hx, hy]
  simp [go_sem, eq16_same]
theorem run_eqW (x y : Operand) (ho : o.op = .binOp .eql 25 x y 25) (s : W8) (hx : a.eval x = .agg (arrW s)) (hy : a.eval y = .agg (arrW s)) : (execOp a.eval o).run Try.prog w = .ok (.value (.bool true)) w := by
  unfold execOp
  simp only [ho, hx, hy]
  simp [go_sem, eqW_same]
theorem run_ldS (x : Operand) (ho : o.op = .load 61 x) {g : Nat} {t : TypeId} {y : Nat → Int} (hx : a.eval x = .pointer (some ⟨g, 0, none⟩)) (hb : Blk w g t (arr16 y)) : (execOp a.eval o).run Try.prog w = .ok (.value (.agg (arr16 y))) w := by
  unfold execOp
  simp only [ho, hx, Sem.run_bind, run_load_blk w 61 g t (arr16 y) _ hb Try.underlying61 rfl size35, Result.andThen_ok, Sem.run_pure]
theorem run_ldW (x : Operand) (ho : o.op = .load 25 x) {g : Nat} {t : TypeId} {s : W8} (hx : a.eval x = .pointer (some ⟨g, 0, none⟩)) (hb : Blk w g t (arrW s)) : (execOp a.eval o).run Try.prog w = .ok (.value (.agg (arrW s))) w := by
  unfold execOp
  simp only [ho, hx, Sem.run_bind, run_load_blk w 25 g t (arrW s) _ hb Try.underlying25 rfl (sizeW _), Result.andThen_ok, Sem.run_pure]
set_option maxRecDepth 100000 in
theorem run_lenB (x : Operand) (t : TypeId) (ho : o.op = .call { callee := .builtin .len, args := #[x], argTypes := #[43] }) {l : List UInt8} (hx : IsB w l (a.eval x)) : (execOp a.eval o).run Try.prog w = .ok (.value (.int .i64 (l.length : Int))) w := by
  obtain ⟨A, c, h1, _⟩ := hx
  exact run_ln x _ ho h1 Try.underlying43
set_option maxRecDepth 100000 in
/-- A slice literal of bytes. -/
theorem run_lit (zs : List UInt8) (hz : 0 < zs.length) (hs : zs.length ≤ 1000) (parts : Array (Nat × Operand)) (ho : o.op = .buildSlice 43 zs.length parts)
    (hf : Instr.fill (fun i => some (i * 1, 1)) ((Array.range (zs.length * 1)).map ((Value.int .u8 0).cells[· % (Value.int .u8 0).cells.size]!)) (parts.map fun (i, x) => (i, a.eval x)).toList = some (bvs zs)) :
    (execOp a.eval o).run Try.prog w = .ok (.value (.slice (some ⟨w.heap.size, 0, none⟩) zs.length zs.length)) (w.alloc (.cells (bvs zs) 5)) := by
  obtain ⟨i, h1, h2, h3, _⟩ := info_u8
  unfold execOp
  simp only [ho, Sem.run_bind, run_buildSlice w 43 5 zs.length _ (bvs zs) i (.int .u8 0) Try.underlying43 h1 h2 (by rw [h3]; omega) (by rw [h3]; omega) (by rw [h3]; exact hf), Result.andThen_ok, Sem.run_pure]
end
theorem isB_lit (zs : List UInt8) (hs : zs.length ≤ 1000) (w : World) : IsB (w.alloc (.cells (bvs zs) 5)) zs (.slice (some ⟨w.heap.size, 0, none⟩) zs.length zs.length) :=
  ⟨_, _, rfl, Nat.le_refl _, by unfold maxLen; omega, fun h => (by cases h), Bts.rd (t := 5) (heap_alloc_new w _)⟩
/-- An operation that yields, in a world that grew. -/
theorem hop_grow {P : Program} {Q : Exit → Act → World → Prop} {a : Act} {w w1 : World} {o : Oper} {F : World → Value → Prop} {ops : Array Oper} (hw : Region.wanted o (yielded ops a.tmps) = true) (v : Value) (hr : (execOp a.eval o).run P w = .ok (.value v) w1) (hb : Below w.heap.size w w1) (hF : F w1 v) :
    if Region.wanted o (yielded ops a.tmps) = true then o.wp P a w (fun a' w' => ∃ v, a' = a.put o.dst v ∧ Below w.heap.size w w' ∧ F w' v) Q else F w undef := by
  rw [if_pos hw]
  unfold Oper.wp
  rw [hr]
  exact ⟨v, rfl, hb, hF⟩
theorem IsB.rdB {w : World} {l : List UInt8} {A : Option Addr} {n c : Nat} (h : IsB w l (.slice A n c)) : n = l.length ∧ RdB w A l.length (byI l) := by
  obtain ⟨A', c', e, h1, h2, h3, h4⟩ := h
  injection e with e1 e2 e3
  subst e1 e2 e3
  refine ⟨rfl, Nat.le_trans h1 h2, byI_bd l, fun hp => ?_⟩
  obtain ⟨b, o, e, hb, hc⟩ := h4.at hp
  refine ⟨b, o, e, hb, fun k hk => ?_⟩
  rw [hc k l[k] (List.getElem?_eq_getElem hk)]
  unfold byI
  simp [List.getD_eq_getElem?_getD, List.getElem?_eq_getElem hk]
theorem byI_agree {l r : List UInt8} (h : l.length = r.length) : AgreeTo (byI l) (byI r) l.length ↔ l = r := by
  constructor
  · intro ha
    refine List.ext_getElem h fun k h1 h2 => ?_
    have := ha k h1
    unfold byI at this
    simp only [List.getD_eq_getElem?_getD, List.getElem?_eq_getElem h1, List.getElem?_eq_getElem h2, Option.getD_some] at this
    exact UInt8.toNat_inj.1 (by omega)
  · rintro rfl _ _; rfl
end Go.Proofs.Ytgccbfkofkohpaa
namespace Go.Proofs.Ytgccbfkofkohpaa
set_option linter.unusedVariables false
set_option maxRecDepth 20000
set_option linter.unusedSimpArgs false
open Go.ChangeShapes Go.WideShapes Go.ChangeAt Go.RowKit Go.Shelf

/-- A slice literal of bytes: its block is new. -/
theorem hop_lit {ops : Array Oper} {Q : Exit → Act → World → Prop} {a : Act} {w : World} {o : Oper} {B : Nat} (hw : Region.wanted o (yielded ops a.tmps) = true) (hB : B ≤ w.heap.size) (zs : List UInt8) (hz : 0 < zs.length) (hs : zs.length ≤ 1000) (parts : Array (Nat × Operand)) (ho : o.op = .buildSlice 43 zs.length parts)
    (hf : Instr.fill (fun i => some (i * 1, 1)) ((Array.range (zs.length * 1)).map ((Value.int .u8 0).cells[· % (Value.int .u8 0).cells.size]!)) (parts.map fun (i, x) => (i, a.eval x)).toList = some (bvs zs)) :
    if Region.wanted o (yielded ops a.tmps) = true then o.wp Try.prog a w (fun a' w' => ∃ v, a' = a.put o.dst v ∧ Kc B w w' ∧ (StK.lit B zs).F w' v) Q else (StK.lit B zs).F w undef :=
  hop_growK (F := (StK.lit B zs).F) hw _ (run_lit zs hz hs parts ho hf) (Kc.of_below hB (step_alloc w _)) ⟨w.heap.size, (0, 0), rfl, hB, hs, heap_alloc_new w _⟩
theorem LitB.isB {B : Nat} {w : World} {l : List UInt8} {v : Value} (h : LitB B w l v) : IsB w l v := by
  obtain ⟨g, fr, h1, h2, h4, h3⟩ := h
  refine ⟨_, _, h1, Nat.le_refl _, by unfold maxLen; omega, (fun h => by cases h), fun hp => ⟨_, rfl, heap_lt h3, fun j b hj => ?_⟩⟩
  rw [addr_add, Nat.zero_add]
  simp only [World.cell?, h3]
  simp [bvs, hj]
theorem run_convB {B : Nat} {a : Act} {w : World} {o : Oper} (x : Operand) (ho : o.op = .convert 43 43 x) {l : List UInt8} (hx : LitB B w l (a.eval x)) : ∃ w', (execOp a.eval o).run Try.prog w = .ok (.value (a.eval x)) w' ∧ Kc B w w' ∧ LitB B w' l (a.eval x) := by
  obtain ⟨g, fr, h1, h2, h4, h3⟩ := hx
  have hsh : w.shape? g = some (5, (bvs l).size) := by unfold World.shape?; rw [h3]
  have hk : Kc B w (w.freeze ⟨g, (bvs l).size, none⟩ 1) := by
    refine ⟨⟨rfl, rfl, rfl, by simp [World.freeze], fun k hk => ?_⟩, fun g' cs t fr' hg => ?_⟩
    · simp only [World.freeze, if_neg (by decide : ¬ (1 = 0)), Array.getElem?_modify]
      rw [if_neg (show ¬ g = k by omega)]
    · simp only [World.freeze, if_neg (by decide : ¬ (1 = 0)), Array.getElem?_modify]
      by_cases e : g = g'
      · subst e
        rw [if_pos rfl, hg]
        rw [h3] at hg
        injection hg with hg
        injection hg with _ ht _
        exact ⟨_, rfl, fun hn => absurd ht.symm hn⟩
      · rw [if_neg e, hg]
        exact ⟨_, rfl, fun _ => rfl⟩
  refine ⟨w.freeze ⟨g, (bvs l).size, none⟩ 1, ?_, hk, ?_⟩
  · rw [h1]
    refine run_cv' _ _ x ho h1 ?_
    simp [convert, run_underlying Try.underlying43, run_underlying Try.underlying5, markStringish, hsh]
  · obtain ⟨fr', h3', _⟩ := hk.kept g _ _ _ h3
    exact ⟨g, fr', h1, h2, h4, h3'⟩
theorem hop_convK {ops : Array Oper} {Q : Exit → Act → World → Prop} {a : Act} {w : World} {o : Oper} {B : Nat} (hw : Region.wanted o (yielded ops a.tmps) = true) (x : Operand) (ho : o.op = .convert 43 43 x) {l : List UInt8} (hx : LitB B w l (a.eval x)) :
    if Region.wanted o (yielded ops a.tmps) = true then o.wp Try.prog a w (fun a' w' => ∃ v, a' = a.put o.dst v ∧ Kc B w w' ∧ (StK.lit B l).F w' v) Q else (StK.lit B l).F w undef := by
  obtain ⟨wc, h1, h2, h3⟩ := run_convB x ho hx
  exact hop_growK (F := (StK.lit B l).F) hw _ h1 h2 h3
theorem run_lenZ {a : Act} {w : World} {o : Oper} (x : Operand) (ho : o.op = .call { callee := .builtin .len, args := #[x], argTypes := #[43] }) {l : List UInt8} (hx : IsB w l (a.eval x)) {z : Int} (hz : (l.length : Int) = z) : (execOp a.eval o).run Try.prog w = .ok (.value (.int .i64 z)) w := by
  subst hz; exact run_lenB x 3 ho hx
end Go.Proofs.Ytgccbfkofkohpaa
namespace Go.Proofs.Ytgccbfkofkohpaa
set_option linter.unusedVariables false
set_option maxRecDepth 20000
set_option linter.unusedSimpArgs false
open Go.ChangeShapes Go.WideShapes Go.ChangeAt Go.RowKit Go.Shelf

theorem isB_nil (w : World) : IsB w [] (.slice none 0 0) := ⟨none, 0, rfl, Nat.le_refl _, by unfold maxLen; omega, fun _ => rfl, fun h => absurd h (by simp)⟩
theorem rd_mark (zs : List UInt8) (t : TypeId) (fr : Nat × Nat) (w : World) : Rd (w.alloc (.cells (bvs zs) t fr)) (some ⟨w.heap.size, 0, none⟩) zs := fun hp => by
  have h3 := heap_alloc_new w (.cells (bvs zs) t fr)
  refine ⟨_, rfl, heap_lt h3, fun j b hj => ?_⟩
  rw [addr_add, Nat.zero_add]
  simp only [World.cell?, h3]
  simp [bvs, hj]
theorem feed_nil (s : W8) : feed s [] = (s, []) := feed_lt (by simp)
theorem of_nil {F : W8} (hF : sumW (initW []) [] = F) (w : World) : Calls Try.prog 58 #[.slice none 0 0] w fun e w' => ∃ v, e = .returned v ∧ Below w.heap.size w w' ∧ v = .agg (arr16 (outF F)) := by
  refine (of_any none [] 0 0 rfl (Nat.le_refl _) (by unfold maxLen; omega) w (fun h => absurd h (by simp))).mono fun e w' h => ⟨_, h.1, h.2, ?_⟩
  have e : macW [] [] = F := by unfold macW; simp only [cat, feed_nil]; exact hF
  rw [e]
theorem raw_abc {G : W8} (hG : sumW (initW []) [97, 98, 99] = G) {w : World} {v : Value} (h : IsB w [97, 98, 99] v) : Calls Try.prog 71 #[.slice none 0 0, v] w fun e w' => ∃ v, e = .returned v ∧ Below w.heap.size w w' ∧ v = .agg (arr16 (outF G)) := by
  obtain ⟨A, c, rfl, h1, h2, h3, h4⟩ := h
  refine (rraw_any none [] 0 0 rfl (fun _ => rfl) (by omega) A [97, 98, 99] 3 c rfl h3 (by omega) w (fun h => absurd h (by simp)) h4).mono fun e w' h => ⟨_, h.1, h.2, ?_⟩
  rw [hG]
end Go.Proofs.Ytgccbfkofkohpaa
namespace Go.Proofs.Ytgccbfkofkohpaa
set_option linter.unusedVariables false
set_option maxRecDepth 20000
set_option linter.unusedSimpArgs false
open Go.ChangeShapes Go.WideShapes Go.ChangeAt Go.RowKit Go.Shelf

theorem u8_wf {a : Int} (h : (Lit.int .u8 a).wf = true) : 0 ≤ a ∧ a < 256 := by
  have := bounds_u8 h
  omega
theorem Byt.own {w : World} {base : Nat} {v : Value} {l : List UInt8} (h : Byt w base v l) (hl : 0 < l.length) :
    ∃ g c, v = .slice (some ⟨g, 0, none⟩) l.length c ∧ base ≤ g ∧ g < w.heap.size ∧ l.length ≤ c ∧ c ≤ maxLen ∧ (∀ k, w.frozen? ⟨g, k, none⟩ = false) ∧ (∀ j x, l[j]? = some x → w.cell? ⟨g, j, none⟩ = some (bv x)) := by
  have hlt := h.lt
  rcases h.2 with ⟨_, h0⟩ | ⟨g, c, cur, e, hb, hg, hn, hc, hs, ht⟩
  · omega
  · refine ⟨g, c, e, hb, heap_lt hg, hn, hc, fun k => by simp [World.frozen?, hg], fun j x hj => by have := h.cells (g := g) (by rw [e]; rfl) j (bv x) (by rw [List.getElem?_map, hj]; rfl); rwa [addr_add, Nat.zero_add] at this⟩
theorem rd_set {w : World} {g k : Nat} {l : List UInt8} {b : UInt8} (hlt : g < w.heap.size) (hc : ∀ j x, l[j]? = some x → w.cell? ⟨g, j, none⟩ = some (bv x)) (hk : k < l.length) :
    Rd (w.setCell ⟨g, k, none⟩ (bv b)) (some ⟨g, 0, none⟩) (l.set k b) := fun _ => by
  refine ⟨_, rfl, by simpa using hlt, fun j x hj => ?_⟩
  rw [addr_add, Nat.zero_add]
  rw [List.getElem?_set] at hj
  by_cases e : k = j
  · subst e
    rw [if_pos rfl, if_pos hk] at hj
    obtain rfl := Option.some.inj hj
    exact World.cell?_setCell_same _ _ _ (hc k l[k] (List.getElem?_eq_getElem hk))
  · rw [if_neg e] at hj
    rw [World.cell?_setCell_other _ _ _ _ (fun h => e (by injection h))]
    exact hc j x hj
theorem Rd.isB {w : World} {A : Option Addr} {l : List UInt8} {n c : Nat} (h : Rd w A l) (hn : l.length = n) (hc : n ≤ c) (hm : c ≤ maxLen) (hA : A = none → c = 0) : IsB w l (.slice A n c) :=
  ⟨A, c, by rw [hn], by rw [hn]; exact hc, hm, hA, h⟩
theorem isB_empty (w : World) : IsB (w.alloc (.cells #[] 5)) [] (.slice (some ⟨w.heap.size, 0, none⟩) 0 0) :=
  ⟨_, 0, rfl, Nat.le_refl _, by unfold maxLen; omega, fun _ => rfl, fun h => absurd h (by simp)⟩
end Go.Proofs.Ytgccbfkofkohpaa
namespace Go.Proofs.Ytgccbfkofkohpaa
set_option linter.unusedVariables false
set_option maxRecDepth 20000
set_option linter.unusedSimpArgs false
open Go.ChangeShapes Go.WideShapes Go.ChangeAt Go.RowKit Go.Shelf

/-- An append, at a step of a region that draws its order; nothing to append is borne. -/
theorem step_append_byt {ops : Array Oper} {o : Oper} {a : Act} {w : World} {K : Act → World → Prop} {Q : Exit → Act → World → Prop} {E : Prop} (hgd : o.guard = none) (s x : Operand)
    (ho : o.op = .call { callee := .builtin .append, args := #[s, x], argTypes := #[43, 43] })
    (base : Nat) (v : Value) (l r : List UInt8) (hs : a.eval s = v) (hown : Byt w base v l) (A : Option Addr) (m c : Nat) (hx : a.eval x = .slice A m c) (hr : r.length = m) (hA : A = none → c = 0) (hR : Rd w A r)
    (hle : l.length + r.length ≤ 1000000) (hbase : base ≤ w.heap.size)
    (h : ∀ A2 c2 w', Byt w' base (.slice A2 (l.length + m) c2) (l ++ r) → Below base w w' → K (a.put o.dst (.slice A2 (l.length + m) c2)) w') :
    if Region.wanted o (yielded ops a.tmps) = true then Oper.wp Try.prog o a w K Q else E := by
  by_cases hm : 0 < m
  · cases A with
    | none => obtain ⟨ad, e, _⟩ := hR (by omega); cases e
    | some ad => exact step_append_bytes hgd s x ho base v l r hs hown ad m c hx hr hm hR hle hbase fun g cap w' h1 h2 _ _ _ => h _ _ w' h1 h2
  · obtain rfl : m = 0 := by omega
    obtain rfl : r = [] := List.eq_nil_of_length_eq_zero hr
    obtain ⟨i, hi1, hi2, hi3, hi4⟩ := info_u8
    obtain ⟨A2, c2, e2, h1, h2, _⟩ := id hown.slice
    subst e2
    have hw : Region.wanted o (yielded ops a.tmps) = true := by simp [Region.wanted, hgd]
    rw [if_pos hw]
    have hsrc : Go.Src Try.prog i.size 43 (.slice A 0 c) 0 [] w := by
      cases A with
      | none => exact Go.Src.ofNil w Try.underlying43 c
      | some ad => exact Go.Src.ofSlice w Try.underlying43 ad 0 c [] (by simp) (fun j u hu => by simp at hu) (fun u hu => by cases hu)
    have hrun := run_append_nothing (P := Try.prog) w 43 43 o.type 5 i Try.underlying43 hi1 A2 l.length c2 h1 (.slice A 0 c) hsrc
    unfold Oper.wp execOp
    simp only [ho, resolve, invoke, builtin, Sem.run_bind, Sem.run_pure, Result.andThen_ok, List.map_toArray, List.map_cons, List.map_nil, hs, hx, hrun]
    exact h A2 c2 w (by rw [List.append_nil]; exact hown) (Below.refl _ _)
set_option maxHeartbeats 8000000 in
set_option maxRecDepth 100000 in
theorem rparts_any (B : Option Addr) (L : List (List UInt8)) (n d : Nat) (hn : L.length = n) (hd : n ≤ d) (hnl : n ≤ 10) (hl : ∀ l ∈ L, l.length ≤ 2000) (w : World) (hP : PRd w B L) :
    Calls Try.prog 72 #[.slice B n d] w fun e w' => ∃ v, e = .returned v ∧ Byt w' w.heap.size v (cat L) ∧ (cat L).length ≤ 2008 * n ∧ Below w.heap.size w w' := by
  have HN := hid hn
  have HL := hid hl
  have CL : Hid (∀ k, (cat (L.take k)).length ≤ 2008 * k) := hid (fun k => by
    induction k with
    | zero => simp [cat]
    | succ k ih =>
      by_cases hk : k < L.length
      · rw [List.take_succ_eq_append_getElem hk, cat_snoc, List.length_append, List.length_append, eightL_len]
        have := hl L[k] (List.getElem_mem hk)
        omega
      · rw [List.take_of_length_le (by omega)]
        rw [List.take_of_length_le (by omega)] at ih
        omega)
  clear hn hl
  go_enter Try.func72, Try.ntmps72
  go_wp2
  go_loopw [3, 4] (fun v i wr => ∃ k : Nat, k ≤ n ∧ i = .int .i64 (k : Int) ∧ Byt wr w.heap.size v (cat (L.take k)) ∧ Below w.heap.size w wr) (fun _ i _ => 20 - (intOf i).toNat)
  case atStart => exact ⟨0, by omega, rfl, Byt.nil _ _, Below.refl _ _⟩
  case round =>
    obtain ⟨k, hk, rfl, hv, hB⟩ := hrel
    by_cases hlt : k < n
    · obtain ⟨b, o, rfl, hb, hj⟩ := hP (by rw [HN.out]; omega)
      have hkL : k < L.length := by rw [HN.out]; exact hlt
      obtain ⟨A', c', hc, q1, q2, q3, q4⟩ := hj k L[k] (List.getElem?_eq_getElem hkL)
      have hsnoc : Hid (cat (L.take k) ++ eightL L[k].length ++ L[k] = cat (L.take (k + 1))) := hid (by rw [List.take_succ_eq_append_getElem hkL, cat_snoc])
      have hm := HL.out L[k] (List.getElem_mem hkL)
      have hcl := CL.out k
      obtain ⟨l, hl⟩ : ∃ l, l = L[k] := ⟨_, rfl⟩
      rw [← hl] at hc q1 q4 hsnoc hm
      obtain ⟨m, hml⟩ : ∃ m, l.length = m := ⟨_, rfl⟩
      rw [hml] at hc q1 hsnoc hm
      obtain ⟨C, hC⟩ : ∃ C, C = cat (L.take k) := ⟨_, rfl⟩
      rw [← hC] at hv hsnoc hcl
      have hz := hB.size
      have hcr := hB.cell (p := ⟨b, o + k, none⟩) hb
      rw [hc] at hcr
      have hml' := hid hml
      have hkn : (k : Int) < (n : Int) := by omega
      have hk0 : (0 : Int) ≤ (k : Int) := Int.natCast_nonneg _
      obtain ⟨A1, c1, rfl, p1, p2, p3, p4⟩ := hv.slice
      have hvn := hv
      obtain ⟨y, hy⟩ : ∃ y, C.length = y := ⟨_, rfl⟩
      rw [hy] at hv hcl p1 ⊢
      have hy' := hid hy
      clear hl hj hC hml hy hP hc p3 p4 hvn
      go_wp2_with fail
      go_region_held3 (fun w' => w'.cell? ⟨b, o + k, none⟩ = some (.slice A' m c')) (first | exact hcr | (rw [hb3.cell (p := ⟨b, o + k, none⟩) (by simp; omega)]; assumption) | (rw [hb2.cell (p := ⟨b, o + k, none⟩) (by simp; omega)]; assumption) | (rw [b1.cell (p := ⟨b, o + k, none⟩) (by simp; omega)]; assumption))
        (first
          | (refine (reight_any m (by omega) _).mono ?_; rintro e w1 ⟨v1, rfl, h1, b1⟩; obtain ⟨A3, c3, rfl, s1, s2, s3, s4⟩ := h1.slice; have nn3 := h1.none0; have hv1 := (show Byt wr.drew _ _ _ from hv).step b1; have B1q : Below w.heap.size w w1 := hB.trans (((step_drew wr).mono hz).trans (b1.mono hz)); have z1 := B1q.size)
          | (refine step_append_byt (by rfl) (.tmp 11) (.tmp 17) (by rfl) w.heap.size _ C (eightL m) (by rfl) hv1 A3 _ c3 (by rfl) (by rfl) nn3 s3 (by rw [eightL_len, hy'.out]; omega) z1 ?_; intro A4 c4 w2 h2 hb2; have B2q := B1q.trans hb2; have z2 := B2q.size)
          | (refine step_append_byt (by rfl) (.tmp 18) (.tmp 22) (by rfl) w.heap.size _ (C ++ eightL m) l (by rfl) h2 A' m c' (by rfl) hml'.out q3 (q4.below B2q (Nat.le_refl _)) (by rw [List.length_append, eightL_len, hy'.out, hml'.out]; omega) z2 ?_; intro A5 c5 w3 h3 hb3; have B3q := B2q.trans hb3))
      rw [hsnoc.out, List.length_append] at h3
      clear hsnoc
      go_wp2
      go_roundw
      case rel => exact ⟨k + 1, by omega, by go_num, h3, B3q⟩
      case measure => simp [intOf]; omega
    · obtain rfl : k = n := by omega
      have hcl := CL.out k
      rw [List.take_of_length_le (by rw [HN.out]; omega)] at hv hcl
      go_wp2
      go_ret
      exact ⟨_, rfl, hv, hcl, hB⟩
set_option maxHeartbeats 4000000 in
set_option maxRecDepth 100000 in
theorem rof_any (B : Option Addr) (L : List (List UInt8)) (k d : Nat) (hk : L.length = k) (hd : k ≤ d) (hkl : k ≤ 10) (hl : ∀ l ∈ L, l.length ≤ 2000) (hcl : (cat L).length ≤ 5000) (w : World) (hP : PRd w B L) :
    Calls Try.prog 42 #[.slice B k d] w fun e w' => e = .returned (.agg (arr16 (outF (macW [] L)))) ∧ Below w.heap.size w w' := by
  have b0 := step_alloc w (.cells #[Value.int .u8 0, .int .u8 0, .int .u8 0, .int .u8 0, .int .u8 0, .int .u8 0, .int .u8 0, .int .u8 0, .int .u8 0, .int .u8 0, .int .u8 0, .int .u8 0, .int .u8 0, .int .u8 0, .int .u8 0, .int .u8 0] 61)
  have z0 := Blk.new w 61 #[Value.int .u8 0, .int .u8 0, .int .u8 0, .int .u8 0, .int .u8 0, .int .u8 0, .int .u8 0, .int .u8 0, .int .u8 0, .int .u8 0, .int .u8 0, .int .u8 0, .int .u8 0, .int .u8 0, .int .u8 0, .int .u8 0]
  have P0 := hP.step b0
  go_enter Try.func42, Try.ntmps42
  go_wp2_with fail
  refine (rparts_any B L k d hk hd hkl hl _ P0).mono ?_
  rintro e w1 ⟨v1, rfl, h1, _, b1⟩
  obtain ⟨A1, c1, rfl, q1, q2, q3, q4⟩ := h1.slice
  have nn1 := h1.none0
  have z1 := z0.step b1
  have B1 := step_trans b0 b1
  clear h1 b1 z0 P0 b0 hP
  go_wp2_with fail
  refine (rraw_any none [] 0 0 rfl (fun _ => rfl) (by omega) A1 (cat L) _ c1 rfl nn1 hcl w1 (fun h => absurd h (by simp)) q3).mono ?_
  rintro e w2 ⟨rfl, b2⟩
  have z2 := z1.step b2
  have B2 := step_trans B1 b2
  obtain ⟨F, hF⟩ : ∃ F, F = sumW (initW []) (cat L) := ⟨_, rfl⟩
  have HF : Hid (macW [] L = F) := hid (by unfold macW; rw [sumW_feed, hF])
  rw [← hF]
  clear hF z1 b2 B1 q3
  go_wp2_with (refine wpList_store_blk rfl _ (.tmp 2) _ rfl _ rfl _ rfl (arr16_one _) _ z2 rfl size35 ?_; intro w5 g5 c5)
  exact bodyPost_ret (results_blk rfl rfl c5 Try.underlying61 rfl size35) rfl ⟨by rw [HF.out], below_of_grown B2 g5 B2.size (Nat.le_refl _)⟩
end Go.Proofs.Ytgccbfkofkohpaa
