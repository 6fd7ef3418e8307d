/- Blocks that are known whole: loads, stores, parts, results. -/
import Derived.Test.YtgccbfkofkohpaaRefM
import Derived.Test.YtgccbfkofkohpaaGaRz
import Derived.Test.YtgccbfkofkohpaaMtAdd
namespace Go.Proofs.Ytgccbfkofkohpaa
set_option linter.unusedVariables false
set_option maxRecDepth 20000
set_option linter.unusedSimpArgs false
open Go.ChangeShapes Go.WideShapes Go.ChangeAt Go.RowKit
def Blk (w : World) (b : Nat) (t : TypeId) (c : Array Value) : Prop := w.heap[b]? = some (.cells c t (0, 0))
section
variable {w w' : World} {b : Nat} {t : TypeId} {c : Array Value}
theorem Blk.lt (h : Blk w b t c) : b < w.heap.size := heap_lt h
theorem Blk.cell (h : Blk w b t c) {k : Nat} {v : Value} (hk : c[k]? = some v) : w.cell? ⟨b, k, none⟩ = some v := by
  unfold Blk at h
  simp [World.cell?, h, hk]
theorem Blk.frozen (h : Blk w b t c) (k : Nat) : w.frozen? ⟨b, k, none⟩ = false := by
  unfold Blk at h
  simp [World.frozen?, h]
theorem Blk.below {B : Nat} (h : Blk w b t c) (hb : Below B w w') (hl : b < B) : Blk w' b t c := (hb.block b hl).trans h
theorem Blk.step (h : Blk w b t c) (hb : Below w.heap.size w w') : Blk w' b t c := h.below hb h.lt
theorem Blk.grown {row : Option Nat} (h : Blk w b t c) (hg : w.grownBy w' row) (hn : some b ≠ row) : Blk w' b t c := (hg.block b h.lt hn).trans h
theorem Blk.alloc (h : Blk w b t c) (o : Obj) : Blk (w.alloc o) b t c := (Below.heap_alloc w o b h.lt).trans h
theorem Blk.new (w : World) (t : TypeId) (c : Array Value) : Blk (w.alloc (.cells c t)) w.heap.size t c := heap_alloc_new _ _
theorem Blk.drew (h : Blk w b t c) : Blk w.drew b t c := h
theorem Blk.set (h : Blk w b t c) (k : Nat) (v : Value) {c' : Array Value} (hc : c.setIfInBounds k v = c') : Blk (w.setCell ⟨b, k, none⟩ v) b t c' := by
  subst hc
  unfold Blk at *
  have hl := heap_lt h
  have hg : w.heap[b] = .cells c t (0, 0) := by simpa [hl] using h
  simp [World.setCell, hl, Array.getElem_modify, hg]
end
section
variable {P : Program}
theorem run_load_blk (w : World) (ty : TypeId) (g : Nat) (t : TypeId) (c : Array Value) (d : TypeDesc) (hg : Blk w g t c) (hu : P.underlying ty = some d)
    (hd : (match d with | .struct _ | .array _ _ => true | _ => false) = true) (hi : (P.info? ty).map (·.size) = some c.size) : (Instr.loadAt ty (.pointer (some ⟨g, 0, none⟩))).run P w = .ok (.agg c) w := by
  simp only [Instr.loadAt, Instr.sureAddr, Sem.run_bind, Sem.run_pure, Result.andThen_ok]
  exact run_loadVar_row w g t ty c (0, 0) d hg hu hd hi
theorem run_store_blk (w : World) (ty : TypeId) (g : Nat) (c : Array Value) (hc : c.all (·.oneCell') = true) (cs : Array Value) (hcs : cs.size = c.size) (hg : w.heap[g]? = some (.cells cs ty (0, 0)))
    (hi : (P.info? ty).map (·.size) = some c.size) : (Instr.storeAt ty (.pointer (some ⟨g, 0, none⟩)) (.agg c)).run P w = .ok () (w.setRow g c) := by
  simp only [Instr.storeAt, Instr.sureAddr, Sem.run_bind, Sem.run_pure, Result.andThen_ok]
  exact run_storeVar_row w g ty ty cs c hg hi hcs hc
theorem wpList_store_blk {ops : Array Oper} {rest : List Oper} {o : Oper} {a : Act} {w : World} {Q : Exit → Act → World → Prop} (hgd : o.guard = none) (ty : TypeId) (x y : Operand) (ho : o.op = .store ty x y)
    (g : Nat) (hx : a.eval x = .pointer (some ⟨g, 0, none⟩)) (c : Array Value) (hy : a.eval y = .agg c) (hc : c.all (·.oneCell') = true) (cs : Array Value) (hg : Blk w g ty cs) (hcs : cs.size = c.size)
    (hi : (P.info? ty).map (·.size) = some c.size)
    (h : ∀ w', w.grownBy w' (some g) → Blk w' g ty c → wpList P ops Q rest (a.put o.dst undef) w') : wpList P ops Q (o :: rest) a w :=
  wpList_plain hgd fun K hK => by
    unfold Oper.wp execOp
    simp only [ho, hx, hy, Sem.run_bind, run_store_blk w ty g c hc cs hcs hg hi, Result.andThen_ok, Sem.run_pure]
    exact hK _ _ (h _ (grown_setRow _ _ _) (setRow_heap w g cs c ty (0, 0) hg))
theorem wpList_load_blk {ops : Array Oper} {rest : List Oper} {o : Oper} {a : Act} {w : World} {Q : Exit → Act → World → Prop} (hw : Region.wanted o (yielded ops a.tmps) = true) (ty : TypeId) (x : Operand) (ho : o.op = .load ty x)
    (g : Nat) (hx : a.eval x = .pointer (some ⟨g, 0, none⟩)) (t : TypeId) (c : Array Value) (d : TypeDesc) (hg : Blk w g t c) (hu : P.underlying ty = some d)
    (hd : (match d with | .struct _ | .array _ _ => true | _ => false) = true) (hi : (P.info? ty).map (·.size) = some c.size)
    (h : wpList P ops Q rest (a.put o.dst (.agg c)) w) : wpList P ops Q (o :: rest) a w :=
  wpList_want hw fun K hK => wp_load_row ty x ho g hx t c (0, 0) d hg hu hd hi (hK _ _ h)
theorem results_blk {fn : Func} {p : Tmp} {ty : TypeId} (h : fn.results = #[.cell p ty]) {tmps : Array Value} {w : World} {g : Nat} {t : TypeId} {c : Array Value} {d : TypeDesc}
    (hp : tmps.getD p undef = .pointer (some ⟨g, 0, none⟩)) (hg : Blk w g t c)
    (hu : P.underlying ty = some d) (hd : (match d with | .struct _ | .array _ _ => true | _ => false) = true) (hi : (P.info? ty).map (·.size) = some c.size) :
    (results fn tmps).run P w = .ok (.agg c) w :=
  results_cell_row h tmps w g t c (0, 0) d hp hg hu hd hi
theorem run_load_sub (w : World) (ty : TypeId) (g o : Nat) (t : TypeId) (c s : Array Value) (d : TypeDesc) (hg : Blk w g t c) (hs : ∀ (j : Nat) (v : Value), s[j]? = some v → c[o + j]? = some v) (hu : P.underlying ty = some d)
    (hd : (match d with | .struct _ | .array _ _ => true | _ => false) = true) (hi : (P.info? ty).map (·.size) = some s.size) : (Instr.loadAt ty (.pointer (some ⟨g, o, none⟩))).run P w = .ok (.agg s) w := by
  simp only [Instr.loadAt, Instr.sureAddr, Sem.run_bind, Sem.run_pure, Result.andThen_ok]
  have hl : (loadCells ⟨g, o, none⟩ s.toList.length).run P w = .ok s.toList.toArray w :=
    run_loadCells_list (P := P) w ⟨g, o, none⟩ s.toList (fun j v hv => by
      have hadd : (⟨g, o, none⟩ : Addr).add j = ⟨g, o + j, none⟩ := by unfold Addr.add; split <;> simp_all
      rw [hadd]
      exact hg.cell (hs j v (by simpa using hv)))
  cases hq : P.info? ty with
  | none => simp [hq] at hi
  | some i =>
    have hz : i.size = s.size := by simpa [hq] using hi
    have hagg : (isAgg ty).run P w = .ok true w := by
      unfold isAgg
      rw [Sem.run_bind, run_underlying hu w]
      cases d <;> simp_all
    simp only [Array.length_toList, Array.toArray_toList] at hl
    simp [loadVar, Sem.run_bind, hagg, sizeOf, typeInfo, hq, hz, hl]
theorem run_store_sub (w : World) (ty : TypeId) (g o : Nat) (t : TypeId) (c s c' : Array Value) (hg : Blk w g t c) (hos : o + s.size ≤ c.size) (h1 : s.all (·.oneCell') = true) (hc' : (c.toList.take o ++ s.toList ++ c.toList.drop (o + s.size)).toArray = c')
    (hi : (P.info? ty).map (·.size) = some s.size) : (Instr.storeAt ty (.pointer (some ⟨g, o, none⟩)) (.agg s)).run P w = .ok () (w.setRow g c') := by
  simp only [Instr.storeAt, Instr.sureAddr, Sem.run_bind, Sem.run_pure, Result.andThen_ok]
  have := run_storeCells_at (P := P) g o t s.toList 0 c w hg (by simpa using hos) (fun v hv => (Array.all_eq_true_iff_forall_mem.1 h1) v (by simpa using hv))
  simp only [Nat.add_zero, Array.length_toList] at this
  rw [hc'] at this
  cases hq : P.info? ty with
  | none => simp [hq] at hi
  | some i =>
    have hz : i.size = s.size := by simpa [hq] using hi
    simp [storeVar, Sem.run_bind, sizeOf, typeInfo, hq, hz, Value.cells, this]
end
theorem Blk.far {w : World} {b : Nat} {t : TypeId} {c : Array Value} (h : Blk w b t c) {a : Addr} (v : Value) (ha : b ≠ a.block) : Blk (w.setCell a v) b t c := (Below.heap_setCell w a v b ha).trans h
theorem results_blk_tmp {P : Program} {fn : Func} {p q : Tmp} {ty : TypeId} (h : fn.results = #[.cell p ty, .tmp q]) {tmps : Array Value} {w : World} {g : Nat} {t : TypeId} {c : Array Value} {d : TypeDesc}
    (hp : tmps.getD p undef = .pointer (some ⟨g, 0, none⟩)) (hg : Blk w g t c)
    (hu : P.underlying ty = some d) (hd : (match d with | .struct _ | .array _ _ => true | _ => false) = true) (hi : (P.info? ty).map (·.size) = some c.size) :
    (results fn tmps).run P w = .ok (.tuple #[.agg c, tmps.getD q undef]) w := by
  have hp' : tmps[p]?.getD undef = .pointer (some ⟨g, 0, none⟩) := by simpa using hp
  simp [results, h, hp', asAddr, run_loadVar_row w g t ty c (0, 0) d hg hu hd hi]
theorem wpList_load_part {P : Program} {ops : Array Oper} {rest : List Oper} {o : Oper} {a : Act} {w : World} {Q : Exit → Act → World → Prop} (hw : Region.wanted o (yielded ops a.tmps) = true) (ty : TypeId) (x : Operand) (ho : o.op = .load ty x)
    (g k : Nat) (hx : a.eval x = .pointer (some ⟨g, k, none⟩)) (t : TypeId) (c s : Array Value) (d : TypeDesc) (hg : Blk w g t c) (hs : ∀ (j : Nat) (v : Value), s[j]? = some v → c[k + j]? = some v) (hu : P.underlying ty = some d)
    (hd : (match d with | .struct _ | .array _ _ => true | _ => false) = true) (hi : (P.info? ty).map (·.size) = some s.size) (h : wpList P ops Q rest (a.put o.dst (.agg s)) w) : wpList P ops Q (o :: rest) a w :=
  wpList_want hw fun K hK => by
    unfold Oper.wp execOp
    simp only [ho, hx, Sem.run_bind, run_load_sub w ty g k t c s d hg hs hu hd hi, Result.andThen_ok, Sem.run_pure]
    exact hK _ _ h
theorem Num.blk {w : World} {b : Nat} {t : TypeId} {n : Nat} (h : Num w b t n) : Blk w b t (numA n) := h
theorem step_alloc' (w : World) (o : Obj) : Below w.heap.size w (w.alloc o) := (Below.refl _ w).alloc (Nat.le_refl _) o
/-- A modulus made ready. -/
def montA (m r t : Nat) (n : Int) : Array Value := #[numF m 0, numF m 1, numF m 2, numF m 3, numF m 4, numF m 5, numF m 6, numF m 7, numF r 0, numF r 1, numF r 2, numF r 3, numF r 4, numF r 5, numF r 6, numF r 7, numF t 0, numF t 1, numF t 2, numF t 3, numF t 4, numF t 5, numF t 6, numF t 7, .int .u32 n]
theorem montA_size (m r t : Nat) (n : Int) : (montA m r t n).size = 25 := rfl
theorem size_mont : (Try.prog.info? 72).map (·.size) = some 25 := by kernel_rfl
theorem montA_m {m r t : Nat} {n : Int} (j : Nat) (v : Value) (h : (numA m)[j]? = some v) : (montA m r t n)[0 + j]? = some v := by
  have hj := (Array.getElem?_eq_some_iff.1 h).1
  rw [numA_size] at hj
  rw [Nat.zero_add, ← h]
  have : j = 0 ∨ j = 1 ∨ j = 2 ∨ j = 3 ∨ j = 4 ∨ j = 5 ∨ j = 6 ∨ j = 7 := by omega
  rcases this with rfl | rfl | rfl | rfl | rfl | rfl | rfl | rfl <;> rfl
theorem montA_n {m r t : Nat} {n : Int} : (montA m r t n)[24]? = some (.int .u32 n) := rfl
set_option maxHeartbeats 4000000 in
theorem copy_down (W : World) (g N : Nat) (T : TypeId) (hb : Num W g T N) :
    ∃ w2, (Builtin.copy_ #[98, 98] 3 #[.slice (some ⟨g, 0, none⟩) 8 8, .slice (some ⟨g, 1, none⟩) 7 7]).run Try.prog W = .ok (.int .i64 7) w2 ∧ Blk w2 g T #[numF N 1, numF N 2, numF N 3, numF N 4, numF N 5, numF N 6, numF N 7, numF N 7] ∧ W.grownBy w2 (some g) := by
  have hrun := run_copy_row (P := Try.prog) W 98 98 3 24 g 0 8 8 ⟨g, 1, none⟩ 7 7 (numA N) T [numF N 1, numF N 2, numF N 3, numF N 4, numF N 5, numF N 6, numF N 7] Try.underlying98 size_u32 hb rfl
    (fun j v hj => by
      have hj7 : j < 7 := (List.getElem?_eq_some_iff.1 hj).1
      rw [addr_add, hb.cell (by omega), ← hj]
      have : j = 0 ∨ j = 1 ∨ j = 2 ∨ j = 3 ∨ j = 4 ∨ j = 5 ∨ j = 6 := by omega
      rcases this with rfl | rfl | rfl | rfl | rfl | rfl | rfl <;> rfl) (by simp [numA_size]) (fun v hv => by
      simp at hv
      rcases hv with rfl | rfl | rfl | rfl | rfl | rfl | rfl <;> rfl)
  refine ⟨_, hrun, ?_, grown_setRow _ _ _⟩
  have e : ((numA N).toList.take 0 ++ [numF N 1, numF N 2, numF N 3, numF N 4, numF N 5, numF N 6, numF N 7] ++ (numA N).toList.drop (0 + [numF N 1, numF N 2, numF N 3, numF N 4, numF N 5, numF N 6, numF N 7].length)).toArray = #[numF N 1, numF N 2, numF N 3, numF N 4, numF N 5, numF N 6, numF N 7, numF N 7] := rfl
  rw [e]
  exact setRow_heap W g (numA N) _ T (0, 0) hb
end Go.Proofs.Ytgccbfkofkohpaa
namespace Go.Proofs.Ytgccbfkofkohpaa
set_option linter.unusedVariables false
set_option maxRecDepth 20000
set_option linter.unusedSimpArgs false
open Go.ChangeShapes Go.WideShapes Go.ChangeAt Go.RowKit
theorem div_split (T x P : Nat) (hP : 0 < P) : (T + x) / P = T / P + (T % P + x) / P ∧ (T + x) % P = (T % P + x) % P := by
  have h := Nat.div_add_mod T P
  constructor
  · conv => lhs; rw [← h, Nat.add_assoc, Nat.mul_add_div hP]
  · conv => lhs; rw [← h, Nat.add_assoc, Nat.mul_add_mod]
/-- What is added makes the lowest limb nothing. -/
theorem mt_low {t1 u m : Nat} {n : Int} (hn : ∃ q, n * digI m 0 + 1 = 4294967296 * q) (hu : (u : Int) = digI (t1 % 4294967296 ^ 8) 0 * n % 4294967296) : ∃ T', t1 + u * m = 4294967296 * T' := by
  have hs : digI (t1 % 4294967296 ^ 8) 0 = ((t1 % 4294967296 : Nat) : Int) := by
    unfold digI
    rw [dig_mod t1 (show 0 < 8 by omega)]
    unfold dig
    simp
  have hm : digI m 0 = ((m % 4294967296 : Nat) : Int) := by unfold digI dig; simp
  obtain ⟨q, hq⟩ := hn
  rw [hs] at hu
  rw [hm] at hq
  obtain ⟨x, hx⟩ : ∃ x : Int, (t1 : Int) = ((t1 % 4294967296 : Nat) : Int) + 4294967296 * x := ⟨((t1 / 4294967296 : Nat) : Int), by omega⟩
  obtain ⟨z, hz⟩ : ∃ x : Int, (m : Int) = ((m % 4294967296 : Nat) : Int) + 4294967296 * x := ⟨((m / 4294967296 : Nat) : Int), by omega⟩
  obtain ⟨y, hy⟩ : ∃ y : Int, (u : Int) = ((t1 % 4294967296 : Nat) : Int) * n - 4294967296 * y := ⟨((t1 % 4294967296 : Nat) : Int) * n / 4294967296, by rw [hu, Int.emod_def]⟩
  generalize ((t1 % 4294967296 : Nat) : Int) = s at *
  generalize ((m % 4294967296 : Nat) : Int) = m0 at *
  have h : ((t1 + u * m : Nat) : Int) = 4294967296 * (s * q + x + s * n * z - y * m0 - 4294967296 * y * z) := by
    push_cast
    rw [hx, hy, hz]
    have : s * n * m0 = s * (4294967296 * q) - s := by rw [← hq]; grind
    grind
  refine ⟨(t1 + u * m) / 4294967296, ?_⟩
  have hd : (4294967296 : Int) ∣ ((t1 + u * m : Nat) : Int) := ⟨_, h⟩
  omega
theorem mt_bound {T d u b m T' : Nat} (hT : T < b + m) (hd : d < 4294967296) (hu : u < 4294967296) (h : T + d * b + u * m = 4294967296 * T') : T' < b + m := by
  have h1 : d * b ≤ 4294967295 * b := Nat.mul_le_mul_right _ (by omega)
  have h2 : u * m ≤ 4294967295 * m := Nat.mul_le_mul_right _ (by omega)
  omega
theorem mt_next {a b m k q T u T' : Nat} (h : 4294967296 ^ k * T = a % 4294967296 ^ k * b + q * m) (h2 : T + dig a k * b + u * m = 4294967296 * T') : 4294967296 ^ (k + 1) * T' = a % 4294967296 ^ (k + 1) * b + (q + 4294967296 ^ k * u) * m := by
  have e : a % 4294967296 ^ (k + 1) = a % 4294967296 ^ k + 4294967296 ^ k * dig a k := by unfold dig; exact Nat.mod_pow_succ
  rw [e, Nat.pow_succ, Nat.mul_assoc, ← h2]
  generalize 4294967296 ^ k = X at *
  generalize dig a k = D at *
  generalize a % X = Y at *
  grind
/-- What is left at the end. -/
theorem mt_end {a b m q T : Nat} (ho : m % 2 = 1) (ha : a < 4294967296 ^ 8) (hb : b < m) (hT : T < b + m) (h : 4294967296 ^ 8 * T = a % 4294967296 ^ 8 * b + q * m) : (if m ≤ T then T - m else T) = mm m (a * b) := by
  rw [Nat.mod_eq_of_lt ha] at h
  refine mm_unique ho (by split <;> omega) ?_
  have e : 4294967296 ^ 8 * T % m = a * b % m := by rw [h, Nat.add_mul_mod_self_right]
  split
  · rename_i hle
    have : 4294967296 ^ 8 * (T - m) + 4294967296 ^ 8 * m = 4294967296 ^ 8 * T := by rw [← Nat.mul_add]; congr 1; omega
    rw [← e, ← this, Nat.add_mul_mod_self_right]
  · exact e
/-- The digits of the sum behind a step. -/
theorem mt_shift {t2 T' : Nat} (h : t2 = 4294967296 * T') (j : Nat) : dig t2 (j + 1) = dig T' j := by
  unfold dig
  rw [h, Nat.pow_succ, Nat.mul_comm (4294967296 ^ j), ← Nat.div_div_eq_div_mul, Nat.mul_div_cancel_left _ (by decide)]
theorem mt_top {t2 T' : Nat} (h : t2 = 4294967296 * T') : t2 / 4294967296 ^ 8 % 4294967296 = dig T' 7 ∧ t2 / 4294967296 ^ 8 / 4294967296 = T' / 4294967296 ^ 8 := by
  constructor
  · have := mt_shift h 7
    unfold dig at this ⊢
    exact this
  · rw [h, Nat.div_div_eq_div_mul, ← Nat.pow_succ, Nat.pow_succ, Nat.mul_comm (4294967296 ^ 8), ← Nat.div_div_eq_div_mul, Nat.mul_div_cancel_left _ (by decide)]
end Go.Proofs.Ytgccbfkofkohpaa
