/- Regions that draw their order, whose calls make memory and hand back values that lie in none: one walk, in the text's order. -/
import Derived.Test.YtgccbfkofkohpaaMake
import Derived.Test.YtgccbfkofkohpaaGaByte
namespace Go.Proofs.Ytgccbfkofkohpaa
set_option linter.unusedVariables false
set_option maxRecDepth 20000
set_option linter.unusedSimpArgs false
open Go.ChangeShapes Go.WideShapes Go.ChangeAt Go.RowKit

/-- A world in which all that was there in W is as it was. -/
structure Later (W : World) where
  w : World
  h : Below W.heap.size W w
instance (W : World) : Nonempty (Later W) := ⟨⟨W, Below.refl _ _⟩⟩
section
variable {P : Program}
theorem wp_region_later {id : Nat} {Q : Exit → Act → World → Prop} {a : Act} {W : World} {l : List Oper} (hm : P.follows .mixedOrders = true) (hB : Region.lexB .any l.toArray = true)
    (h : wpQuiet P l.toArray (fun w' => ∃ x : Later W, w' = x.w) (fun a' => ∀ x : Later W, Q .normal a' x.w) l a) : (Code.region id l.toArray true).wp P Q a W := by
  refine wp_region_quiet (C := fun w' => ∃ x : Later W, w' = x.w) hm hB ⟨⟨_, (Below.refl _ W).drew⟩, rfl⟩ ?_
  have e : (fun a' => ∀ w', (∃ x : Later W, w' = x.w) → Q .normal a' w') = (fun a' => ∀ x : Later W, Q .normal a' x.w) := by
    funext a'
    apply propext
    exact ⟨fun h x => h _ ⟨x, rfl⟩, fun h w' ⟨x, e⟩ => by rw [e]; exact h x⟩
  rw [e]
  simpa using h
theorem later_of {f : FuncId} {args : Array Value} {W : World} {x : Later W} {v : Value}
    (h : Calls P f args x.w fun e w' => e = .returned v ∧ Below x.w.heap.size x.w w') : Calls P f args x.w fun e w'' => e = .returned v ∧ ∃ y : Later W, w'' = y.w :=
  h.mono fun _ w' ⟨he, hb⟩ => ⟨he, ⟨w', x.h.trans (hb.mono x.h.size)⟩, rfl⟩
theorem later_same {f : FuncId} {args : Array Value} {W : World} {x : Later W} {v : Value}
    (h : Calls P f args x.w fun e w' => e = .returned v ∧ x.w = w') : Calls P f args x.w fun e w'' => e = .returned v ∧ ∃ y : Later W, w'' = y.w :=
  h.mono fun _ w' ⟨he, hb⟩ => ⟨he, x, hb.symm⟩
theorem Num.later {W : World} {g : Nat} {t : TypeId} {n : Nat} (h : Num W g t n) (x : Later W) : Num x.w g t n := h.below x.h h.lt
/-- A whole number is loaded. -/
theorem wpQuiet_load_num {ops : Array Oper} {W : World} {Q : Act → Prop} {a : Act} {o : Oper} {rest : List Oper} (hw : Region.wanted o (yielded ops a.tmps) = true) (ty : TypeId) (y : Operand) (ho : o.op = .load ty y)
    (g : Nat) (hy : a.eval y = .pointer (some ⟨g, 0, none⟩)) (t : TypeId) (n : Nat) (d : TypeDesc) (hg : Num W g t n) (hu : P.underlying ty = some d)
    (hd : (match d with | .struct _ | .array _ _ => true | _ => false) = true) (hi : (P.info? ty).map (·.size) = some 8)
    (h : wpQuiet P ops (fun w' => ∃ x : Later W, w' = x.w) Q rest (a.put o.dst (.agg (numA n)))) : wpQuiet P ops (fun w' => ∃ x : Later W, w' = x.w) Q (o :: rest) a :=
  BigFrame.wpQuiet_want hw fun K hK => ⟨.agg (numA n), fun w ⟨x, e⟩ => by
    subst e
    unfold Oper.quietAt execOp
    simp only [ho, hy, Sem.run_bind, run_load_num x.w ty g t n d (hg.later x) hu hd hi, Result.andThen_ok, Sem.run_pure]
    exact ⟨rfl, rfl⟩, hK _ h⟩
end
/-! Steps of a walk: each leaves what was there as it was. -/
theorem Num.step {w w' : World} {b : Nat} {t : TypeId} {n : Nat} (h : Num w b t n) (hb : Below w.heap.size w w') : Num w' b t n := h.below hb h.lt
theorem Bts.step {w w' : World} {b : Nat} {t : TypeId} {l : List UInt8} (h : Bts w b t l) (hb : Below w.heap.size w w') : Bts w' b t l := h.below hb h.lt
theorem Rd.step {w w' : World} {A : Option Addr} {l : List UInt8} (h : Rd w A l) (hb : Below w.heap.size w w') : Rd w' A l := h.below hb (Nat.le_refl _)
theorem RdI.step {w w' : World} {A : Option Addr} {n : Nat} {x : Nat → Int} (h : RdI w A n x) (hb : Below w.heap.size w w') : RdI w' A n x := h.below hb (Nat.le_refl _)
theorem step_trans {a b c : World} (h : Below a.heap.size a b) (k : Below b.heap.size b c) : Below a.heap.size a c := h.trans (k.mono h.size)
/-- A new block, written whole. -/
theorem step_new {w w' : World} {o : Obj} (h : (w.alloc o).grownBy w' (some w.heap.size)) : Below w.heap.size w w' :=
  below_of_grown ((Below.refl _ _).alloc (Nat.le_refl _) _) h (by simp) (Nat.le_refl _)
theorem step_alloc (w : World) (o : Obj) : Below w.heap.size w (w.alloc o) := (Below.refl _ _).alloc (Nat.le_refl _) _
theorem step_drew (w : World) : Below w.heap.size w w.drew := (Below.refl _ _).drew
theorem news2 (w : World) (o : Obj) : ((w.alloc o).alloc o).heap[w.heap.size]? = some o ∧ ((w.alloc o).alloc o).heap[w.heap.size + 1]? = some o :=
  ⟨heap_alloc2_old w o o, heap_alloc2_new w o o⟩
theorem news3 (w : World) (o : Obj) : (((w.alloc o).alloc o).alloc o).heap[w.heap.size]? = some o ∧ (((w.alloc o).alloc o).alloc o).heap[w.heap.size + 1]? = some o ∧ (((w.alloc o).alloc o).alloc o).heap[w.heap.size + 1 + 1]? = some o := by
  have h := news2 w o
  have e2 : ((w.alloc o).alloc o).heap.size = w.heap.size + 1 + 1 := by simp
  refine ⟨?_, ?_, ?_⟩
  · rw [Below.heap_alloc ((w.alloc o).alloc o) o _ (by rw [e2]; omega)]; exact h.1
  · rw [Below.heap_alloc ((w.alloc o).alloc o) o _ (by rw [e2]; omega)]; exact h.2
  · rw [← e2]; exact heap_alloc_new _ _
theorem step_new2 {w w1 w2 : World} {o : Obj} (h : ((w.alloc o).alloc o).grownBy w1 (some w.heap.size)) (k : w1.grownBy w2 (some (w.heap.size + 1))) : Below w.heap.size w w2 := by
  have hs := h.size
  simp at hs
  exact below_of_grown (below_of_grown (((Below.refl _ _).alloc (Nat.le_refl _) _).alloc (by simp) _) h (by simp; omega) (by omega)) k (by omega) (by omega)
theorem step_new3 {w w1 w2 w3 : World} {o : Obj} (h : (((w.alloc o).alloc o).alloc o).grownBy w1 (some w.heap.size)) (k : w1.grownBy w2 (some (w.heap.size + 1))) (l : w2.grownBy w3 (some (w.heap.size + 1 + 1))) : Below w.heap.size w w3 := by
  have hs := h.size
  have hk := k.size
  simp at hs
  exact below_of_grown (below_of_grown (below_of_grown ((((Below.refl _ _).alloc (Nat.le_refl _) _).alloc (by simp) _).alloc (by simp; omega) _) h (by simp; omega) (by omega)) k (by omega) (by omega)) l (by omega) (by omega)
theorem RdI.own {w w' : World} {A : Option Addr} {n g : Nat} {x : Nat → Int} (h : RdI w A n x) (hg : w.grownBy w' (some g)) (hn : ∀ b o, A = some ⟨b, o, none⟩ → b ≠ g) : RdI w' A n x :=
  ⟨h.1, h.2.1, fun hp => by
    obtain ⟨b, o, e, h1, h2⟩ := h.2.2 hp
    have hne := hn b o e
    exact ⟨b, o, e, Nat.lt_of_lt_of_le h1 hg.size, fun k hk => hg.cell (h2 k hk) (by simp; omega)⟩⟩
theorem eqn_same (a : Nat) (w : World) : (Op.equalIn 10000 26 (.agg (numA a)) (.agg (numA a))).run Try.prog w = .ok true w := by
  have e : numA a = numA (a % 4294967296 ^ 8) := (numA_mod a).symm
  rw [e, eq_num_run 9998 _ _ (Nat.mod_lt _ (by decide)) (Nat.mod_lt _ (by decide))]
  simp
/-- Sums as numbers. -/
def addN (a b : Nat) : Nat := if a + b < 4294967296 ^ 8 then a + b else a + b - 4294967296 ^ 8
def overI (a b : Nat) : Int := if a + b < 4294967296 ^ 8 then 0 else 1
theorem addN_lt {a b : Nat} (ha : a < 4294967296 ^ 8) (hb : b < 4294967296 ^ 8) : addN a b < 4294967296 ^ 8 := by unfold addN; split <;> omega
theorem overI_ge (a b : Nat) : 0 ≤ overI a b := by unfold overI; split <;> omega
theorem overI_le (a b : Nat) : overI a b ≤ 1 := by unfold overI; split <;> omega
theorem lentI_ge (a b : Nat) : 0 ≤ lentI a b := by unfold lentI; split <;> omega
theorem lentI_le (a b : Nat) : lentI a b ≤ 1 := by unfold lentI; split <;> omega
attribute [irreducible] addN overI
theorem add_num (a b : Nat) (ha : a < 4294967296 ^ 8) (hb : b < 4294967296 ^ 8) (w : World) :
    Calls Try.prog 59 #[numV a, numV b] w fun e w' => e = .returned (.tuple #[numV (addN a b), .int .u32 (overI a b)]) ∧ Below w.heap.size w w' := by
  have e1 : numA (a + b) = numA (addN a b) := by
    rw [← numA_mod (a + b)]
    congr 1
    unfold addN
    split
    · exact Nat.mod_eq_of_lt (by assumption)
    · omega
  have e2 : carryI a b = overI a b := by unfold carryI overI; split <;> omega
  have := add_any a b ha hb w
  rw [show numV (a + b) = numV (addN a b) from congrArg Value.agg e1, e2] at this
  exact this
theorem noGuard : Try.prog.eqGuardType Try.prog.depth 26 = false := by kernel_rfl
end Go.Proofs.Ytgccbfkofkohpaa
namespace Go.Proofs.Ytgccbfkofkohpaa
set_option linter.unusedVariables false
set_option maxRecDepth 20000
set_option linter.unusedSimpArgs false
open Go.ChangeShapes Go.WideShapes Go.ChangeAt Go.RowKit
attribute [local go_sem] eqn_same

theorem digI_small (n k : Nat) (hk : 1 ≤ k) (hn : n < 4294967296) : digI n k = 0 := by
  unfold digI; rw [dig_of_lt (m := 1) (by omega) hk]; rfl
theorem digI_zero (n : Nat) (hn : n < 4294967296) : digI n 0 = (n : Int) := by
  unfold digI dig; simp; omega
theorem topI_small (n : Nat) (h0 : n ≠ 0) (hn : n < 4294967296) : topI n 8 = Lib.bitLen n := by
  simp only [topI, digI_small n 7 (by omega) hn, digI_small n 6 (by omega) hn, digI_small n 5 (by omega) hn, digI_small n 4 (by omega) hn, digI_small n 3 (by omega) hn, digI_small n 2 (by omega) hn, digI_small n 1 (by omega) hn, digI_zero n hn, if_true]
  rw [if_neg (by omega)]
  simp
theorem top8 : topI 8 8 = 4 := by rw [topI_small 8 (by decide) (by decide)]; decide
theorem byte256 : ((byteN 256 30).toNat : Int) = 1 := by decide +kernel
theorem read256 : readN [1, 0] = 256 := by decide
theorem from7 (w : World) : Calls Try.prog 47 #[.int .i64 7] w fun e w' => e = .returned (numV 7) ∧ Below w.heap.size w w' := from_any 7 (by omega) (by omega) w
theorem from8 (w : World) : Calls Try.prog 47 #[.int .i64 8] w fun e w' => e = .returned (numV 8) ∧ Below w.heap.size w w' := from_any 8 (by omega) (by omega) w
theorem from256 (w : World) : Calls Try.prog 47 #[.int .i64 256] w fun e w' => e = .returned (numV 256) ∧ Below w.heap.size w w' := from_any 256 (by omega) (by omega) w
theorem carry34 : carryI 3 4 = 0 := by decide +kernel
end Go.Proofs.Ytgccbfkofkohpaa
namespace Go.Proofs.Ytgccbfkofkohpaa
set_option linter.unusedVariables false
set_option maxRecDepth 20000
set_option linter.unusedSimpArgs false
open Go.ChangeShapes Go.WideShapes Go.ChangeAt Go.RowKit
/-- Whatever the world: the call comes back with this value, and what was there is as it was. -/
def RunsTo (f : FuncId) (args : Array Value) (v : Value) : Prop := ∀ w : World, Calls Try.prog f args w fun e w' => e = .returned v ∧ Below w.heap.size w w'
theorem eqn_zero (w : World) : (Op.equalIn 10000 26 (.agg (numA 0)) (.agg #[Value.int .u32 0, .int .u32 0, .int .u32 0, .int .u32 0, .int .u32 0, .int .u32 0, .int .u32 0, .int .u32 0])).run Try.prog w = .ok true w := by
  rw [zeroA]; exact eqn_same 0 w
theorem eqn_diff {x y : Nat} (hx : x < 4294967296 ^ 8) (hy : y < 4294967296 ^ 8) (h : ¬ x = y) (w : World) : (Op.equalIn 10000 26 (.agg (numA x)) (.agg (numA y))).run Try.prog w = .ok false w := by
  rw [eq_num_run 9998 x y hx hy, decide_eq_false h]
theorem zeroV8 : (.agg #[Value.int .u32 0, .int .u32 0, .int .u32 0, .int .u32 0, .int .u32 0, .int .u32 0, .int .u32 0, .int .u32 0]) = numV 0 := by rw [zeroA]
theorem eqn_not0 {m : Nat} (hm : m < 4294967296 ^ 8) (h : 0 < m) (w : World) : (Op.equalIn 10000 26 (.agg (numA m)) (.agg #[Value.int .u32 0, .int .u32 0, .int .u32 0, .int .u32 0, .int .u32 0, .int .u32 0, .int .u32 0, .int .u32 0])).run Try.prog w = .ok false w := by
  rw [zeroA]; exact eqn_diff hm (by decide +kernel) (by omega) w
theorem three_ways {x y : Nat} (hx : x < 4294967296 ^ 8) (hy : y < 4294967296 ^ 8) :
    (x < y ∧ lentI x y = 1 ∧ lentI y x = 0 ∧ cmpI x y = -1 ∧ ∀ w, (Op.equalIn 10000 26 (.agg (numA x)) (.agg (numA y))).run Try.prog w = .ok false w) ∨
    (x = y ∧ lentI x x = 0 ∧ cmpI x x = 0 ∧ True) ∨
    (y < x ∧ lentI x y = 0 ∧ lentI y x = 1 ∧ cmpI x y = 1 ∧ ∀ w, (Op.equalIn 10000 26 (.agg (numA x)) (.agg (numA y))).run Try.prog w = .ok false w) := by
  unfold lentI cmpI
  rcases Nat.lt_trichotomy x y with h | h | h
  · exact .inl ⟨h, by rw [if_neg (by omega)], by rw [if_pos (by omega)], by rw [if_pos h], eqn_diff hx hy (by omega)⟩
  · exact .inr (.inl ⟨h, by rw [if_pos (by omega)], by rw [if_neg (by omega), if_neg (by omega)], trivial⟩)
  · exact .inr (.inr ⟨h, by rw [if_pos (by omega)], by rw [if_neg (by omega)], by rw [if_neg (by omega), if_pos h], eqn_diff hx hy (by omega)⟩)
end Go.Proofs.Ytgccbfkofkohpaa
