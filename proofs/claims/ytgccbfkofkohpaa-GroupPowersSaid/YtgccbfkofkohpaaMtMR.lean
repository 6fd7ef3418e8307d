/- A modulus made ready, opaque: what its functions return. -/
import Derived.Test.YtgccbfkofkohpaaMtMake
import Derived.Test.YtgccbfkofkohpaaMtMPow
import Derived.Test.YtgccbfkofkohpaaMtRPow
import Derived.Test.YtgccbfkofkohpaaGaMul
namespace Go.Proofs.Ytgccbfkofkohpaa
set_option linter.unusedVariables false
set_option maxRecDepth 20000
set_option linter.unusedSimpArgs false
open Go.ChangeShapes Go.WideShapes Go.ChangeAt Go.RowKit
/-- C is what Make makes m to. -/
structure MR (m : Nat) (C : Array Value) : Prop where
  odd : m % 2 = 1
  one : 1 < m
  lt : m < 4294967296 ^ 8
  eq : C = montA m (4294967296 ^ 8 % m) (4294967296 ^ 8 * 4294967296 ^ 8 % m) (ngI (digI m 0))
section
variable {m : Nat} {C : Array Value}
theorem MR.size (h : MR m C) : C.size = 25 := by rw [h.eq]; rfl
theorem MR.cells (h : MR m C) : C.all (·.oneCell') = true := by rw [h.eq]; exact montA_cells _ _ _ _
theorem MR.info (h : MR m C) : (Try.prog.info? 72).map (·.size) = some C.size := by rw [h.size]; exact size_mont
theorem MR.pm (h : MR m C) (j : Nat) (v : Value) (hv : (numA m)[j]? = some v) : C[0 + j]? = some v := by rw [h.eq]; exact montA_m j v hv
theorem MR.pr (h : MR m C) (j : Nat) (v : Value) (hv : (numA (4294967296 ^ 8 % m))[j]? = some v) : C[8 + j]? = some v := by rw [h.eq]; exact montA_r j v hv
theorem MR.pt (h : MR m C) (j : Nat) (v : Value) (hv : (numA (4294967296 ^ 8 * 4294967296 ^ 8 % m))[j]? = some v) : C[16 + j]? = some v := by rw [h.eq]; exact montA_t j v hv
theorem MR.pn (h : MR m C) : C[24]? = some (.int .u32 (ngI (digI m 0))) := by rw [h.eq]; rfl
theorem dig0_odd {m : Nat} (h : m % 2 = 1) : digI m 0 % 2 = 1 := by unfold digI dig; simp; omega
theorem MR.ng (h : MR m C) : ∃ q, ngI (digI m 0) * digI m 0 + 1 = 4294967296 * q := ng_spec (dig0_odd h.odd)
theorem ngI_bd (o : Int) : 0 ≤ ngI o ∧ ngI o < 4294967296 := by unfold ngI; omega
theorem MR.t_lt (h : MR m C) : 4294967296 ^ 8 * 4294967296 ^ 8 % m < m := Nat.mod_lt _ (by have := h.one; omega)
theorem MR.in_ (h : MR m C) {a : Nat} (ha : a < 4294967296 ^ 8) (w : World) : Calls Try.prog 79 #[.agg C, numV a] w fun e w' => e = .returned (numV (a * 4294967296 ^ 8 % m)) ∧ Below w.heap.size w w' := by
  have := mtin_any m (4294967296 ^ 8 % m) _ _ h.lt h.odd h.ng (ngI_bd _).1 (ngI_bd _).2 a ha h.t_lt w
  rw [mm_in h.odd a _ rfl] at this
  rw [h.eq]; exact this
theorem MR.out (h : MR m C) {a : Nat} (ha : a < 4294967296 ^ 8) (w : World) : Calls Try.prog 77 #[.agg C, numV a] w fun e w' => e = .returned (numV (mm m a)) ∧ Below w.heap.size w w' := by
  rw [h.eq]; exact mtout_any m _ _ _ h.lt h.one h.odd h.ng (ngI_bd _).1 (ngI_bd _).2 a ha w
theorem MR.mul (h : MR m C) {a b : Nat} (ha : a < 4294967296 ^ 8) (hb : b < m) (w : World) : Calls Try.prog 75 #[.agg C, numV a, numV b] w fun e w' => e = .returned (numV (mm m (a * b))) ∧ Below w.heap.size w w' := by
  rw [h.eq]; exact mtmul_any m _ _ _ h.lt h.odd h.ng (ngI_bd _).1 (ngI_bd _).2 a b ha hb w
theorem MR.pow (h : MR m C) {a x : Nat} (ha : a < 4294967296 ^ 8) (hx : x < 4294967296 ^ 8) (w : World) : Calls Try.prog 50 #[.agg C, numV a, numV x] w fun e w' => e = .returned (numV (a ^ x % m)) ∧ Below w.heap.size w w' := by
  rw [h.eq]; exact mtpow_any m _ _ _ h.lt h.odd h.ng (ngI_bd _).1 (ngI_bd _).2 h.one rfl rfl a x ha hx w
theorem MR.rpow (h : MR m C) {a x : Nat} (ha : a < 4294967296 ^ 8) (hx : x < 4294967296 ^ 8) (w : World) : Calls Try.prog 39 #[numV a, numV x, numV m] w fun e w' => e = .returned (numV (a ^ x % m)) ∧ Below w.heap.size w w' :=
  rpower_any a x m ha hx h.lt h.one w
end
theorem mont_new (o : Oper) (a : Act) (w : World) (h : o.op = .alloc 72) : (execOp a.eval o).run Try.prog w = .ok (.value (.pointer (some ⟨w.heap.size, 0, none⟩))) (w.alloc (.cells #[Value.int .u32 0, .int .u32 0, .int .u32 0, .int .u32 0, .int .u32 0, .int .u32 0, .int .u32 0, .int .u32 0, .int .u32 0, .int .u32 0, .int .u32 0, .int .u32 0, .int .u32 0, .int .u32 0, .int .u32 0, .int .u32 0, .int .u32 0, .int .u32 0, .int .u32 0, .int .u32 0, .int .u32 0, .int .u32 0, .int .u32 0, .int .u32 0, .int .u32 0] 72)) := by
  unfold execOp
  simp only [h]
  kernel_rfl
theorem mr_make {m : Nat} (ho : m % 2 = 1) (h1 : 1 < m) (hm : m < 4294967296 ^ 8) : ∃ C, MR m C ∧ ∀ w, Calls Try.prog 49 #[numV m] w fun e w' => e = .returned (.tuple #[.agg C, .bool true]) ∧ Below w.heap.size w w' := by
  have e : 4294967296 ^ 8 % m * (4294967296 ^ 8 % m) % m = 4294967296 ^ 8 * 4294967296 ^ 8 % m := (Nat.mul_mod _ _ _).symm
  refine ⟨_, ⟨ho, h1, hm, rfl⟩, fun w => ?_⟩
  have := mtmake_any m hm w
  rw [if_pos ⟨ho, by omega⟩, e] at this
  exact this
end Go.Proofs.Ytgccbfkofkohpaa
