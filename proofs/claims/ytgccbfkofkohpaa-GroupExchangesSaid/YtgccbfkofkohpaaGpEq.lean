/- Equality of groups; Small. -/
import Derived.Test.YtgccbfkofkohpaaGaGb
import Derived.Test.YtgccbfkofkohpaaMtEq
namespace Go.Proofs.Ytgccbfkofkohpaa
set_option linter.unusedVariables false
set_option maxRecDepth 20000
set_option linter.unusedSimpArgs false
open Go.ChangeShapes Go.WideShapes Go.ChangeAt Go.RowKit
theorem fields_group : ((Try.prog.fieldsOf 28).toList.map fun f => (f.name, f.type, f.offset)) = [("Bits", 3, 0), ("P", 26, 1), ("Q", 26, 9), ("G", 26, 17)] := by kernel_rfl
section
variable (k : Int) (p q g : Nat) (w : World)
theorem gpart_k : (part 3 (groupA k p q g) 0).run Try.prog w = .ok (.int .i64 k) w := by kernel_rfl
theorem gpart_p : (part 26 (groupA k p q g) 1).run Try.prog w = .ok (.agg (numA p)) w := by kernel_rfl
theorem gpart_q : (part 26 (groupA k p q g) 9).run Try.prog w = .ok (.agg (numA q)) w := by kernel_rfl
theorem gpart_g : (part 26 (groupA k p q g) 17).run Try.prog w = .ok (.agg (numA g)) w := by kernel_rfl
theorem under_int : Try.prog.underlying 3 = some (.int .i64) := by kernel_rfl
theorem eq_group : (Op.equalIn 10000 28 (.agg (groupA k p q g)) (.agg (groupA k p q g))).run Try.prog w = .ok true w := by
  rw [run_equalIn_struct w 9999 _ _ _ (by kernel_rfl) (by kernel_rfl), eqF_of, fields_group]
  have hn : (Op.equalIn 9999 3 (.int .i64 k) (.int .i64 k)).run Try.prog w = .ok true w := by
    have := run_equalIn_int (P := Try.prog) w 9998 3 .i64 .i64 k k under_int
    simpa using this
  simp [eqF, Sem.run_bind, gpart_k, gpart_p, gpart_q, gpart_g, eqd_same, hn]
end
theorem eq_group0 (w : World) : (Op.equalIn 10000 28 (.agg (groupA 0 0 0 0)) (.agg #[Value.int .i64 0, .int .u32 0, .int .u32 0, .int .u32 0, .int .u32 0, .int .u32 0, .int .u32 0, .int .u32 0, .int .u32 0, .int .u32 0, .int .u32 0, .int .u32 0, .int .u32 0, .int .u32 0, .int .u32 0, .int .u32 0, .int .u32 0, .int .u32 0, .int .u32 0, .int .u32 0, .int .u32 0, .int .u32 0, .int .u32 0, .int .u32 0, .int .u32 0])).run Try.prog w = .ok true w := by
  rw [← groupA_zero]; exact eq_group 0 0 0 0 w
set_option maxRecDepth 100000 in
set_option maxHeartbeats 2000000 in
theorem rsmall_any (a : Nat) (ha : a < 4294967296) (w : World) :
    Calls Try.prog 17 #[numV a] w fun e w' => e = .returned (.int .i64 (a : Int)) ∧ Below w.heap.size w w' := by
  have g0 := Num.new w 26 a
  have c0 := g0.cell (k := 0) (by omega)
  have c1 := g0.cell (k := 1) (by omega)
  rw [digI_zero a ha] at c0
  rw [digI_small a 1 (by omega) ha] at c1
  have hor : bits BinOp.or IntKind.i64 (a : Int) 0 = (a : Int) := by
    have := (bits_nat .i64 63 (by decide) (fun n h0 h1 => by rw [IntKind.wrap_i64]; omega) a 0 (by omega) (by decide)).2
    simpa using this
  obtain ⟨A, hA⟩ : ∃ A : Int, Hid ((a : Int) = A) := ⟨_, hid rfl⟩
  have a0 : 0 ≤ A := by rw [← hA.out]; omega
  have a1 : A < 4294967296 := by rw [← hA.out]; omega
  rw [hA.out] at c0 hor
  rw [hA.out]
  go_enter Try.func17, Try.ntmps17
  go_wp2
  go_ret
  exact ⟨rfl, (Below.refl _ _).alloc (Nat.le_refl _) _⟩
end Go.Proofs.Ytgccbfkofkohpaa
