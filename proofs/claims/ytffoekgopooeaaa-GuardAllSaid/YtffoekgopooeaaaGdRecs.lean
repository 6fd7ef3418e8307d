/- refwire.Records, at records without bytes. -/
import Derived.Test.YtffoekgopooeaaaGdReg
namespace Go.Proofs.Ytffoekgopooeaaa
set_option linter.unusedVariables false
set_option linter.unusedSimpArgs false
open Go.ChangeShapes Go.WideShapes Go.ChangeAt Go.RowKit Go.Shelf
theorem hop_skipU {a : Act} {w : World} {o : Oper} {F : World → Value → Prop} {ops : Array Oper} {g : Nat} {b : Bool} {og : Oper} {d : Tmp} (hg : o.guard = some (g, b)) (ho : ops[g]? = some og) (hd : og.dst = some d) (hv' : a.eval (.tmp d) = undef) (hF : F w undef) {X : Prop} :
    if Region.wanted o (yielded ops a.tmps) = true then X else F w undef := by
  have h1 : ∀ b, a.tmps[d]? ≠ some (.bool b) := fun b h2 => by
    simp only [Act.eval, Array.getD_eq_getD_getElem?, h2] at hv'
    cases hv'
  have : Region.wanted o (yielded ops a.tmps) = false := by
    simp only [Region.wanted, hg, yielded, ho, hd, Option.bind_some]
    cases h2 : a.tmps[d]? with
    | none => rfl
    | some u => cases u with
      | bool b => exact absurd h2 (h1 b)
      | _ => rfl
  rw [this, if_neg (by simp)]
  exact hF
abbrev Z8 : Array Value := #[.int .u32 0, .int .u32 0, .int .u32 0, .int .u32 0, .int .u32 0, .int .u32 0, .int .u32 0, .int .u32 0]
theorem eqz_same (w : World) : (Op.equalIn 10000 26 (.agg #[.int .u32 0, .int .u32 0, .int .u32 0, .int .u32 0, .int .u32 0, .int .u32 0, .int .u32 0, .int .u32 0]) (.agg #[.int .u32 0, .int .u32 0, .int .u32 0, .int .u32 0, .int .u32 0, .int .u32 0, .int .u32 0, .int .u32 0])).run Try.prog w = .ok true w := by
  rw [Op.equalIn]
  simp only [Sem.run_bind, run_underlying Try.underlying26, Result.andThen_ok, sizeOf_u32]
  simp only [Std.Legacy.Range.forIn_eq_forIn_range', Std.Legacy.Range.size, List.range']
  simp [part, isAgg_u32, eq_u32]
theorem rec_newB {o : Oper} {a : Act} {w : World} (ho : o.op = .alloc 28) : (execOp a.eval o).run Try.prog w = .ok (.value (.pointer (some ⟨w.heap.size, 0, none⟩))) (w.alloc (.cells #[.int .i64 0, .string ⟨#[]⟩, .slice none 0 0, .int .u32 0, .int .u32 0, .int .u32 0, .int .u32 0, .int .u32 0, .int .u32 0, .int .u32 0, .int .u32 0, .int .u32 0, .int .u32 0, .int .u32 0, .int .u32 0, .int .u32 0, .int .u32 0, .int .u32 0, .int .u32 0, .slice none 0 0, .int .i64 0, .int .i64 0, .int .i64 0] 28)) := by
  unfold execOp
  simp only [ho]
  kernel_rfl
set_option maxRecDepth 100000 in
set_option maxHeartbeats 16000000 in
theorem rec_same (p : Int) (s : ByteArray) (n a r : Int) (w : World) :
    Calls Try.prog 23 #[.agg (recA p s n a r), .agg (recA p s n a r)] w fun e w' => e = .returned (.bool true) ∧ Below w.heap.size w w' := by
  have en := fun w : World => eqz_same w
  have cv := fun w : World => run_string_bytes w none [] 0 0 rfl (fun h => absurd h (by decide))
  unfold recA
  go_enter Try.func23, Try.ntmps23
  go_wp2_with fail
  go_ret
  exact ⟨rfl, step_trans (step_alloc _ _) (step_alloc _ _)⟩
end Go.Proofs.Ytffoekgopooeaaa
