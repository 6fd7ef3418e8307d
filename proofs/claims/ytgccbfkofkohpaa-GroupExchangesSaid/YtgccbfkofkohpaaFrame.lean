/- From the reading of the arguments to what the walks ask. -/
import Derived.Test.YtgccbfkofkohpaaGaKn
import Derived.OpenShut
namespace Go.Proofs.Ytgccbfkofkohpaa
set_option linter.unusedVariables false
set_option maxRecDepth 20000
set_option linter.unusedSimpArgs false
open Go.ChangeShapes Go.WideShapes Go.ChangeAt Go.RowKit

theorem i64_bd {a : Int} (h : (Lit.int .i64 a).wf = true) : -9223372036854775808 ≤ a ∧ a < 9223372036854775808 := by
  have := bounds_i64 h
  omega
theorem block_of {x : Addr} {w : World} {v : Value} (h : w.cell? (x.add 0) = some v) : ∃ b o, x = ⟨b, o, none⟩ ∧ b < w.heap.size := by
  obtain ⟨b, o, s⟩ := x
  have h0 : (⟨b, o, s⟩ : Addr).add 0 = ⟨b, o, s⟩ := by simp [Addr.add]
  rw [h0] at h
  refine ⟨b, o, ?_, block_lt_of_cell h⟩
  cases s with
  | none => rfl
  | some t =>
    exfalso
    unfold World.cell? at h
    split at h <;> simp_all
theorem rdI_of {w : World} {a : Option Addr} {len cap : Nat} {zs : List Int} (h : (a = none ∧ len = 0 ∧ cap = 0 ∧ zs = []) ∨
    ∃ x, a = some x ∧ len ≤ cap ∧ cap ≤ maxLen ∧ zs.length = cap ∧ (∀ i, i < zs.length → w.cell? (x.add i) = some (.int .i64 (zs.getD i 0))) ∧ ∀ n ∈ zs, (Lit.int .i64 n).wf = true) :
    RdI w a len (fun k => zs.getD k 0) := by
  rcases h with ⟨rfl, rfl, rfl, rfl⟩ | ⟨x, rfl, hl, hm, hz, hc, hw⟩
  · exact ⟨by unfold maxLen; omega, fun k => by simp, fun h => absurd h (by omega)⟩
  · refine ⟨Nat.le_trans hl hm, fun k => ?_, fun h0 => ?_⟩
    · dsimp only
      by_cases hk : k < zs.length
      · have e : zs.getD k 0 = zs[k] := by simp [hk]
        rw [e]
        exact i64_bd (hw _ (List.getElem_mem hk))
      · have e : zs.getD k 0 = 0 := by simp [List.getD, List.getElem?_eq_none (by omega : zs.length ≤ k)]
        rw [e]; omega
    · obtain ⟨b, o, rfl, hb⟩ := block_of (hc 0 (by omega))
      refine ⟨b, o, rfl, hb, fun k hk => ?_⟩
      have := hc k (by omega)
      have e : (⟨b, o, none⟩ : Addr).add k = ⟨b, o + k, none⟩ := addr_add b o k
      rw [e] at this
      exact this
end Go.Proofs.Ytgccbfkofkohpaa
