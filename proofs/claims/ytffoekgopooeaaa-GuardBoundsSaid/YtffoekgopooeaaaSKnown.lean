/- sentinellaw3.known. -/
import Derived.Test.YtffoekgopooeaaaSRelK
import Derived.Lib.SmallJoins
namespace Go.Proofs.Ytffoekgopooeaaa
set_option linter.unusedVariables false
set_option linter.unusedSimpArgs false
open Go.ChangeShapes Go.WideShapes Go.ChangeAt Go.RowKit Go.Shelf

theorem isB_nil (w : World) : IsB w [] (.slice none 0 0) := ⟨none, 0, rfl, Nat.le_refl _, by unfold maxLen; omega, fun _ => rfl, fun h => absurd h (by simp)⟩
theorem rd_mark (zs : List UInt8) (t : TypeId) (fr : Nat × Nat) (w : World) : Rd (w.alloc (.cells (bvs zs) t fr)) (some ⟨w.heap.size, 0, none⟩) zs := fun hp => by
  have h3 := heap_alloc_new w (.cells (bvs zs) t fr)
  refine ⟨_, rfl, heap_lt h3, fun j b hj => ?_⟩
  rw [addr_add, Nat.zero_add]
  simp only [World.cell?, h3]
  simp [bvs, hj]
theorem feed_nil (s : W8) : feed s [] = (s, []) := feed_lt (by simp)
theorem raw_abc {G : W8} (hG : sumW (initW []) [97, 98, 99] = G) {w : World} {v : Value} (h : IsB w [97, 98, 99] v) : Calls Try.prog 57 #[.slice none 0 0, v] w fun e w' => ∃ v, e = .returned v ∧ Below w.heap.size w w' ∧ v = .agg (arr16 (outF G)) := by
  obtain ⟨A, c, rfl, h1, h2, h3, h4⟩ := h
  refine (rraw_any none [] 0 0 rfl (fun _ => rfl) (by omega) A [97, 98, 99] 3 c rfl h3 (by omega) w (fun h => absurd h (by simp)) h4).mono fun e w' h => ⟨_, h.1, h.2, ?_⟩
  rw [hG]
end Go.Proofs.Ytffoekgopooeaaa
