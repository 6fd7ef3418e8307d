/- What a slice reads, when another block was written. -/
import Derived.Test.YtcfobgimpflneaaGaKn
namespace Go.Proofs.Ytcfobgimpflneaa
set_option linter.unusedVariables false
set_option linter.unusedSimpArgs false
theorem RdI.far {W w w' : World} {A : Option Addr} {n g : Nat} {x : Nat → Int} (h0 : RdI W A n x) (h : RdI w A n x) (hg : w.grownBy w' (some g)) (hl : W.heap.size ≤ g) : RdI w' A n x :=
  ⟨h.1, h.2.1, fun hn => by
    obtain ⟨b, o, e, h1, h2⟩ := h.2.2 hn
    obtain ⟨b', o', e', h1', -⟩ := h0.2.2 hn
    rw [e] at e'
    have hb : b = b' := by
      injection e' with e'
      injection e'
    subst hb
    refine ⟨b, o, e, Nat.lt_of_lt_of_le h1 hg.size, fun k hk => ?_⟩
    rw [← h2 k hk]
    have := hg.block b h1 (fun h => by injection h with h; omega)
    simp [World.cell?, this]⟩
end Go.Proofs.Ytcfobgimpflneaa
