/-
  No cell of these rows narrows 'for every input' (looked for: loops, veiled, ifaces, maps, wideKeys, modest, calm, conditions, laid).
  DERIVED. THE GIVEN ROWS OF THIS SEAT. 6 by the template 'for every input the law returns true; each argument reads behind the call as it read before'; 0 by the template 'total and deterministic' (their statements: YtcfepoopkfhojaaGreatTotals.lean).
  GIVEN WITH THE SEED: the statements are not yours to turn. If you find one false, say at which input.
  Laid BY PROGRAM, IN A SANDBOX (cutbox-rows.mjs): the forced cells as the released guide's own fill.sh prints them over the translation e5b0bae14ca97bed… (all of the seat's roots in one cut). By AI agents, Wed Nov 11 2026. No macro, syntax, notation, axiom, sorry.
-/
import Derived.Test.YtcfepoopkfhojaaGreatChecked
import GoSem.Claim
import GoSem.ClaimJoined
import GoSem.ClaimMapViews
import Derived.JoinedTies
import Derived.KernelRfl
namespace Go.Proofs.YtcfepoopkfhojaaGreat
/- THE CELL 'sum', in the pinned program and in every row, IS THE sha256 OF THE DUMP (.gsa) THAT YtcfepoopkfhojaaGreatProg.lean LOADS. Nothing in Lean hashes anything: it is a label: what it is worth is what the hold of that sum in a sandbox is worth. -/
noncomputable def Tryz.pinned : Pinned := { name := "ytcfepoopkfhojaagreat", sum := "e5b0bae14ca97bed6999c1499dae731fbfaec19293326e77327d95f984867cd2", checked := Tryz.checked }
namespace Rows
def none {H : Type} : Left H := { results := [], args := [] }

/-- 'sentinellaw7.SrpKeys': WHATEVER THE INPUT: true; the input reads as it did. -/
def srpKeysSpec : ChangeSpec := { name := "srpKeys", fn := fun _ => fun
  | [d1, d2, d3, d4, d5, d6] => { results := [.lit (.bool true)], args := [d1, d2, d3, d4, d5, d6] }
  | _ => none }
def srpKeysRow : OpenClaim := { program := "ytcfepoopkfhojaagreat", sum := "e5b0bae14ca97bed6999c1499dae731fbfaec19293326e77327d95f984867cd2", func := "sentinel/sentinellaw7.SrpKeys", spec := "srpKeys", unfollowed := true, recurses := true, apart := false }
def SrpKeysSaid : Prop := srpKeysRow.holds Tryz.pinned (OpenSpec.ofChange srpKeysSpec)

/-- ITS FALSE NEIGHBOUR: 'it returns false'. Refute it at one input. -/
def srpKeysWrong : ChangeSpec := { name := "srpKeys", fn := fun _ => fun
  | [d1, d2, d3, d4, d5, d6] => { results := [.lit (.bool false)], args := [d1, d2, d3, d4, d5, d6] }
  | _ => none }
def SrpKeysWrongFalsely : Prop := srpKeysRow.holds Tryz.pinned (OpenSpec.ofChange srpKeysWrong)

/-- 'sentinellaw7.SrpProofs': WHATEVER THE INPUT: true; the input reads as it did. -/
def srpProofsSpec : ChangeSpec := { name := "srpProofs", fn := fun _ => fun
  | [d1, d2, d3, d4, d5, d6, d7, d8, d9] => { results := [.lit (.bool true)], args := [d1, d2, d3, d4, d5, d6, d7, d8, d9] }
  | _ => none }
def srpProofsRow : OpenClaim := { program := "ytcfepoopkfhojaagreat", sum := "e5b0bae14ca97bed6999c1499dae731fbfaec19293326e77327d95f984867cd2", func := "sentinel/sentinellaw7.SrpProofs", spec := "srpProofs", unfollowed := true, recurses := true, apart := false }
def SrpProofsSaid : Prop := srpProofsRow.holds Tryz.pinned (OpenSpec.ofChange srpProofsSpec)

/-- ITS FALSE NEIGHBOUR: 'it returns false'. Refute it at one input. -/
def srpProofsWrong : ChangeSpec := { name := "srpProofs", fn := fun _ => fun
  | [d1, d2, d3, d4, d5, d6, d7, d8, d9] => { results := [.lit (.bool false)], args := [d1, d2, d3, d4, d5, d6, d7, d8, d9] }
  | _ => none }
def SrpProofsWrongFalsely : Prop := srpProofsRow.holds Tryz.pinned (OpenSpec.ofChange srpProofsWrong)

/-- 'sentinellaw7.SrpWrong': WHATEVER THE INPUT: true; the input reads as it did. -/
def srpWrongSpec : ChangeSpec := { name := "srpWrong", fn := fun _ => fun
  | [d1, d2, d3, d4, d5] => { results := [.lit (.bool true)], args := [d1, d2, d3, d4, d5] }
  | _ => none }
def srpWrongRow : OpenClaim := { program := "ytcfepoopkfhojaagreat", sum := "e5b0bae14ca97bed6999c1499dae731fbfaec19293326e77327d95f984867cd2", func := "sentinel/sentinellaw7.SrpWrong", spec := "srpWrong", unfollowed := true, recurses := true, apart := false }
def SrpWrongSaid : Prop := srpWrongRow.holds Tryz.pinned (OpenSpec.ofChange srpWrongSpec)

/-- ITS FALSE NEIGHBOUR: 'it returns false'. Refute it at one input. -/
def srpWrongWrong : ChangeSpec := { name := "srpWrong", fn := fun _ => fun
  | [d1, d2, d3, d4, d5] => { results := [.lit (.bool false)], args := [d1, d2, d3, d4, d5] }
  | _ => none }
def SrpWrongWrongFalsely : Prop := srpWrongRow.holds Tryz.pinned (OpenSpec.ofChange srpWrongWrong)

/-- 'sentinellaw7.SrpSecrets': WHATEVER THE INPUT: true; the input reads as it did. -/
def srpSecretsSpec : ChangeSpec := { name := "srpSecrets", fn := fun _ => fun
  | [d1, d2, d3, d4, d5] => { results := [.lit (.bool true)], args := [d1, d2, d3, d4, d5] }
  | _ => none }
def srpSecretsRow : OpenClaim := { program := "ytcfepoopkfhojaagreat", sum := "e5b0bae14ca97bed6999c1499dae731fbfaec19293326e77327d95f984867cd2", func := "sentinel/sentinellaw7.SrpSecrets", spec := "srpSecrets", unfollowed := true, recurses := true, apart := false }
def SrpSecretsSaid : Prop := srpSecretsRow.holds Tryz.pinned (OpenSpec.ofChange srpSecretsSpec)

/-- ITS FALSE NEIGHBOUR: 'it returns false'. Refute it at one input. -/
def srpSecretsWrong : ChangeSpec := { name := "srpSecrets", fn := fun _ => fun
  | [d1, d2, d3, d4, d5] => { results := [.lit (.bool false)], args := [d1, d2, d3, d4, d5] }
  | _ => none }
def SrpSecretsWrongFalsely : Prop := srpSecretsRow.holds Tryz.pinned (OpenSpec.ofChange srpSecretsWrong)

/-- 'sentinellaw7.SrpNames': WHATEVER THE INPUT: true; the input reads as it did. -/
def srpNamesSpec : ChangeSpec := { name := "srpNames", fn := fun _ => fun
  | [d1, d2, d3, d4, d5, d6] => { results := [.lit (.bool true)], args := [d1, d2, d3, d4, d5, d6] }
  | _ => none }
def srpNamesRow : OpenClaim := { program := "ytcfepoopkfhojaagreat", sum := "e5b0bae14ca97bed6999c1499dae731fbfaec19293326e77327d95f984867cd2", func := "sentinel/sentinellaw7.SrpNames", spec := "srpNames", unfollowed := true, recurses := true, apart := false }
def SrpNamesSaid : Prop := srpNamesRow.holds Tryz.pinned (OpenSpec.ofChange srpNamesSpec)

/-- ITS FALSE NEIGHBOUR: 'it returns false'. Refute it at one input. -/
def srpNamesWrong : ChangeSpec := { name := "srpNames", fn := fun _ => fun
  | [d1, d2, d3, d4, d5, d6] => { results := [.lit (.bool false)], args := [d1, d2, d3, d4, d5, d6] }
  | _ => none }
def SrpNamesWrongFalsely : Prop := srpNamesRow.holds Tryz.pinned (OpenSpec.ofChange srpNamesWrong)

/-- 'sentinellaw7.SrpRuns': WHATEVER THE INPUT: true; the input reads as it did. -/
def srpRunsSpec : ChangeSpec := { name := "srpRuns", fn := fun _ => fun
  | [d1, d2, d3, d4] => { results := [.lit (.bool true)], args := [d1, d2, d3, d4] }
  | _ => none }
def srpRunsRow : OpenClaim := { program := "ytcfepoopkfhojaagreat", sum := "e5b0bae14ca97bed6999c1499dae731fbfaec19293326e77327d95f984867cd2", func := "sentinel/sentinellaw7.SrpRuns", spec := "srpRuns", unfollowed := true, recurses := true, apart := false }
def SrpRunsSaid : Prop := srpRunsRow.holds Tryz.pinned (OpenSpec.ofChange srpRunsSpec)

/-- ITS FALSE NEIGHBOUR: 'it returns false'. Refute it at one input. -/
def srpRunsWrong : ChangeSpec := { name := "srpRuns", fn := fun _ => fun
  | [d1, d2, d3, d4] => { results := [.lit (.bool false)], args := [d1, d2, d3, d4] }
  | _ => none }
def SrpRunsWrongFalsely : Prop := srpRunsRow.holds Tryz.pinned (OpenSpec.ofChange srpRunsWrong)

/- THE SECOND FORM. 'bulk': how many values and letters a reading holds, each counted each time it is reached (what is shared counts as often as it is met; a slice's spare places count too). A statement '..UptoSaid' is the law's where the arguments, and the package variables that the reading takes, are together of bulk at most 1048576: NARROWER than '..Said'. Prove '..Said' where nothing that the law and all that it calls make is longer than what came in: it says more and counts as full. Else prove '..UptoSaid'. A law counts once. -/
mutual
def uptoBulk {H : Type} : DataW H → Nat
  | .lit (.string bytes) => bytes.length + 1
  | .lit _ => 1
  | .nil => 1
  | .ptr d => uptoBulk d + 1
  | .slice elems spare => uptoBulkAll elems + uptoBulkAll spare + 1
  | .agg parts => uptoBulkAll parts + 1
  | .iface _ d => uptoBulk d + 1
  | .map entries => uptoBulkEntries entries + 1
  | .held _ => 1
def uptoBulkAll {H : Type} : List (DataW H) → Nat
  | [] => 0
  | d :: r => uptoBulk d + uptoBulkAll r
def uptoBulkEntries {H : Type} : List (Lit × DataW H) → Nat
  | [] => 0
  | x :: r => uptoBulkEntry x + uptoBulkEntries r
def uptoBulkEntry {H : Type} : Lit × DataW H → Nat
  | (.string bytes, d) => bytes.length + uptoBulk d + 1
  | (_, d) => uptoBulk d + 1
 end
def uptoSmall : (H : Type) → List (DataW H) → Bool := fun _ ds => decide (uptoBulkAll ds ≤ 1048576)
def OpenSpec.upto (s : _root_.Go.ChangeSpec) : _root_.Go.OpenSpec := { _root_.Go.OpenSpec.ofChange s with cond := some uptoSmall }

/-- 'sentinellaw7.SrpKeys', WHERE WHAT IT READS IS OF BULK AT MOST 1048576: true; the input reads as it did. -/
def srpKeysUptoRow : OpenClaim := { program := "ytcfepoopkfhojaagreat", sum := "e5b0bae14ca97bed6999c1499dae731fbfaec19293326e77327d95f984867cd2", func := "sentinel/sentinellaw7.SrpKeys", spec := "srpKeys", unfollowed := true, recurses := true, apart := false, narrowed := true }
def SrpKeysUptoSaid : Prop := srpKeysUptoRow.holds Tryz.pinned (OpenSpec.upto srpKeysSpec)

/-- 'sentinellaw7.SrpProofs', WHERE WHAT IT READS IS OF BULK AT MOST 1048576: true; the input reads as it did. -/
def srpProofsUptoRow : OpenClaim := { program := "ytcfepoopkfhojaagreat", sum := "e5b0bae14ca97bed6999c1499dae731fbfaec19293326e77327d95f984867cd2", func := "sentinel/sentinellaw7.SrpProofs", spec := "srpProofs", unfollowed := true, recurses := true, apart := false, narrowed := true }
def SrpProofsUptoSaid : Prop := srpProofsUptoRow.holds Tryz.pinned (OpenSpec.upto srpProofsSpec)

/-- 'sentinellaw7.SrpWrong', WHERE WHAT IT READS IS OF BULK AT MOST 1048576: true; the input reads as it did. -/
def srpWrongUptoRow : OpenClaim := { program := "ytcfepoopkfhojaagreat", sum := "e5b0bae14ca97bed6999c1499dae731fbfaec19293326e77327d95f984867cd2", func := "sentinel/sentinellaw7.SrpWrong", spec := "srpWrong", unfollowed := true, recurses := true, apart := false, narrowed := true }
def SrpWrongUptoSaid : Prop := srpWrongUptoRow.holds Tryz.pinned (OpenSpec.upto srpWrongSpec)

/-- 'sentinellaw7.SrpSecrets', WHERE WHAT IT READS IS OF BULK AT MOST 1048576: true; the input reads as it did. -/
def srpSecretsUptoRow : OpenClaim := { program := "ytcfepoopkfhojaagreat", sum := "e5b0bae14ca97bed6999c1499dae731fbfaec19293326e77327d95f984867cd2", func := "sentinel/sentinellaw7.SrpSecrets", spec := "srpSecrets", unfollowed := true, recurses := true, apart := false, narrowed := true }
def SrpSecretsUptoSaid : Prop := srpSecretsUptoRow.holds Tryz.pinned (OpenSpec.upto srpSecretsSpec)

/-- 'sentinellaw7.SrpNames', WHERE WHAT IT READS IS OF BULK AT MOST 1048576: true; the input reads as it did. -/
def srpNamesUptoRow : OpenClaim := { program := "ytcfepoopkfhojaagreat", sum := "e5b0bae14ca97bed6999c1499dae731fbfaec19293326e77327d95f984867cd2", func := "sentinel/sentinellaw7.SrpNames", spec := "srpNames", unfollowed := true, recurses := true, apart := false, narrowed := true }
def SrpNamesUptoSaid : Prop := srpNamesUptoRow.holds Tryz.pinned (OpenSpec.upto srpNamesSpec)

/-- 'sentinellaw7.SrpRuns', WHERE WHAT IT READS IS OF BULK AT MOST 1048576: true; the input reads as it did. -/
def srpRunsUptoRow : OpenClaim := { program := "ytcfepoopkfhojaagreat", sum := "e5b0bae14ca97bed6999c1499dae731fbfaec19293326e77327d95f984867cd2", func := "sentinel/sentinellaw7.SrpRuns", spec := "srpRuns", unfollowed := true, recurses := true, apart := false, narrowed := true }
def SrpRunsUptoSaid : Prop := srpRunsUptoRow.holds Tryz.pinned (OpenSpec.upto srpRunsSpec)

end Rows
end Go.Proofs.YtcfepoopkfhojaaGreat
