/-
  No cell of these rows narrows 'for every input' (looked for: loops, veiled, ifaces, maps, wideKeys, modest, calm, conditions, laid).
  DERIVED. THE GIVEN ROWS OF THIS SEAT. 10 by the template 'for every input the law returns true; each argument reads behind the call as it read before'; 0 by the template 'total and deterministic' (their statements: YtgccbfkofkohpaaTotals.lean).
  GIVEN WITH THE SEED: the statements are not yours to turn. If you find one false, say at which input.
  Laid BY PROGRAM, IN A SANDBOX (cutbox-rows.mjs): the forced cells as the released guide's own fill.sh prints them over the translation 890b9d5d224deeae… (all of the seat's roots in one cut). By AI agents, Wed Nov 11 2026. No macro, syntax, notation, axiom, sorry.
-/
import Derived.Test.YtgccbfkofkohpaaChecked
import GoSem.Claim
import GoSem.ClaimJoined
import GoSem.ClaimMapViews
import Derived.JoinedTies
import Derived.KernelRfl
namespace Go.Proofs.Ytgccbfkofkohpaa
/- THE CELL 'sum', in the pinned program and in every row, IS THE sha256 OF THE DUMP (.gsa) THAT YtgccbfkofkohpaaProg.lean LOADS. Nothing in Lean hashes anything: it is a label: what it is worth is what the hold of that sum in a sandbox is worth. -/
noncomputable def Try.pinned : Pinned := { name := "ytgccbfkofkohpaa", sum := "890b9d5d224deeaebd5e074c88a6f5514842647d32f7d4f55d60f44b7cecfeb6", checked := Try.checked }
namespace Rows
def none {H : Type} : Left H := { results := [], args := [] }

/-- 'sentinellaw4.GroupMakes': WHATEVER THE INPUT: true; the input reads as it did. -/
def groupMakesSpec : ChangeSpec := { name := "groupMakes", fn := fun _ => fun
  | [d1, d2] => { results := [.lit (.bool true)], args := [d1, d2] }
  | _ => none }
def groupMakesRow : OpenClaim := { program := "ytgccbfkofkohpaa", sum := "890b9d5d224deeaebd5e074c88a6f5514842647d32f7d4f55d60f44b7cecfeb6", func := "sentinel/sentinellaw4.GroupMakes", spec := "groupMakes", unfollowed := true, recurses := true, apart := false }
def GroupMakesSaid : Prop := groupMakesRow.holds Try.pinned (OpenSpec.ofChange groupMakesSpec)

/-- ITS FALSE NEIGHBOUR: 'it returns false'. Refute it at one input. -/
def groupMakesWrong : ChangeSpec := { name := "groupMakes", fn := fun _ => fun
  | [d1, d2] => { results := [.lit (.bool false)], args := [d1, d2] }
  | _ => none }
def GroupMakesWrongFalsely : Prop := groupMakesRow.holds Try.pinned (OpenSpec.ofChange groupMakesWrong)

/-- 'sentinellaw4.GroupPrimes': WHATEVER THE INPUT: true; the input reads as it did. -/
def groupPrimesSpec : ChangeSpec := { name := "groupPrimes", fn := fun _ => fun
  | [d1, d2, d3, d4] => { results := [.lit (.bool true)], args := [d1, d2, d3, d4] }
  | _ => none }
def groupPrimesRow : OpenClaim := { program := "ytgccbfkofkohpaa", sum := "890b9d5d224deeaebd5e074c88a6f5514842647d32f7d4f55d60f44b7cecfeb6", func := "sentinel/sentinellaw4.GroupPrimes", spec := "groupPrimes", unfollowed := true, recurses := true, apart := false }
def GroupPrimesSaid : Prop := groupPrimesRow.holds Try.pinned (OpenSpec.ofChange groupPrimesSpec)

/-- ITS FALSE NEIGHBOUR: 'it returns false'. Refute it at one input. -/
def groupPrimesWrong : ChangeSpec := { name := "groupPrimes", fn := fun _ => fun
  | [d1, d2, d3, d4] => { results := [.lit (.bool false)], args := [d1, d2, d3, d4] }
  | _ => none }
def GroupPrimesWrongFalsely : Prop := groupPrimesRow.holds Try.pinned (OpenSpec.ofChange groupPrimesWrong)

/-- 'sentinellaw4.GroupPowers': WHATEVER THE INPUT: true; the input reads as it did. -/
def groupPowersSpec : ChangeSpec := { name := "groupPowers", fn := fun _ => fun
  | [d1, d2, d3, d4, d5] => { results := [.lit (.bool true)], args := [d1, d2, d3, d4, d5] }
  | _ => none }
def groupPowersRow : OpenClaim := { program := "ytgccbfkofkohpaa", sum := "890b9d5d224deeaebd5e074c88a6f5514842647d32f7d4f55d60f44b7cecfeb6", func := "sentinel/sentinellaw4.GroupPowers", spec := "groupPowers", unfollowed := true, recurses := true, apart := false }
def GroupPowersSaid : Prop := groupPowersRow.holds Try.pinned (OpenSpec.ofChange groupPowersSpec)

/-- ITS FALSE NEIGHBOUR: 'it returns false'. Refute it at one input. -/
def groupPowersWrong : ChangeSpec := { name := "groupPowers", fn := fun _ => fun
  | [d1, d2, d3, d4, d5] => { results := [.lit (.bool false)], args := [d1, d2, d3, d4, d5] }
  | _ => none }
def GroupPowersWrongFalsely : Prop := groupPowersRow.holds Try.pinned (OpenSpec.ofChange groupPowersWrong)

/-- 'sentinellaw4.GroupExponents': WHATEVER THE INPUT: true; the input reads as it did. -/
def groupExponentsSpec : ChangeSpec := { name := "groupExponents", fn := fun _ => fun
  | [d1, d2, d3] => { results := [.lit (.bool true)], args := [d1, d2, d3] }
  | _ => none }
def groupExponentsRow : OpenClaim := { program := "ytgccbfkofkohpaa", sum := "890b9d5d224deeaebd5e074c88a6f5514842647d32f7d4f55d60f44b7cecfeb6", func := "sentinel/sentinellaw4.GroupExponents", spec := "groupExponents", unfollowed := true, recurses := true, apart := false }
def GroupExponentsSaid : Prop := groupExponentsRow.holds Try.pinned (OpenSpec.ofChange groupExponentsSpec)

/-- ITS FALSE NEIGHBOUR: 'it returns false'. Refute it at one input. -/
def groupExponentsWrong : ChangeSpec := { name := "groupExponents", fn := fun _ => fun
  | [d1, d2, d3] => { results := [.lit (.bool false)], args := [d1, d2, d3] }
  | _ => none }
def GroupExponentsWrongFalsely : Prop := groupExponentsRow.holds Try.pinned (OpenSpec.ofChange groupExponentsWrong)

/-- 'sentinellaw4.GroupBlinds': WHATEVER THE INPUT: true; the input reads as it did. -/
def groupBlindsSpec : ChangeSpec := { name := "groupBlinds", fn := fun _ => fun
  | [d1, d2, d3, d4, d5, d6] => { results := [.lit (.bool true)], args := [d1, d2, d3, d4, d5, d6] }
  | _ => none }
def groupBlindsRow : OpenClaim := { program := "ytgccbfkofkohpaa", sum := "890b9d5d224deeaebd5e074c88a6f5514842647d32f7d4f55d60f44b7cecfeb6", func := "sentinel/sentinellaw4.GroupBlinds", spec := "groupBlinds", unfollowed := true, recurses := true, apart := false }
def GroupBlindsSaid : Prop := groupBlindsRow.holds Try.pinned (OpenSpec.ofChange groupBlindsSpec)

/-- ITS FALSE NEIGHBOUR: 'it returns false'. Refute it at one input. -/
def groupBlindsWrong : ChangeSpec := { name := "groupBlinds", fn := fun _ => fun
  | [d1, d2, d3, d4, d5, d6] => { results := [.lit (.bool false)], args := [d1, d2, d3, d4, d5, d6] }
  | _ => none }
def GroupBlindsWrongFalsely : Prop := groupBlindsRow.holds Try.pinned (OpenSpec.ofChange groupBlindsWrong)

/-- 'sentinellaw4.GroupCloses': WHATEVER THE INPUT: true; the input reads as it did. -/
def groupClosesSpec : ChangeSpec := { name := "groupCloses", fn := fun _ => fun
  | [d1, d2, d3, d4] => { results := [.lit (.bool true)], args := [d1, d2, d3, d4] }
  | _ => none }
def groupClosesRow : OpenClaim := { program := "ytgccbfkofkohpaa", sum := "890b9d5d224deeaebd5e074c88a6f5514842647d32f7d4f55d60f44b7cecfeb6", func := "sentinel/sentinellaw4.GroupCloses", spec := "groupCloses", unfollowed := true, recurses := true, apart := false }
def GroupClosesSaid : Prop := groupClosesRow.holds Try.pinned (OpenSpec.ofChange groupClosesSpec)

/-- ITS FALSE NEIGHBOUR: 'it returns false'. Refute it at one input. -/
def groupClosesWrong : ChangeSpec := { name := "groupCloses", fn := fun _ => fun
  | [d1, d2, d3, d4] => { results := [.lit (.bool false)], args := [d1, d2, d3, d4] }
  | _ => none }
def GroupClosesWrongFalsely : Prop := groupClosesRow.holds Try.pinned (OpenSpec.ofChange groupClosesWrong)

/-- 'sentinellaw4.GroupExchanges': WHATEVER THE INPUT: true; the input reads as it did. -/
def groupExchangesSpec : ChangeSpec := { name := "groupExchanges", fn := fun _ => fun
  | [d1, d2, d3, d4] => { results := [.lit (.bool true)], args := [d1, d2, d3, d4] }
  | _ => none }
def groupExchangesRow : OpenClaim := { program := "ytgccbfkofkohpaa", sum := "890b9d5d224deeaebd5e074c88a6f5514842647d32f7d4f55d60f44b7cecfeb6", func := "sentinel/sentinellaw4.GroupExchanges", spec := "groupExchanges", unfollowed := true, recurses := true, apart := false }
def GroupExchangesSaid : Prop := groupExchangesRow.holds Try.pinned (OpenSpec.ofChange groupExchangesSpec)

/-- ITS FALSE NEIGHBOUR: 'it returns false'. Refute it at one input. -/
def groupExchangesWrong : ChangeSpec := { name := "groupExchanges", fn := fun _ => fun
  | [d1, d2, d3, d4] => { results := [.lit (.bool false)], args := [d1, d2, d3, d4] }
  | _ => none }
def GroupExchangesWrongFalsely : Prop := groupExchangesRow.holds Try.pinned (OpenSpec.ofChange groupExchangesWrong)

/-- 'sentinellaw4.GroupOuts': WHATEVER THE INPUT: true; the input reads as it did. -/
def groupOutsSpec : ChangeSpec := { name := "groupOuts", fn := fun _ => fun
  | [d1, d2, d3, d4] => { results := [.lit (.bool true)], args := [d1, d2, d3, d4] }
  | _ => none }
def groupOutsRow : OpenClaim := { program := "ytgccbfkofkohpaa", sum := "890b9d5d224deeaebd5e074c88a6f5514842647d32f7d4f55d60f44b7cecfeb6", func := "sentinel/sentinellaw4.GroupOuts", spec := "groupOuts", unfollowed := true, recurses := true, apart := false }
def GroupOutsSaid : Prop := groupOutsRow.holds Try.pinned (OpenSpec.ofChange groupOutsSpec)

/-- ITS FALSE NEIGHBOUR: 'it returns false'. Refute it at one input. -/
def groupOutsWrong : ChangeSpec := { name := "groupOuts", fn := fun _ => fun
  | [d1, d2, d3, d4] => { results := [.lit (.bool false)], args := [d1, d2, d3, d4] }
  | _ => none }
def GroupOutsWrongFalsely : Prop := groupOutsRow.holds Try.pinned (OpenSpec.ofChange groupOutsWrong)

/-- 'sentinellaw4.GroupPowersOf': WHATEVER THE INPUT: true; the input reads as it did. -/
def groupPowersOfSpec : ChangeSpec := { name := "groupPowersOf", fn := fun _ => fun
  | [d1, d2, d3, d4, d5] => { results := [.lit (.bool true)], args := [d1, d2, d3, d4, d5] }
  | _ => none }
def groupPowersOfRow : OpenClaim := { program := "ytgccbfkofkohpaa", sum := "890b9d5d224deeaebd5e074c88a6f5514842647d32f7d4f55d60f44b7cecfeb6", func := "sentinel/sentinellaw4.GroupPowersOf", spec := "groupPowersOf", unfollowed := true, recurses := true, apart := false }
def GroupPowersOfSaid : Prop := groupPowersOfRow.holds Try.pinned (OpenSpec.ofChange groupPowersOfSpec)

/-- ITS FALSE NEIGHBOUR: 'it returns false'. Refute it at one input. -/
def groupPowersOfWrong : ChangeSpec := { name := "groupPowersOf", fn := fun _ => fun
  | [d1, d2, d3, d4, d5] => { results := [.lit (.bool false)], args := [d1, d2, d3, d4, d5] }
  | _ => none }
def GroupPowersOfWrongFalsely : Prop := groupPowersOfRow.holds Try.pinned (OpenSpec.ofChange groupPowersOfWrong)

/-- 'sentinellaw4.GroupNumbers': WHATEVER THE INPUT: true; the input reads as it did. -/
def groupNumbersSpec : ChangeSpec := { name := "groupNumbers", fn := fun _ => fun
  | [d1, d2] => { results := [.lit (.bool true)], args := [d1, d2] }
  | _ => none }
def groupNumbersRow : OpenClaim := { program := "ytgccbfkofkohpaa", sum := "890b9d5d224deeaebd5e074c88a6f5514842647d32f7d4f55d60f44b7cecfeb6", func := "sentinel/sentinellaw4.GroupNumbers", spec := "groupNumbers", unfollowed := true, recurses := true, apart := false }
def GroupNumbersSaid : Prop := groupNumbersRow.holds Try.pinned (OpenSpec.ofChange groupNumbersSpec)

/-- ITS FALSE NEIGHBOUR: 'it returns false'. Refute it at one input. -/
def groupNumbersWrong : ChangeSpec := { name := "groupNumbers", fn := fun _ => fun
  | [d1, d2] => { results := [.lit (.bool false)], args := [d1, d2] }
  | _ => none }
def GroupNumbersWrongFalsely : Prop := groupNumbersRow.holds Try.pinned (OpenSpec.ofChange groupNumbersWrong)

/- THE SECOND FORM. 'bulk': how many values and letters a reading holds, each counted each time it is reached (what is shared counts as often as it is met; a slice's spare places count too). A statement '..UptoSaid' is the law's where the arguments, and the package variables that the reading takes, are together of bulk at most 1048576: NARROWER than '..Said'. Prove '..Said' where nothing that the law and all that it calls make is longer than what came in: it says more and counts as full. Else prove '..UptoSaid'. A law counts once. -/
mutual
def uptoBulk {H : Type} : DataW H → Nat
  | .lit (.string bytes) => bytes.length + 1
  | .lit _ => 1
  | .nil => 1
  | .ptr d => uptoBulk d + 1
  | .slice elems spare => uptoBulkAll elems + uptoBulkAll spare + 1
  | .agg parts => uptoBulkAll parts + 1
  | .iface _ d => uptoBulk d + 1
  | .map entries => uptoBulkEntries entries + 1
  | .held _ => 1
def uptoBulkAll {H : Type} : List (DataW H) → Nat
  | [] => 0
  | d :: r => uptoBulk d + uptoBulkAll r
def uptoBulkEntries {H : Type} : List (Lit × DataW H) → Nat
  | [] => 0
  | x :: r => uptoBulkEntry x + uptoBulkEntries r
def uptoBulkEntry {H : Type} : Lit × DataW H → Nat
  | (.string bytes, d) => bytes.length + uptoBulk d + 1
  | (_, d) => uptoBulk d + 1
 end
def uptoSmall : (H : Type) → List (DataW H) → Bool := fun _ ds => decide (uptoBulkAll ds ≤ 1048576)
def OpenSpec.upto (s : _root_.Go.ChangeSpec) : _root_.Go.OpenSpec := { _root_.Go.OpenSpec.ofChange s with cond := some uptoSmall }

/-- 'sentinellaw4.GroupMakes', WHERE WHAT IT READS IS OF BULK AT MOST 1048576: true; the input reads as it did. -/
def groupMakesUptoRow : OpenClaim := { program := "ytgccbfkofkohpaa", sum := "890b9d5d224deeaebd5e074c88a6f5514842647d32f7d4f55d60f44b7cecfeb6", func := "sentinel/sentinellaw4.GroupMakes", spec := "groupMakes", unfollowed := true, recurses := true, apart := false, narrowed := true }
def GroupMakesUptoSaid : Prop := groupMakesUptoRow.holds Try.pinned (OpenSpec.upto groupMakesSpec)

/-- 'sentinellaw4.GroupPrimes', WHERE WHAT IT READS IS OF BULK AT MOST 1048576: true; the input reads as it did. -/
def groupPrimesUptoRow : OpenClaim := { program := "ytgccbfkofkohpaa", sum := "890b9d5d224deeaebd5e074c88a6f5514842647d32f7d4f55d60f44b7cecfeb6", func := "sentinel/sentinellaw4.GroupPrimes", spec := "groupPrimes", unfollowed := true, recurses := true, apart := false, narrowed := true }
def GroupPrimesUptoSaid : Prop := groupPrimesUptoRow.holds Try.pinned (OpenSpec.upto groupPrimesSpec)

/-- 'sentinellaw4.GroupPowers', WHERE WHAT IT READS IS OF BULK AT MOST 1048576: true; the input reads as it did. -/
def groupPowersUptoRow : OpenClaim := { program := "ytgccbfkofkohpaa", sum := "890b9d5d224deeaebd5e074c88a6f5514842647d32f7d4f55d60f44b7cecfeb6", func := "sentinel/sentinellaw4.GroupPowers", spec := "groupPowers", unfollowed := true, recurses := true, apart := false, narrowed := true }
def GroupPowersUptoSaid : Prop := groupPowersUptoRow.holds Try.pinned (OpenSpec.upto groupPowersSpec)

/-- 'sentinellaw4.GroupExponents', WHERE WHAT IT READS IS OF BULK AT MOST 1048576: true; the input reads as it did. -/
def groupExponentsUptoRow : OpenClaim := { program := "ytgccbfkofkohpaa", sum := "890b9d5d224deeaebd5e074c88a6f5514842647d32f7d4f55d60f44b7cecfeb6", func := "sentinel/sentinellaw4.GroupExponents", spec := "groupExponents", unfollowed := true, recurses := true, apart := false, narrowed := true }
def GroupExponentsUptoSaid : Prop := groupExponentsUptoRow.holds Try.pinned (OpenSpec.upto groupExponentsSpec)

/-- 'sentinellaw4.GroupBlinds', WHERE WHAT IT READS IS OF BULK AT MOST 1048576: true; the input reads as it did. -/
def groupBlindsUptoRow : OpenClaim := { program := "ytgccbfkofkohpaa", sum := "890b9d5d224deeaebd5e074c88a6f5514842647d32f7d4f55d60f44b7cecfeb6", func := "sentinel/sentinellaw4.GroupBlinds", spec := "groupBlinds", unfollowed := true, recurses := true, apart := false, narrowed := true }
def GroupBlindsUptoSaid : Prop := groupBlindsUptoRow.holds Try.pinned (OpenSpec.upto groupBlindsSpec)

/-- 'sentinellaw4.GroupCloses', WHERE WHAT IT READS IS OF BULK AT MOST 1048576: true; the input reads as it did. -/
def groupClosesUptoRow : OpenClaim := { program := "ytgccbfkofkohpaa", sum := "890b9d5d224deeaebd5e074c88a6f5514842647d32f7d4f55d60f44b7cecfeb6", func := "sentinel/sentinellaw4.GroupCloses", spec := "groupCloses", unfollowed := true, recurses := true, apart := false, narrowed := true }
def GroupClosesUptoSaid : Prop := groupClosesUptoRow.holds Try.pinned (OpenSpec.upto groupClosesSpec)

/-- 'sentinellaw4.GroupExchanges', WHERE WHAT IT READS IS OF BULK AT MOST 1048576: true; the input reads as it did. -/
def groupExchangesUptoRow : OpenClaim := { program := "ytgccbfkofkohpaa", sum := "890b9d5d224deeaebd5e074c88a6f5514842647d32f7d4f55d60f44b7cecfeb6", func := "sentinel/sentinellaw4.GroupExchanges", spec := "groupExchanges", unfollowed := true, recurses := true, apart := false, narrowed := true }
def GroupExchangesUptoSaid : Prop := groupExchangesUptoRow.holds Try.pinned (OpenSpec.upto groupExchangesSpec)

/-- 'sentinellaw4.GroupOuts', WHERE WHAT IT READS IS OF BULK AT MOST 1048576: true; the input reads as it did. -/
def groupOutsUptoRow : OpenClaim := { program := "ytgccbfkofkohpaa", sum := "890b9d5d224deeaebd5e074c88a6f5514842647d32f7d4f55d60f44b7cecfeb6", func := "sentinel/sentinellaw4.GroupOuts", spec := "groupOuts", unfollowed := true, recurses := true, apart := false, narrowed := true }
def GroupOutsUptoSaid : Prop := groupOutsUptoRow.holds Try.pinned (OpenSpec.upto groupOutsSpec)

/-- 'sentinellaw4.GroupPowersOf', WHERE WHAT IT READS IS OF BULK AT MOST 1048576: true; the input reads as it did. -/
def groupPowersOfUptoRow : OpenClaim := { program := "ytgccbfkofkohpaa", sum := "890b9d5d224deeaebd5e074c88a6f5514842647d32f7d4f55d60f44b7cecfeb6", func := "sentinel/sentinellaw4.GroupPowersOf", spec := "groupPowersOf", unfollowed := true, recurses := true, apart := false, narrowed := true }
def GroupPowersOfUptoSaid : Prop := groupPowersOfUptoRow.holds Try.pinned (OpenSpec.upto groupPowersOfSpec)

/-- 'sentinellaw4.GroupNumbers', WHERE WHAT IT READS IS OF BULK AT MOST 1048576: true; the input reads as it did. -/
def groupNumbersUptoRow : OpenClaim := { program := "ytgccbfkofkohpaa", sum := "890b9d5d224deeaebd5e074c88a6f5514842647d32f7d4f55d60f44b7cecfeb6", func := "sentinel/sentinellaw4.GroupNumbers", spec := "groupNumbers", unfollowed := true, recurses := true, apart := false, narrowed := true }
def GroupNumbersUptoSaid : Prop := groupNumbersUptoRow.holds Try.pinned (OpenSpec.upto groupNumbersSpec)

end Rows
end Go.Proofs.Ytgccbfkofkohpaa
