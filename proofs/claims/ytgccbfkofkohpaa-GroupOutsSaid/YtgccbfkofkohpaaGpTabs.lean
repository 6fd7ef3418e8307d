/- The groups of 12 to 27 bits. -/
import Derived.Test.YtgccbfkofkohpaaGpTab
namespace Go.Proofs.Ytgccbfkofkohpaa
set_option linter.unusedVariables false
set_option maxRecDepth 20000
set_option linter.unusedSimpArgs false
open Go.ChangeShapes Go.WideShapes Go.ChangeAt Go.RowKit
set_option maxRecDepth 100000
theorem tab13 : chkT 13 8147 90 63 = true := by decide +kernel
theorem tab14 : chkT 14 16223 127 90 = true := by decide +kernel
theorem tab15 : chkT 15 32603 180 127 = true := by decide +kernel
theorem tab16 : chkT 16 65267 255 180 = true := by decide +kernel
theorem tab17 : chkT 17 130787 361 255 = true := by decide +kernel
theorem tab18 : chkT 18 262127 511 362 = true := by decide +kernel
theorem tab19 : chkT 19 524243 724 511 = true := by decide +kernel
theorem tab20 : chkT 20 1048343 1023 723 = true := by decide +kernel
theorem tab21 : chkT 21 2097143 1448 1023 = true := by decide +kernel
theorem tab22 : chkT 22 4194287 2047 1448 = true := by decide +kernel
theorem tab23 : chkT 23 8388287 2896 2047 = true := by decide +kernel
theorem tab24 : chkT 24 16776899 4095 2896 = true := by decide +kernel
theorem tab25 : chkT 25 33553799 5792 4095 = true := by decide +kernel
theorem tab26 : chkT 26 67108187 8191 5792 = true := by decide +kernel
theorem tab27 : chkT 27 134217323 11585 8191 = true := by decide +kernel
theorem tabs {k : Nat} (h0 : 12 ≤ k) (h1 : k ≤ 27) : ∃ p : Nat, 4 ≤ p ∧ p % 2 = 1 ∧ p < 2 ^ k ∧ safeB (p : Int) = true ∧ ∀ x : Int, (p : Int) < x → x < 2 ^ k → safeB x = false := by
  have : k = 12 ∨ k = 13 ∨ k = 14 ∨ k = 15 ∨ k = 16 ∨ k = 17 ∨ k = 18 ∨ k = 19 ∨ k = 20 ∨ k = 21 ∨ k = 22 ∨ k = 23 ∨ k = 24 ∨ k = 25 ∨ k = 26 ∨ k = 27 := by omega
  rcases this with rfl | rfl | rfl | rfl | rfl | rfl | rfl | rfl | rfl | rfl | rfl | rfl | rfl | rfl | rfl | rfl
  · exact ⟨4079, by decide, by decide, by decide, tab_of (D := 63) (E := 45) (by decide) (by decide) (by decide) (by decide) (by decide) tab12⟩
  · exact ⟨8147, by decide, by decide, by decide, tab_of (D := 90) (E := 63) (by decide) (by decide) (by decide) (by decide) (by decide) tab13⟩
  · exact ⟨16223, by decide, by decide, by decide, tab_of (D := 127) (E := 90) (by decide) (by decide) (by decide) (by decide) (by decide) tab14⟩
  · exact ⟨32603, by decide, by decide, by decide, tab_of (D := 180) (E := 127) (by decide) (by decide) (by decide) (by decide) (by decide) tab15⟩
  · exact ⟨65267, by decide, by decide, by decide, tab_of (D := 255) (E := 180) (by decide) (by decide) (by decide) (by decide) (by decide) tab16⟩
  · exact ⟨130787, by decide, by decide, by decide, tab_of (D := 361) (E := 255) (by decide) (by decide) (by decide) (by decide) (by decide) tab17⟩
  · exact ⟨262127, by decide, by decide, by decide, tab_of (D := 511) (E := 362) (by decide) (by decide) (by decide) (by decide) (by decide) tab18⟩
  · exact ⟨524243, by decide, by decide, by decide, tab_of (D := 724) (E := 511) (by decide) (by decide) (by decide) (by decide) (by decide) tab19⟩
  · exact ⟨1048343, by decide, by decide, by decide, tab_of (D := 1023) (E := 723) (by decide) (by decide) (by decide) (by decide) (by decide) tab20⟩
  · exact ⟨2097143, by decide, by decide, by decide, tab_of (D := 1448) (E := 1023) (by decide) (by decide) (by decide) (by decide) (by decide) tab21⟩
  · exact ⟨4194287, by decide, by decide, by decide, tab_of (D := 2047) (E := 1448) (by decide) (by decide) (by decide) (by decide) (by decide) tab22⟩
  · exact ⟨8388287, by decide, by decide, by decide, tab_of (D := 2896) (E := 2047) (by decide) (by decide) (by decide) (by decide) (by decide) tab23⟩
  · exact ⟨16776899, by decide, by decide, by decide, tab_of (D := 4095) (E := 2896) (by decide) (by decide) (by decide) (by decide) (by decide) tab24⟩
  · exact ⟨33553799, by decide, by decide, by decide, tab_of (D := 5792) (E := 4095) (by decide) (by decide) (by decide) (by decide) (by decide) tab25⟩
  · exact ⟨67108187, by decide, by decide, by decide, tab_of (D := 8191) (E := 5792) (by decide) (by decide) (by decide) (by decide) (by decide) tab26⟩
  · exact ⟨134217323, by decide, by decide, by decide, tab_of (D := 11585) (E := 8191) (by decide) (by decide) (by decide) (by decide) (by decide) tab27⟩
end Go.Proofs.Ytgccbfkofkohpaa
