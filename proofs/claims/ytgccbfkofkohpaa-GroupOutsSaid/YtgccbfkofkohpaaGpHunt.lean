/- The hunt of group.Make. -/
import Derived.Test.YtgccbfkofkohpaaGpPrime
import Derived.Test.YtgccbfkofkohpaaGaRel
import Derived.Test.YtgccbfkofkohpaaGaBk
namespace Go.Proofs.Ytgccbfkofkohpaa
set_option linter.unusedVariables false
set_option maxRecDepth 20000
set_option linter.unusedSimpArgs false
open Go.ChangeShapes Go.WideShapes Go.ChangeAt Go.RowKit
/-- What safe answers. -/
noncomputable def safeB (p : Int) : Bool := primeB (p / 2) && primeB p
/-- The hunt of Make: the bound lies in block C. -/
def huntA (C : Nat) : Array Value := #[.func (.func 44) #[] #[.pointer (some ⟨C, 0, none⟩)], .func (.func 45) #[] #[]]
/-- What the hunt finds below B: the first that is safe, or none. -/
def HuntR (B r : Int) (b : Bool) : Prop := (b = true ∧ ∃ i : Nat, (i : Int) < B ∧ r = B - 1 - i ∧ safeB r = true ∧ ∀ j : Nat, j < i → safeB (B - 1 - j) = false) ∨ (b = false ∧ r = 0 ∧ ∀ j : Nat, (j : Int) < B → safeB (B - 1 - j) = false)
set_option maxRecDepth 100000 in
set_option maxHeartbeats 2000000 in
theorem safe_any (p : Int) (h0 : 0 ≤ p) (h1 : p < 4611686018427387904) (w : World) :
    Calls Try.prog 45 #[.int .i64 p] w fun e w' => e = .returned (.bool (safeB p)) ∧ w = w' := by
  obtain ⟨H, hH⟩ : ∃ H, p / 2 = H := ⟨_, rfl⟩
  have ht : p.tdiv 2 = H := by rw [Int.tdiv_eq_ediv_of_nonneg h0]; exact hH
  obtain ⟨g0, g1⟩ : 0 ≤ H ∧ H < 4611686018427387904 := by omega
  have k1 := fun w => prime_any H (by omega) (by omega) w
  have k2 := fun w => prime_any p (by omega) (by omega) w
  obtain ⟨c, hc⟩ : ∃ b, primeB H = b := ⟨_, rfl⟩
  obtain ⟨d, hd⟩ : ∃ b, primeB p = b := ⟨_, rfl⟩
  rw [show safeB p = (c && d) by unfold safeB; rw [hH, hc, hd]]
  rw [hc] at k1
  rw [hd] at k2
  clear hc hd hH
  go_enter Try.func45, Try.ntmps45
  go_wp2_with fail
  refine (k1 _).mono ?_
  rintro e w1 ⟨rfl, rfl⟩
  cases c
  · go_wp2_with fail
    go_ret
    exact ⟨rfl, rfl⟩
  · go_wp2_with fail
    refine (k2 _).mono ?_
    rintro e w2 ⟨rfl, rfl⟩
    go_wp2_with fail
    go_ret
    exact ⟨rfl, rfl⟩
set_option maxRecDepth 100000 in
set_option maxHeartbeats 2000000 in
theorem at1_any (B i : Int) (h0 : 0 ≤ i) (h1 : i ≤ 4294967296) (b0 : 0 ≤ B) (b1 : B ≤ 4294967296) (C : Nat) (w : World) (hC : w.cell? ⟨C, 0, none⟩ = some (.int .i64 B)) :
    Calls Try.prog 44 #[.int .i64 i, .pointer (some ⟨C, 0, none⟩)] w fun e w' => e = .returned (.int .i64 (B - 1 - i)) ∧ w = w' := by
  go_enter Try.func44, Try.ntmps44
  go_wp2_with fail
  go_ret
  exact ⟨rfl, rfl⟩
set_option maxRecDepth 100000 in
set_option maxHeartbeats 8000000 in
theorem first_any (B : Int) (b0 : 0 ≤ B) (b1 : B ≤ 4294967296) (C : Nat) (w : World) (hC : w.cell? ⟨C, 0, none⟩ = some (.int .i64 B)) (hCl : C < w.heap.size) :
    Calls Try.prog 46 #[.agg (huntA C), .int .i64 B] w fun e w' => ∃ r b, e = .returned (.tuple #[.int .i64 r, .bool b]) ∧ HuntR B r b ∧ Below w.heap.size w w' := by
  obtain ⟨W, hW⟩ : ∃ W, W = w.alloc (.cells (huntA C) 67) := ⟨_, rfl⟩
  have qh : Blk W w.heap.size 67 (huntA C) := by rw [hW]; exact Blk.new w _ _
  have gb : Below w.heap.size w W := by rw [hW]; exact (Below.refl _ _).alloc (Nat.le_refl _) _
  have hCW : W.cell? ⟨C, 0, none⟩ = some (.int .i64 B) := by rw [gb.cell hCl]; exact hC
  have c0 : W.cell? ⟨w.heap.size, 0, none⟩ = some (.func (.func 44) #[] #[.pointer (some ⟨C, 0, none⟩)]) := qh.cell rfl
  have c1 : W.cell? ⟨w.heap.size, 1, none⟩ = some (.func (.func 45) #[] #[]) := qh.cell rfl
  go_enter Try.func46, Try.ntmps46
  go_upto_region 1 with fail
  rw [← hW]
  clear hW
  refine wp_scope_jumps2 0 (fun a' w' => ∃ x3 x4 x5 x7 x8 x9 x10 x11 x12 x13 x14 x15 x16 x17 x18 x19 x20 x21 x22 x23 : Value, ∃ i : Nat, a' = { tmps := #[.agg (huntA C), .int .i64 B, .pointer (some ⟨w.heap.size, 0, none⟩), x3, x4, x5, .int .i64 (i : Int), x7, x8, x9, x10, x11, x12, x13, x14, x15, x16, x17, x18, x19, x20, x21, x22, x23], defers := [] } ∧ (i : Int) ≤ B ∧ Hid (∀ j : Nat, j < i → safeB (B - 1 - j) = false) ∧ w' = W) (fun a' _ => (B - intOf (a'.tmps.getD 6 undef)).toNat) rfl ?_ ?_
  · simp only [headWp, findLabel, beq_self_eq_true, if_true]
    go_wp2_with fail
    exact ⟨_, _, _, _, _, _, _, _, _, _, _, _, _, _, _, _, _, _, _, _, 0, rfl, b0, hid (fun j h => absurd h (Nat.not_lt_zero j)), (by first | rfl | trivial)⟩
  · rintro a' w' ⟨x3, x4, x5, x7, x8, x9, x10, x11, x12, x13, x14, x15, x16, x17, x18, x19, x20, x21, x22, x23, i, rfl, hi, hn, rfl⟩
    have hCW := hid hCW
    simp only [restWp, findLabel, beq_self_eq_true, if_true]
    refine (show Code.wp _ _ _ _ _ from ?_)
    by_cases hlt : (i : Int) < B
    · obtain ⟨s, hs⟩ : ∃ s, Hid (safeB (B - 1 - i) = s) := ⟨_, hid rfl⟩
      obtain ⟨v, hv⟩ : ∃ v, Hid (B - 1 - (i : Int) = v) := ⟨_, hid rfl⟩
      obtain ⟨v0, v1⟩ : 0 ≤ v ∧ v < 4294967296 := by have := hv.out; omega
      have k1 := at1_any B i (by omega) (by omega) b0 b1 C w' hCW.out
      rw [hv.out] at k1 hs
      have k2 := safe_any v v0 (by omega) w'
      rw [hs.out] at k2
      cases s
      · have hn' : Hid (∀ j : Nat, j < i + 1 → safeB (B - 1 - j) = false) := hid fun j hj => by
          by_cases e : j = i
          · subst e; rw [hv.out]; exact hs.out
          · exact hn.out j (by omega)
        go_wp2_with (first | (go_at_call 44; refine k1.mono ?_; rintro e w1 ⟨rfl, rfl⟩) | (go_at_call 45; refine k2.mono ?_; rintro e w1 ⟨rfl, rfl⟩))
        go_step3
        refine ⟨rfl, ⟨_, _, _, _, _, _, _, _, _, _, _, _, _, _, _, _, _, _, _, _, i + 1, rfl, by omega, hn', (by first | rfl | trivial)⟩, ?_⟩
        simp [intOf]; omega
      · go_wp2_with (first | (go_at_call 44; refine k1.mono ?_; rintro e w1 ⟨rfl, rfl⟩) | (go_at_call 45; refine k2.mono ?_; rintro e w1 ⟨rfl, rfl⟩))
        simp only [Exit.jump]
        go_ret2
        exact ⟨v, true, rfl, .inl ⟨rfl, i, hlt, hv.out.symm, hs.out, hn.out⟩, gb⟩
    · have hge : decide (B ≤ (i : Int)) = true := decide_eq_true (by omega)
      have hlt' : decide ((i : Int) < B) = false := decide_eq_false hlt
      go_wp2_with fail
      simp only [Exit.jump]
      go_ret2
      exact ⟨0, false, rfl, .inr ⟨rfl, rfl, fun j hj => hn.out j (by omega)⟩, gb⟩
end Go.Proofs.Ytgccbfkofkohpaa
