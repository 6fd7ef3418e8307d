/- limb.back: contract. -/
import Derived.Test.YteihojjciklfoaaReduceW
namespace Go.Proofs.Yteihojjciklfoaa
set_option linter.unusedVariables false
set_option linter.unusedSimpArgs false
open Go.ChangeShapes Go.WideShapes Go.ChangeAt Go.RowKit

def abv (V j : Nat) : Int := digI V (j + 1) * 4294967296 + digI V j
theorem abv_bd (V j : Nat) : 0 ≤ abv V j ∧ abv V j < 18446744073709551616 := by
  have h1 := digI_ge V (j + 1); have h2 := digI_lt V (j + 1); have h3 := digI_ge V j; have h4 := digI_lt V j
  unfold abv; omega
theorem abv_or (V j : Nat) : bits .or .u64 (abv V (j + 1) * 4294967296 % 18446744073709551616) (digI V j) = abv V j := by
  have h1 := digI_ge V (j + 1); have h2 := digI_lt V (j + 1); have h3 := digI_ge V j; have h4 := digI_lt V j
  have e : abv V (j + 1) * 4294967296 % 18446744073709551616 = digI V (j + 1) * 4294967296 := by unfold abv; omega
  rw [e, or_high _ _ ⟨h1, h2⟩ ⟨h3, h4⟩, abv]
theorem abv_shr (V j s : Nat) (hs : s < 32) : abv V j / 2 ^ s % 4294967296 = digI (V / 2 ^ s) j := by
  have e : abv V j = ((V / 4294967296 ^ j % 18446744073709551616 : Nat) : Int) := by
    unfold abv digI dig
    rw [Nat.pow_succ, ← Nat.div_div_eq_div_mul]
    omega
  have e2 : V / 2 ^ s / 4294967296 ^ j = V / 4294967296 ^ j / 2 ^ s := by rw [Nat.div_div_eq_div_mul, Nat.mul_comm, ← Nat.div_div_eq_div_mul]
  have e3 : (V / 4294967296 ^ j % 18446744073709551616) / 2 ^ s % 4294967296 = V / 4294967296 ^ j / 2 ^ s % 4294967296 := by
    generalize V / 4294967296 ^ j = q
    have h64 : (18446744073709551616 : Nat) = 2 ^ s * 2 ^ (64 - s) := by
      have h : s + (64 - s) = 64 := by omega
      rw [← Nat.pow_add, h]
    have h32 : (2 : Nat) ^ (64 - s) = 4294967296 * 2 ^ (32 - s) := by
      have h : 32 + (32 - s) = 64 - s := by omega
      rw [show (4294967296 : Nat) = 2 ^ 32 by decide, ← Nat.pow_add, h]
    rw [h64, Nat.mod_mul_right_div_self, h32, Nat.mod_mul_right_mod]
  rw [e]
  unfold digI dig
  rw [e2, ← e3]
  simp
set_option maxHeartbeats 800000 in
theorem back_any (b o n cap s V : Nat) (w : World) (hn : n ≤ 8) (hs : s < 32) (hV : V < 4294967296 ^ n) (hx : ∀ k, k < n → w.cell? ⟨b, o + k, none⟩ = some (.int .u32 (digI V k))) (hb : b < w.heap.size) :
    Calls Try.prog 47 #[.slice (some ⟨b, o, none⟩) n cap, .int .i64 (s : Int)] w fun e w' => e = .returned (numV (V / 2 ^ s)) ∧ Below w.heap.size w w' := by
  have g1 : ((w.alloc (.cells #[Value.int .u32 0, .int .u32 0, .int .u32 0, .int .u32 0, .int .u32 0, .int .u32 0, .int .u32 0, .int .u32 0] 26)).alloc (.cells #[Value.int .u32 0, .int .u32 0, .int .u32 0, .int .u32 0, .int .u32 0, .int .u32 0, .int .u32 0, .int .u32 0] 26)).rowIs (w.heap.size + 1) 26 8 (fun i => .int .u32 (if n ≤ i then digI (V / 2 ^ s) i else 0)) := by
    have := (Num.new (w.alloc (.cells #[Value.int .u32 0, .int .u32 0, .int .u32 0, .int .u32 0, .int .u32 0, .int .u32 0, .int .u32 0, .int .u32 0] 26)) 26 0)
    rw [World.size_alloc, ← zeroA] at this
    exact this.row.congr fun i hi => by
      unfold numF
      rw [digI_zeroN]
      split
      · rename_i h
        rw [digI_high (m := n) (Nat.lt_of_le_of_lt (Nat.div_le_self _ _) hV) h]
      · rfl
  have g0 : ((w.alloc (.cells #[Value.int .u32 0, .int .u32 0, .int .u32 0, .int .u32 0, .int .u32 0, .int .u32 0, .int .u32 0, .int .u32 0] 26)).alloc (.cells #[Value.int .u32 0, .int .u32 0, .int .u32 0, .int .u32 0, .int .u32 0, .int .u32 0, .int .u32 0, .int .u32 0] 26)).heap[w.heap.size]? = some (.cells #[Value.int .u32 0, .int .u32 0, .int .u32 0, .int .u32 0, .int .u32 0, .int .u32 0, .int .u32 0, .int .u32 0] 26 (0, 0)) := heap_new1 w _ _
  have gb : Below w.heap.size w ((w.alloc (.cells #[Value.int .u32 0, .int .u32 0, .int .u32 0, .int .u32 0, .int .u32 0, .int .u32 0, .int .u32 0, .int .u32 0] 26)).alloc (.cells #[Value.int .u32 0, .int .u32 0, .int .u32 0, .int .u32 0, .int .u32 0, .int .u32 0, .int .u32 0, .int .u32 0] 26)) := ((Below.refl _ _).alloc (Nat.le_refl _) _).alloc (by simp) _
  have hA0 : abv V n = 0 := by unfold abv; rw [digI_high hV (Nat.le_refl n), digI_high hV (Nat.le_succ n)]; rfl
  go_enter Try.func47, Try.ntmps47
  go_wp2_with fail
  generalize hW : World.alloc _ _ = W at *
  go_loopw [6, 7] (fun v i wr => ∃ j : Nat, j ≤ n ∧ i = .int .i64 ((j : Int) - 1) ∧ v = .int .u64 (abv V j) ∧ W.grownBy wr (some (w.heap.size + 1)) ∧ wr.rowIs (w.heap.size + 1) 26 8 (fun i => .int .u32 (if j ≤ i then digI (V / 2 ^ s) i else 0))) (fun _ i _ => ((intOf i) + 1).toNat)
  case atStart => exact ⟨n, Nat.le_refl n, rfl, by rw [hA0], World.grownBy.refl _ _, g1⟩
  case round =>
    obtain ⟨j, hj, rfl, rfl, hg, hr⟩ := hrel
    rcases j with _ | j
    · have n0 : Num wr (w.heap.size + 1) 26 (V / 2 ^ s) := num_of_row hr fun j _ => by rw [if_pos (Nat.zero_le j)]; rfl
      have m0 := (hg.block w.heap.size ((Array.getElem?_eq_some_iff.1 g0).1) (by simp)).trans g0
      go_wp2_with (first | (refine wpList_load_num rfl _ _ rfl _ rfl _ _ _ n0 Try.underlying26 rfl size26 ?_) | (refine wpList_store_num rfl _ _ _ rfl _ rfl _ rfl _ rfl m0 size26 ?_; intro w2 hg2 m2))
      have s0 := hg.size
      exact bodyPost_ret (results_num rfl rfl m2 Try.underlying26 rfl size26) rfl ⟨rfl, below_of_grown (below_of_grown gb hg (by rw [← hW]; simp; omega) (by omega)) hg2 (by have := (Array.getElem?_eq_some_iff.1 m0).1; omega) (Nat.le_refl _)⟩
    · have e : (((j + 1 : Nat) : Int) - 1) = (j : Int) := by omega
      rw [e]
      have hc : wr.cell? ⟨b, o + j, none⟩ = some (.int .u32 (digI V j)) := hg.cell ((gb.cell (p := ⟨b, o + j, none⟩) hb).trans (hx j (by omega))) (by simp <;> omega)
      have hf : wr.frozen? ⟨w.heap.size + 1, j, none⟩ = false := hr.frozen _
      have hcl : wr.cell? ⟨w.heap.size + 1, j, none⟩ = some (.int .u32 0) := by rw [hr.cell (by omega), if_neg (by omega)]
      have h1 := digI_ge V j
      have h2 := digI_lt V j
      obtain ⟨a1, a2⟩ := abv_bd V (j + 1)
      have hj1 : (j : Int) < (n : Int) := by omega
      have hj2 : (j : Int) < 8 := by omega
      go_wp2_with fail
      have hw : IntKind.u64.wrap (abv V (j + 1) * 4294967296) = abv V (j + 1) * 4294967296 % 18446744073709551616 := rfl
      rw [hw, abv_or, abv_shr V j s hs]
      refine ⟨⟨j, by omega, rfl, rfl, grown_set hg rfl _, (hr.set j _).congr fun i hi => ?_⟩, by simp [intOf] <;> omega⟩
      by_cases h : i = j
      · subst h
        rw [if_pos rfl, if_pos (Nat.le_refl _)]
      · rw [if_neg h]
        by_cases h2 : j ≤ i
        · rw [if_pos h2, if_pos (by omega)]
        · rw [if_neg h2, if_neg (by omega)]
end Go.Proofs.Yteihojjciklfoaa
