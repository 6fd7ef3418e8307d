/- slices.Grow from nothing, slices.Concat of two numbers: contracts. -/
import Derived.Test.YteihojjciklfoaaShift
import Derived.Laws.AppendOwn
namespace Go.Proofs.Yteihojjciklfoaa
set_option linter.unusedVariables false
set_option linter.unusedSimpArgs false
open Go.ChangeShapes Go.WideShapes Go.ChangeAt Go.RowKit

set_option maxHeartbeats 800000 in
theorem grow_any (w : World) :
    Calls Try.prog 53 #[.slice none 0 0, .int .i64 16] w fun e w' =>
      ∃ v, e = .returned v ∧ w'.ownsRow w.heap.size 24 1 v 0 [] ∧ Below w.heap.size w w' := by
  go_enter Try.func53, Try.ntmps53
  go_wp2_with fail
  have hc1 := grownCap_ge w 16 0 24
  have hc2 := grownCap_le_maxLen w 16 0 24 (by unfold maxLen; omega)
  go_ret
  refine ⟨_, rfl, ⟨rfl, .inr ⟨w.heap.size, grownCap w 16 0 24, _, rfl, Nat.le_refl _, heap_alloc_new w _, Nat.zero_le _, hc2, ?_, ?_⟩⟩, ((Below.refl _ _).alloc (Nat.le_refl _) _).drew⟩
  · simp only [Array.size_append, size_zeroCells]
    change 16 * 1 + (grownCap w 16 0 24 - 16) * 1 = grownCap w 16 0 24 * 1
    omega
  · simp
/-- The digits of a number, the lowest first. -/
def digL (N m : Nat) : List Value := (List.range m).map (numF N)
theorem digL_len (N m : Nat) : (digL N m).length = m := by simp [digL]
theorem digL_get {N m j : Nat} {u : Value} (h : (digL N m)[j]? = some u) : j < m ∧ u = numF N j := by
  unfold digL at h
  rw [List.getElem?_map] at h
  by_cases hj : j < m
  · rw [List.getElem?_range hj] at h
    exact ⟨hj, (Option.some.inj h).symm⟩
  · rw [List.getElem?_eq_none (by simp; omega)] at h; cases h
theorem digL_add (N m k : Nat) : digL N (m + k) = digL N m ++ digL (N / 4294967296 ^ m) k := by
  unfold digL
  rw [List.range_add, List.map_append, List.map_map]
  congr 1
  apply List.map_congr_left
  intro j _
  simp only [Function.comp]
  unfold numF
  rw [dig_shift]
theorem digL_congr {N M m : Nat} (h : ∀ j, j < m → digI N j = digI M j) : digL N m = digL M m := by
  unfold digL
  apply List.map_congr_left
  intro j hj
  unfold numF
  rw [h j (List.mem_range.1 hj)]
theorem owns_below {B : Nat} {a w w' : World} {v : Value} (hv : ∀ k, v.ownBlock = some k → B ≤ k) (h : Below B a w) (hg : w.grownBy w' v.ownBlock) (hB : B ≤ w.heap.size) : Below B a w' :=
  h.grown hg hB hv
set_option maxHeartbeats 800000 in
theorem concat_any (bb b1 b2 lo hi : Nat) (t1 t2 : TypeId) (w : World) (h1 : w.cell? ⟨bb, 0, none⟩ = some (.slice (some ⟨b1, 0, none⟩) 8 8)) (h2 : w.cell? ⟨bb, 1, none⟩ = some (.slice (some ⟨b2, 0, none⟩) 8 8))
    (n1 : Num w b1 t1 lo) (n2 : Num w b2 t2 hi) (hbb : bb < w.heap.size) (hlo : lo < 4294967296 ^ 8) :
    Calls Try.prog 45 #[.slice (some ⟨bb, 0, none⟩) 2 2] w fun e w' =>
      ∃ g c, e = .returned (.slice (some ⟨g, 0, none⟩) 16 c) ∧ w.heap.size ≤ g ∧ g < w'.heap.size ∧ (∀ k, k < 16 → w'.cell? ⟨g, 0 + k, none⟩ = some (.int .u32 (digI (lo + hi * 4294967296 ^ 8) k))) ∧ Below w.heap.size w w' := by
  have hb1 := n1.lt
  have hb2 := n2.lt
  obtain ⟨N, hN⟩ : ∃ N, N = lo + hi * 4294967296 ^ 8 := ⟨_, rfl⟩
  rw [← hN]
  go_enter Try.func45, Try.ntmps45
  go_wp2_with fail
  go_loopw [3, 11] (fun v i wr => w = wr ∧ ∃ k : Nat, k ≤ 2 ∧ i = .int .i64 k ∧ v = .int .i64 ((8 * k : Nat) : Int)) (fun _ i _ => 2 - (intOf i).toNat)
  case atStart => exact ⟨rfl, 0, Nat.zero_le _, rfl, rfl⟩
  case round =>
    obtain ⟨rfl, k, hk, rfl, rfl⟩ := hrel
    have hk3 : k = 0 ∨ k = 1 ∨ k = 2 := by omega
    rcases hk3 with rfl | rfl | rfl
    · go_wp2_with fail
      exact ⟨⟨trivial, 1, by omega, rfl, rfl⟩, by decide⟩
    · go_wp2_with fail
      exact ⟨⟨trivial, 2, by omega, rfl, rfl⟩, by decide⟩
    · go_wp2_with fail
      refine (grow_any _).mono ?_
      rintro e wG ⟨v, rfl, hown, hB⟩
      obtain ⟨iU, hi1, hi2, hi3, hi4⟩ := info_u32
      have dlo : digL lo 8 = digL N 8 := digL_congr fun j hj => by
        unfold digI
        rw [← dig_mod lo hj, ← dig_mod N hj, hN, Nat.add_mul_mod_self_right]
      have dhi : N / 4294967296 ^ 8 = hi := by
        rw [hN, Nat.add_mul_div_right _ _ (pow_pos' 8), Nat.div_eq_of_lt hlo, Nat.zero_add]
      have dN : digL N 16 = digL N 8 ++ digL hi 8 := by rw [digL_add N 8 8, dhi]
      have hone : ∀ M, ∀ u ∈ digL M 8, u.oneCell' = true := fun M u hu => by
        obtain ⟨j, _, rfl⟩ := List.mem_map.1 hu
        rfl
      go_wp2_with fail
      go_loopw [6, 27] (fun v i wr' => ∃ k : Nat, k ≤ 2 ∧ i = .int .i64 k ∧ wr'.ownsRow w.heap.size 24 1 v (8 * k) (digL N (8 * k)) ∧ Below w.heap.size w wr') (fun _ i _ => 2 - (intOf i).toNat)
      case atStart => exact ⟨0, Nat.zero_le _, rfl, hown, hB⟩
      case round =>
        obtain ⟨k, hk, rfl, hown, hB⟩ := hrel
        have m1 := n1.below hB hb1
        have m2 := n2.below hB hb2
        have q1 := (hB.cell (p := ⟨bb, 0, none⟩) hbb).trans h1
        have q2 := (hB.cell (p := ⟨bb, 1, none⟩) hbb).trans h2
        have hsz := hB.size
        have hob : ∀ k, Value.ownBlock _ = some k → w.heap.size ≤ k := fun k h => (hown.lt k h).1
        have hk3 : k = 0 ∨ k = 1 ∨ k = 2 := by omega
        rcases hk3 with rfl | rfl | rfl
        · go_wp2_with (at_builtin; refine wpList_append_own _ rfl (.tmp 31) (.tmp 32) 53 rfl w.heap.size 24 iU (.int .u32 0) 1 4 Try.underlying53 hi1 hi2 hi3 hi4 rfl (by decide) _ _ _ rfl hown ⟨b1, 0, none⟩ 8 8 (digL lo 8) rfl (digL_len _ _) (fun j u hj => by
            obtain ⟨hj8, rfl⟩ := digL_get hj
            rw [addr_add, Nat.zero_add]; exact m1.cell hj8) (hone lo) (by unfold maxLen; omega) (by omega) hsz ?_; intro v' w' hown' hg' hnil)
          rw [dlo] at hown'
          exact ⟨⟨1, by omega, rfl, hown', owns_below hob hB hg' hsz⟩, by decide⟩
        · go_wp2_with (at_builtin; refine wpList_append_own _ rfl (.tmp 31) (.tmp 32) 53 rfl w.heap.size 24 iU (.int .u32 0) 1 4 Try.underlying53 hi1 hi2 hi3 hi4 rfl (by decide) _ _ _ rfl hown ⟨b2, 0, none⟩ 8 8 (digL hi 8) rfl (digL_len _ _) (fun j u hj => by
            obtain ⟨hj8, rfl⟩ := digL_get hj
            rw [addr_add, Nat.zero_add]; exact m2.cell hj8) (hone hi) (by unfold maxLen; omega) (by omega) hsz ?_; intro v' w' hown' hg' hnil)
          have hown2 : w'.ownsRow w.heap.size 24 1 v' 16 (digL N 8 ++ digL hi 8) := hown'
          rw [← dN] at hown2
          exact ⟨⟨2, by omega, rfl, hown2, owns_below hob hB hg' hsz⟩, by decide⟩
        · go_wp2_with fail
          go_ret
          rcases hown.2 with ⟨_, h⟩ | ⟨g, c, cur, rfl, hg, hcur, _⟩
          · omega
          · refine ⟨g, c, rfl, hg, (hown.lt g rfl).2, fun k hk => ?_, hB⟩
            have := hown.cells (g := g) rfl k (numF N k) (by
              unfold digL
              rw [List.getElem?_map, List.getElem?_range (by omega)]; rfl)
            rw [addr_add] at this
            exact this
end Go.Proofs.Yteihojjciklfoaa
