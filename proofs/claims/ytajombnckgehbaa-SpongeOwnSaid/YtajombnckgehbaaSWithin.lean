/- The laws' within; bytes of one's own that are written; a slice of bytes. -/
import Derived.Test.YtajombnckgehbaaSKnown
import Derived.Test.YtajombnckgehbaaGenFrame
namespace Go.Proofs.Ytajombnckgehbaa
set_option linter.unusedVariables false
set_option linter.unusedSimpArgs false
open Go.ChangeShapes Go.WideShapes Go.ChangeAt Go.RowKit Go.Shelf

theorem tmod_case (a n : Int) (hn : 0 < n) : (0 ≤ a.tmod n → a.tmod n = a % n) ∧ (a.tmod n < 0 → a.tmod n + n = a % n) ∧ -n < a.tmod n ∧ a.tmod n < n := by
  have h1 := Int.tmod_def a n
  have h2 := Int.emod_nonneg a (show n ≠ 0 by omega)
  have h3 := Int.emod_lt_of_pos a hn
  have h4 := Int.tmod_lt_of_pos a hn
  have h5 : -n < a.tmod n := by
    have := Int.lt_tmod_of_pos a hn
    omega
  have h6 := Int.emod_add_mul_ediv a n
  refine ⟨fun h => ?_, fun h => ?_, h5, h4⟩
  · rw [← Int.emod_eq_of_lt h h4]
    rw [h1, Int.sub_mul_emod_self_left]
  · rw [← Int.emod_eq_of_lt (a := a.tmod n + n) (b := n) (by omega) (by omega), Int.add_emod_right]
    rw [h1, Int.sub_mul_emod_self_left]
set_option maxHeartbeats 400000 in
set_option maxRecDepth 100000 in
theorem within_any (a n : Int) (hn : 0 < n) (hn' : n < 9223372036854775808) (ha : -9223372036854775808 ≤ a) (ha' : a < 9223372036854775808) (w : World) :
    Calls Try.prog 20 #[.int .i64 a, .int .i64 n] w fun e w' => e = .returned (.int .i64 (a % n)) ∧ w = w' := by
  obtain ⟨h1, h2, h3, h4⟩ := tmod_case a n hn
  have hz : (n == 0) = false := by simp; omega
  by_cases h : a.tmod n < 0
  · have H := hid (h2 h)
    clear h1 h2
    go_enter Try.func20, Try.ntmps20
    go_wp2
    go_ret
    exact ⟨congrArg (fun x => Ending.returned (.int .i64 x)) H.out, rfl⟩
  · have H := hid (h1 (by omega))
    clear h1 h2
    go_enter Try.func20, Try.ntmps20
    go_wp2
    go_ret
    exact ⟨congrArg (fun x => Ending.returned (.int .i64 x)) H.out, rfl⟩

theorem u8_wf {a : Int} (h : (Lit.int .u8 a).wf = true) : 0 ≤ a ∧ a < 256 := by
  have := bounds_u8 h
  omega
theorem Byt.own {w : World} {base : Nat} {v : Value} {l : List UInt8} (h : Byt w base v l) (hl : 0 < l.length) :
    ∃ g c, v = .slice (some ⟨g, 0, none⟩) l.length c ∧ base ≤ g ∧ g < w.heap.size ∧ l.length ≤ c ∧ c ≤ maxLen ∧ (∀ k, w.frozen? ⟨g, k, none⟩ = false) ∧ (∀ j x, l[j]? = some x → w.cell? ⟨g, j, none⟩ = some (bv x)) := by
  have hlt := h.lt
  rcases h.2 with ⟨_, h0⟩ | ⟨g, c, cur, e, hb, hg, hn, hc, hs, ht⟩
  · omega
  · refine ⟨g, c, e, hb, heap_lt hg, hn, hc, fun k => by simp [World.frozen?, hg], fun j x hj => by have := h.cells (g := g) (by rw [e]; rfl) j (bv x) (by rw [List.getElem?_map, hj]; rfl); rwa [addr_add, Nat.zero_add] at this⟩
theorem rd_set {w : World} {g k : Nat} {l : List UInt8} {b : UInt8} (hlt : g < w.heap.size) (hc : ∀ j x, l[j]? = some x → w.cell? ⟨g, j, none⟩ = some (bv x)) (hk : k < l.length) :
    Rd (w.setCell ⟨g, k, none⟩ (bv b)) (some ⟨g, 0, none⟩) (l.set k b) := fun _ => by
  refine ⟨_, rfl, by simpa using hlt, fun j x hj => ?_⟩
  rw [addr_add, Nat.zero_add]
  rw [List.getElem?_set] at hj
  by_cases e : k = j
  · subst e
    rw [if_pos rfl, if_pos hk] at hj
    obtain rfl := Option.some.inj hj
    exact World.cell?_setCell_same _ _ _ (hc k l[k] (List.getElem?_eq_getElem hk))
  · rw [if_neg e] at hj
    rw [World.cell?_setCell_other _ _ _ _ (fun h => e (by injection h))]
    exact hc j x hj
theorem Rd.isB {w : World} {A : Option Addr} {l : List UInt8} {n c : Nat} (h : Rd w A l) (hn : l.length = n) (hc : n ≤ c) (hm : c ≤ maxLen) (hA : A = none → c = 0) : IsB w l (.slice A n c) :=
  ⟨A, c, by rw [hn], by rw [hn]; exact hc, hm, hA, h⟩
theorem isB_empty (w : World) : IsB (w.alloc (.cells #[] 5)) [] (.slice (some ⟨w.heap.size, 0, none⟩) 0 0) :=
  ⟨_, 0, rfl, Nat.le_refl _, by unfold maxLen; omega, fun _ => rfl, fun h => absurd h (by simp)⟩
end Go.Proofs.Ytajombnckgehbaa
