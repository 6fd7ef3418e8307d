/- sentinellaw3.SpongeSame: the walk. -/
import Derived.Test.YtajombnckgehbaaSWithin
namespace Go.Proofs.Ytajombnckgehbaa
set_option linter.unusedVariables false
set_option linter.unusedSimpArgs false
open Go.ChangeShapes Go.WideShapes Go.ChangeAt Go.RowKit Go.Shelf
set_option maxRecDepth 100000 in
set_option maxHeartbeats 16000000 in
theorem SpongeSame_walk (A0 : Option Addr) (n0 cap0 : Nat) (l0 : List UInt8) (hn0 : l0.length = n0) (hc0 : n0 ≤ cap0) (hm0 : cap0 ≤ maxLen) (hz0 : A0 = none → cap0 = 0)
    (a1 : Int) (hk1 : -9223372036854775808 ≤ a1) (hl1 : a1 < 9223372036854775808)
    (a2 : Int) (hk2 : 0 ≤ a2) (hl2 : a2 < 256)
    (a3 : Int) (hk3 : -9223372036854775808 ≤ a3) (hl3 : a3 < 9223372036854775808) (w : World) (hr0 : Rd w A0 l0) :
    Calls Try.prog 8 #[.slice A0 n0 cap0, .int .i64 a1, .int .u8 a2, .int .i64 a3] w fun e w' => e = .returned (.bool true) ∧ Below w.heap.size w w' := by
  go_enter Try.func8, Try.ntmps8
  unfold maxLen at hm0
  go_wp2_with fail
  refine (known_any _).mono ?_
  rintro e w1 ⟨rfl, b1⟩
  have r1 := hr0.step b1
  by_cases h0 : n0 = 0
  · subst h0
    go_wp2
    go_ret
    exact ⟨rfl, b1⟩
  by_cases h300 : 300 < n0
  · have d1 : ((n0 : Int) == 0) = false := by simp; omega
    go_wp2
    go_ret
    exact ⟨rfl, b1⟩
  have d1 : ((n0 : Int) == 0) = false := by simp; omega
  have he := byt_empty w1
  have r1a := r1.step (step_alloc w1 (.cells #[] 5))
  go_wp2_with (refine wpList_append_bytes rfl (.tmp 21) (.tmp 22) rfl w1.heap.size _ _ l0 rfl he A0 n0 cap0 rfl hn0 hz0 r1a (by rw [hn0]; simp; omega) (by simp) ?_; rw [List.nil_append]; intro v2 w2 h2 k2 g2; obtain ⟨g, c, rfl, hg1, hg2, hc1, hc2, hfr, hcl⟩ := h2.own (by omega); rw [hn0])
  have B2 : Below w1.heap.size w1 w2 := step_app3 k2 (Nat.le_refl _)
  rw [hn0] at hc1
  clear he h2 k2 g2 r1a
  obtain ⟨K, hK⟩ : ∃ K : Nat, a1 % (n0 : Int) = (K : Int) := ⟨(a1 % (n0 : Int)).toNat, by have := Int.emod_nonneg a1 (show (n0 : Int) ≠ 0 by omega); omega⟩
  have hKn : K < n0 := by have := Int.emod_lt_of_pos a1 (show (0 : Int) < n0 by omega); omega
  refine (within_any a1 n0 (by omega) (by omega) hk1 hl1 _).mono ?_
  rintro e w3 ⟨rfl, rfl⟩
  rw [hK]
  obtain ⟨x, hx⟩ : ∃ x, l0[K]? = some x := ⟨l0[K], List.getElem?_eq_getElem (by omega)⟩
  have hcK := hcl K x hx
  have hfK := hfr K
  have hcK' : w2.cell? ⟨g, K, none⟩ = some (.int .u8 (x.toNat : Int)) := hcK
  have HC := hid hcl
  have HX := hid hx
  clear hcl hx hcK hfr
  have hxb := x.toNat_lt
  obtain ⟨b, hbV⟩ : ∃ b : UInt8, (b.toNat : Int) = ((x.toNat : Int) + a2) % 256 := ⟨UInt8.ofNat (((x.toNat : Int) + a2) % 256).toNat, by simp; omega⟩
  have HB : Rd (w2.setCell ⟨g, K, none⟩ (.int .u8 (((x.toNat : Int) + a2) % 256))) (some ⟨g, 0, none⟩) (l0.set K b) := by
    have := rd_set (b := b) hg2 HC.out (k := K) (by omega)
    unfold bv at this
    rwa [hbV] at this
  have B3 : Below w1.heap.size w1 (w2.setCell ⟨g, K, none⟩ (.int .u8 (((x.toNat : Int) + a2) % 256))) := B2.setCell (p := ⟨g, K, none⟩) hg1 _
  have hE1 : decide (l0 = l0.set K b) = (a2 == 0) := by
    have h1 : b = x ↔ a2 = 0 := by rw [← UInt8.toNat_inj]; omega
    rw [Bool.eq_iff_iff, decide_eq_true_iff, beq_iff_eq, ← h1]
    constructor
    · intro h
      have := congrArg (fun l => l[K]?) h
      simp only [HX.out, List.getElem?_set] at this
      rw [if_pos trivial, if_pos (by omega)] at this
      exact (Option.some.inj this).symm
    · rintro rfl
      refine List.ext_getElem? fun i => ?_
      rw [List.getElem?_set]
      by_cases e : K = i
      · subst e; rw [if_pos rfl, if_pos (by omega), HX.out]
      · rw [if_neg e]
  obtain ⟨J, hJ⟩ : ∃ J : Nat, a3 % ((n0 : Int) + 1) = (J : Int) := ⟨(a3 % ((n0 : Int) + 1)).toNat, by have := Int.emod_nonneg a3 (show (n0 : Int) + 1 ≠ 0 by omega); omega⟩
  have hJn : J ≤ n0 := by have := Int.emod_lt_of_pos a3 (show (0 : Int) < (n0 : Int) + 1 by omega); omega
  have hE2 : decide (l0 = l0.take J) = ((n0 : Int) == (J : Int)) := by
    rw [Bool.eq_iff_iff, decide_eq_true_iff, beq_iff_eq]
    constructor
    · intro h
      have := congrArg List.length h
      rw [List.length_take] at this
      omega
    · intro h
      rw [List.take_of_length_le (by omega)]
  have hE3 : decide (l0.take J = l0) = ((n0 : Int) == (J : Int)) := by
    rw [← hE2]
    exact decide_eq_decide.2 eq_comm
  have hTl : (l0.take J).length = J := by rw [List.length_take]; omega
  go_wp2_with fail
  obtain ⟨w3, hw3⟩ : ∃ w3, w3 = w2.setCell ⟨g, K, none⟩ (.int .u8 (((x.toNat : Int) + a2) % 256)) := ⟨_, rfl⟩
  rw [← hw3] at HB B3 ⊢
  have r3 := r1.below B3 (Nat.le_refl _)
  have C3 := step_trans b1 B3
  obtain ⟨y3, hy3⟩ : ∃ y3, y3 = ((x.toNat : Int) + a2) % 256 := ⟨_, rfl⟩
  rw [← hy3]
  clear hw3 HC HX hcK' hfK hbV hy3 B2 B3 b1 r1 hxb hr0 hg1 hg2
  refine (within_any a3 ((n0 : Int) + 1) (by omega) (by omega) hk3 hl3 _).mono ?_
  rintro e w4 ⟨rfl, rfl⟩
  rw [hJ]
  clear hJ hK
  have hsl := fun w' => slice_h w' A0 n0 cap0 J (by omega)
  have hm0' : cap0 ≤ maxLen := by unfold maxLen; omega
  go_wp2_with fail
  have ia : IsB w3 l0 (.slice A0 n0 cap0) := r3.isB hn0 hc0 hm0' hz0
  have ic : IsB w3 (l0.take J) (.slice A0 J cap0) := (r3.take J).isB hTl (by omega) hm0' hz0
  have ib : IsB w3 (l0.set K b) (.slice (some ⟨g, 0, none⟩) n0 c) := HB.isB (by rw [List.length_set]; exact hn0) hc1 hc2 (fun h => by cases h)
  clear hsl r3 HB
  refine (same_bytes ia ib).mono ?_
  rintro e w5 ⟨rfl, b5⟩
  rw [hE1]
  have ia5 := ia.step b5
  have ic5 := ic.step b5
  have C5 := step_trans C3 b5
  clear ia ib ic hE1 b5 C3
  go_wp2_with fail
  refine (same_bytes ia5 ic5).mono ?_
  rintro e w6 ⟨rfl, b6⟩
  rw [hE2]
  have ia6 := ia5.step b6
  have ic6 := ic5.step b6
  have C6 := step_trans C5 b6
  clear ia5 ic5 hE2 b6 C5
  go_wp2_with fail
  refine (same_bytes ic6 ia6).mono ?_
  rintro e w7 ⟨rfl, b7⟩
  rw [hE3]
  have C7 := step_trans (step_trans C6 b7) (step_alloc w7 (.cells #[] 5))
  clear ia6 ic6 hE3 b7 C6
  go_wp2_with fail
  refine (same_bytes (isB_nil _) (isB_empty w7)).mono ?_
  rintro e w8 ⟨rfl, b8⟩
  go_wp2
  go_ret
  exact ⟨rfl, step_trans C7 b8⟩
end Go.Proofs.Ytajombnckgehbaa
