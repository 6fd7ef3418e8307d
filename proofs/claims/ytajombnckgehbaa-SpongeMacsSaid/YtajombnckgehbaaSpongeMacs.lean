/- sentinellaw3.SpongeMacs: the walk. -/
import Derived.Test.YtajombnckgehbaaSParts
namespace Go.Proofs.Ytajombnckgehbaa
set_option linter.unusedVariables false
set_option linter.unusedSimpArgs false
open Go.ChangeShapes Go.WideShapes Go.ChangeAt Go.RowKit Go.Shelf
attribute [local go_sem] eq16_same
theorem prd_three {w : World} {A1 A2 A3 : Option Addr} {l1 l2 l3 : List UInt8} {n1 n2 n3 c1 c2 c3 : Nat} (hn1 : l1.length = n1) (h1 : n1 ≤ c1) (m1 : c1 ≤ maxLen) (z1 : A1 = none → c1 = 0) (R1 : Rd w A1 l1) (hn2 : l2.length = n2) (h2 : n2 ≤ c2) (m2 : c2 ≤ maxLen) (z2 : A2 = none → c2 = 0) (R2 : Rd w A2 l2)
    (hn3 : l3.length = n3) (h3 : n3 ≤ c3) (m3 : c3 ≤ maxLen) (z3 : A3 = none → c3 = 0) (R3 : Rd w A3 l3) (J : Nat) :
    PRd (w.alloc (.cells #[.slice A1 n1 c1, .slice A2 n2 c2, .slice A3 n3 c3] 29)) (some ⟨w.heap.size, 0, none⟩) ([l1, l2, l3].take J) := fun _ => by
  have hb := step_alloc w (.cells #[.slice A1 n1 c1, .slice A2 n2 c2, .slice A3 n3 c3] 29)
  have hB := Blk.new w 29 #[.slice A1 n1 c1, .slice A2 n2 c2, .slice A3 n3 c3]
  refine ⟨w.heap.size, 0, rfl, by simp, fun j l hj => ?_⟩
  rw [List.getElem?_take] at hj
  have hj : ([l1, l2, l3] : List (List UInt8))[j]? = some l := by
    split at hj
    · exact hj
    · cases hj
  have hj3 : j = 0 ∨ j = 1 ∨ j = 2 := by
    have := (List.getElem?_eq_some_iff.1 hj).1
    simp at this; omega
  rcases hj3 with rfl | rfl | rfl
  · obtain rfl : l1 = l := Option.some.inj hj
    exact ⟨A1, c1, by rw [hn1]; exact hB.cell (k := 0) rfl, by rw [hn1]; exact h1, m1, z1, R1.step hb⟩
  · obtain rfl : l2 = l := Option.some.inj hj
    exact ⟨A2, c2, by rw [hn2]; exact hB.cell (k := 1) rfl, by rw [hn2]; exact h2, m2, z2, R2.step hb⟩
  · obtain rfl : l3 = l := Option.some.inj hj
    exact ⟨A3, c3, by rw [hn3]; exact hB.cell (k := 2) rfl, by rw [hn3]; exact h3, m3, z3, R3.step hb⟩
theorem cat_len : ∀ (L : List (List UInt8)) (m : Nat), (∀ l ∈ L, l.length ≤ m) → (cat L).length ≤ (8 + m) * L.length
  | [], m, _ => by simp [cat]
  | l :: L, m, h => by
    have h1 := cat_len L m fun x hx => h x (List.mem_cons_of_mem _ hx)
    have h2 := h l List.mem_cons_self
    rw [cat, List.length_append, List.length_append, eightL_len, List.length_cons, Nat.mul_add]
    omega
theorem slice_parts (w : World) (A : Option Addr) (n c k : Nat) (hk : k ≤ c) : (Instr.sliceAt 39 (.slice A n c) none (some (.int .i64 (k : Int))) none).run Try.prog w = .ok (.slice A k c) w := by
  have he : Try.prog.elem 39 = 29 := by kernel_rfl
  have hs : ∀ w, (sizeOf 29).run Try.prog w = .ok 1 w := fun w => by kernel_rfl
  have hu : Try.prog.underlying 39 = some (.slice (Try.prog.elem 39)) := by rw [he]; exact Try.underlying39
  rw [run_sliceAt_slice _ _ _ _ _ _ hu, run_slice_h _ _ _ _ _ hu .i64 k (by omega) (by omega), he, hs]
  simp only [Result.andThen_ok, sliced, Int.toNat_natCast, map_add_zero, ite_self, Nat.sub_zero]
set_option maxRecDepth 100000 in
set_option maxHeartbeats 16000000 in
theorem SpongeMacs_walk (A0 : Option Addr) (n0 cap0 : Nat) (l0 : List UInt8) (hn0 : l0.length = n0) (hc0 : n0 ≤ cap0) (hm0 : cap0 ≤ maxLen) (hz0 : A0 = none → cap0 = 0)
    (A1 : Option Addr) (n1 cap1 : Nat) (l1 : List UInt8) (hn1 : l1.length = n1) (hc1 : n1 ≤ cap1) (hm1 : cap1 ≤ maxLen) (hz1 : A1 = none → cap1 = 0)
    (A2 : Option Addr) (n2 cap2 : Nat) (l2 : List UInt8) (hn2 : l2.length = n2) (hc2 : n2 ≤ cap2) (hm2 : cap2 ≤ maxLen) (hz2 : A2 = none → cap2 = 0)
    (A3 : Option Addr) (n3 cap3 : Nat) (l3 : List UInt8) (hn3 : l3.length = n3) (hc3 : n3 ≤ cap3) (hm3 : cap3 ≤ maxLen) (hz3 : A3 = none → cap3 = 0)
    (a4 : Int) (hk4 : -9223372036854775808 ≤ a4) (hl4 : a4 < 9223372036854775808) (w : World) (hr0 : Rd w A0 l0) (hr1 : Rd w A1 l1) (hr2 : Rd w A2 l2) (hr3 : Rd w A3 l3) :
    Calls Try.prog 6 #[.slice A0 n0 cap0, .slice A1 n1 cap1, .slice A2 n2 cap2, .slice A3 n3 cap3, .int .i64 a4] w fun e w' => e = .returned (.bool true) ∧ Below w.heap.size w w' := by
  have km0 := hm0
  have km1 := hm1
  have km2 := hm2
  have km3 := hm3
  unfold maxLen at km0 km1 km2 km3
  go_enter Try.func6, Try.ntmps6
  go_wp2_with fail
  refine (known_any _).mono ?_
  rintro e w1 ⟨rfl, b1⟩
  have r0 := hr0.step b1
  have r1 := hr1.step b1
  have r2 := hr2.step b1
  have r3 := hr3.step b1
  clear hr0 hr1 hr2 hr3
  by_cases g0 : 100 < n0
  · go_wp2
    go_ret
    exact ⟨rfl, b1⟩
  by_cases g1 : 100 < n1
  · go_wp2
    go_ret
    exact ⟨rfl, b1⟩
  by_cases g2 : 100 < n2
  · go_wp2
    go_ret
    exact ⟨rfl, b1⟩
  by_cases g3 : 100 < n3
  · go_wp2
    go_ret
    exact ⟨rfl, b1⟩
  obtain ⟨J, hJ⟩ : ∃ J : Nat, a4 % 4 = (J : Int) := ⟨(a4 % 4).toNat, by omega⟩
  have hJ4 : J ≤ 3 := by omega
  have P1 := prd_three hn1 hc1 hm1 hz1 r1 hn2 hc2 hm2 hz2 r2 hn3 hc3 hm3 hz3 r3 J
  have a1' := step_alloc w1 (.cells #[.slice A1 n1 cap1, .slice A2 n2 cap2, .slice A3 n3 cap3] 29)
  have q0 := r0.step a1'
  have B1 := step_trans b1 a1'
  have hs := fun w => slice_parts w (some ⟨w1.heap.size, 0, none⟩) 3 3 J (by omega)
  obtain ⟨L, hL⟩ : ∃ L, L = ([l1, l2, l3] : List (List UInt8)).take J := ⟨_, rfl⟩
  have hLn : L.length = J := by rw [hL, List.length_take]; simp; omega
  have hLl : ∀ l ∈ L, l.length ≤ 100 := fun l hl => by
    rw [hL] at hl
    have := List.mem_of_mem_take hl
    simp only [List.mem_cons, List.not_mem_nil, or_false] at this
    rcases this with rfl | rfl | rfl <;> omega
  have hcl : (cat L).length ≤ 5000 := by
    have := cat_len L 100 hLl
    rw [hLn] at this
    omega
  have hLl2 : ∀ l ∈ L, l.length ≤ 2000 := fun l hl => Nat.le_trans (hLl l hl) (by omega)
  rw [← hL] at P1
  have HL2 := hid hLl2
  obtain ⟨F, hF⟩ : ∃ F, F = macW l0 L := ⟨_, rfl⟩
  obtain ⟨G, hG⟩ : ∃ G, G = macW [] L := ⟨_, rfl⟩
  have HF := hid hF
  have HG := hid hG
  clear hL hLl hLl2 hF hG r0 r1 r2 r3 hn1 hn2 hn3 hc1 hc2 hc3 hm1 hm2 hm3 hz1 hz2 hz3
  go_wp2_with fail
  refine (within_any a4 4 (by omega) (by omega) hk4 hl4 _).mono ?_
  rintro e w2 ⟨rfl, rfl⟩
  rw [hJ]
  clear hJ
  generalize World.alloc _ _ = w2 at *
  go_wp2_with fail
  refine (mac_any A0 l0 n0 cap0 hn0 hc0 hm0 hz0 _ L J 3 hLn (by omega) (by unfold maxLen; omega) _ q0 P1).mono ?_
  rintro e w3 ⟨rfl, b3⟩
  rw [← HF.out]
  have q3 := q0.step b3
  have P3 := P1.step b3
  have B3 := step_trans B1 b3
  clear q0 P1 B1 b3 hs
  go_wp2_with fail
  refine (rmac_any A0 l0 n0 cap0 hn0 hz0 (by omega) _ L J 3 hLn (by omega) (by omega) HL2.out hcl _ q3 P3).mono ?_
  rintro e w4 ⟨rfl, b4⟩
  rw [← HF.out]
  have P4 := P3.step b4
  have B4 := step_trans B3 b4
  clear q3 P3 B3 b4
  go_wp2_with fail
  refine (of_any _ L J 3 hLn (by omega) (by unfold maxLen; omega) _ P4).mono ?_
  rintro e w5 ⟨rfl, b5⟩
  rw [← HG.out]
  have P5 := P4.step b5
  have B5 := step_trans B4 b5
  clear P4 B4 b5
  go_wp2_with fail
  refine (rof_any _ L J 3 hLn (by omega) (by omega) HL2.out hcl _ P5).mono ?_
  rintro e w6 ⟨rfl, b6⟩
  rw [← HG.out]
  have P6 := P5.step b6
  have B6 := step_trans B5 b6
  clear P5 B5 b6
  go_wp2_with fail
  refine (of_any _ L J 3 hLn (by omega) (by unfold maxLen; omega) _ P6).mono ?_
  rintro e w7 ⟨rfl, b7⟩
  rw [← HG.out]
  have P7 := P6.step b7
  have B7 := step_trans B6 b7
  clear P6 B6 b7
  go_wp2_with fail
  refine (mac_any none [] 0 0 rfl (Nat.le_refl _) (by unfold maxLen; omega) (fun _ => rfl) _ L J 3 hLn (by omega) (by unfold maxLen; omega) _ (fun h => absurd h (by simp)) P7).mono ?_
  rintro e w8 ⟨rfl, b8⟩
  rw [← HG.out]
  have B8 := step_trans B7 b8
  clear P7 B7 b8
  go_wp2
  go_ret
  exact ⟨rfl, B8⟩
end Go.Proofs.Ytajombnckgehbaa
