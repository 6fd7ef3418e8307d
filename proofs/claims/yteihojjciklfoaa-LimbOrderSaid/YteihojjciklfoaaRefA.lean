/- sentinelref1: Add, Sub, Cmp. -/
import Derived.Test.YteihojjciklfoaaLater
namespace Go.Proofs.Yteihojjciklfoaa
set_option linter.unusedVariables false
set_option linter.unusedSimpArgs false
open Go.ChangeShapes Go.WideShapes Go.ChangeAt Go.RowKit
set_option maxHeartbeats 1000000 in
theorem rcmp_any (a b : Nat) (ha : a < 4294967296 ^ 8) (hb : b < 4294967296 ^ 8) (w : World) :
    Calls Try.prog 26 #[numV a, numV b] w fun e w' => e = .returned (.int .i64 (cmpI a b)) ∧ Below w.heap.size w w' := by
  go_enter Try.func26, Try.ntmps26
  go_wp2
  have g0 := (Num.new w 26 a).alloc (.cells (numA b) 26)
  have g1 := Num.new (w.alloc (.cells (numA a) 26)) 26 b
  rw [World.size_alloc] at g1
  have gb : Below w.heap.size w ((w.alloc (.cells (numA a) 26)).alloc (.cells (numA b) 26)) := ((Below.refl _ _).alloc (Nat.le_refl _) _).alloc (by simp) _
  generalize hW : World.alloc _ _ = W at *
  clear hW
  go_loopw [5] (fun i wr => ∃ q : Int, -1 ≤ q ∧ q ≤ 7 ∧ i = .int .i64 q ∧ Hid (SameFrom a b (q + 1).toNat) ∧ ∃ n, wr = W.drewN n) (fun i _ => (intOf i + 1).toNat)
  case atStart => exact ⟨7, by omega, by omega, rfl, sameFrom_top ha hb, 0, rfl⟩
  case round =>
    obtain ⟨q, h1, h2, rfl, ht, n0, rfl⟩ := hrel
    by_cases hq : 0 ≤ q
    · obtain ⟨k, rfl⟩ := Int.eq_ofNat_of_zero_le hq
      have hc := g0.cell (k := k) (by omega)
      have hd := g1.cell (k := k) (by omega)
      have ht' : Hid (SameFrom a b (k + 1)) := ht
      clear ht
      by_cases hlt : digI a k < digI b k
      · go_wp2
        go_quiet (fail)
        go_wp2
        go_ret
        exact ⟨by rw [cmp_lt ht'.out hlt]; rfl, by first | exact below_drewN gb _ | exact below_drewN (below_drewN gb _) _ | exact below_drewN (below_drewN (below_drewN gb _) _) _⟩
      · by_cases hgt : digI b k < digI a k
        · go_wp2
          go_quiet (fail)
          go_wp2
          go_quiet (fail)
          go_wp2
          go_ret
          exact ⟨by rw [cmp_gt ht'.out hgt]; rfl, by first | exact below_drewN gb _ | exact below_drewN (below_drewN gb _) _ | exact below_drewN (below_drewN (below_drewN gb _) _) _⟩
        · have hs : Hid (SameFrom a b k) := sameFrom_step ht'.out (by unfold digI at hlt hgt; omega)
          go_wp2
          go_quiet (fail)
          go_wp2
          go_quiet (fail)
          go_wp2
          go_roundw
          case rel => exact ⟨(k : Int) - 1, by omega, by omega, rfl, by rw [show ((k : Int) - 1 + 1).toNat = k by omega]; exact hs, _, rfl⟩
          case measure => simp [intOf] <;> omega
    · have hq' : q = -1 := by omega
      subst hq'
      go_wp2
      go_ret
      exact ⟨by rw [cmp_eq ht.out]; rfl, by first | exact below_drewN gb _ | exact below_drewN (below_drewN gb _) _ | exact below_drewN (below_drewN (below_drewN gb _) _) _⟩

theorem zrow (w : World) (b : Nat) (h : w.heap[b]? = some (.cells #[Value.int .u32 0, .int .u32 0, .int .u32 0, .int .u32 0, .int .u32 0, .int .u32 0, .int .u32 0, .int .u32 0] 26 (0, 0))) : w.rowIs b 26 8 (fun _ => .int .u32 0) := by
  have : Num w b 26 0 := by unfold Num; rw [← zeroA]; exact h
  exact this.row.congr fun j hj => by simp [numF, digI, dig]
theorem heap_lt' {w : World} {b : Nat} {o : Obj} (h : w.heap[b]? = some o) : b < w.heap.size := (Array.getElem?_eq_some_iff.1 h).1
theorem addN_mod (a b : Nat) (ha : a < 4294967296 ^ 8) (hb : b < 4294967296 ^ 8) : addN a b = (a + b) % 4294967296 ^ 8 := by
  unfold addN
  split
  · exact (Nat.mod_eq_of_lt (by assumption)).symm
  · omega
theorem drewN_grown {a w : World} {row : Option Nat} (h : a.grownBy w row) (n : Nat) : a.grownBy (w.drewN n) row := ⟨h.os, h.tape, h.output, h.size, h.block⟩
set_option maxHeartbeats 2000000 in
theorem radd_any (a b : Nat) (ha : a < 4294967296 ^ 8) (hb : b < 4294967296 ^ 8) (w : World) :
    Calls Try.prog 18 #[numV a, numV b] w fun e w' => e = .returned (.tuple #[numV (addN a b), .int .u32 (overI a b)]) ∧ Below w.heap.size w w' := by
  obtain ⟨hc, hz⟩ := add_digits a b ha hb
  have bd : ∀ n k, 0 ≤ digI n k ∧ digI n k < 4294967296 := fun n k => ⟨digI_ge _ _, digI_lt _ _⟩
  have HZ := hid hz
  have HC := hid hc
  have HB := hid (fun k => cyI_bd (bd a) (bd b) (c := 0) (by omega) k)
  clear hc hz bd
  obtain ⟨x, hx⟩ : ∃ x, x = digI a := ⟨_, rfl⟩
  obtain ⟨y, hy⟩ : ∃ y, y = digI b := ⟨_, rfl⟩
  have q0 := ((((Num.new w 26 a).alloc (.cells (numA b) 26)).alloc (.cells #[Value.int .u32 0, .int .u32 0, .int .u32 0, .int .u32 0, .int .u32 0, .int .u32 0, .int .u32 0, .int .u32 0] 26)).alloc (.cells #[Value.int .u32 0, .int .u32 0, .int .u32 0, .int .u32 0, .int .u32 0, .int .u32 0, .int .u32 0, .int .u32 0] 26))
  have q1 := (((Num.new (w.alloc (.cells (numA a) 26)) 26 b).alloc (.cells #[Value.int .u32 0, .int .u32 0, .int .u32 0, .int .u32 0, .int .u32 0, .int .u32 0, .int .u32 0, .int .u32 0] 26)).alloc (.cells #[Value.int .u32 0, .int .u32 0, .int .u32 0, .int .u32 0, .int .u32 0, .int .u32 0, .int .u32 0, .int .u32 0] 26))
  have q2 := (heap_alloc2_old ((w.alloc (.cells (numA a) 26)).alloc (.cells (numA b) 26)) (.cells #[Value.int .u32 0, .int .u32 0, .int .u32 0, .int .u32 0, .int .u32 0, .int .u32 0, .int .u32 0, .int .u32 0] 26) (.cells #[Value.int .u32 0, .int .u32 0, .int .u32 0, .int .u32 0, .int .u32 0, .int .u32 0, .int .u32 0, .int .u32 0] 26))
  have q3 := (heap_alloc2_new ((w.alloc (.cells (numA a) 26)).alloc (.cells (numA b) 26)) (.cells #[Value.int .u32 0, .int .u32 0, .int .u32 0, .int .u32 0, .int .u32 0, .int .u32 0, .int .u32 0, .int .u32 0] 26) (.cells #[Value.int .u32 0, .int .u32 0, .int .u32 0, .int .u32 0, .int .u32 0, .int .u32 0, .int .u32 0, .int .u32 0] 26))
  have qb : Below w.heap.size w ((((w.alloc (.cells (numA a) 26)).alloc (.cells (numA b) 26)).alloc (.cells #[Value.int .u32 0, .int .u32 0, .int .u32 0, .int .u32 0, .int .u32 0, .int .u32 0, .int .u32 0, .int .u32 0] 26)).alloc (.cells #[Value.int .u32 0, .int .u32 0, .int .u32 0, .int .u32 0, .int .u32 0, .int .u32 0, .int .u32 0, .int .u32 0] 26)) := ((((Below.refl _ _).alloc (Nat.le_refl _) _).alloc (by simp) _).alloc (by simp; omega) _).alloc (by simp; omega) _
  simp only [World.size_alloc] at q1 q2 q3
  go_enter Try.func18, Try.ntmps18
  go_wp2
  generalize World.alloc (World.alloc (World.alloc (World.alloc _ _) _) _) _ = W at *
  go_loopw [7, 8] (fun cy i wr => ∃ k : Nat, k ≤ 8 ∧ i = .int .i64 k ∧ cy = .int .u64 (cyI (digI a) (digI b) 0 k) ∧ W.grownBy wr (some (w.heap.size + 1 + 1 + 1)) ∧ wr.rowIs (w.heap.size + 1 + 1 + 1) 26 8 (fun j => if j < k then .int .u32 (zI (digI a) (digI b) 0 j) else .int .u32 0)) (fun _ i _ => 8 - (intOf i).toNat)
  case atStart => exact ⟨0, by omega, rfl, rfl, World.grownBy.refl _ _, (zrow _ _ q3).congr fun j hj => by rw [if_neg (by omega)]⟩
  case round =>
    obtain ⟨k, hk, rfl, rfl, hg, hr⟩ := hrel
    by_cases hlt : k < 8
    · have c0 := ((q0.grown hg (by simp; omega)).cell hlt)
      have c1 := ((q1.grown hg (by simp)).cell hlt)
      have c3 := hr.frozen k
      have c4 := hr.cell hlt
      obtain ⟨hb1, hb2⟩ := HB.out k
      have d1 := digI_ge a k
      have d2 := digI_lt a k
      have d3 := digI_ge b k
      have d4 := digI_lt b k
      have e1 := Go.IntWalk.u64_in (cyI (digI a) (digI b) 0 k + digI a k) (by omega)
      have e2 := Go.IntWalk.u64_in (cyI (digI a) (digI b) 0 k + digI a k + digI b k) (by omega)
      have hne : (w.heap.size + 1 + 1 + 1 : Nat) ≠ w.heap.size + 1 + 1 := by omega
      go_wp2
      go_quiet (fail)
      clear e1 e2 c0 c1
      go_wp2
      go_roundw
      case rel =>
        refine ⟨k + 1, by omega, by go_num, ?_, (drewN_grown (grown_set hg rfl _) _), ((hr.set k _).congr fun j hj => ?_)⟩
        · rw [cyI, show digI a k + digI b k + cyI (digI a) (digI b) 0 k = cyI (digI a) (digI b) 0 k + digI a k + digI b k by omega]
        · by_cases e : j = k
          · subst e
            rw [if_pos rfl, if_pos (by omega), zI, show digI a j + digI b j + cyI (digI a) (digI b) 0 j = cyI (digI a) (digI b) 0 j + digI a j + digI b j by omega]
          · rw [if_neg e]
            by_cases h1 : j < k
            · rw [if_pos h1, if_pos (by omega)]
            · rw [if_neg h1, if_neg (by omega)]
      case measure => simp [intOf]; omega
    · have : k = 8 := by omega
      subst this
      have n3 : Num wr (w.heap.size + 1 + 1 + 1) 26 (addN a b) := num_of_row hr fun j hj => by rw [if_pos hj, HZ.out j hj, numF, addN_mod a b ha hb]; unfold digI; rw [dig_mod _ hj]
      have q2' := (hg.block _ (heap_lt' q2) (by simp)).trans q2
      have e8 : cyI (digI a) (digI b) 0 8 = overI a b := by rw [HC.out]; unfold overI; split <;> omega
      rw [e8]
      have o1 := overI_ge a b
      have o2 := overI_le a b
      clear e8 hr HZ HC HB q0 q1 q2
      go_wp2_with (first | (refine wpList_load_num rfl _ _ rfl _ rfl _ _ _ n3 Try.underlying26 rfl size26 ?_) | (refine wpList_store_num rfl _ _ _ rfl _ rfl _ rfl _ rfl q2' size26 ?_; intro w2 hg2 m2))
      exact bodyPost_ret (results_num_tmp rfl rfl m2 Try.underlying26 rfl size26) rfl ⟨rfl, below_of_grown (below_of_grown qb hg qb.size (by omega)) hg2 (below_of_grown qb hg qb.size (by omega)).size (by omega)⟩
end Go.Proofs.Yteihojjciklfoaa
