/- sentinelref1: Add, Sub, Cmp. -/
import Derived.Test.YtgccbfkofkohpaaGaKn
import Derived.Deep.CutRange
namespace Go.Proofs.Ytgccbfkofkohpaa
set_option linter.unusedVariables false
set_option maxRecDepth 20000
set_option linter.unusedSimpArgs false
open Go.ChangeShapes Go.WideShapes Go.ChangeAt Go.RowKit
set_option maxHeartbeats 1000000 in
theorem rcmp_any (a b : Nat) (ha : a < 4294967296 ^ 8) (hb : b < 4294967296 ^ 8) (w : World) :
    Calls Try.prog 29 #[numV a, numV b] w fun e w' => e = .returned (.int .i64 (cmpI a b)) ∧ Below w.heap.size w w' := by
  go_enter Try.func29, Try.ntmps29
  go_wp2
  have g0 := (Num.new w 26 a).alloc (.cells (numA b) 26)
  have g1 := Num.new (w.alloc (.cells (numA a) 26)) 26 b
  rw [World.size_alloc] at g1
  have gb : Below w.heap.size w ((w.alloc (.cells (numA a) 26)).alloc (.cells (numA b) 26)) := ((Below.refl _ _).alloc (Nat.le_refl _) _).alloc (by simp) _
  generalize hW : World.alloc _ _ = W at *
  clear hW
  go_loopw [5] (fun i wr => ∃ q : Int, -1 ≤ q ∧ q ≤ 7 ∧ i = .int .i64 q ∧ Hid (SameFrom a b (q + 1).toNat) ∧ ∃ n, wr = W.drewN n) (fun i _ => (intOf i + 1).toNat)
  case atStart => exact ⟨7, by omega, by omega, rfl, sameFrom_top ha hb, 0, rfl⟩
  case round =>
    obtain ⟨q, h1, h2, rfl, ht, n0, rfl⟩ := hrel
    by_cases hq : 0 ≤ q
    · obtain ⟨k, rfl⟩ := Int.eq_ofNat_of_zero_le hq
      have hc := g0.cell (k := k) (by omega)
      have hd := g1.cell (k := k) (by omega)
      have ht' : Hid (SameFrom a b (k + 1)) := ht
      clear ht
      by_cases hlt : digI a k < digI b k
      · go_wp2
        go_quiet (fail)
        go_wp2
        go_ret
        exact ⟨by rw [cmp_lt ht'.out hlt]; rfl, by first | exact below_drewN gb _ | exact below_drewN (below_drewN gb _) _ | exact below_drewN (below_drewN (below_drewN gb _) _) _⟩
      · by_cases hgt : digI b k < digI a k
        · go_wp2
          go_quiet (fail)
          go_wp2
          go_quiet (fail)
          go_wp2
          go_ret
          exact ⟨by rw [cmp_gt ht'.out hgt]; rfl, by first | exact below_drewN gb _ | exact below_drewN (below_drewN gb _) _ | exact below_drewN (below_drewN (below_drewN gb _) _) _⟩
        · have hs : Hid (SameFrom a b k) := sameFrom_step ht'.out (by unfold digI at hlt hgt; omega)
          go_wp2
          go_quiet (fail)
          go_wp2
          go_quiet (fail)
          go_wp2
          go_roundw
          case rel => exact ⟨(k : Int) - 1, by omega, by omega, rfl, by rw [show ((k : Int) - 1 + 1).toNat = k by omega]; exact hs, _, rfl⟩
          case measure => simp [intOf] <;> omega
    · have hq' : q = -1 := by omega
      subst hq'
      go_wp2
      go_ret
      exact ⟨by rw [cmp_eq ht.out]; rfl, by first | exact below_drewN gb _ | exact below_drewN (below_drewN gb _) _ | exact below_drewN (below_drewN (below_drewN gb _) _) _⟩

theorem zrow (w : World) (b : Nat) (h : w.heap[b]? = some (.cells #[Value.int .u32 0, .int .u32 0, .int .u32 0, .int .u32 0, .int .u32 0, .int .u32 0, .int .u32 0, .int .u32 0] 26 (0, 0))) : w.rowIs b 26 8 (fun _ => .int .u32 0) := by
  have : Num w b 26 0 := by unfold Num; rw [← zeroA]; exact h
  exact this.row.congr fun j hj => by simp [numF, digI, dig]
theorem heap_lt' {w : World} {b : Nat} {o : Obj} (h : w.heap[b]? = some o) : b < w.heap.size := (Array.getElem?_eq_some_iff.1 h).1
theorem addN_mod (a b : Nat) (ha : a < 4294967296 ^ 8) (hb : b < 4294967296 ^ 8) : addN a b = (a + b) % 4294967296 ^ 8 := by
  unfold addN
  split
  · exact (Nat.mod_eq_of_lt (by assumption)).symm
  · omega
theorem drewN_grown {a w : World} {row : Option Nat} (h : a.grownBy w row) (n : Nat) : a.grownBy (w.drewN n) row := ⟨h.os, h.tape, h.output, h.size, h.block⟩
set_option maxHeartbeats 2000000 in
theorem radd_any (a b : Nat) (ha : a < 4294967296 ^ 8) (hb : b < 4294967296 ^ 8) (w : World) :
    Calls Try.prog 43 #[numV a, numV b] w fun e w' => e = .returned (.tuple #[numV (addN a b), .int .u32 (overI a b)]) ∧ Below w.heap.size w w' := by
  obtain ⟨hc, hz⟩ := add_digits a b ha hb
  have bd : ∀ n k, 0 ≤ digI n k ∧ digI n k < 4294967296 := fun n k => ⟨digI_ge _ _, digI_lt _ _⟩
  have HZ := hid hz
  have HC := hid hc
  have HB := hid (fun k => cyI_bd (bd a) (bd b) (c := 0) (by omega) k)
  clear hc hz bd
  obtain ⟨x, hx⟩ : ∃ x, x = digI a := ⟨_, rfl⟩
  obtain ⟨y, hy⟩ : ∃ y, y = digI b := ⟨_, rfl⟩
  have q0 := ((((Num.new w 26 a).alloc (.cells (numA b) 26)).alloc (.cells #[Value.int .u32 0, .int .u32 0, .int .u32 0, .int .u32 0, .int .u32 0, .int .u32 0, .int .u32 0, .int .u32 0] 26)).alloc (.cells #[Value.int .u32 0, .int .u32 0, .int .u32 0, .int .u32 0, .int .u32 0, .int .u32 0, .int .u32 0, .int .u32 0] 26))
  have q1 := (((Num.new (w.alloc (.cells (numA a) 26)) 26 b).alloc (.cells #[Value.int .u32 0, .int .u32 0, .int .u32 0, .int .u32 0, .int .u32 0, .int .u32 0, .int .u32 0, .int .u32 0] 26)).alloc (.cells #[Value.int .u32 0, .int .u32 0, .int .u32 0, .int .u32 0, .int .u32 0, .int .u32 0, .int .u32 0, .int .u32 0] 26))
  have q2 := (heap_alloc2_old ((w.alloc (.cells (numA a) 26)).alloc (.cells (numA b) 26)) (.cells #[Value.int .u32 0, .int .u32 0, .int .u32 0, .int .u32 0, .int .u32 0, .int .u32 0, .int .u32 0, .int .u32 0] 26) (.cells #[Value.int .u32 0, .int .u32 0, .int .u32 0, .int .u32 0, .int .u32 0, .int .u32 0, .int .u32 0, .int .u32 0] 26))
  have q3 := (heap_alloc2_new ((w.alloc (.cells (numA a) 26)).alloc (.cells (numA b) 26)) (.cells #[Value.int .u32 0, .int .u32 0, .int .u32 0, .int .u32 0, .int .u32 0, .int .u32 0, .int .u32 0, .int .u32 0] 26) (.cells #[Value.int .u32 0, .int .u32 0, .int .u32 0, .int .u32 0, .int .u32 0, .int .u32 0, .int .u32 0, .int .u32 0] 26))
  have qb : Below w.heap.size w ((((w.alloc (.cells (numA a) 26)).alloc (.cells (numA b) 26)).alloc (.cells #[Value.int .u32 0, .int .u32 0, .int .u32 0, .int .u32 0, .int .u32 0, .int .u32 0, .int .u32 0, .int .u32 0] 26)).alloc (.cells #[Value.int .u32 0, .int .u32 0, .int .u32 0, .int .u32 0, .int .u32 0, .int .u32 0, .int .u32 0, .int .u32 0] 26)) := ((((Below.refl _ _).alloc (Nat.le_refl _) _).alloc (by simp) _).alloc (by simp; omega) _).alloc (by simp; omega) _
  simp only [World.size_alloc] at q1 q2 q3
  go_enter Try.func43, Try.ntmps43
  go_wp2
  generalize World.alloc (World.alloc (World.alloc (World.alloc _ _) _) _) _ = W at *
  go_loopw [7, 8] (fun cy i wr => ∃ k : Nat, k ≤ 8 ∧ i = .int .i64 k ∧ cy = .int .u64 (cyI (digI a) (digI b) 0 k) ∧ W.grownBy wr (some (w.heap.size + 1 + 1 + 1)) ∧ wr.rowIs (w.heap.size + 1 + 1 + 1) 26 8 (fun j => if j < k then .int .u32 (zI (digI a) (digI b) 0 j) else .int .u32 0)) (fun _ i _ => 8 - (intOf i).toNat)
  case atStart => exact ⟨0, by omega, rfl, rfl, World.grownBy.refl _ _, (zrow _ _ q3).congr fun j hj => by rw [if_neg (by omega)]⟩
  case round =>
    obtain ⟨k, hk, rfl, rfl, hg, hr⟩ := hrel
    by_cases hlt : k < 8
    · have c0 := ((q0.grown hg (by simp; omega)).cell hlt)
      have c1 := ((q1.grown hg (by simp)).cell hlt)
      have c3 := hr.frozen k
      have c4 := hr.cell hlt
      obtain ⟨hb1, hb2⟩ := HB.out k
      have d1 := digI_ge a k
      have d2 := digI_lt a k
      have d3 := digI_ge b k
      have d4 := digI_lt b k
      have e1 := Go.IntWalk.u64_in (cyI (digI a) (digI b) 0 k + digI a k) (by omega)
      have e2 := Go.IntWalk.u64_in (cyI (digI a) (digI b) 0 k + digI a k + digI b k) (by omega)
      have hne : (w.heap.size + 1 + 1 + 1 : Nat) ≠ w.heap.size + 1 + 1 := by omega
      go_wp2
      go_quiet (fail)
      clear e1 e2 c0 c1
      go_wp2
      go_roundw
      case rel =>
        refine ⟨k + 1, by omega, by go_num, ?_, (drewN_grown (grown_set hg rfl _) _), ((hr.set k _).congr fun j hj => ?_)⟩
        · rw [cyI, show digI a k + digI b k + cyI (digI a) (digI b) 0 k = cyI (digI a) (digI b) 0 k + digI a k + digI b k by omega]
        · by_cases e : j = k
          · subst e
            rw [if_pos rfl, if_pos (by omega), zI, show digI a j + digI b j + cyI (digI a) (digI b) 0 j = cyI (digI a) (digI b) 0 j + digI a j + digI b j by omega]
          · rw [if_neg e]
            by_cases h1 : j < k
            · rw [if_pos h1, if_pos (by omega)]
            · rw [if_neg h1, if_neg (by omega)]
      case measure => simp [intOf]; omega
    · have : k = 8 := by omega
      subst this
      have n3 : Num wr (w.heap.size + 1 + 1 + 1) 26 (addN a b) := num_of_row hr fun j hj => by rw [if_pos hj, HZ.out j hj, numF, addN_mod a b ha hb]; unfold digI; rw [dig_mod _ hj]
      have q2' := (hg.block _ (heap_lt' q2) (by simp)).trans q2
      have e8 : cyI (digI a) (digI b) 0 8 = overI a b := by rw [HC.out]; unfold overI; split <;> omega
      rw [e8]
      have o1 := overI_ge a b
      have o2 := overI_le a b
      clear e8 hr HZ HC HB q0 q1 q2
      go_wp2_with (first | (refine wpList_load_num rfl _ _ rfl _ rfl _ _ _ n3 Try.underlying26 rfl size26 ?_) | (refine wpList_store_num rfl _ _ _ rfl _ rfl _ rfl _ rfl q2' size26 ?_; intro w2 hg2 m2))
      exact bodyPost_ret (results_num_tmp rfl rfl m2 Try.underlying26 rfl size26) rfl ⟨rfl, below_of_grown (below_of_grown qb hg qb.size (by omega)) hg2 (below_of_grown qb hg qb.size (by omega)).size (by omega)⟩
end Go.Proofs.Ytgccbfkofkohpaa
namespace Go.Proofs.Ytgccbfkofkohpaa
set_option linter.unusedVariables false
set_option maxRecDepth 20000
set_option linter.unusedSimpArgs false
open Go.ChangeShapes Go.WideShapes Go.ChangeAt Go.RowKit
theorem bwI_lt {x y : Nat → Int} {k : Nat} (h : x k < y k + bwI x y k) (hx : 0 ≤ x k) (hy : y k < 4294967296) (hb : bwI x y k ≤ 1) : bwI x y (k + 1) = 1 ∧ zS x y k = x k + 4294967296 - (y k + bwI x y k) := by
  simp only [bwI, zS]; omega
theorem bwI_ge {x y : Nat → Int} {k : Nat} (h : ¬ x k < y k + bwI x y k) (hx : x k < 4294967296) (hy : 0 ≤ y k) (hb : 0 ≤ bwI x y k) : bwI x y (k + 1) = 0 ∧ zS x y k = x k - (y k + bwI x y k) := by
  simp only [bwI, zS]; omega
set_option maxHeartbeats 2000000 in
theorem rsub_any (a b : Nat) (ha : a < 4294967296 ^ 8) (hb : b < 4294967296 ^ 8) (w : World) :
    Calls Try.prog 38 #[numV a, numV b] w fun e w' => e = .returned (.tuple #[numV (subN a b), .int .u32 (lentI a b)]) ∧ Below w.heap.size w w' := by
  obtain ⟨hc, hz⟩ := sub_digits a b ha hb
  have bd : ∀ n k, 0 ≤ digI n k ∧ digI n k < 4294967296 := fun n k => ⟨digI_ge _ _, digI_lt _ _⟩
  have HZ := hid hz
  have HC := hid hc
  have HB := hid (fun k => bwI_bd (bd a) (bd b) k)
  clear hc hz bd
  have q0 := ((((Num.new w 26 a).alloc (.cells (numA b) 26)).alloc (.cells #[Value.int .u32 0, .int .u32 0, .int .u32 0, .int .u32 0, .int .u32 0, .int .u32 0, .int .u32 0, .int .u32 0] 26)).alloc (.cells #[Value.int .u32 0, .int .u32 0, .int .u32 0, .int .u32 0, .int .u32 0, .int .u32 0, .int .u32 0, .int .u32 0] 26))
  have q1 := (((Num.new (w.alloc (.cells (numA a) 26)) 26 b).alloc (.cells #[Value.int .u32 0, .int .u32 0, .int .u32 0, .int .u32 0, .int .u32 0, .int .u32 0, .int .u32 0, .int .u32 0] 26)).alloc (.cells #[Value.int .u32 0, .int .u32 0, .int .u32 0, .int .u32 0, .int .u32 0, .int .u32 0, .int .u32 0, .int .u32 0] 26))
  have q2 := (heap_alloc2_old ((w.alloc (.cells (numA a) 26)).alloc (.cells (numA b) 26)) (.cells #[Value.int .u32 0, .int .u32 0, .int .u32 0, .int .u32 0, .int .u32 0, .int .u32 0, .int .u32 0, .int .u32 0] 26) (.cells #[Value.int .u32 0, .int .u32 0, .int .u32 0, .int .u32 0, .int .u32 0, .int .u32 0, .int .u32 0, .int .u32 0] 26))
  have q3 := (heap_alloc2_new ((w.alloc (.cells (numA a) 26)).alloc (.cells (numA b) 26)) (.cells #[Value.int .u32 0, .int .u32 0, .int .u32 0, .int .u32 0, .int .u32 0, .int .u32 0, .int .u32 0, .int .u32 0] 26) (.cells #[Value.int .u32 0, .int .u32 0, .int .u32 0, .int .u32 0, .int .u32 0, .int .u32 0, .int .u32 0, .int .u32 0] 26))
  have qb : Below w.heap.size w ((((w.alloc (.cells (numA a) 26)).alloc (.cells (numA b) 26)).alloc (.cells #[Value.int .u32 0, .int .u32 0, .int .u32 0, .int .u32 0, .int .u32 0, .int .u32 0, .int .u32 0, .int .u32 0] 26)).alloc (.cells #[Value.int .u32 0, .int .u32 0, .int .u32 0, .int .u32 0, .int .u32 0, .int .u32 0, .int .u32 0, .int .u32 0] 26)) := ((((Below.refl _ _).alloc (Nat.le_refl _) _).alloc (by simp) _).alloc (by simp; omega) _).alloc (by simp; omega) _
  simp only [World.size_alloc] at q1 q2 q3
  go_enter Try.func38, Try.ntmps38
  go_wp2
  generalize World.alloc (World.alloc (World.alloc (World.alloc _ _) _) _) _ = W at *
  go_loopw [7, 8] (fun cy i wr => ∃ k : Nat, k ≤ 8 ∧ i = .int .i64 k ∧ cy = .int .u64 (bwI (digI a) (digI b) k) ∧ W.grownBy wr (some (w.heap.size + 1 + 1 + 1)) ∧ wr.rowIs (w.heap.size + 1 + 1 + 1) 26 8 (fun j => if j < k then .int .u32 (zS (digI a) (digI b) j) else .int .u32 0)) (fun _ i _ => 8 - (intOf i).toNat)
  case atStart => exact ⟨0, by omega, rfl, rfl, World.grownBy.refl _ _, (zrow _ _ q3).congr fun j hj => by rw [if_neg (by omega)]⟩
  case round =>
    obtain ⟨k, hk, rfl, rfl, hg, hr⟩ := hrel
    by_cases hlt : k < 8
    · have c0 := ((q0.grown hg (by simp; omega)).cell hlt)
      have c1 := ((q1.grown hg (by simp)).cell hlt)
      have c3 := hr.frozen k
      have c4 := hr.cell hlt
      obtain ⟨hb1, hb2⟩ := HB.out k
      have d1 := digI_ge a k
      have d2 := digI_lt a k
      have d3 := digI_ge b k
      have d4 := digI_lt b k
      have e1 := Go.IntWalk.u64_in (digI b k + bwI (digI a) (digI b) k) (by omega)
      by_cases hl : digI a k < digI b k + bwI (digI a) (digI b) k
      · obtain ⟨f1, f2⟩ := bwI_lt hl d1 d4 hb2
        have F1 := hid f1
        have F2 := hid f2
        clear f1 f2
        go_wp2
        go_quiet (fail)
        clear e1 c0 c1
        go_wp2
        go_roundw
        case rel =>
          refine ⟨k + 1, by omega, by go_num, by rw [F1.out], (drewN_grown (grown_set hg rfl _) _), ((hr.set k _).congr fun j hj => ?_)⟩
          by_cases e : j = k
          · subst e
            rw [if_pos rfl, if_pos (by omega), F2.out]
          · rw [if_neg e]
            by_cases h1 : j < k
            · rw [if_pos h1, if_pos (by omega)]
            · rw [if_neg h1, if_neg (by omega)]
        case measure => simp [intOf]; omega
      · obtain ⟨f1, f2⟩ := bwI_ge hl d2 d3 hb1
        have F1 := hid f1
        have F2 := hid f2
        clear f1 f2
        go_wp2
        go_quiet (fail)
        clear e1 c0 c1
        go_wp2
        go_roundw
        case rel =>
          refine ⟨k + 1, by omega, by go_num, by rw [F1.out], (drewN_grown (grown_set hg rfl _) _), ((hr.set k _).congr fun j hj => ?_)⟩
          by_cases e : j = k
          · subst e
            rw [if_pos rfl, if_pos (by omega), F2.out]
          · rw [if_neg e]
            by_cases h1 : j < k
            · rw [if_pos h1, if_pos (by omega)]
            · rw [if_neg h1, if_neg (by omega)]
        case measure => simp [intOf]; omega
    · have : k = 8 := by omega
      subst this
      have n3 : Num wr (w.heap.size + 1 + 1 + 1) 26 (subN a b) := num_of_row hr fun j hj => by rw [if_pos hj, HZ.out j hj, numF]
      have q2' := (hg.block _ (heap_lt' q2) (by simp)).trans q2
      have e8 : bwI (digI a) (digI b) 8 = lentI a b := HC.out
      rw [e8]
      have o1 := lentI_ge a b
      have o2 := lentI_le a b
      clear e8 hr HZ HC HB q0 q1 q2
      go_wp2_with (first | (refine wpList_load_num rfl _ _ rfl _ rfl _ _ _ n3 Try.underlying26 rfl size26 ?_) | (refine wpList_store_num rfl _ _ _ rfl _ rfl _ rfl _ rfl q2' size26 ?_; intro w2 hg2 m2))
      exact bodyPost_ret (results_num_tmp rfl rfl m2 Try.underlying26 rfl size26) rfl ⟨rfl, below_of_grown (below_of_grown qb hg qb.size (by omega)) hg2 (below_of_grown qb hg qb.size (by omega)).size (by omega)⟩
/-- Bit i of a. -/
def bitI (a : Nat) (i : Nat) : Int := ((a / 2 ^ i % 2 : Nat) : Int)
theorem bitI_bd (a i : Nat) : 0 ≤ bitI a i ∧ bitI a i ≤ 1 := by unfold bitI; omega
theorem testBit_bit (a i : Nat) : a / 2 ^ i % 2 = (a.testBit i).toNat := by
  rw [Nat.testBit_eq_decide_div_mod_eq]
  rcases Nat.mod_two_eq_zero_or_one (a / 2 ^ i) with h | h <;> simp [h]
theorem bit_dig (a i : Nat) : bits BinOp.and IntKind.u32 (digI a (i / 32) / 2 ^ (i % 32)) 1 = bitI a i := by
  have hd : digI a (i / 32) / 2 ^ (i % 32) = ((dig a (i / 32) / 2 ^ (i % 32) : Nat) : Int) := by unfold digI; simp
  have hl : dig a (i / 32) / 2 ^ (i % 32) < 4294967296 := Nat.lt_of_le_of_lt (Nat.div_le_self _ _) (dig_lt _ _)
  have h := bits_mask .u32 32 (by decide) (fun n h0 h1 => by rw [IntKind.wrap_u32]; omega) 1 (by omega) ((dig a (i / 32) / 2 ^ (i % 32) : Nat) : Int) (Int.natCast_nonneg _) (by exact_mod_cast hl)
  rw [hd]
  have h' : bits BinOp.and IntKind.u32 ((dig a (i / 32) / 2 ^ (i % 32) : Nat) : Int) 1 = ((dig a (i / 32) / 2 ^ (i % 32) : Nat) : Int) % 2 := h
  rw [h', bitI]
  have e : dig a (i / 32) / 2 ^ (i % 32) % 2 = a / 2 ^ i % 2 := by
    rw [testBit_bit, testBit_bit, dig, show (4294967296 : Nat) = 2 ^ 32 from rfl, ← Nat.pow_mul, Nat.testBit_mod_two_pow, Nat.testBit_div_two_pow, show i % 32 + 32 * (i / 32) = i by omega]
    simp [Nat.mod_lt]
  rw [← e]; omega
set_option maxHeartbeats 1000000 in
theorem rbit_any (a : Nat) (i : Nat) (hi : i < 256) (w : World) :
    Calls Try.prog 68 #[numV a, .int .i64 i] w fun e w' => e = .returned (.int .u32 (bitI a i)) ∧ Below w.heap.size w w' := by
  have g0 := Num.new w 26 a
  have c0 := g0.cell (k := i / 32) (by omega)
  go_enter Try.func68, Try.ntmps68
  go_wp2
  go_ret
  exact ⟨by rw [← bit_dig]; rfl, (Below.refl _ _).alloc (Nat.le_refl _) _⟩
attribute [irreducible] bitI
theorem even_add {n : Nat} {l : Int} (h : n % 2 = 0) (h0 : 0 ≤ l) (h1 : l ≤ 1) : bits BinOp.or IntKind.u32 (digI n 0) l = digI (n + l.toNat) 0 ∧ ∀ k, 1 ≤ k → digI (n + l.toNat) k = digI n k := by
  have e0 : ∀ n, dig n 0 = n % 4294967296 := fun n => by unfold dig; simp
  constructor
  · have hx : digI n 0 = ((n % 4294967296 : Nat) : Int) := by unfold digI; rw [e0]
    have hy : digI (n + l.toNat) 0 = (((n + l.toNat) % 4294967296 : Nat) : Int) := by unfold digI; rw [e0]
    rw [hx, hy]
    have := bits_join .u32 32 (by decide) (fun n h0 h1 => by rw [IntKind.wrap_u32]; omega) 1 ((n % 4294967296 : Nat) : Int) l (by omega) (by omega) (by omega) h0 (by omega) (by omega)
    rw [this]; omega
  · intro k hk
    obtain ⟨j, rfl⟩ := Nat.exists_eq_add_of_le hk
    unfold digI dig
    rw [Nat.pow_add, Nat.pow_one, ← Nat.div_div_eq_div_mul, ← Nat.div_div_eq_div_mul, show (n + l.toNat) / 4294967296 = n / 4294967296 by omega]
theorem addN_even {r : Nat} : addN r r % 2 = 0 := by unfold addN; split <;> omega
set_option maxHeartbeats 1000000 in
theorem rtwice_any (r : Nat) (hr : r < 4294967296 ^ 8) (l : Int) (h0 : 0 ≤ l) (h1 : l ≤ 1) (w : World) :
    Calls Try.prog 69 #[numV r, .int .u32 l] w fun e w' => e = .returned (.tuple #[numV (addN r r + l.toNat), .int .u32 (overI r r)]) ∧ Below w.heap.size w w' := by
  obtain ⟨f1, f2⟩ := even_add (n := addN r r) addN_even h0 h1
  have F1 := hid f1
  have F2 := hid f2
  clear f1 f2
  have g0 := (Num.new w 26 r).alloc (.cells #[Value.int .u32 0, .int .u32 0, .int .u32 0, .int .u32 0, .int .u32 0, .int .u32 0, .int .u32 0, .int .u32 0] 26)
  have g1 := heap_alloc_new (w.alloc (.cells (numA r) 26)) (.cells #[Value.int .u32 0, .int .u32 0, .int .u32 0, .int .u32 0, .int .u32 0, .int .u32 0, .int .u32 0, .int .u32 0] 26)
  rw [World.size_alloc] at g1
  have gb : Below w.heap.size w ((w.alloc (.cells (numA r) 26)).alloc (.cells #[Value.int .u32 0, .int .u32 0, .int .u32 0, .int .u32 0, .int .u32 0, .int .u32 0, .int .u32 0, .int .u32 0] 26)) := ((Below.refl _ _).alloc (Nat.le_refl _) _).alloc (by simp) _
  go_enter Try.func69, Try.ntmps69
  go_wp2_with (refine wpList_load_num rfl _ _ rfl _ rfl _ _ _ g0 Try.underlying26 rfl size26 ?_)
  generalize World.alloc (World.alloc _ _) _ = W at *
  refine (radd_any r r hr hr _).mono ?_
  rintro e w1 ⟨rfl, b1⟩
  have p1 := (b1.block _ (heap_lt' g1)).trans g1
  have B1 := gb.trans (b1.mono gb.size)
  have hs := (heap_lt' g1)
  have hs1 := b1.size
  clear g0 g1 gb
  go_upto_region 2 with ((refine wpList_store_num rfl _ _ _ rfl _ rfl _ rfl _ rfl (heap_alloc_new _ _) size26 ?_; intro w2 g2 m2))
  have B2 := below_of_grown (B1.alloc B1.size _) g2 (by simp; exact Nat.le_succ_of_le B1.size) B1.size
  have p2 := (g2.block _ (by simp; omega) (by simp; omega)).trans ((Below.heap_alloc w1 _ _ (by omega)).trans p1)
  have c0 := m2.cell (k := 0) (by omega)
  have c1 := m2.frozen 0
  have hs2 := B1.size
  go_upto_region 3 with fail
  rw [F1.out]
  have n3 : Num (w2.setCell ⟨w1.heap.size, 0, none⟩ (.int .u32 (digI (addN r r + l.toNat) 0))) w1.heap.size 26 (addN r r + l.toNat) := num_of_row (m2.row.set 0 _) fun j hj => by
    by_cases e : j = 0
    · subst e; rw [if_pos rfl, numF]
    · rw [if_neg e, numF, numF, F2.out j (by omega)]
  have g3 := grown_set (p := ⟨w1.heap.size, 0, none⟩) (World.grownBy.refl w2 (some w1.heap.size)) rfl (.int .u32 (digI (addN r r + l.toNat) 0))
  generalize World.setCell _ _ _ = w3 at *
  have p3 := (g3.block _ (by have := heap_lt' p2; omega) (by simp; omega)).trans p2
  have B3 := below_of_grown B2 g3 B2.size hs2
  clear F1 F2 p1 p2 c0 c1 m2 g2 g3 B1 B2
  go_wp2_with (first | (refine wpList_load_num rfl _ _ rfl _ rfl _ _ _ n3 Try.underlying26 rfl size26 ?_) | (refine wpList_store_num rfl _ _ _ rfl _ rfl _ rfl _ rfl p3 size26 ?_; intro w4 g4 m4))
  exact bodyPost_ret (results_num_tmp rfl rfl m4 Try.underlying26 rfl size26) rfl ⟨rfl, below_of_grown B3 g4 B3.size (by omega)⟩
end Go.Proofs.Ytgccbfkofkohpaa
