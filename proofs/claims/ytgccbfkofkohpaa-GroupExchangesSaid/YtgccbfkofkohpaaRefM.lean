/- sentinelref1: Mul. -/
import Derived.Test.YtgccbfkofkohpaaRefB
import Derived.Test.YtgccbfkofkohpaaPair
namespace Go.Proofs.Ytgccbfkofkohpaa
set_option linter.unusedVariables false
set_option maxRecDepth 20000
set_option linter.unusedSimpArgs false
open Go.ChangeShapes Go.WideShapes Go.ChangeAt Go.RowKit
set_option maxHeartbeats 4000000 in
theorem rmul_any (a b : Nat) (ha : a < 4294967296 ^ 8) (hb : b < 4294967296 ^ 8) (w : World) :
    Calls Try.prog 36 #[numV a, numV b] w fun e w' => e = .returned (.tuple #[numV (a * b % 4294967296 ^ 8), numV (a * b / 4294967296 ^ 8)]) ∧ Below w.heap.size w w' := by
  obtain ⟨W, hW⟩ : ∃ W, W = (((((w.alloc (.cells (numA a) 26)).alloc (.cells (numA b) 26)).alloc (.cells #[Value.int .u32 0, .int .u32 0, .int .u32 0, .int .u32 0, .int .u32 0, .int .u32 0, .int .u32 0, .int .u32 0] 26)).alloc (.cells #[Value.int .u32 0, .int .u32 0, .int .u32 0, .int .u32 0, .int .u32 0, .int .u32 0, .int .u32 0, .int .u32 0] 26)).alloc (.cells #[Value.int .u32 0, .int .u32 0, .int .u32 0, .int .u32 0, .int .u32 0, .int .u32 0, .int .u32 0, .int .u32 0, .int .u32 0, .int .u32 0, .int .u32 0, .int .u32 0, .int .u32 0, .int .u32 0, .int .u32 0, .int .u32 0] 85)) := ⟨_, rfl⟩
  have g0 : Num W w.heap.size 26 a := by rw [hW]; exact ((((Num.new w _ a).alloc _).alloc _).alloc _).alloc _
  have g1 : Num W (w.heap.size + 1) 26 b := by
    have := (((Num.new (w.alloc (.cells (numA a) 26)) 26 b).alloc (.cells #[Value.int .u32 0, .int .u32 0, .int .u32 0, .int .u32 0, .int .u32 0, .int .u32 0, .int .u32 0, .int .u32 0] 26)).alloc (.cells #[Value.int .u32 0, .int .u32 0, .int .u32 0, .int .u32 0, .int .u32 0, .int .u32 0, .int .u32 0, .int .u32 0] 26)).alloc (.cells #[Value.int .u32 0, .int .u32 0, .int .u32 0, .int .u32 0, .int .u32 0, .int .u32 0, .int .u32 0, .int .u32 0, .int .u32 0, .int .u32 0, .int .u32 0, .int .u32 0, .int .u32 0, .int .u32 0, .int .u32 0, .int .u32 0] 85)
    rw [World.size_alloc] at this; rw [hW]; exact this
  have g2 : W.heap[w.heap.size + 1 + 1]? = some (.cells #[Value.int .u32 0, .int .u32 0, .int .u32 0, .int .u32 0, .int .u32 0, .int .u32 0, .int .u32 0, .int .u32 0] 26 (0, 0)) := by
    have h := heap_alloc2_old ((w.alloc (.cells (numA a) 26)).alloc (.cells (numA b) 26)) (.cells #[Value.int .u32 0, .int .u32 0, .int .u32 0, .int .u32 0, .int .u32 0, .int .u32 0, .int .u32 0, .int .u32 0] 26) (.cells #[Value.int .u32 0, .int .u32 0, .int .u32 0, .int .u32 0, .int .u32 0, .int .u32 0, .int .u32 0, .int .u32 0] 26)
    have := (Below.heap_alloc (((((w.alloc (.cells (numA a) 26)).alloc (.cells (numA b) 26)).alloc (.cells #[Value.int .u32 0, .int .u32 0, .int .u32 0, .int .u32 0, .int .u32 0, .int .u32 0, .int .u32 0, .int .u32 0] 26)).alloc (.cells #[Value.int .u32 0, .int .u32 0, .int .u32 0, .int .u32 0, .int .u32 0, .int .u32 0, .int .u32 0, .int .u32 0] 26))) (.cells #[Value.int .u32 0, .int .u32 0, .int .u32 0, .int .u32 0, .int .u32 0, .int .u32 0, .int .u32 0, .int .u32 0, .int .u32 0, .int .u32 0, .int .u32 0, .int .u32 0, .int .u32 0, .int .u32 0, .int .u32 0, .int .u32 0] 85) _ (heap_lt' h)).trans h
    simp only [World.size_alloc] at this; rw [hW]; exact this
  have g3 : W.heap[w.heap.size + 1 + 1 + 1]? = some (.cells #[Value.int .u32 0, .int .u32 0, .int .u32 0, .int .u32 0, .int .u32 0, .int .u32 0, .int .u32 0, .int .u32 0] 26 (0, 0)) := by
    have h := heap_alloc2_new ((w.alloc (.cells (numA a) 26)).alloc (.cells (numA b) 26)) (.cells #[Value.int .u32 0, .int .u32 0, .int .u32 0, .int .u32 0, .int .u32 0, .int .u32 0, .int .u32 0, .int .u32 0] 26) (.cells #[Value.int .u32 0, .int .u32 0, .int .u32 0, .int .u32 0, .int .u32 0, .int .u32 0, .int .u32 0, .int .u32 0] 26)
    have := (Below.heap_alloc (((((w.alloc (.cells (numA a) 26)).alloc (.cells (numA b) 26)).alloc (.cells #[Value.int .u32 0, .int .u32 0, .int .u32 0, .int .u32 0, .int .u32 0, .int .u32 0, .int .u32 0, .int .u32 0] 26)).alloc (.cells #[Value.int .u32 0, .int .u32 0, .int .u32 0, .int .u32 0, .int .u32 0, .int .u32 0, .int .u32 0, .int .u32 0] 26))) (.cells #[Value.int .u32 0, .int .u32 0, .int .u32 0, .int .u32 0, .int .u32 0, .int .u32 0, .int .u32 0, .int .u32 0, .int .u32 0, .int .u32 0, .int .u32 0, .int .u32 0, .int .u32 0, .int .u32 0, .int .u32 0, .int .u32 0] 85) _ (heap_lt' h)).trans h
    simp only [World.size_alloc] at this; rw [hW]; exact this
  have g4 : W.rowIs (w.heap.size + 1 + 1 + 1 + 1) 85 16 (numF (rowN a b 0)) := by
    have := zero16 ((((w.alloc (.cells (numA a) 26)).alloc (.cells (numA b) 26)).alloc (.cells #[Value.int .u32 0, .int .u32 0, .int .u32 0, .int .u32 0, .int .u32 0, .int .u32 0, .int .u32 0, .int .u32 0] 26)).alloc (.cells #[Value.int .u32 0, .int .u32 0, .int .u32 0, .int .u32 0, .int .u32 0, .int .u32 0, .int .u32 0, .int .u32 0] 26))
    rw [World.size_alloc, World.size_alloc, World.size_alloc, World.size_alloc] at this; rw [rowN_zero, hW]; exact this
  have gb : Below w.heap.size w W := by rw [hW]; exact (((((Below.refl _ _).alloc (Nat.le_refl _) _).alloc (by simp) _).alloc (by simp; omega) _).alloc (by simp; omega) _).alloc (by simp; omega) _
  go_enter Try.func36, Try.ntmps36
  go_upto_region 2 with fail
  rw [← hW]
  clear hW
  go_wp2
  go_loopw [7] (fun i wr => ∃ k : Nat, k ≤ 8 ∧ i = .int .i64 k ∧ wr.rowIs (w.heap.size + 1 + 1 + 1 + 1) 85 16 (numF (rowN a b k)) ∧ W.grownBy wr (some (w.heap.size + 1 + 1 + 1 + 1))) (fun i _ => 8 - (intOf i).toNat)
  case atStart => exact ⟨0, by omega, rfl, g4, World.grownBy.refl _ _⟩
  case round =>
    obtain ⟨k, hk, rfl, hr, hg⟩ := hrel
    clear g4
    by_cases hlt : k < 8
    · have ms := hid (mul_step (a := a) hb hlt)
      have c0 : Hid (digI a k = digI a k) := hid rfl
      have hd1 : 0 ≤ digI a k ∧ digI a k < 4294967296 := ⟨digI_ge _ _, digI_lt _ _⟩
      have HCB := hid (fun j => cyM_bd (d := digI a k) (x := fun i => digI (rowN a b k) (k + i)) (y := digI b) hd1 (fun i => ⟨digI_ge _ _, digI_lt _ _⟩) (fun i => ⟨digI_ge _ _, digI_lt _ _⟩) j)
      obtain ⟨d1, d2⟩ := hd1
      go_wp2
      go_loopw [8, 9] (fun cy j wi => ∃ p : Nat, p ≤ 8 ∧ j = .int .i64 p ∧ cy = .int .u64 (cyM (digI a k) (fun i => digI (rowN a b k) (k + i)) (digI b) p) ∧ wi.rowIs (w.heap.size + 1 + 1 + 1 + 1) 85 16 (fun j => if k ≤ j ∧ j < k + p then .int .u32 (zM (digI a k) (fun i => digI (rowN a b k) (k + i)) (digI b) (j - k)) else numF (rowN a b k) j) ∧ W.grownBy wi (some (w.heap.size + 1 + 1 + 1 + 1))) (fun _ j _ => 8 - (intOf j).toNat)
      case atStart => exact ⟨0, by omega, rfl, rfl, hr.congr fun j _ => by rw [if_neg (by omega)], hg⟩
      case round =>
        obtain ⟨p, hp, rfl, rfl, hq, hgi⟩ := hrel
        clear hr hg
        by_cases hlp : p < 8
        · have s0 := (g0.grown hgi (by simp; omega)).cell hlt
          have s1 := (g1.grown hgi (by simp)).cell hlp
          have s2 := hq.cell (i := k + p) (by omega)
          rw [if_neg (by omega), numF] at s2
          have s3 := hq.frozen (k + p)
          obtain ⟨cb0, cb1⟩ := HCB.out p
          have y0 := digI_ge b p
          have y1 := digI_lt b p
          have x0 := digI_ge (rowN a b k) (k + p)
          have x1 := digI_lt (rowN a b k) (k + p)
          obtain ⟨pd0, pd1⟩ := prod_bd ⟨d1, d2⟩ ⟨y0, y1⟩
          have e1 := Go.IntWalk.u64_in (digI a k * digI b p) (by omega)
          have e2 := Go.IntWalk.u64_in (cyM (digI a k) (fun i => digI (rowN a b k) (k + i)) (digI b) p + digI a k * digI b p) (by omega)
          have e3 := Go.IntWalk.u64_in (cyM (digI a k) (fun i => digI (rowN a b k) (k + i)) (digI b) p + digI a k * digI b p + digI (rowN a b k) (k + p)) (by omega)
          go_wp2
          go_quiet (fail)
          clear e1 e2 e3 s0 s1
          go_wp2
          go_roundw
          case rel =>
            refine ⟨p + 1, by omega, by go_num, ?_, ?_, drewN_grown (grown_set hgi rfl _) _⟩
            · rw [cyM, Int.add_assoc]
            · refine (hq.set (k + p) _).congr fun j hj => ?_
              by_cases e : j = k + p
              · subst e
                rw [if_pos rfl, if_pos (by omega), Nat.add_sub_cancel_left, zM, Int.add_assoc]
              · rw [if_neg e]
                by_cases h1 : k ≤ j ∧ j < k + p
                · rw [if_pos h1, if_pos (by omega)]
                · rw [if_neg h1, if_neg (by omega)]
          case measure => simp [intOf] <;> omega
        · obtain rfl : p = 8 := by omega
          have s2 := hq.cell (i := k + 8) (by omega)
          rw [if_neg (by omega), numF] at s2
          have s3 := hq.frozen (k + 8)
          obtain ⟨C, hC⟩ : ∃ C, cyM (digI a k) (fun i => digI (rowN a b k) (k + i)) (digI b) 8 = C := ⟨_, rfl⟩
          obtain ⟨cb0, cb1⟩ := HCB.out 8
          rw [hC] at cb0 cb1 ⊢
          have HCC := hid hC
          clear hC
          go_wp2
          go_roundw
          case rel =>
            refine ⟨k + 1, by omega, by go_num, (hq.set (k + 8) _).congr fun j hj => ?_, grown_set hgi rfl _⟩
            have e := ms.out j hj
            unfold numF
            rw [← e]
            unfold nextZ
            by_cases h8 : j = k + 8
            · rw [if_pos h8, if_neg (by omega), if_pos h8, HCC.out]
            · rw [if_neg h8]
              by_cases h9 : k ≤ j ∧ j < k + 8
              · rw [if_pos h9, if_pos h9]
              · rw [if_neg h9, if_neg h9, if_neg h8]
          case measure => simp [intOf] <;> omega
    · obtain rfl : k = 8 := by omega
      rw [rowN_full b ha] at hr
      have B := below_of_grown gb hg gb.size (by omega)
      have q2 := (hg.block _ (heap_lt' g2) (by simp)).trans g2
      have q3 := (hg.block _ (heap_lt' g3) (by simp)).trans g3
      have hs4 := hr.lt
      obtain ⟨c, hc⟩ : ∃ c, c = wr.heap.size := ⟨_, rfl⟩
      have r := (hr.alloc (.cells #[Value.int .u32 0, .int .u32 0, .int .u32 0, .int .u32 0, .int .u32 0, .int .u32 0, .int .u32 0, .int .u32 0] 26)).alloc (.cells #[Value.int .u32 0, .int .u32 0, .int .u32 0, .int .u32 0, .int .u32 0, .int .u32 0, .int .u32 0, .int .u32 0] 26)
      have z1 := (zrow _ _ (heap_alloc_new wr (.cells #[Value.int .u32 0, .int .u32 0, .int .u32 0, .int .u32 0, .int .u32 0, .int .u32 0, .int .u32 0, .int .u32 0] 26))).alloc (.cells #[Value.int .u32 0, .int .u32 0, .int .u32 0, .int .u32 0, .int .u32 0, .int .u32 0, .int .u32 0, .int .u32 0] 26)
      have z2 := zrow _ _ (heap_alloc_new (wr.alloc (.cells #[Value.int .u32 0, .int .u32 0, .int .u32 0, .int .u32 0, .int .u32 0, .int .u32 0, .int .u32 0, .int .u32 0] 26)) (.cells #[Value.int .u32 0, .int .u32 0, .int .u32 0, .int .u32 0, .int .u32 0, .int .u32 0, .int .u32 0, .int .u32 0] 26))
      have p2 := (Below.heap_alloc (wr.alloc (.cells #[Value.int .u32 0, .int .u32 0, .int .u32 0, .int .u32 0, .int .u32 0, .int .u32 0, .int .u32 0, .int .u32 0] 26)) (.cells #[Value.int .u32 0, .int .u32 0, .int .u32 0, .int .u32 0, .int .u32 0, .int .u32 0, .int .u32 0, .int .u32 0] 26) _ (by simp; omega)).trans ((Below.heap_alloc wr (.cells #[Value.int .u32 0, .int .u32 0, .int .u32 0, .int .u32 0, .int .u32 0, .int .u32 0, .int .u32 0, .int .u32 0] 26) _ (by omega)).trans q2)
      have p3 := (Below.heap_alloc (wr.alloc (.cells #[Value.int .u32 0, .int .u32 0, .int .u32 0, .int .u32 0, .int .u32 0, .int .u32 0, .int .u32 0, .int .u32 0] 26)) (.cells #[Value.int .u32 0, .int .u32 0, .int .u32 0, .int .u32 0, .int .u32 0, .int .u32 0, .int .u32 0, .int .u32 0] 26) _ (by simp; omega)).trans ((Below.heap_alloc wr (.cells #[Value.int .u32 0, .int .u32 0, .int .u32 0, .int .u32 0, .int .u32 0, .int .u32 0, .int .u32 0, .int .u32 0] 26) _ (by omega)).trans q3)
      have B2 := (B.alloc B.size (.cells #[Value.int .u32 0, .int .u32 0, .int .u32 0, .int .u32 0, .int .u32 0, .int .u32 0, .int .u32 0, .int .u32 0] 26)).alloc (by simp; have := B.size; omega) (.cells #[Value.int .u32 0, .int .u32 0, .int .u32 0, .int .u32 0, .int .u32 0, .int .u32 0, .int .u32 0, .int .u32 0] 26)
      rw [World.size_alloc] at z2
      rw [← hc] at z1 z2 hs4
      go_upto_region 14 with fail
      rw [← hc]
      generalize World.alloc (World.alloc _ _) _ = V at *
      have hcw : w.heap.size + 1 + 1 + 1 + 1 < c := hs4
      clear hr hg g0 g1 g2 g3 gb q2 q3 B hs4 hc
      go_wp2
      go_loopw [12] (fun i wq => ∃ p : Nat, p ≤ 8 ∧ i = .int .i64 p ∧ wq.rowIs c 26 8 (fun j => if j < p then numF (a * b) j else .int .u32 0) ∧ wq.rowIs (c + 1) 26 8 (fun j => if j < p then numF (a * b) (j + 8) else .int .u32 0) ∧ Below c V wq) (fun i _ => 8 - (intOf i).toNat)
      case atStart => exact ⟨0, by omega, rfl, z1.congr fun j _ => by rw [if_neg (by omega)], z2.congr fun j _ => by rw [if_neg (by omega)], Below.refl _ _⟩
      case round =>
        obtain ⟨p, hp, rfl, h1, h2, hB⟩ := hrel
        clear z1 z2
        by_cases hlp : p < 8
        · have s0 := (hB.cell (p := ⟨w.heap.size + 1 + 1 + 1 + 1, p, none⟩) hcw).trans (r.cell (i := p) (by omega))
          have s1 := (hB.cell (p := ⟨w.heap.size + 1 + 1 + 1 + 1, p + 8, none⟩) hcw).trans (r.cell (i := p + 8) (by omega))
          rw [numF] at s0 s1
          have t1 := h1.cell hlp
          have t2 := h2.cell hlp
          have f1 := h1.frozen p
          have f2 := h2.frozen p
          go_wp2
          go_region
          go_wp2
          go_roundw
          case rel =>
            refine ⟨p + 1, by omega, by go_num, ?_, ?_, ?_⟩
            · refine (((h1.set p _).setOther (by simp) _).drew).congr fun j _ => ?_
              by_cases e : j = p
              · subst e; rw [if_pos rfl, if_pos (by omega), numF]
              · rw [if_neg e]
                by_cases h9 : j < p
                · rw [if_pos h9, if_pos (by omega)]
                · rw [if_neg h9, if_neg (by omega)]
            · refine (((h2.setOther (by simp) _).set p _).drew).congr fun j _ => ?_
              by_cases e : j = p
              · subst e; rw [if_pos rfl, if_pos (by omega), numF]
              · rw [if_neg e]
                by_cases h9 : j < p
                · rw [if_pos h9, if_pos (by omega)]
                · rw [if_neg h9, if_neg (by omega)]
            · exact (((hB.setCell (p := ⟨c, p, none⟩) (Nat.le_refl _) _).setCell (p := ⟨c + 1, p, none⟩) (Nat.le_succ _) _).drew)
          case measure => simp [intOf] <;> omega
        · obtain rfl : p = 8 := by omega
          obtain ⟨x, hx⟩ : ∃ x, x = a * b % 4294967296 ^ 8 := ⟨_, rfl⟩
          obtain ⟨y, hy⟩ : ∃ y, y = a * b / 4294967296 ^ 8 := ⟨_, rfl⟩
          have m1 : Num wr c 26 x := num_of_row h1 fun j hj => by rw [if_pos hj, hx, numF, numF]; unfold digI; rw [dig_mod _ hj]
          have m2 : Num wr (c + 1) 26 y := num_of_row h2 fun j hj => by rw [if_pos hj, hy, numF, numF, dig_shift, Nat.add_comm]
          have X := hid hx
          have Y := hid hy
          have l2 := (hB.block _ (by omega)).trans p2
          have l3 := (hB.block _ (by omega)).trans p3
          clear hx hy h1 h2 p2 p3 r
          go_wp2
          refine wp_two_rows (by kernel_rfl) 26 _ Try.underlying26 rfl size26 10 11 4 5 67 68 rfl rfl rfl rfl rfl rfl rfl rfl rfl rfl rfl rfl (by kernel_rfl) (by kernel_rfl) (by kernel_rfl) (by kernel_rfl) (by kernel_rfl) (by kernel_rfl) (by kernel_rfl) (by decide) (by simp) (by simp)
            c (c + 1) (w.heap.size + 1 + 1) (w.heap.size + 1 + 1 + 1) rfl rfl rfl rfl 26 26 x y m1 m2 _ _ l2 l3 rfl rfl ⟨by omega, by omega, by omega⟩ ?_
          intro w9 b9 k9 l9
          simp only [Act.put, List.setIfInBounds_toArray, List.set_cons_zero, List.set_cons_succ]
          go_wp2
          exact bodyPost_ret (results_num2 rfl rfl k9 rfl l9 Try.underlying26 rfl size26) rfl ⟨by rw [← X.out, ← Y.out], (B2.trans (hB.mono (by omega))).trans (b9 _ (by omega) (by omega))⟩
end Go.Proofs.Ytgccbfkofkohpaa
