/- The hunt of group.Make. -/
import Derived.Test.YtgccbfkofkohpaaGaGa
import Derived.Test.YtgccbfkofkohpaaGaRel
import Derived.Test.YtgccbfkofkohpaaGaBk
import Derived.Test.YtgccbfkofkohpaaGaMc
namespace Go.Proofs.Ytgccbfkofkohpaa
set_option linter.unusedVariables false
set_option maxRecDepth 20000
set_option linter.unusedSimpArgs false
open Go.ChangeShapes Go.WideShapes Go.ChangeAt Go.RowKit
/-- What safe answers. -/
noncomputable def safeB (p : Int) : Bool := primeB (p / 2) && primeB p
/-- The hunt of Make: the bound lies in block C. -/
def huntA (C : Nat) : Array Value := #[.func (.func 44) #[] #[.pointer (some ⟨C, 0, none⟩)], .func (.func 45) #[] #[]]
/-- What the hunt finds below B: the first that is safe, or none. -/
def HuntR (B r : Int) (b : Bool) : Prop := (b = true ∧ ∃ i : Nat, (i : Int) < B ∧ r = B - 1 - i ∧ safeB r = true ∧ ∀ j : Nat, j < i → safeB (B - 1 - j) = false) ∨ (b = false ∧ r = 0 ∧ ∀ j : Nat, (j : Int) < B → safeB (B - 1 - j) = false)
set_option maxRecDepth 100000 in
set_option maxHeartbeats 2000000 in
theorem safe_any (p : Int) (h0 : 0 ≤ p) (h1 : p < 4611686018427387904) (w : World) :
    Calls Try.prog 45 #[.int .i64 p] w fun e w' => e = .returned (.bool (safeB p)) ∧ w = w' := by
  obtain ⟨H, hH⟩ : ∃ H, p / 2 = H := ⟨_, rfl⟩
  have ht : p.tdiv 2 = H := by rw [Int.tdiv_eq_ediv_of_nonneg h0]; exact hH
  obtain ⟨g0, g1⟩ : 0 ≤ H ∧ H < 4611686018427387904 := by omega
  have k1 := fun w => prime_any H (by omega) (by omega) w
  have k2 := fun w => prime_any p (by omega) (by omega) w
  obtain ⟨c, hc⟩ : ∃ b, primeB H = b := ⟨_, rfl⟩
  obtain ⟨d, hd⟩ : ∃ b, primeB p = b := ⟨_, rfl⟩
  rw [show safeB p = (c && d) by unfold safeB; rw [hH, hc, hd]]
  rw [hc] at k1
  rw [hd] at k2
  clear hc hd hH
  go_enter Try.func45, Try.ntmps45
  go_wp2_with fail
  refine (k1 _).mono ?_
  rintro e w1 ⟨rfl, rfl⟩
  cases c
  · go_wp2_with fail
    go_ret
    exact ⟨rfl, rfl⟩
  · go_wp2_with fail
    refine (k2 _).mono ?_
    rintro e w2 ⟨rfl, rfl⟩
    go_wp2_with fail
    go_ret
    exact ⟨rfl, rfl⟩
set_option maxRecDepth 100000 in
set_option maxHeartbeats 2000000 in
theorem at1_any (B i : Int) (h0 : 0 ≤ i) (h1 : i ≤ 4294967296) (b0 : 0 ≤ B) (b1 : B ≤ 4294967296) (C : Nat) (w : World) (hC : w.cell? ⟨C, 0, none⟩ = some (.int .i64 B)) :
    Calls Try.prog 44 #[.int .i64 i, .pointer (some ⟨C, 0, none⟩)] w fun e w' => e = .returned (.int .i64 (B - 1 - i)) ∧ w = w' := by
  go_enter Try.func44, Try.ntmps44
  go_wp2_with fail
  go_ret
  exact ⟨rfl, rfl⟩
set_option maxRecDepth 100000 in
set_option maxHeartbeats 8000000 in
theorem first_any (B : Int) (b0 : 0 ≤ B) (b1 : B ≤ 4294967296) (C : Nat) (w : World) (hC : w.cell? ⟨C, 0, none⟩ = some (.int .i64 B)) (hCl : C < w.heap.size) :
    Calls Try.prog 46 #[.agg (huntA C), .int .i64 B] w fun e w' => ∃ r b, e = .returned (.tuple #[.int .i64 r, .bool b]) ∧ HuntR B r b ∧ Below w.heap.size w w' := by
  obtain ⟨W, hW⟩ : ∃ W, W = w.alloc (.cells (huntA C) 67) := ⟨_, rfl⟩
  have qh : Blk W w.heap.size 67 (huntA C) := by rw [hW]; exact Blk.new w _ _
  have gb : Below w.heap.size w W := by rw [hW]; exact (Below.refl _ _).alloc (Nat.le_refl _) _
  have hCW : W.cell? ⟨C, 0, none⟩ = some (.int .i64 B) := by rw [gb.cell hCl]; exact hC
  have c0 : W.cell? ⟨w.heap.size, 0, none⟩ = some (.func (.func 44) #[] #[.pointer (some ⟨C, 0, none⟩)]) := qh.cell rfl
  have c1 : W.cell? ⟨w.heap.size, 1, none⟩ = some (.func (.func 45) #[] #[]) := qh.cell rfl
  go_enter Try.func46, Try.ntmps46
  go_upto_region 1 with fail
  rw [← hW]
  clear hW
  refine wp_scope_jumps2 0 (fun a' w' => ∃ x3 x4 x5 x7 x8 x9 x10 x11 x12 x13 x14 x15 x16 x17 x18 x19 x20 x21 x22 x23 : Value, ∃ i : Nat, a' = { tmps := #[.agg (huntA C), .int .i64 B, .pointer (some ⟨w.heap.size, 0, none⟩), x3, x4, x5, .int .i64 (i : Int), x7, x8, x9, x10, x11, x12, x13, x14, x15, x16, x17, x18, x19, x20, x21, x22, x23], defers := [] } ∧ (i : Int) ≤ B ∧ Hid (∀ j : Nat, j < i → safeB (B - 1 - j) = false) ∧ w' = W) (fun a' _ => (B - intOf (a'.tmps.getD 6 undef)).toNat) rfl ?_ ?_
  · simp only [headWp, findLabel, beq_self_eq_true, if_true]
    go_wp2_with fail
    exact ⟨_, _, _, _, _, _, _, _, _, _, _, _, _, _, _, _, _, _, _, _, 0, rfl, b0, hid (fun j h => absurd h (Nat.not_lt_zero j)), (by first | rfl | trivial)⟩
  · rintro a' w' ⟨x3, x4, x5, x7, x8, x9, x10, x11, x12, x13, x14, x15, x16, x17, x18, x19, x20, x21, x22, x23, i, rfl, hi, hn, rfl⟩
    have hCW := hid hCW
    simp only [restWp, findLabel, beq_self_eq_true, if_true]
    refine (show Code.wp _ _ _ _ _ from ?_)
    by_cases hlt : (i : Int) < B
    · obtain ⟨s, hs⟩ : ∃ s, Hid (safeB (B - 1 - i) = s) := ⟨_, hid rfl⟩
      obtain ⟨v, hv⟩ : ∃ v, Hid (B - 1 - (i : Int) = v) := ⟨_, hid rfl⟩
      obtain ⟨v0, v1⟩ : 0 ≤ v ∧ v < 4294967296 := by have := hv.out; omega
      have k1 := at1_any B i (by omega) (by omega) b0 b1 C w' hCW.out
      rw [hv.out] at k1 hs
      have k2 := safe_any v v0 (by omega) w'
      rw [hs.out] at k2
      cases s
      · have hn' : Hid (∀ j : Nat, j < i + 1 → safeB (B - 1 - j) = false) := hid fun j hj => by
          by_cases e : j = i
          · subst e; rw [hv.out]; exact hs.out
          · exact hn.out j (by omega)
        go_wp2_with (first | (go_at_call 44; refine k1.mono ?_; rintro e w1 ⟨rfl, rfl⟩) | (go_at_call 45; refine k2.mono ?_; rintro e w1 ⟨rfl, rfl⟩))
        go_step3
        refine ⟨rfl, ⟨_, _, _, _, _, _, _, _, _, _, _, _, _, _, _, _, _, _, _, _, i + 1, rfl, by omega, hn', (by first | rfl | trivial)⟩, ?_⟩
        simp [intOf]; omega
      · go_wp2_with (first | (go_at_call 44; refine k1.mono ?_; rintro e w1 ⟨rfl, rfl⟩) | (go_at_call 45; refine k2.mono ?_; rintro e w1 ⟨rfl, rfl⟩))
        simp only [Exit.jump]
        go_ret2
        exact ⟨v, true, rfl, .inl ⟨rfl, i, hlt, hv.out.symm, hs.out, hn.out⟩, gb⟩
    · have hge : decide (B ≤ (i : Int)) = true := decide_eq_true (by omega)
      have hlt' : decide ((i : Int) < B) = false := decide_eq_false hlt
      go_wp2_with fail
      simp only [Exit.jump]
      go_ret2
      exact ⟨0, false, rfl, .inr ⟨rfl, rfl, fun j hj => hn.out j (by omega)⟩, gb⟩
end Go.Proofs.Ytgccbfkofkohpaa
namespace Go.Proofs.Ytgccbfkofkohpaa
set_option linter.unusedVariables false
set_option maxRecDepth 20000
set_option linter.unusedSimpArgs false
open Go.ChangeShapes Go.WideShapes Go.ChangeAt Go.RowKit
/-- A group. -/
def groupA (k : Int) (p q g : Nat) : Array Value := #[.int .i64 k, numF p 0, numF p 1, numF p 2, numF p 3, numF p 4, numF p 5, numF p 6, numF p 7, numF q 0, numF q 1, numF q 2, numF q 3, numF q 4, numF q 5, numF q 6, numF q 7, numF g 0, numF g 1, numF g 2, numF g 3, numF g 4, numF g 5, numF g 6, numF g 7]
theorem groupA_size (k : Int) (p q g : Nat) : (groupA k p q g).size = 25 := rfl
theorem size_group : (Try.prog.info? 28).map (·.size) = some 25 := by kernel_rfl
theorem groupA_zero : groupA 0 0 0 0 = #[Value.int .i64 0, .int .u32 0, .int .u32 0, .int .u32 0, .int .u32 0, .int .u32 0, .int .u32 0, .int .u32 0, .int .u32 0, .int .u32 0, .int .u32 0, .int .u32 0, .int .u32 0, .int .u32 0, .int .u32 0, .int .u32 0, .int .u32 0, .int .u32 0, .int .u32 0, .int .u32 0, .int .u32 0, .int .u32 0, .int .u32 0, .int .u32 0, .int .u32 0] := by unfold groupA; simp only [numF_none]
theorem groupA_cells (k : Int) (p q g : Nat) : (groupA k p q g).all (·.oneCell') = true := by simp [groupA, numF, Value.oneCell']
theorem run_buildG {a : Act} {w : World} {o : Oper} (x0 x1 x2 x3 : Operand) (ho : o.op = .build 28 #[(0, x0), (1, x1), (2, x2), (3, x3)]) {k : Int} {p q g : Nat} (h0 : a.eval x0 = .int .i64 k) (h1 : a.eval x1 = numV p) (h2 : a.eval x2 = numV q) (h3 : a.eval x3 = numV g) : (execOp a.eval o).run Try.prog w = .ok (.value (.agg (groupA k p q g))) w := by
  unfold execOp
  simp only [ho, List.map_toArray, List.map_cons, List.map_nil, h0, h1, h2, h3]
  kernel_rfl
theorem run_buildG0 {a : Act} {w : World} {o : Oper} (ho : o.op = .build 28 #[]) : (execOp a.eval o).run Try.prog w = .ok (.value (.agg (groupA 0 0 0 0))) w := by
  rw [groupA_zero]
  unfold execOp
  simp only [ho]
  kernel_rfl
theorem zG_cells : (#[Value.int .i64 0, .int .u32 0, .int .u32 0, .int .u32 0, .int .u32 0, .int .u32 0, .int .u32 0, .int .u32 0, .int .u32 0, .int .u32 0, .int .u32 0, .int .u32 0, .int .u32 0, .int .u32 0, .int .u32 0, .int .u32 0, .int .u32 0, .int .u32 0, .int .u32 0, .int .u32 0, .int .u32 0, .int .u32 0, .int .u32 0, .int .u32 0, .int .u32 0]).all (·.oneCell') = true := by rw [← groupA_zero]; exact groupA_cells _ _ _ _
/-- What Make answers. -/
def GmR (k : Int) (V : Value) : Prop := ∃ r b, V = (if b then .tuple #[.agg (groupA k r.toNat (r / 2).toNat 4), .bool true] else .tuple #[.agg (groupA 0 0 0 0), .bool false]) ∧ ((12 ≤ k ∧ k ≤ 31 ∧ HuntR (2 ^ k.toNat) r b) ∨ (¬ (12 ≤ k ∧ k ≤ 31) ∧ b = false))
theorem huntA_cells (C : Nat) : (huntA C).all (·.oneCell') = true := by simp [huntA, Value.oneCell']
theorem pow_k {k : Int} (h : 12 ≤ k ∧ k ≤ 31) : 0 ≤ (2 : Int) ^ k.toNat ∧ (2 : Int) ^ k.toNat ≤ 2147483648 := by
  obtain ⟨K, rfl⟩ := Int.eq_ofNat_of_zero_le (show 0 ≤ k by omega)
  have hl : 2 ^ K ≤ 2 ^ 31 := Nat.pow_le_pow_right (by decide) (by omega)
  have e : ((2 : Int) ^ K) = ((2 ^ K : Nat) : Int) := by simp
  rw [Int.toNat_natCast, e]
  generalize 2 ^ K = P at *
  have : P ≤ 2147483648 := hl
  omega
theorem size_hunt : (Try.prog.info? 67).map (·.size) = some 2 := by kernel_rfl
set_option maxRecDepth 100000 in
set_option maxHeartbeats 8000000 in
theorem gmake_any (k : Int) (h0 : -9223372036854775808 ≤ k) (h1 : k < 9223372036854775808) (w : World) :
    Calls Try.prog 15 #[.int .i64 k] w fun e w' => ∃ V, e = .returned V ∧ GmR k V ∧ Below w.heap.size w w' := by
  skip
  go_enter Try.func15, Try.ntmps15
  go_upto_region 1 with fail
  obtain ⟨W, hW⟩ : ∃ W, W = w.alloc (.cells #[Value.int .i64 0, .int .u32 0, .int .u32 0, .int .u32 0, .int .u32 0, .int .u32 0, .int .u32 0, .int .u32 0, .int .u32 0, .int .u32 0, .int .u32 0, .int .u32 0, .int .u32 0, .int .u32 0, .int .u32 0, .int .u32 0, .int .u32 0, .int .u32 0, .int .u32 0, .int .u32 0, .int .u32 0, .int .u32 0, .int .u32 0, .int .u32 0, .int .u32 0] 28) := ⟨_, rfl⟩
  have q_g : Blk W (w.heap.size) 28 #[Value.int .i64 0, .int .u32 0, .int .u32 0, .int .u32 0, .int .u32 0, .int .u32 0, .int .u32 0, .int .u32 0, .int .u32 0, .int .u32 0, .int .u32 0, .int .u32 0, .int .u32 0, .int .u32 0, .int .u32 0, .int .u32 0, .int .u32 0, .int .u32 0, .int .u32 0, .int .u32 0, .int .u32 0, .int .u32 0, .int .u32 0, .int .u32 0, .int .u32 0] := by
    have := (Blk.new w 28 (groupA 0 0 0 0))
    rw [groupA_zero] at this
    rw [hW]; exact this
  have gb : Below w.heap.size w W := by rw [hW]; exact ((Below.refl _ _).alloc (by simp <;> omega) _)
  rw [← hW]
  clear hW
  have log := hid (show w.heap.size ≤ w.heap.size by omega)
  by_cases hr : 12 ≤ k ∧ k ≤ 31
  · have hr0 := hid hr
    obtain ⟨B, hB⟩ : ∃ B : Int, 2 ^ k.toNat = B := ⟨_, rfl⟩
    obtain ⟨b0, b1⟩ : 0 ≤ B ∧ B ≤ 2147483648 := by rw [← hB]; exact pow_k hr
    have hBB := hid hB
    obtain ⟨hk0, hk1⟩ := hr
    go_upto_region 4 with fail
    have hb := Blk.new W 3 #[Value.int .i64 B]
    have g1 := q_g.alloc (.cells #[Value.int .i64 B] 3)
    have c1 := gb.alloc gb.size (.cells #[Value.int .i64 B] 3)
    have hlC : Hid (w.heap.size ≠ W.heap.size) := hid (Nat.ne_of_lt q_g.lt)
    obtain ⟨C, hC⟩ : ∃ C, C = W.heap.size := ⟨_, rfl⟩
    rw [← hC] at hb hlC ⊢
    generalize World.alloc W _ = W1 at *
    clear hC q_g gb hB
    go_upto_region 5 with (first | (refine wpList_load_blk rfl _ (.tmp 2) rfl _ rfl _ _ _ g1 Try.underlying28 rfl size_group ?_) | (refine wpList_store_blk rfl _ (.tmp 5) _ rfl _ rfl (huntA C) rfl (huntA_cells C) _ (heap_alloc_new _ _) rfl size_hunt ?_; intro w2 gw2 mw2))
    try simp only [Act.put, List.setIfInBounds_toArray, List.set_cons_zero, List.set_cons_succ]
    have b_1 := step_new gw2
    have g2 := g1.step b_1
    have hb2 := hb.step b_1
    have c2 := step_trans c1 b_1
    have cc := hb2.cell (k := 0) rfl
    clear g1 hb c1 gw2 b_1
    go_wp2_with (refine wpList_load_blk rfl _ (.tmp 5) rfl _ rfl _ _ _ mw2 Try.underlying67 rfl size_hunt ?_)
    refine (first_any B b0 (by omega) C _ cc hb2.lt).mono ?_
    rintro e w3 ⟨r, b, rfl, hR, bw⟩
    have g3 := g2.step bw
    have c3 := step_trans c2 bw
    clear g2 hb2 c2 cc mw2 bw
    have hG0 : Hid (b = false → GmR k (.tuple #[.agg (groupA 0 0 0 0), .bool false])) := hid (fun e => ⟨r, b, by rw [e]; rfl, .inl ⟨hr0.out.1, hr0.out.2, by rw [hBB.out]; exact hR⟩⟩)
    have hG1 : Hid (b = true → GmR k (.tuple #[.agg (groupA k r.toNat (r / 2).toNat 4), .bool true])) := hid (fun e => ⟨r, b, by rw [e]; rfl, .inl ⟨hr0.out.1, hr0.out.2, by rw [hBB.out]; exact hR⟩⟩)
    cases b
    · have hG := hid (hG0.out rfl)
      clear hG0 hG1
      go_wp2_with (refine wpList_store_blk rfl _ (.tmp 2) _ rfl _ rfl (#[Value.int .i64 0, .int .u32 0, .int .u32 0, .int .u32 0, .int .u32 0, .int .u32 0, .int .u32 0, .int .u32 0, .int .u32 0, .int .u32 0, .int .u32 0, .int .u32 0, .int .u32 0, .int .u32 0, .int .u32 0, .int .u32 0, .int .u32 0, .int .u32 0, .int .u32 0, .int .u32 0, .int .u32 0, .int .u32 0, .int .u32 0, .int .u32 0, .int .u32 0]) rfl zG_cells _ g3 rfl size_group ?_; intro wz gz mz)
      rw [← groupA_zero] at mz
      exact bodyPost_ret (results_blk_tmp rfl rfl mz Try.underlying28 rfl size_group) rfl ⟨.tuple #[.agg (groupA 0 0 0 0), .bool false], rfl, hG.out, below_of_grown c3 gz c3.size (by omega)⟩
    · obtain ⟨r0, r1⟩ : 0 ≤ r ∧ r < 2147483648 := by
        rcases hR with ⟨-, i, h1, h2, -⟩ | ⟨h, -⟩
        · omega
        · cases h
      obtain ⟨H, hH⟩ : ∃ H, r / 2 = H := ⟨_, rfl⟩
      have ht : r.tdiv 2 = H := by rw [Int.tdiv_eq_ediv_of_nonneg r0]; exact hH
      obtain ⟨u0, u1⟩ : 0 ≤ H ∧ H < 2147483648 := by omega
      rw [hH] at hG1
      have hG := hid (hG1.out rfl)
      clear hH hR hG0 hG1
      go_wp2_with fail
      refine (from_any r (by omega) (by omega) _).mono ?_
      rintro e w4 ⟨rfl, bw4⟩
      have g4 := g3.step bw4
      have c4 := step_trans c3 bw4
      go_wp2_with fail
      refine (from_any H (by omega) (by omega) _).mono ?_
      rintro e w5 ⟨rfl, bw5⟩
      have g5 := g4.step bw5
      have c5 := step_trans c4 bw5
      go_wp2_with fail
      refine (from_any 4 (by omega) (by omega) _).mono ?_
      rintro e w6 ⟨rfl, bw6⟩
      have g6 := g5.step bw6
      have c6 := step_trans c5 bw6
      clear g3 c3 bw4 g4 c4 bw5 g5 c5 bw6
      go_wp2_with (first | (refine wpList_op rfl _ (run_buildG (k := k) (p := r.toNat) (q := H.toNat) (g := 4) _ _ _ _ rfl rfl rfl rfl rfl) ?_) | (refine wpList_store_blk rfl _ (.tmp 2) _ rfl _ rfl (groupA k r.toNat H.toNat 4) rfl (groupA_cells _ _ _ _) _ g6 rfl size_group ?_; intro wz gz mz))
      exact bodyPost_ret (results_blk_tmp rfl rfl mz Try.underlying28 rfl size_group) rfl ⟨.tuple #[.agg (groupA k r.toNat H.toNat 4), .bool true], rfl, hG.out, below_of_grown c6 gz c6.size (by omega)⟩
  · have hr0 := hid hr
    have hway : k < 12 ∨ (¬ k < 12 ∧ 31 < k) := by omega
    rcases hway with hk | ⟨hk, hk2⟩
    · go_wp2_with (refine wpList_store_blk rfl _ (.tmp 2) _ rfl _ rfl (#[Value.int .i64 0, .int .u32 0, .int .u32 0, .int .u32 0, .int .u32 0, .int .u32 0, .int .u32 0, .int .u32 0, .int .u32 0, .int .u32 0, .int .u32 0, .int .u32 0, .int .u32 0, .int .u32 0, .int .u32 0, .int .u32 0, .int .u32 0, .int .u32 0, .int .u32 0, .int .u32 0, .int .u32 0, .int .u32 0, .int .u32 0, .int .u32 0, .int .u32 0]) rfl zG_cells _ q_g rfl size_group ?_; intro wz gz mz)
      rw [← groupA_zero] at mz
      exact bodyPost_ret (results_blk_tmp rfl rfl mz Try.underlying28 rfl size_group) rfl ⟨_, rfl, ⟨0, false, rfl, .inr ⟨hr0.out, rfl⟩⟩, below_of_grown gb gz gb.size (by omega)⟩
    · have hkd : decide (k < 12) = false := decide_eq_false hk
      go_wp2_with (refine wpList_store_blk rfl _ (.tmp 2) _ rfl _ rfl (#[Value.int .i64 0, .int .u32 0, .int .u32 0, .int .u32 0, .int .u32 0, .int .u32 0, .int .u32 0, .int .u32 0, .int .u32 0, .int .u32 0, .int .u32 0, .int .u32 0, .int .u32 0, .int .u32 0, .int .u32 0, .int .u32 0, .int .u32 0, .int .u32 0, .int .u32 0, .int .u32 0, .int .u32 0, .int .u32 0, .int .u32 0, .int .u32 0, .int .u32 0]) rfl zG_cells _ q_g rfl size_group ?_; intro wz gz mz)
      rw [← groupA_zero] at mz
      exact bodyPost_ret (results_blk_tmp rfl rfl mz Try.underlying28 rfl size_group) rfl ⟨_, rfl, ⟨0, false, rfl, .inr ⟨hr0.out, rfl⟩⟩, below_of_grown gb gz gb.size (by omega)⟩
end Go.Proofs.Ytgccbfkofkohpaa
