/- sentinelref1.Rest. -/
import Derived.Test.YtgccbfkofkohpaaGaRef
import Derived.Test.YtgccbfkofkohpaaGaKn
import Derived.Test.YtgccbfkofkohpaaGaInv
namespace Go.Proofs.Ytgccbfkofkohpaa
set_option linter.unusedVariables false
set_option maxRecDepth 20000
set_option linter.unusedSimpArgs false
open Go.ChangeShapes Go.WideShapes Go.ChangeAt Go.RowKit
/-- What is left when the bits from k on have come. -/
def seqR (lo hi m k : Nat) : Nat := (lo + hi * 4294967296 ^ 8) / 2 ^ k % m
theorem seqR_top {lo hi m : Nat} (hlo : lo < 4294967296 ^ 8) (hhi : hi < 4294967296 ^ 8) : seqR lo hi m 512 = 0 := by
  unfold seqR
  rw [Nat.div_eq_of_lt (by rw [show (2 : Nat) ^ 512 = 4294967296 ^ 8 * 4294967296 ^ 8 by decide +kernel]; have : hi * 4294967296 ^ 8 ≤ (4294967296 ^ 8 - 1) * 4294967296 ^ 8 := Nat.mul_le_mul_right _ (by omega); omega)]
  exact Nat.zero_mod _
theorem seqR_step (lo hi m k : Nat) : seqR lo hi m k = (2 * seqR lo hi m (k + 1) + (lo + hi * 4294967296 ^ 8) / 2 ^ k % 2) % m := by
  unfold seqR
  generalize lo + hi * 4294967296 ^ 8 = X
  have h : X / 2 ^ k = 2 * (X / 2 ^ (k + 1)) + X / 2 ^ k % 2 := by
    rw [Nat.pow_succ, ← Nat.div_div_eq_div_mul]; omega
  conv => lhs; rw [h]
  rw [Nat.add_mod, Nat.mul_mod, Nat.add_mod (2 * _) (X / 2 ^ k % 2), Nat.mul_mod 2 (X / 2 ^ (k + 1) % m), Nat.mod_mod]
theorem bit_of (lo hi k : Nat) (hlo : lo < 4294967296 ^ 8) : (lo + hi * 4294967296 ^ 8) / 2 ^ k % 2 = if k < 256 then lo / 2 ^ k % 2 else hi / 2 ^ (k - 256) % 2 := by
  have e : lo + hi * 4294967296 ^ 8 = 2 ^ 256 * hi + lo := by rw [show (4294967296 : Nat) ^ 8 = 2 ^ 256 by decide +kernel, Nat.mul_comm]; omega
  rw [e, testBit_bit, Nat.testBit_two_pow_mul_add _ (by rw [show (2 : Nat) ^ 256 = 4294967296 ^ 8 by decide +kernel]; exact hlo)]
  split
  · rw [testBit_bit]
  · rw [testBit_bit]
theorem step_num {r m b : Nat} (hr : r < m) (hm : m < 4294967296 ^ 8) (hb : b ≤ 1) :
    (overI r r = 1 ∧ subN (addN r r + b) m = (2 * r + b) % m ∧ addN r r + b < 4294967296 ^ 8) ∨ (overI r r = 0 ∧ 0 ≤ cmpI (addN r r + b) m ∧ cmpI (addN r r + b) m ≤ 1 ∧ subN (addN r r + b) m = (2 * r + b) % m ∧ addN r r + b < 4294967296 ^ 8) ∨
    (overI r r = 0 ∧ cmpI (addN r r + b) m = -1 ∧ addN r r + b = (2 * r + b) % m ∧ addN r r + b < 4294967296 ^ 8) := by
  by_cases h : r + r < 4294967296 ^ 8
  · have e1 : overI r r = 0 := by unfold overI; rw [if_pos h]
    have e2 : addN r r = r + r := by unfold addN; rw [if_pos h]
    rw [e1, e2]
    by_cases hc : r + r + b < m
    · refine .inr (.inr ⟨rfl, by unfold cmpI; rw [if_pos hc], ?_, by omega⟩)
      rw [Nat.mod_eq_of_lt (by omega)]; omega
    · refine .inr (.inl ⟨rfl, by unfold cmpI; split <;> (try split) <;> omega, by unfold cmpI; split <;> (try split) <;> omega, ?_, by omega⟩)
      unfold subN
      rw [if_pos (by omega), Nat.mod_eq_sub_mod (by omega), Nat.mod_eq_of_lt (by omega)]; omega
  · have e1 : overI r r = 1 := by unfold overI; rw [if_neg h]
    have e2 : addN r r = r + r - 4294967296 ^ 8 := by unfold addN; rw [if_neg h]
    rw [e1, e2]
    refine .inl ⟨rfl, ?_, by omega⟩
    unfold subN
    rw [if_neg (by omega), Nat.mod_eq_sub_mod (by omega), Nat.mod_eq_of_lt (by omega)]; omega
theorem rr_pack {lo hi m k r : Nat} (hlo : lo < 4294967296 ^ 8) (hhi : hi < 4294967296 ^ 8) (hm : m < 4294967296 ^ 8) (h0 : 0 < m) (hk : k < 512) (hr : r = seqR lo hi m (k + 1)) : ∃ X q : Nat, ∃ l o : Int, q = seqR lo hi m k ∧ 0 ≤ l ∧ l ≤ 1 ∧
    (256 ≤ k → RunsTo 68 #[numV hi, .int .i64 ((k : Int) - 256)] (.int .u32 l)) ∧ (k < 256 → RunsTo 68 #[numV lo, .int .i64 k] (.int .u32 l)) ∧
    RunsTo 69 #[numV r, .int .u32 l] (.tuple #[numV X, .int .u32 o]) ∧
    ((o = 1 ∧ ∃ v, RunsTo 38 #[numV X, numV m] (.tuple #[numV q, v])) ∨ (o = 0 ∧ ∃ d : Int, 0 ≤ d ∧ d ≤ 1 ∧ RunsTo 29 #[numV X, numV m] (.int .i64 d) ∧ ∃ v, RunsTo 38 #[numV X, numV m] (.tuple #[numV q, v])) ∨
      (o = 0 ∧ X = q ∧ RunsTo 29 #[numV X, numV m] (.int .i64 (-1)))) := by
  have hrm : r < m := by rw [hr]; exact Nat.mod_lt _ h0
  have hb := bit_of lo hi k hlo
  obtain ⟨b, hbe⟩ : ∃ b, b = (lo + hi * 4294967296 ^ 8) / 2 ^ k % 2 := ⟨_, rfl⟩
  have hb1 : b ≤ 1 := by omega
  have hq : seqR lo hi m k = (2 * r + b) % m := by rw [seqR_step, hr, hbe]
  refine ⟨addN r r + b, _, (b : Int), overI r r, rfl, by omega, by omega, fun h => ?_, fun h => ?_, ?_, ?_⟩
  · intro w
    have := rbit_any hi (k - 256) (by omega) w
    rw [show ((k - 256 : Nat) : Int) = (k : Int) - 256 by omega] at this
    rw [show bitI hi (k - 256) = (b : Int) by unfold bitI; rw [hbe, hb, if_neg (by omega)]] at this
    exact this
  · intro w
    have := rbit_any lo k h w
    rw [show bitI lo k = (b : Int) by unfold bitI; rw [hbe, hb, if_pos h]] at this
    exact this
  · exact rtwice_any r (by omega) (b : Int) (by omega) (by omega)
  · rw [hq]
    rcases step_num hrm hm hb1 with ⟨h1, h2, h3⟩ | ⟨h1, h2, h3, h4, h5⟩ | ⟨h1, h2, h3, h4⟩
    · exact .inl ⟨h1, .int .u32 (lentI (addN r r + b) m), by rw [← h2]; exact rsub_any _ _ h3 hm⟩
    · exact .inr (.inl ⟨h1, _, h2, h3, rcmp_any _ _ h5 hm, _, by rw [← h4]; exact rsub_any _ _ h5 hm⟩)
    · refine .inr (.inr ⟨h1, h3, ?_⟩)
      rw [← h2]; exact rcmp_any _ _ h4 hm
attribute [irreducible] seqR
set_option maxRecDepth 100000 in
set_option maxHeartbeats 4000000 in
theorem rrest_pos (lo hi m : Nat) (hlo : lo < 4294967296 ^ 8) (hhi : hi < 4294967296 ^ 8) (hm : m < 4294967296 ^ 8) (h0 : 0 < m) (w : World) :
    Calls Try.prog 37 #[numV lo, numV hi, numV m] w fun e w' => e = .returned (.tuple #[numV ((lo + hi * 4294967296 ^ 8) % m), .bool true]) ∧ Below w.heap.size w w' := by
  have PK := hid (fun k r => @rr_pack lo hi m k r hlo hhi hm h0)
  have TOP := hid (@seqR_top lo hi m hlo hhi)
  have e1 : ∀ w, (Op.equalIn 10000 26 (.agg (numA m)) (.agg #[Value.int .u32 0, .int .u32 0, .int .u32 0, .int .u32 0, .int .u32 0, .int .u32 0, .int .u32 0, .int .u32 0])).run Try.prog w = .ok false w := fun w => eqn_not0 hm h0 w
  have BOT : Hid (seqR lo hi m 0 = (lo + hi * 4294967296 ^ 8) % m) := hid (by unfold seqR; rw [Nat.pow_zero, Nat.div_one])
  clear hlo hhi hm h0
  have ng := noGuard
  obtain ⟨W, hW⟩ : ∃ W, W = ((((w.alloc (.cells (numA lo) 26)).alloc (.cells (numA hi) 26)).alloc (.cells (numA m) 26)).alloc (.cells #[Value.int .u32 0, .int .u32 0, .int .u32 0, .int .u32 0, .int .u32 0, .int .u32 0, .int .u32 0, .int .u32 0] 26)).alloc (.cells #[Value.int .u32 0, .int .u32 0, .int .u32 0, .int .u32 0, .int .u32 0, .int .u32 0, .int .u32 0, .int .u32 0] 26) := ⟨_, rfl⟩
  have n0 : Num W w.heap.size 26 lo := by rw [hW]; exact (((((Num.new w _ lo).alloc _).alloc _).alloc _).alloc _)
  have n1 : Num W (w.heap.size + 1) 26 hi := by
    have := ((((Num.new (w.alloc (.cells (numA lo) 26)) 26 hi).alloc (.cells (numA m) 26)).alloc (.cells #[Value.int .u32 0, .int .u32 0, .int .u32 0, .int .u32 0, .int .u32 0, .int .u32 0, .int .u32 0, .int .u32 0] 26)).alloc (.cells #[Value.int .u32 0, .int .u32 0, .int .u32 0, .int .u32 0, .int .u32 0, .int .u32 0, .int .u32 0, .int .u32 0] 26))
    simp only [World.size_alloc] at this; rw [hW]; exact this
  have n2 : Num W (w.heap.size + 1 + 1) 26 m := by
    have := (((Num.new ((w.alloc (.cells (numA lo) 26)).alloc (.cells (numA hi) 26)) 26 m).alloc (.cells #[Value.int .u32 0, .int .u32 0, .int .u32 0, .int .u32 0, .int .u32 0, .int .u32 0, .int .u32 0, .int .u32 0] 26)).alloc (.cells #[Value.int .u32 0, .int .u32 0, .int .u32 0, .int .u32 0, .int .u32 0, .int .u32 0, .int .u32 0, .int .u32 0] 26))
    simp only [World.size_alloc] at this; rw [hW]; exact this
  have n3 : W.heap[w.heap.size + 1 + 1 + 1]? = some (.cells #[Value.int .u32 0, .int .u32 0, .int .u32 0, .int .u32 0, .int .u32 0, .int .u32 0, .int .u32 0, .int .u32 0] 26 (0, 0)) := by
    have := heap_alloc2_old (((w.alloc (.cells (numA lo) 26)).alloc (.cells (numA hi) 26)).alloc (.cells (numA m) 26)) (.cells #[Value.int .u32 0, .int .u32 0, .int .u32 0, .int .u32 0, .int .u32 0, .int .u32 0, .int .u32 0, .int .u32 0] 26) (.cells #[Value.int .u32 0, .int .u32 0, .int .u32 0, .int .u32 0, .int .u32 0, .int .u32 0, .int .u32 0, .int .u32 0] 26)
    simp only [World.size_alloc] at this; rw [hW]; exact this
  have n4 : Num W (w.heap.size + 1 + 1 + 1 + 1) 26 0 := by
    have := heap_alloc2_new (((w.alloc (.cells (numA lo) 26)).alloc (.cells (numA hi) 26)).alloc (.cells (numA m) 26)) (.cells #[Value.int .u32 0, .int .u32 0, .int .u32 0, .int .u32 0, .int .u32 0, .int .u32 0, .int .u32 0, .int .u32 0] 26) (.cells #[Value.int .u32 0, .int .u32 0, .int .u32 0, .int .u32 0, .int .u32 0, .int .u32 0, .int .u32 0, .int .u32 0] 26)
    simp only [World.size_alloc] at this; rw [hW]; unfold Num; rw [← zeroA]; exact this
  have zA : #[Value.int .u32 0, .int .u32 0, .int .u32 0, .int .u32 0, .int .u32 0, .int .u32 0, .int .u32 0, .int .u32 0] = numA 0 := zeroA
  have gb : Below w.heap.size w W := by rw [hW]; exact (((((Below.refl _ _).alloc (Nat.le_refl _) _).alloc (by simp) _).alloc (by simp; omega) _).alloc (by simp; omega) _).alloc (by simp; omega) _
  have e2 : ∀ w, (Op.equalIn 10000 26 (.agg (numA m)) (.agg (numA 0))).run Try.prog w = .ok false w := by rw [← zA]; exact e1
  clear zA e1
  go_enter Try.func37, Try.ntmps37
  go_upto_region 2 with fail
  rw [← hW]
  clear hW
  go_wp2_with (first | (refine wpList_load_num rfl _ (.tmp 5) rfl _ rfl _ _ _ n2 Try.underlying26 rfl size26 ?_) | (refine wpList_load_num rfl _ (.tmp 8) rfl _ rfl _ _ _ n4 Try.underlying26 rfl size26 ?_))
  clear e2
  have hs4 := n4.lt
  go_loopw [9] (fun i wr => ∃ q : Int, -1 ≤ q ∧ q ≤ 511 ∧ i = .int .i64 q ∧ ∃ r, Hid (r = seqR lo hi m (q + 1).toNat) ∧ Num wr (w.heap.size + 1 + 1 + 1 + 1) 26 r ∧ Below (w.heap.size + 1 + 1 + 1 + 1) W wr) (fun i _ => (intOf i + 1).toNat)
  case atStart => exact ⟨511, by omega, by omega, rfl, 0, TOP.out.symm, n4, Below.refl _ _⟩
  case round =>
    obtain ⟨q, hq1, hq2, rfl, r, hr, nr, hB⟩ := hrel
    by_cases hq : 0 ≤ q
    · obtain ⟨k, rfl⟩ := Int.eq_ofNat_of_zero_le hq
      obtain ⟨X, q, l, o, hqe, hl0, hl1, kb1, kb0, k2, kw⟩ := PK.out k r (by omega) hr.out
      have HQ := hid hqe
      have HW := hid kw
      clear hqe kw hr
      have m0 := n0.below hB (by omega)
      have m1 := n1.below hB (by omega)
      have m2 := n2.below hB (by omega)
      have hrl := nr.lt
      by_cases hbig : 256 ≤ k
      · have kb := kb1 hbig
        clear kb1 kb0 m0
        go_wp2_with (refine wpList_load_num rfl _ (.tmp 4) rfl _ rfl _ _ _ m1 Try.underlying26 rfl size26 ?_)
        refine (kb _).mono ?_
        rintro e w1 ⟨rfl, b1⟩
        have r1 := nr.step b1
        have x1 := m2.step b1
        have B1 := hB.trans (b1.mono (by omega))
        clear nr m2 hB kb
        go_wp2_with (refine wpList_load_num rfl _ (.tmp 8) rfl _ rfl _ _ _ r1 Try.underlying26 rfl size26 ?_)
        refine (k2 _).mono ?_
        rintro e w2 ⟨rfl, b2⟩
        have r2 := r1.step b2
        have x2 := x1.step b2
        have hs1 := r1.lt
        have B2 := B1.trans (b2.mono (by omega))
        clear r1 x1 B1 k2 b1
        go_upto_region 12 with ((refine wpList_store_num rfl _ (.tmp 11) _ rfl _ rfl _ rfl _ rfl (heap_alloc_new _ _) size26 ?_; intro w3 g3 y3))
        have hs2 := r2.lt
        have hx2 := x2.lt
        have r3 := r2.step (step_new g3)
        have x3 := x2.step (step_new g3)
        have B3 := B2.trans ((step_new g3).mono (by omega))
        have hne : w2.heap.size ≠ w.heap.size + 1 + 1 + 1 + 1 := by omega
        have hz3 := g3.size
        simp at hz3
        clear r2 x2 B2 b2 g3
        rcases HW.out with ⟨ho, v, ks⟩ | ⟨ho, dd, hd0, hd1, kc, v, ks⟩ | ⟨ho, hXq, kc⟩
        · subst ho
          go_wp2_with (first | (refine wpList_load_num rfl _ (.tmp 11) rfl _ rfl _ _ _ y3 Try.underlying26 rfl size26 ?_) | (refine wpList_load_num rfl _ (.tmp 5) rfl _ rfl _ _ _ x3 Try.underlying26 rfl size26 ?_))
          refine (ks _).mono ?_
          rintro e w6 ⟨rfl, b6⟩
          have hs6 := r3.lt
          have r6 := r3.step b6
          have y6 := y3.step b6
          have B6 := B3.trans (b6.mono (by omega))
          have hz6 := b6.size
          clear r3 x3 y3 B3 ks b6
          go_wp2_with (first | (refine wpList_store_num rfl _ (.tmp 11) _ rfl _ rfl _ rfl _ rfl y6 size26 ?_; intro w7 g7 y7; have r7 := r6.grown g7 (ne_some hne.symm); have B7 := below_of_grown B6 g7 (by have := r6.lt; omega) (by omega); clear r6 B6) | (refine wpList_load_num rfl _ (.tmp 11) rfl _ rfl _ _ _ y7 Try.underlying26 rfl size26 ?_) | (refine wpList_store_num rfl _ (.tmp 8) _ rfl _ rfl _ rfl _ rfl r7 size26 ?_; intro w8 g8 r8))
          go_roundw
          case rel => exact ⟨(k : Int) - 1, by omega, by omega, by go_num, _, hid (by rw [HQ.out]; congr 1; omega), r8, below_of_grown B7 g8 (by have := r7.lt; omega) (by omega)⟩
          case measure => simp [intOf] <;> omega
        · subst ho
          go_wp2_with (first | (refine wpList_load_num rfl _ (.tmp 11) rfl _ rfl _ _ _ y3 Try.underlying26 rfl size26 ?_) | (refine wpList_load_num rfl _ (.tmp 5) rfl _ rfl _ _ _ x3 Try.underlying26 rfl size26 ?_))
          refine (kc _).mono ?_
          rintro e w4 ⟨rfl, b4⟩
          have hs3 := r3.lt
          have r4 := r3.step b4
          have x4 := x3.step b4
          have y4 := y3.step b4
          have B4 := B3.trans (b4.mono (by omega))
          have hz4 := b4.size
          clear r3 x3 y3 B3 kc b4
          go_wp2_with (first | (refine wpList_load_num rfl _ (.tmp 11) rfl _ rfl _ _ _ y4 Try.underlying26 rfl size26 ?_) | (refine wpList_load_num rfl _ (.tmp 5) rfl _ rfl _ _ _ x4 Try.underlying26 rfl size26 ?_))
          refine (ks _).mono ?_
          rintro e w6 ⟨rfl, b6⟩
          have hs6 := r4.lt
          have r6 := r4.step b6
          have y6 := y4.step b6
          have B6 := B4.trans (b6.mono (by omega))
          have hz6 := b6.size
          clear r4 x4 y4 B4 ks b6
          go_wp2_with (first | (refine wpList_store_num rfl _ (.tmp 11) _ rfl _ rfl _ rfl _ rfl y6 size26 ?_; intro w7 g7 y7; have r7 := r6.grown g7 (ne_some hne.symm); have B7 := below_of_grown B6 g7 (by have := r6.lt; omega) (by omega); clear r6 B6) | (refine wpList_load_num rfl _ (.tmp 11) rfl _ rfl _ _ _ y7 Try.underlying26 rfl size26 ?_) | (refine wpList_store_num rfl _ (.tmp 8) _ rfl _ rfl _ rfl _ rfl r7 size26 ?_; intro w8 g8 r8))
          go_roundw
          case rel => exact ⟨(k : Int) - 1, by omega, by omega, by go_num, _, hid (by rw [HQ.out]; congr 1; omega), r8, below_of_grown B7 g8 (by have := r7.lt; omega) (by omega)⟩
          case measure => simp [intOf] <;> omega
        · subst ho
          subst hXq
          go_wp2_with (first | (refine wpList_load_num rfl _ (.tmp 11) rfl _ rfl _ _ _ y3 Try.underlying26 rfl size26 ?_) | (refine wpList_load_num rfl _ (.tmp 5) rfl _ rfl _ _ _ x3 Try.underlying26 rfl size26 ?_))
          refine (kc _).mono ?_
          rintro e w4 ⟨rfl, b4⟩
          have hs3 := r3.lt
          have r4 := r3.step b4
          have y4 := y3.step b4
          have B4 := B3.trans (b4.mono (by omega))
          clear r3 x3 y3 B3 kc b4
          go_wp2_with (first | (refine wpList_load_num rfl _ (.tmp 11) rfl _ rfl _ _ _ y4 Try.underlying26 rfl size26 ?_) | (refine wpList_store_num rfl _ (.tmp 8) _ rfl _ rfl _ rfl _ rfl r4 size26 ?_; intro w5 g5 r5))
          go_roundw
          case rel => exact ⟨(k : Int) - 1, by omega, by omega, by go_num, _, hid (by rw [HQ.out]; congr 1; omega), r5, below_of_grown B4 g5 (by have := r4.lt; omega) (by omega)⟩
          case measure => simp [intOf] <;> omega
      · have kb := kb0 (by omega)
        clear kb1 kb0 m1
        go_wp2_with (refine wpList_load_num rfl _ (.tmp 3) rfl _ rfl _ _ _ m0 Try.underlying26 rfl size26 ?_)
        refine (kb _).mono ?_
        rintro e w1 ⟨rfl, b1⟩
        have r1 := nr.step b1
        have x1 := m2.step b1
        have B1 := hB.trans (b1.mono (by omega))
        clear nr m2 hB kb
        go_wp2_with (refine wpList_load_num rfl _ (.tmp 8) rfl _ rfl _ _ _ r1 Try.underlying26 rfl size26 ?_)
        refine (k2 _).mono ?_
        rintro e w2 ⟨rfl, b2⟩
        have r2 := r1.step b2
        have x2 := x1.step b2
        have hs1 := r1.lt
        have B2 := B1.trans (b2.mono (by omega))
        clear r1 x1 B1 k2 b1
        go_upto_region 12 with ((refine wpList_store_num rfl _ (.tmp 11) _ rfl _ rfl _ rfl _ rfl (heap_alloc_new _ _) size26 ?_; intro w3 g3 y3))
        have hs2 := r2.lt
        have hx2 := x2.lt
        have r3 := r2.step (step_new g3)
        have x3 := x2.step (step_new g3)
        have B3 := B2.trans ((step_new g3).mono (by omega))
        have hne : w2.heap.size ≠ w.heap.size + 1 + 1 + 1 + 1 := by omega
        have hz3 := g3.size
        simp at hz3
        clear r2 x2 B2 b2 g3
        rcases HW.out with ⟨ho, v, ks⟩ | ⟨ho, dd, hd0, hd1, kc, v, ks⟩ | ⟨ho, hXq, kc⟩
        · subst ho
          go_wp2_with (first | (refine wpList_load_num rfl _ (.tmp 11) rfl _ rfl _ _ _ y3 Try.underlying26 rfl size26 ?_) | (refine wpList_load_num rfl _ (.tmp 5) rfl _ rfl _ _ _ x3 Try.underlying26 rfl size26 ?_))
          refine (ks _).mono ?_
          rintro e w6 ⟨rfl, b6⟩
          have hs6 := r3.lt
          have r6 := r3.step b6
          have y6 := y3.step b6
          have B6 := B3.trans (b6.mono (by omega))
          have hz6 := b6.size
          clear r3 x3 y3 B3 ks b6
          go_wp2_with (first | (refine wpList_store_num rfl _ (.tmp 11) _ rfl _ rfl _ rfl _ rfl y6 size26 ?_; intro w7 g7 y7; have r7 := r6.grown g7 (ne_some hne.symm); have B7 := below_of_grown B6 g7 (by have := r6.lt; omega) (by omega); clear r6 B6) | (refine wpList_load_num rfl _ (.tmp 11) rfl _ rfl _ _ _ y7 Try.underlying26 rfl size26 ?_) | (refine wpList_store_num rfl _ (.tmp 8) _ rfl _ rfl _ rfl _ rfl r7 size26 ?_; intro w8 g8 r8))
          go_roundw
          case rel => exact ⟨(k : Int) - 1, by omega, by omega, by go_num, _, hid (by rw [HQ.out]; congr 1; omega), r8, below_of_grown B7 g8 (by have := r7.lt; omega) (by omega)⟩
          case measure => simp [intOf] <;> omega
        · subst ho
          go_wp2_with (first | (refine wpList_load_num rfl _ (.tmp 11) rfl _ rfl _ _ _ y3 Try.underlying26 rfl size26 ?_) | (refine wpList_load_num rfl _ (.tmp 5) rfl _ rfl _ _ _ x3 Try.underlying26 rfl size26 ?_))
          refine (kc _).mono ?_
          rintro e w4 ⟨rfl, b4⟩
          have hs3 := r3.lt
          have r4 := r3.step b4
          have x4 := x3.step b4
          have y4 := y3.step b4
          have B4 := B3.trans (b4.mono (by omega))
          have hz4 := b4.size
          clear r3 x3 y3 B3 kc b4
          go_wp2_with (first | (refine wpList_load_num rfl _ (.tmp 11) rfl _ rfl _ _ _ y4 Try.underlying26 rfl size26 ?_) | (refine wpList_load_num rfl _ (.tmp 5) rfl _ rfl _ _ _ x4 Try.underlying26 rfl size26 ?_))
          refine (ks _).mono ?_
          rintro e w6 ⟨rfl, b6⟩
          have hs6 := r4.lt
          have r6 := r4.step b6
          have y6 := y4.step b6
          have B6 := B4.trans (b6.mono (by omega))
          have hz6 := b6.size
          clear r4 x4 y4 B4 ks b6
          go_wp2_with (first | (refine wpList_store_num rfl _ (.tmp 11) _ rfl _ rfl _ rfl _ rfl y6 size26 ?_; intro w7 g7 y7; have r7 := r6.grown g7 (ne_some hne.symm); have B7 := below_of_grown B6 g7 (by have := r6.lt; omega) (by omega); clear r6 B6) | (refine wpList_load_num rfl _ (.tmp 11) rfl _ rfl _ _ _ y7 Try.underlying26 rfl size26 ?_) | (refine wpList_store_num rfl _ (.tmp 8) _ rfl _ rfl _ rfl _ rfl r7 size26 ?_; intro w8 g8 r8))
          go_roundw
          case rel => exact ⟨(k : Int) - 1, by omega, by omega, by go_num, _, hid (by rw [HQ.out]; congr 1; omega), r8, below_of_grown B7 g8 (by have := r7.lt; omega) (by omega)⟩
          case measure => simp [intOf] <;> omega
        · subst ho
          subst hXq
          go_wp2_with (first | (refine wpList_load_num rfl _ (.tmp 11) rfl _ rfl _ _ _ y3 Try.underlying26 rfl size26 ?_) | (refine wpList_load_num rfl _ (.tmp 5) rfl _ rfl _ _ _ x3 Try.underlying26 rfl size26 ?_))
          refine (kc _).mono ?_
          rintro e w4 ⟨rfl, b4⟩
          have hs3 := r3.lt
          have r4 := r3.step b4
          have y4 := y3.step b4
          have B4 := B3.trans (b4.mono (by omega))
          clear r3 x3 y3 B3 kc b4
          go_wp2_with (first | (refine wpList_load_num rfl _ (.tmp 11) rfl _ rfl _ _ _ y4 Try.underlying26 rfl size26 ?_) | (refine wpList_store_num rfl _ (.tmp 8) _ rfl _ rfl _ rfl _ rfl r4 size26 ?_; intro w5 g5 r5))
          go_roundw
          case rel => exact ⟨(k : Int) - 1, by omega, by omega, by go_num, _, hid (by rw [HQ.out]; congr 1; omega), r5, below_of_grown B4 g5 (by have := r4.lt; omega) (by omega)⟩
          case measure => simp [intOf] <;> omega
    · have hq' : q = -1 := by omega
      subst hq'
      obtain ⟨v, hv⟩ : ∃ v, v = (lo + hi * 4294967296 ^ 8) % m := ⟨_, rfl⟩
      have HV := hid hv
      have nr' : Num wr (w.heap.size + 1 + 1 + 1 + 1) 26 v := by rw [hv, ← BOT.out, ← show r = seqR lo hi m 0 from hr.out]; exact nr
      clear hv nr hr
      have p3 := (hB.block _ (by omega)).trans n3
      go_wp2_with (first | (refine wpList_load_num rfl _ _ rfl _ rfl _ _ _ nr' Try.underlying26 rfl size26 ?_) | (refine wpList_store_num rfl _ _ _ rfl _ rfl _ rfl _ rfl p3 size26 ?_; intro w2 hg2 mm2))
      have G := (gb.trans (hB.mono (by omega)))
      exact bodyPost_ret (results_num_tmp rfl rfl mm2 Try.underlying26 rfl size26) rfl ⟨by rw [← HV.out]; rfl, below_of_grown G hg2 G.size (by omega)⟩
end Go.Proofs.Ytgccbfkofkohpaa
namespace Go.Proofs.Ytgccbfkofkohpaa
set_option linter.unusedVariables false
set_option maxRecDepth 20000
set_option linter.unusedSimpArgs false
open Go.ChangeShapes Go.WideShapes Go.ChangeAt Go.RowKit
set_option maxRecDepth 100000 in
set_option maxHeartbeats 4000000 in
theorem rrest_zero (lo hi : Nat) (w : World) :
    Calls Try.prog 37 #[numV lo, numV hi, numV 0] w fun e w' => e = .returned (.tuple #[numV 0, .bool false]) ∧ Below w.heap.size w w' := by
  have ng := noGuard
  obtain ⟨W, hW⟩ : ∃ W, W = ((((w.alloc (.cells (numA lo) 26)).alloc (.cells (numA hi) 26)).alloc (.cells (numA 0) 26)).alloc (.cells #[Value.int .u32 0, .int .u32 0, .int .u32 0, .int .u32 0, .int .u32 0, .int .u32 0, .int .u32 0, .int .u32 0] 26)).alloc (.cells #[Value.int .u32 0, .int .u32 0, .int .u32 0, .int .u32 0, .int .u32 0, .int .u32 0, .int .u32 0, .int .u32 0] 26) := ⟨_, rfl⟩
  have n0 : Num W w.heap.size 26 lo := by rw [hW]; exact (((((Num.new w _ lo).alloc _).alloc _).alloc _).alloc _)
  have n1 : Num W (w.heap.size + 1) 26 hi := by
    have := ((((Num.new (w.alloc (.cells (numA lo) 26)) 26 hi).alloc (.cells (numA 0) 26)).alloc (.cells #[Value.int .u32 0, .int .u32 0, .int .u32 0, .int .u32 0, .int .u32 0, .int .u32 0, .int .u32 0, .int .u32 0] 26)).alloc (.cells #[Value.int .u32 0, .int .u32 0, .int .u32 0, .int .u32 0, .int .u32 0, .int .u32 0, .int .u32 0, .int .u32 0] 26))
    simp only [World.size_alloc] at this; rw [hW]; exact this
  have n2 : Num W (w.heap.size + 1 + 1) 26 0 := by
    have := (((Num.new ((w.alloc (.cells (numA lo) 26)).alloc (.cells (numA hi) 26)) 26 0).alloc (.cells #[Value.int .u32 0, .int .u32 0, .int .u32 0, .int .u32 0, .int .u32 0, .int .u32 0, .int .u32 0, .int .u32 0] 26)).alloc (.cells #[Value.int .u32 0, .int .u32 0, .int .u32 0, .int .u32 0, .int .u32 0, .int .u32 0, .int .u32 0, .int .u32 0] 26))
    simp only [World.size_alloc] at this; rw [hW]; exact this
  have n3 : W.heap[w.heap.size + 1 + 1 + 1]? = some (.cells #[Value.int .u32 0, .int .u32 0, .int .u32 0, .int .u32 0, .int .u32 0, .int .u32 0, .int .u32 0, .int .u32 0] 26 (0, 0)) := by
    have := heap_alloc2_old (((w.alloc (.cells (numA lo) 26)).alloc (.cells (numA hi) 26)).alloc (.cells (numA 0) 26)) (.cells #[Value.int .u32 0, .int .u32 0, .int .u32 0, .int .u32 0, .int .u32 0, .int .u32 0, .int .u32 0, .int .u32 0] 26) (.cells #[Value.int .u32 0, .int .u32 0, .int .u32 0, .int .u32 0, .int .u32 0, .int .u32 0, .int .u32 0, .int .u32 0] 26)
    simp only [World.size_alloc] at this; rw [hW]; exact this
  have n4 : Num W (w.heap.size + 1 + 1 + 1 + 1) 26 0 := by
    have := heap_alloc2_new (((w.alloc (.cells (numA lo) 26)).alloc (.cells (numA hi) 26)).alloc (.cells (numA 0) 26)) (.cells #[Value.int .u32 0, .int .u32 0, .int .u32 0, .int .u32 0, .int .u32 0, .int .u32 0, .int .u32 0, .int .u32 0] 26) (.cells #[Value.int .u32 0, .int .u32 0, .int .u32 0, .int .u32 0, .int .u32 0, .int .u32 0, .int .u32 0, .int .u32 0] 26)
    simp only [World.size_alloc] at this; rw [hW]; unfold Num; exact this.trans (by rw [zeroA])
  have gb : Below w.heap.size w W := by rw [hW]; exact (((((Below.refl _ _).alloc (Nat.le_refl _) _).alloc (by simp) _).alloc (by simp; omega) _).alloc (by simp; omega) _).alloc (by simp; omega) _
  have e2 := fun w => eqn_same 0 w
  go_enter Try.func37, Try.ntmps37
  go_upto_region 2 with fail
  rw [← hW]
  clear hW
  go_wp2_with (first | (refine wpList_load_num rfl _ (.tmp 5) rfl _ rfl _ _ _ n2 Try.underlying26 rfl size26 ?_) | (refine wpList_load_num rfl _ (.tmp 8) rfl _ rfl _ _ _ n4 Try.underlying26 rfl size26 ?_) | (refine wpList_store_num rfl _ _ _ rfl _ rfl _ rfl _ rfl n3 size26 ?_; intro v gv mv))
  exact bodyPost_ret (results_num_tmp rfl rfl mv Try.underlying26 rfl size26) rfl ⟨rfl, below_of_grown gb gv gb.size (by omega)⟩
theorem rrest_any (lo hi m : Nat) (hlo : lo < 4294967296 ^ 8) (hhi : hi < 4294967296 ^ 8) (hm : m < 4294967296 ^ 8) (w : World) :
    Calls Try.prog 37 #[numV lo, numV hi, numV m] w fun e w' => e = .returned (.tuple #[numV (if m = 0 then 0 else (lo + hi * 4294967296 ^ 8) % m), .bool (decide (m ≠ 0))]) ∧ Below w.heap.size w w' := by
  by_cases h : m = 0
  · subst h
    rw [if_pos rfl, show decide ((0 : Nat) ≠ 0) = false by decide]
    exact rrest_zero lo hi w
  · rw [if_neg h, show decide (m ≠ 0) = true by simp [h]]
    exact rrest_pos lo hi m hlo hhi hm (by omega) w
end Go.Proofs.Ytgccbfkofkohpaa
