/- sentinelref2.quotient. -/
import Derived.Test.YtcfobgimpflneaaMtQn
import Derived.Test.YtcfobgimpflneaaRefM
import Derived.Test.YtcfobgimpflneaaPair
namespace Go.Proofs.Ytcfobgimpflneaa
set_option linter.unusedVariables false
set_option linter.unusedSimpArgs false
open Go.ChangeShapes Go.WideShapes Go.ChangeAt Go.RowKit
/-- The step's facts. -/
theorem q_pack {a b k r Q : Nat} (ha : a < 4294967296 ^ 8) (hb : b < 4294967296 ^ 8) (h0 : 0 < b) (hk : k < 256) (hr : r = seqR a 0 b (k + 1)) (hQ : Q = qN a b (k + 1)) : ∃ A X R' Q' : Nat, ∃ o : Int,
    Hid (bits BinOp.or IntKind.u32 (digI A 0) (bitI a k) = digI X 0) ∧ Hid (∀ j, 1 ≤ j → digI X j = digI A j) ∧ Hid (Hid (Q % 2 ^ (k + 1) = 0)) ∧ X < 4294967296 ^ 8 ∧
    RunsTo 32 #[numV r, numV r] (.tuple #[numV A, .int .u32 o]) ∧
    Hid ((o = 1 ∧ Q + 2 ^ k = Q' ∧ ∃ v, RunsTo 33 #[numV X, numV b] (.tuple #[numV R', v])) ∨ (o = 0 ∧ ∃ d : Int, 0 ≤ d ∧ d ≤ 1 ∧ RunsTo 31 #[numV X, numV b] (.int .i64 d) ∧ Q + 2 ^ k = Q' ∧ ∃ v, RunsTo 33 #[numV X, numV b] (.tuple #[numV R', v])) ∨
      (o = 0 ∧ X = R' ∧ RunsTo 31 #[numV X, numV b] (.int .i64 (-1)) ∧ Q = Q')) ∧ Hid (R' = seqR a 0 b k) ∧ Hid (Q' = qN a b k) := by
  have hrb : r < b := by rw [hr]; unfold seqR; exact Nat.mod_lt _ h0
  have hrP : r < 4294967296 ^ 8 := Nat.lt_trans hrb hb
  obtain ⟨t, ht⟩ : ∃ t, a / 2 ^ k % 2 = t := ⟨_, rfl⟩
  have ht1 : t ≤ 1 := by omega
  have hbit : bitI a k = (t : Int) := by unfold bitI; rw [ht]
  have hbo := bit_of a 0 k ha
  rw [if_pos hk, ht] at hbo
  have hs : seqR a 0 b k = (2 * r + t) % b := by rw [seqR_step, hr, hbo]
  have hq := qN_step (a := a) (k := k) h0 (r := r) (by rw [hr]; unfold seqR; rw [Nat.zero_mul, Nat.add_zero])
  rw [ht, ← hQ] at hq
  obtain ⟨f1, f2⟩ := even_add (n := addN r r) (l := (t : Int)) addN_even (by omega) (by omega)
  rw [Int.toNat_natCast] at f1 f2
  have hcase := step_num hrb hb ht1
  have hX : addN r r + t < 4294967296 ^ 8 := by rcases hcase with ⟨_, _, h⟩ | ⟨_, _, _, _, h⟩ | ⟨_, _, _, h⟩ <;> exact h
  refine ⟨addN r r, addN r r + t, (2 * r + t) % b, qN a b k, overI r r, by rw [hbit]; exact hid f1, hid f2, hid (hid (by rw [hQ]; exact qN_mod _ _ _)), hX, radd_any r r hrP hrP, hid ?_, hid hs.symm, hid rfl⟩
  by_cases hg : b ≤ 2 * r + t
  · rw [if_pos hg] at hq
    rcases hcase with ⟨h1, h2, h3⟩ | ⟨h1, h2, h3, h4, h5⟩ | ⟨h1, h2, h3, h4⟩
    · exact .inl ⟨h1, hq.symm, .int .u32 (lentI (addN r r + t) b), by rw [← h2]; exact rsub_any _ _ h3 hb⟩
    · exact .inr (.inl ⟨h1, _, h2, h3, rcmp_any _ _ h5 hb, hq.symm, _, by rw [← h4]; exact rsub_any _ _ h5 hb⟩)
    · exfalso
      have hlt : (2 * r + t) % b < b := Nat.mod_lt _ h0
      have h6 : addN r r = r + r := by
        unfold addN; unfold overI at h1
        by_cases h7 : r + r < 4294967296 ^ 8
        · rw [if_pos h7]
        · rw [if_neg h7] at h1; exact absurd h1 (by decide)
      rw [h6] at h3
      omega
  · rw [if_neg hg, Nat.add_zero] at hq
    have hm : (2 * r + t) % b = 2 * r + t := Nat.mod_eq_of_lt (by omega)
    rcases hcase with ⟨h1, h2, h3⟩ | ⟨h1, h2, h3, h4, h5⟩ | ⟨h1, h2, h3, h4⟩
    · exfalso
      unfold overI at h1
      by_cases h7 : r + r < 4294967296 ^ 8
      · rw [if_pos h7] at h1; exact absurd h1 (by decide)
      · omega
    · exfalso
      have h6 : addN r r = r + r := by
        unfold addN; unfold overI at h1
        by_cases h7 : r + r < 4294967296 ^ 8
        · rw [if_pos h7]
        · rw [if_neg h7] at h1; exact absurd h1 (by decide)
      rw [h6] at h2
      unfold cmpI at h2
      rw [if_pos (by omega)] at h2
      exact absurd h2 (by decide)
    · refine .inr (.inr ⟨h1, h3, ?_, hq.symm⟩)
      exact h2 ▸ rcmp_any _ _ hX hb
theorem pow_bd (k : Nat) : (0 : Int) < 2 ^ (k % 32) ∧ (2 : Int) ^ (k % 32) < 4294967296 := by
  have hl : 2 ^ (k % 32) < 2 ^ 32 := Nat.pow_lt_pow_right (by decide) (Nat.mod_lt _ (by decide))
  have h0 : 0 < 2 ^ (k % 32) := Nat.pow_pos (by decide)
  have e : ((2 : Int) ^ (k % 32)) = ((2 ^ (k % 32) : Nat) : Int) := by simp
  rw [e]
  omega
theorem wrap_pow (k : Nat) : (1 * (2 : Int) ^ (k % 32)) % 4294967296 = 2 ^ (k % 32) := by
  have := pow_bd k
  omega
set_option maxRecDepth 100000 in
set_option maxHeartbeats 16000000 in
theorem quot_any (a b : Nat) (ha : a < 4294967296 ^ 8) (hb : b < 4294967296 ^ 8) (h0 : 0 < b) (w : World) :
    Calls Try.prog 50 #[numV a, numV b] w fun e w' => e = .returned (.tuple #[numV (a / b), numV (a % b)]) ∧ Below w.heap.size w w' := by
  have PK := hid (fun k r Q => @q_pack a b k r Q ha hb h0)
  have TOP : Hid (seqR a 0 b 256 = 0 ∧ qN a b 256 = 0) := hid ⟨by unfold seqR; rw [Nat.zero_mul, Nat.add_zero, Nat.div_eq_of_lt (by rw [show (2 : Nat) ^ 256 = 4294967296 ^ 8 by decide +kernel]; exact ha), Nat.zero_mod], qN_top ha⟩
  obtain ⟨V1, hV1⟩ : ∃ V, a / b = V := ⟨_, rfl⟩
  obtain ⟨V2, hV2⟩ : ∃ V, a % b = V := ⟨_, rfl⟩
  have BOT : Hid (qN a b 0 = V1 ∧ seqR a 0 b 0 = V2) := hid ⟨by rw [← hV1]; exact qN_end a b, by rw [← hV2]; unfold seqR; rw [Nat.pow_zero, Nat.div_one, Nat.zero_mul, Nat.add_zero]⟩
  rw [hV1, hV2]
  clear hV1 hV2 ha hb h0
  have ng := noGuard
  go_enter Try.func50, Try.ntmps50
  go_upto_region 2 with fail
  obtain ⟨W, hW⟩ : ∃ W, W = ((((((((((w.alloc (.cells (numA a) 26))).alloc (.cells (numA b) 26))).alloc (.cells #[Value.int .u32 0, .int .u32 0, .int .u32 0, .int .u32 0, .int .u32 0, .int .u32 0, .int .u32 0, .int .u32 0] 26))).alloc (.cells #[Value.int .u32 0, .int .u32 0, .int .u32 0, .int .u32 0, .int .u32 0, .int .u32 0, .int .u32 0, .int .u32 0] 26))).alloc (.cells #[Value.int .u32 0, .int .u32 0, .int .u32 0, .int .u32 0, .int .u32 0, .int .u32 0, .int .u32 0, .int .u32 0] 26))).alloc (.cells #[Value.int .u32 0, .int .u32 0, .int .u32 0, .int .u32 0, .int .u32 0, .int .u32 0, .int .u32 0, .int .u32 0] 26) := ⟨_, rfl⟩
  have q_a : Num W (w.heap.size) 26 (a) := by
    have := ((((((Num.new w 26 (a)).alloc (.cells (numA b) 26)).alloc (.cells #[Value.int .u32 0, .int .u32 0, .int .u32 0, .int .u32 0, .int .u32 0, .int .u32 0, .int .u32 0, .int .u32 0] 26)).alloc (.cells #[Value.int .u32 0, .int .u32 0, .int .u32 0, .int .u32 0, .int .u32 0, .int .u32 0, .int .u32 0, .int .u32 0] 26)).alloc (.cells #[Value.int .u32 0, .int .u32 0, .int .u32 0, .int .u32 0, .int .u32 0, .int .u32 0, .int .u32 0, .int .u32 0] 26)).alloc (.cells #[Value.int .u32 0, .int .u32 0, .int .u32 0, .int .u32 0, .int .u32 0, .int .u32 0, .int .u32 0, .int .u32 0] 26))
    rw [hW]; exact this
  have q_b : Num W (w.heap.size + 1) 26 (b) := by
    have := (((((Num.new (w.alloc (.cells (numA a) 26)) 26 (b)).alloc (.cells #[Value.int .u32 0, .int .u32 0, .int .u32 0, .int .u32 0, .int .u32 0, .int .u32 0, .int .u32 0, .int .u32 0] 26)).alloc (.cells #[Value.int .u32 0, .int .u32 0, .int .u32 0, .int .u32 0, .int .u32 0, .int .u32 0, .int .u32 0, .int .u32 0] 26)).alloc (.cells #[Value.int .u32 0, .int .u32 0, .int .u32 0, .int .u32 0, .int .u32 0, .int .u32 0, .int .u32 0, .int .u32 0] 26)).alloc (.cells #[Value.int .u32 0, .int .u32 0, .int .u32 0, .int .u32 0, .int .u32 0, .int .u32 0, .int .u32 0, .int .u32 0] 26))
    rw [World.size_alloc] at this
    rw [hW]; exact this
  have q_rq : Num W (w.heap.size + 1 + 1) 26 0 := by
    have := ((((Num.new (((w.alloc (.cells (numA a) 26))).alloc (.cells (numA b) 26)) 26 0).alloc (.cells #[Value.int .u32 0, .int .u32 0, .int .u32 0, .int .u32 0, .int .u32 0, .int .u32 0, .int .u32 0, .int .u32 0] 26)).alloc (.cells #[Value.int .u32 0, .int .u32 0, .int .u32 0, .int .u32 0, .int .u32 0, .int .u32 0, .int .u32 0, .int .u32 0] 26)).alloc (.cells #[Value.int .u32 0, .int .u32 0, .int .u32 0, .int .u32 0, .int .u32 0, .int .u32 0, .int .u32 0, .int .u32 0] 26))
    rw [World.size_alloc, World.size_alloc, ← zeroA] at this
    rw [hW]; exact this
  have q_rr : Num W (w.heap.size + 1 + 1 + 1) 26 0 := by
    have := (((Num.new (((((w.alloc (.cells (numA a) 26))).alloc (.cells (numA b) 26))).alloc (.cells #[Value.int .u32 0, .int .u32 0, .int .u32 0, .int .u32 0, .int .u32 0, .int .u32 0, .int .u32 0, .int .u32 0] 26)) 26 0).alloc (.cells #[Value.int .u32 0, .int .u32 0, .int .u32 0, .int .u32 0, .int .u32 0, .int .u32 0, .int .u32 0, .int .u32 0] 26)).alloc (.cells #[Value.int .u32 0, .int .u32 0, .int .u32 0, .int .u32 0, .int .u32 0, .int .u32 0, .int .u32 0, .int .u32 0] 26))
    rw [World.size_alloc, World.size_alloc, World.size_alloc, ← zeroA] at this
    rw [hW]; exact this
  have q_q : Num W (w.heap.size + 1 + 1 + 1 + 1) 26 0 := by
    have := ((Num.new (((((((w.alloc (.cells (numA a) 26))).alloc (.cells (numA b) 26))).alloc (.cells #[Value.int .u32 0, .int .u32 0, .int .u32 0, .int .u32 0, .int .u32 0, .int .u32 0, .int .u32 0, .int .u32 0] 26))).alloc (.cells #[Value.int .u32 0, .int .u32 0, .int .u32 0, .int .u32 0, .int .u32 0, .int .u32 0, .int .u32 0, .int .u32 0] 26)) 26 0).alloc (.cells #[Value.int .u32 0, .int .u32 0, .int .u32 0, .int .u32 0, .int .u32 0, .int .u32 0, .int .u32 0, .int .u32 0] 26))
    rw [World.size_alloc, World.size_alloc, World.size_alloc, World.size_alloc, ← zeroA] at this
    rw [hW]; exact this
  have q_r : Num W (w.heap.size + 1 + 1 + 1 + 1 + 1) 26 0 := by
    have := (Num.new (((((((((w.alloc (.cells (numA a) 26))).alloc (.cells (numA b) 26))).alloc (.cells #[Value.int .u32 0, .int .u32 0, .int .u32 0, .int .u32 0, .int .u32 0, .int .u32 0, .int .u32 0, .int .u32 0] 26))).alloc (.cells #[Value.int .u32 0, .int .u32 0, .int .u32 0, .int .u32 0, .int .u32 0, .int .u32 0, .int .u32 0, .int .u32 0] 26))).alloc (.cells #[Value.int .u32 0, .int .u32 0, .int .u32 0, .int .u32 0, .int .u32 0, .int .u32 0, .int .u32 0, .int .u32 0] 26)) 26 0)
    rw [World.size_alloc, World.size_alloc, World.size_alloc, World.size_alloc, World.size_alloc, ← zeroA] at this
    rw [hW]; exact this
  have gb : Below w.heap.size w W := by rw [hW]; exact (((((((Below.refl _ _).alloc (by simp <;> omega) _).alloc (by simp <;> omega) _).alloc (by simp <;> omega) _).alloc (by simp <;> omega) _).alloc (by simp <;> omega) _).alloc (by simp <;> omega) _)
  rw [← hW]
  clear hW
  have lorq := hid (show w.heap.size ≤ w.heap.size + 1 + 1 by omega)
  have na_rq := hid (show w.heap.size ≠ w.heap.size + 1 + 1 by omega)
  have nb_rq := hid (show w.heap.size + 1 ≠ w.heap.size + 1 + 1 by omega)
  have lorr := hid (show w.heap.size ≤ w.heap.size + 1 + 1 + 1 by omega)
  have na_rr := hid (show w.heap.size ≠ w.heap.size + 1 + 1 + 1 by omega)
  have nb_rr := hid (show w.heap.size + 1 ≠ w.heap.size + 1 + 1 + 1 by omega)
  have nrq_rr := hid (show w.heap.size + 1 + 1 ≠ w.heap.size + 1 + 1 + 1 by omega)
  have loq := hid (show w.heap.size ≤ w.heap.size + 1 + 1 + 1 + 1 by omega)
  have na_q := hid (show w.heap.size ≠ w.heap.size + 1 + 1 + 1 + 1 by omega)
  have nb_q := hid (show w.heap.size + 1 ≠ w.heap.size + 1 + 1 + 1 + 1 by omega)
  have nrq_q := hid (show w.heap.size + 1 + 1 ≠ w.heap.size + 1 + 1 + 1 + 1 by omega)
  have nrr_q := hid (show w.heap.size + 1 + 1 + 1 ≠ w.heap.size + 1 + 1 + 1 + 1 by omega)
  have lor := hid (show w.heap.size ≤ w.heap.size + 1 + 1 + 1 + 1 + 1 by omega)
  have na_r := hid (show w.heap.size ≠ w.heap.size + 1 + 1 + 1 + 1 + 1 by omega)
  have nb_r := hid (show w.heap.size + 1 ≠ w.heap.size + 1 + 1 + 1 + 1 + 1 by omega)
  have nrq_r := hid (show w.heap.size + 1 + 1 ≠ w.heap.size + 1 + 1 + 1 + 1 + 1 by omega)
  have nrr_r := hid (show w.heap.size + 1 + 1 + 1 ≠ w.heap.size + 1 + 1 + 1 + 1 + 1 by omega)
  have nq_r := hid (show w.heap.size + 1 + 1 + 1 + 1 ≠ w.heap.size + 1 + 1 + 1 + 1 + 1 by omega)
  have qlq := q_q.lt
  have qlr := q_r.lt
  go_wp2_with fail
  go_loopw [8] (fun i wr => ∃ q : Int, -1 ≤ q ∧ q ≤ 255 ∧ i = .int .i64 q ∧ ∃ r Q, Hid (r = seqR a 0 b (q + 1).toNat) ∧ Hid (Q = qN a b (q + 1).toNat) ∧ Num wr w.heap.size 26 a ∧ Num wr (w.heap.size + 1) 26 b ∧ Num wr (w.heap.size + 1 + 1) 26 0 ∧ Num wr (w.heap.size + 1 + 1 + 1) 26 0 ∧ Num wr (w.heap.size + 1 + 1 + 1 + 1) 26 Q ∧ Num wr (w.heap.size + 1 + 1 + 1 + 1 + 1) 26 r ∧ Below w.heap.size w wr) (fun i _ => (intOf i + 1).toNat)
  case atStart => exact ⟨255, by omega, by omega, rfl, 0, 0, hid TOP.out.1.symm, hid TOP.out.2.symm, q_a, q_b, q_rq, q_rr, q_q, q_r, gb⟩
  case round =>
    obtain ⟨q, hq1, hq2, rfl, r, Q, hr, hQ, na, nb, nrq, nrr, nq, nr, hB⟩ := hrel
    clear q_a q_b q_rq q_rr q_q q_r gb
    by_cases hq : 0 ≤ q
    · obtain ⟨k, rfl⟩ := Int.eq_ofNat_of_zero_le hq
      obtain ⟨A, X, R', Q', o, F1, F2, F3, hX, k1, HW, hR', hQ'⟩ := PK.out k r Q (by omega) hr.out hQ.out
      have hk : k < 256 := by omega
      clear hr hQ hq1 hq
      go_wp2_with (first | (refine wpList_load_num rfl _ (.tmp 7) rfl _ rfl _ _ _ nr Try.underlying26 rfl size26 ?_))
      refine (k1 _).mono ?_
      rintro e w1 ⟨rfl, bw1⟩
      have a_1 := na.step bw1
      have b_1 := nb.step bw1
      have rq_1 := nrq.step bw1
      have rr_1 := nrr.step bw1
      have q_1 := nq.step bw1
      have r_1 := nr.step bw1
      have c_1 := step_trans hB bw1
      clear na nb nrq nrr nq nr hB bw1
      go_upto_region 6 with (first | (refine wpList_store_num rfl _ (.tmp 9) _ rfl _ rfl _ rfl _ rfl (heap_alloc_new _ _) size26 ?_; intro w2 gw2 mw2; have b_2 := step_new gw2; have lox := hid (show _ ≤ w1.heap.size from Nat.le_trans c_1.size (by omega)); have na_x := hid (show _ ≠ w1.heap.size from Nat.ne_of_lt (Nat.lt_of_lt_of_le a_1.lt (by omega))); have nb_x := hid (show _ ≠ w1.heap.size from Nat.ne_of_lt (Nat.lt_of_lt_of_le b_1.lt (by omega))); have nrq_x := hid (show _ ≠ w1.heap.size from Nat.ne_of_lt (Nat.lt_of_lt_of_le rq_1.lt (by omega))); have nrr_x := hid (show _ ≠ w1.heap.size from Nat.ne_of_lt (Nat.lt_of_lt_of_le rr_1.lt (by omega))); have nq_x := hid (show _ ≠ w1.heap.size from Nat.ne_of_lt (Nat.lt_of_lt_of_le q_1.lt (by omega))); have nr_x := hid (show _ ≠ w1.heap.size from Nat.ne_of_lt (Nat.lt_of_lt_of_le r_1.lt (by omega))); have a_2 := a_1.step b_2; have b_3 := b_1.step b_2; have rq_2 := rq_1.step b_2; have rr_2 := rr_1.step b_2; have q_2 := q_1.step b_2; have r_2 := r_1.step b_2; have c_2 := step_trans c_1 b_2; clear a_1 b_1 rq_1 rr_1 q_1 r_1 c_1 b_2 gw2) | (refine wpList_load_num rfl _ (.tmp 3) rfl _ rfl _ _ _ b_3 Try.underlying26 rfl size26 ?_) | (refine wpList_load_num rfl _ (.tmp 9) rfl _ rfl _ _ _ mw2 Try.underlying26 rfl size26 ?_))
      try simp only [Act.put, List.setIfInBounds_toArray, List.set_cons_zero, List.set_cons_succ]
      have xl := mw2.lt
      have qk : k / 32 < 8 := by omega
      have cx := fun Q : Later w2 => (show Q.w.cell? ⟨w1.heap.size, 0, none⟩ = some (.int .u32 (digI A 0)) from (mw2.later Q).cell (k := 0) (by omega))
      have fx := fun Q : Later w2 => (mw2.later Q).frozen 0
      have ca := fun Q : Later w2 => (show Q.w.cell? ⟨w.heap.size, k / 32, none⟩ = some (.int .u32 (digI a (k / 32))) from (a_2.later Q).cell (k := k / 32) qk)
      have fa := fun Q : Later w2 => (a_2.later Q).frozen (k / 32)
      refine wp_region_tail (by kernel_rfl) (by kernel_rfl) (by kernel_rfl) (by kernel_rfl) (by kernel_rfl) ?_
      simp only [calm, headOps, tailOps, List.length_cons, List.length_nil, List.drop_succ_cons, List.drop_zero, Nat.zero_add, Nat.reduceAdd]
      go_big_quiet_step (fail)
      go_big_quiet_step (fail)
      go_big_quiet_step (fail)
      go_big_quiet_step (fail)
      go_big_quiet_step (fail)
      go_big_quiet_step (fail)
      go_big_quiet_step (fail)
      go_big_quiet_step (fail)
      go_big_quiet_step (fail)
      go_big_quiet_step (fail)
      go_big_quiet_step (fail)
      go_big_quiet_step (fail)
      go_big_quiet_step (fail)
      refine wpQuiet_nil ?_
      intro XX
      have a_3 := a_2.step XX.h
      have b_4 := b_3.step XX.h
      have rq_3 := rq_2.step XX.h
      have rr_3 := rr_2.step XX.h
      have q_3 := q_2.step XX.h
      have r_3 := r_2.step XX.h
      have x_1 := mw2.step XX.h
      have c_3 := step_trans c_2 XX.h
      clear a_2 b_3 rq_2 rr_2 q_2 r_2 mw2 c_2
      have cx0 := x_1.cell (k := 0) (by omega)
      have fx0 := x_1.frozen 0
      go_upto_region 7 with fail
      rw [bit_dig, F1.out]
      have n3 : Num (World.setCell XX.w ⟨w1.heap.size, 0, none⟩ (.int .u32 (digI X 0))) w1.heap.size 26 X := num_of_row (x_1.row.set 0 _) fun j hj => by
        by_cases e : j = 0
        · subst e; rw [if_pos rfl, numF]
        · rw [if_neg e, numF, numF, F2.out j (by omega)]
      have g3 := grown_set (p := ⟨w1.heap.size, 0, none⟩) (World.grownBy.refl XX.w (some w1.heap.size)) rfl (.int .u32 (digI X 0))
      generalize World.setCell _ _ _ = w3 at *
      clear F1 F2 cx fx ca fa cx0 fx0 xl
      have a_4 := a_3.grown g3 (ne_some na_x.out)
      have b_5 := b_4.grown g3 (ne_some nb_x.out)
      have rq_4 := rq_3.grown g3 (ne_some nrq_x.out)
      have rr_4 := rr_3.grown g3 (ne_some nrr_x.out)
      have q_4 := q_3.grown g3 (ne_some nq_x.out)
      have r_4 := r_3.grown g3 (ne_some nr_x.out)
      have c_4 := below_of_grown c_3 g3 c_3.size lox.out
      clear a_3 b_4 rq_3 rr_3 q_3 r_3 x_1 c_3 g3
      rcases HW.out with ⟨ho, hq2, v, ks⟩ | ⟨ho, dd, hd0, hd1, kc, hq2, v, ks⟩ | ⟨ho, hXq, kc, hq2⟩
      · clear HW
        subst ho
        refine wp_region_plain ?_
        go_big_quiet_step (fail)
        go_big_quiet_step (fail)
        go_big_quiet_step (fail)
        first | (refine wpQuiet_load_num rfl _ (.tmp 9) rfl _ rfl _ _ _ n3 Try.underlying26 rfl size26 ?_; simp only [Act.put, List.setIfInBounds_toArray, List.set_cons_zero, List.set_cons_succ]) | go_big_quiet_step (fail)
        first | (refine wpQuiet_load_num rfl _ (.tmp 3) rfl _ rfl _ _ _ b_5 Try.underlying26 rfl size26 ?_; simp only [Act.put, List.setIfInBounds_toArray, List.set_cons_zero, List.set_cons_succ]) | go_big_quiet_step (fail)
        go_big_quiet_step (fail)
        go_big_quiet_step (fail)
        go_big_quiet_step (fail)
        refine wpQuiet_nil ?_
        intro X_1
        have a_5 := a_4.step X_1.h
        have b_6 := b_5.step X_1.h
        have rq_5 := rq_4.step X_1.h
        have rr_5 := rr_4.step X_1.h
        have q_5 := q_4.step X_1.h
        have r_5 := r_4.step X_1.h
        have x_2 := n3.step X_1.h
        have c_5 := step_trans c_4 X_1.h
        clear a_4 b_5 rq_4 rr_4 q_4 r_4 n3 c_4
        go_wp2_with (first | (refine wpList_load_num rfl _ (.tmp 3) rfl _ rfl _ _ _ b_6 Try.underlying26 rfl size26 ?_) | (refine wpList_load_num rfl _ (.tmp 9) rfl _ rfl _ _ _ x_2 Try.underlying26 rfl size26 ?_))
        refine (ks _).mono ?_
        rintro e w3 ⟨rfl, bw3⟩
        have a_6 := a_5.step bw3
        have b_7 := b_6.step bw3
        have rq_6 := rq_5.step bw3
        have rr_6 := rr_5.step bw3
        have q_6 := q_5.step bw3
        have r_6 := r_5.step bw3
        have x_3 := x_2.step bw3
        have c_6 := step_trans c_5 bw3
        clear a_5 b_6 rq_5 rr_5 q_5 r_5 x_2 c_5 bw3
        go_upto_region 9 with (first | (refine wpList_store_num rfl _ (.tmp 9) _ rfl _ rfl _ rfl _ rfl x_3 size26 ?_; intro w4 gw4 mw4; have a_7 := a_6.grown gw4 (ne_some na_x.out); have b_8 := b_7.grown gw4 (ne_some nb_x.out); have rq_7 := rq_6.grown gw4 (ne_some nrq_x.out); have rr_7 := rr_6.grown gw4 (ne_some nrr_x.out); have q_7 := q_6.grown gw4 (ne_some nq_x.out); have r_7 := r_6.grown gw4 (ne_some nr_x.out); have c_7 := below_of_grown c_6 gw4 c_6.size lox.out; clear x_3 a_6 b_7 rq_6 rr_6 q_6 r_6 c_6 gw4) | (refine wpList_load_num rfl _ (.tmp 6) rfl _ rfl _ _ _ q_7 Try.underlying26 rfl size26 ?_) | (refine wpList_load_num rfl _ (.tmp 7) rfl _ rfl _ _ _ r_7 Try.underlying26 rfl size26 ?_) | (refine wpList_load_num rfl _ (.tmp 9) rfl _ rfl _ _ _ mw4 Try.underlying26 rfl size26 ?_))
        try simp only [Act.put, List.setIfInBounds_toArray, List.set_cons_zero, List.set_cons_succ]
        have HQ := F3.out
        obtain ⟨u1, u2⟩ := q_bit HQ.out
        have U1 := hid u1
        have U2 := hid u2
        clear u1 u2 HQ
        have cq := q_7.cell (k := k / 32) qk
        have fq := q_7.frozen (k / 32)
        have p0 : (0 : Int) < 2 ^ (k % 32) ∧ (2 : Int) ^ (k % 32) < 4294967296 := pow_bd k
        go_upto_region 10 with fail
        rw [U1.out]
        have n4 : Num (World.setCell w4 ⟨w.heap.size + 1 + 1 + 1 + 1, k / 32, none⟩ (.int .u32 (digI (Q + 2 ^ k) (k / 32)))) (w.heap.size + 1 + 1 + 1 + 1) 26 (Q + 2 ^ k) := num_of_row (q_7.row.set (k / 32) _) fun j hj => by
          by_cases e : j = k / 32
          · subst e; rw [if_pos rfl, numF]
          · rw [if_neg e, numF, numF, U2.out j e]
        have g4 := grown_set (p := ⟨w.heap.size + 1 + 1 + 1 + 1, k / 32, none⟩) (World.grownBy.refl w4 (some (w.heap.size + 1 + 1 + 1 + 1))) rfl (.int .u32 (digI (Q + 2 ^ k) (k / 32)))
        generalize World.setCell _ _ _ = w4 at *
        clear U1 U2 cq fq p0
        have a_8 := a_7.grown g4 (ne_some na_q.out)
        have b_9 := b_8.grown g4 (ne_some nb_q.out)
        have rq_8 := rq_7.grown g4 (ne_some nrq_q.out)
        have rr_8 := rr_7.grown g4 (ne_some nrr_q.out)
        have r_8 := r_7.grown g4 (ne_some nq_r.out.symm)
        have x_4 := mw4.grown g4 (ne_some nq_x.out.symm)
        have c_8 := below_of_grown c_7 g4 c_7.size loq.out
        clear a_7 b_8 rq_7 rr_7 q_7 r_7 mw4 c_7 g4
        go_wp2_with (first | (refine wpList_load_num rfl _ (.tmp 2) rfl _ rfl _ _ _ a_8 Try.underlying26 rfl size26 ?_) | (refine wpList_load_num rfl _ (.tmp 3) rfl _ rfl _ _ _ b_9 Try.underlying26 rfl size26 ?_) | (refine wpList_load_num rfl _ (.tmp 4) rfl _ rfl _ _ _ rq_8 Try.underlying26 rfl size26 ?_) | (refine wpList_load_num rfl _ (.tmp 5) rfl _ rfl _ _ _ rr_8 Try.underlying26 rfl size26 ?_) | (refine wpList_load_num rfl _ (.tmp 6) rfl _ rfl _ _ _ n4 Try.underlying26 rfl size26 ?_) | (refine wpList_load_num rfl _ (.tmp 7) rfl _ rfl _ _ _ r_8 Try.underlying26 rfl size26 ?_) | (refine wpList_load_num rfl _ (.tmp 9) rfl _ rfl _ _ _ x_4 Try.underlying26 rfl size26 ?_) | (refine wpList_store_num rfl _ (.tmp 7) _ rfl _ rfl _ rfl _ rfl r_8 size26 ?_; intro wy gy my))
        go_roundw
        case rel =>
          have a_9 := a_8.grown gy (ne_some na_r.out)
          have b_10 := b_9.grown gy (ne_some nb_r.out)
          have rq_9 := rq_8.grown gy (ne_some nrq_r.out)
          have rr_9 := rr_8.grown gy (ne_some nrr_r.out)
          have q_8 := n4.grown gy (ne_some nq_r.out)
          have x_5 := x_4.grown gy (ne_some nr_x.out.symm)
          have c_9 := below_of_grown c_8 gy c_8.size lor.out
          clear a_8 b_9 rq_8 rr_8 n4 r_8 x_4 c_8 gy
          exact ⟨(k : Int) - 1, by omega, by omega, by go_num, _, _, hid (by rw [show ((k : Int) - 1 + 1).toNat = k by omega]; exact hR'.out), hid (by rw [show ((k : Int) - 1 + 1).toNat = k by omega, ← hQ'.out, hq2]), a_9, b_10, rq_9, rr_9, q_8, my, c_9⟩
        case measure => simp [intOf] <;> omega
      · clear HW
        subst ho
        refine wp_region_plain ?_
        go_big_quiet_step (fail)
        go_big_quiet_step (fail)
        go_big_quiet_step (fail)
        first | (refine wpQuiet_load_num rfl _ (.tmp 9) rfl _ rfl _ _ _ n3 Try.underlying26 rfl size26 ?_; simp only [Act.put, List.setIfInBounds_toArray, List.set_cons_zero, List.set_cons_succ]) | go_big_quiet_step (fail)
        first | (refine wpQuiet_load_num rfl _ (.tmp 3) rfl _ rfl _ _ _ b_5 Try.underlying26 rfl size26 ?_; simp only [Act.put, List.setIfInBounds_toArray, List.set_cons_zero, List.set_cons_succ]) | go_big_quiet_step (fail)
        go_big_quiet_step (exact later_of (kc _))
        go_big_quiet_step (fail)
        go_big_quiet_step (fail)
        refine wpQuiet_nil ?_
        intro X_1
        have a_5 := a_4.step X_1.h
        have b_6 := b_5.step X_1.h
        have rq_5 := rq_4.step X_1.h
        have rr_5 := rr_4.step X_1.h
        have q_5 := q_4.step X_1.h
        have r_5 := r_4.step X_1.h
        have x_2 := n3.step X_1.h
        have c_5 := step_trans c_4 X_1.h
        clear a_4 b_5 rq_4 rr_4 q_4 r_4 n3 c_4
        go_wp2_with (first | (refine wpList_load_num rfl _ (.tmp 3) rfl _ rfl _ _ _ b_6 Try.underlying26 rfl size26 ?_) | (refine wpList_load_num rfl _ (.tmp 9) rfl _ rfl _ _ _ x_2 Try.underlying26 rfl size26 ?_))
        refine (ks _).mono ?_
        rintro e w3 ⟨rfl, bw3⟩
        have a_6 := a_5.step bw3
        have b_7 := b_6.step bw3
        have rq_6 := rq_5.step bw3
        have rr_6 := rr_5.step bw3
        have q_6 := q_5.step bw3
        have r_6 := r_5.step bw3
        have x_3 := x_2.step bw3
        have c_6 := step_trans c_5 bw3
        clear a_5 b_6 rq_5 rr_5 q_5 r_5 x_2 c_5 bw3
        go_upto_region 9 with (first | (refine wpList_store_num rfl _ (.tmp 9) _ rfl _ rfl _ rfl _ rfl x_3 size26 ?_; intro w4 gw4 mw4; have a_7 := a_6.grown gw4 (ne_some na_x.out); have b_8 := b_7.grown gw4 (ne_some nb_x.out); have rq_7 := rq_6.grown gw4 (ne_some nrq_x.out); have rr_7 := rr_6.grown gw4 (ne_some nrr_x.out); have q_7 := q_6.grown gw4 (ne_some nq_x.out); have r_7 := r_6.grown gw4 (ne_some nr_x.out); have c_7 := below_of_grown c_6 gw4 c_6.size lox.out; clear x_3 a_6 b_7 rq_6 rr_6 q_6 r_6 c_6 gw4) | (refine wpList_load_num rfl _ (.tmp 6) rfl _ rfl _ _ _ q_7 Try.underlying26 rfl size26 ?_) | (refine wpList_load_num rfl _ (.tmp 7) rfl _ rfl _ _ _ r_7 Try.underlying26 rfl size26 ?_) | (refine wpList_load_num rfl _ (.tmp 9) rfl _ rfl _ _ _ mw4 Try.underlying26 rfl size26 ?_))
        try simp only [Act.put, List.setIfInBounds_toArray, List.set_cons_zero, List.set_cons_succ]
        have HQ := F3.out
        obtain ⟨u1, u2⟩ := q_bit HQ.out
        have U1 := hid u1
        have U2 := hid u2
        clear u1 u2 HQ
        have cq := q_7.cell (k := k / 32) qk
        have fq := q_7.frozen (k / 32)
        have p0 : (0 : Int) < 2 ^ (k % 32) ∧ (2 : Int) ^ (k % 32) < 4294967296 := pow_bd k
        go_upto_region 10 with fail
        rw [U1.out]
        have n4 : Num (World.setCell w4 ⟨w.heap.size + 1 + 1 + 1 + 1, k / 32, none⟩ (.int .u32 (digI (Q + 2 ^ k) (k / 32)))) (w.heap.size + 1 + 1 + 1 + 1) 26 (Q + 2 ^ k) := num_of_row (q_7.row.set (k / 32) _) fun j hj => by
          by_cases e : j = k / 32
          · subst e; rw [if_pos rfl, numF]
          · rw [if_neg e, numF, numF, U2.out j e]
        have g4 := grown_set (p := ⟨w.heap.size + 1 + 1 + 1 + 1, k / 32, none⟩) (World.grownBy.refl w4 (some (w.heap.size + 1 + 1 + 1 + 1))) rfl (.int .u32 (digI (Q + 2 ^ k) (k / 32)))
        generalize World.setCell _ _ _ = w4 at *
        clear U1 U2 cq fq p0
        have a_8 := a_7.grown g4 (ne_some na_q.out)
        have b_9 := b_8.grown g4 (ne_some nb_q.out)
        have rq_8 := rq_7.grown g4 (ne_some nrq_q.out)
        have rr_8 := rr_7.grown g4 (ne_some nrr_q.out)
        have r_8 := r_7.grown g4 (ne_some nq_r.out.symm)
        have x_4 := mw4.grown g4 (ne_some nq_x.out.symm)
        have c_8 := below_of_grown c_7 g4 c_7.size loq.out
        clear a_7 b_8 rq_7 rr_7 q_7 r_7 mw4 c_7 g4
        go_wp2_with (first | (refine wpList_load_num rfl _ (.tmp 2) rfl _ rfl _ _ _ a_8 Try.underlying26 rfl size26 ?_) | (refine wpList_load_num rfl _ (.tmp 3) rfl _ rfl _ _ _ b_9 Try.underlying26 rfl size26 ?_) | (refine wpList_load_num rfl _ (.tmp 4) rfl _ rfl _ _ _ rq_8 Try.underlying26 rfl size26 ?_) | (refine wpList_load_num rfl _ (.tmp 5) rfl _ rfl _ _ _ rr_8 Try.underlying26 rfl size26 ?_) | (refine wpList_load_num rfl _ (.tmp 6) rfl _ rfl _ _ _ n4 Try.underlying26 rfl size26 ?_) | (refine wpList_load_num rfl _ (.tmp 7) rfl _ rfl _ _ _ r_8 Try.underlying26 rfl size26 ?_) | (refine wpList_load_num rfl _ (.tmp 9) rfl _ rfl _ _ _ x_4 Try.underlying26 rfl size26 ?_) | (refine wpList_store_num rfl _ (.tmp 7) _ rfl _ rfl _ rfl _ rfl r_8 size26 ?_; intro wy gy my))
        go_roundw
        case rel =>
          have a_9 := a_8.grown gy (ne_some na_r.out)
          have b_10 := b_9.grown gy (ne_some nb_r.out)
          have rq_9 := rq_8.grown gy (ne_some nrq_r.out)
          have rr_9 := rr_8.grown gy (ne_some nrr_r.out)
          have q_8 := n4.grown gy (ne_some nq_r.out)
          have x_5 := x_4.grown gy (ne_some nr_x.out.symm)
          have c_9 := below_of_grown c_8 gy c_8.size lor.out
          clear a_8 b_9 rq_8 rr_8 n4 r_8 x_4 c_8 gy
          exact ⟨(k : Int) - 1, by omega, by omega, by go_num, _, _, hid (by rw [show ((k : Int) - 1 + 1).toNat = k by omega]; exact hR'.out), hid (by rw [show ((k : Int) - 1 + 1).toNat = k by omega, ← hQ'.out, hq2]), a_9, b_10, rq_9, rr_9, q_8, my, c_9⟩
        case measure => simp [intOf] <;> omega
      · clear HW
        subst ho
        subst hXq
        refine wp_region_plain ?_
        go_big_quiet_step (fail)
        go_big_quiet_step (fail)
        go_big_quiet_step (fail)
        first | (refine wpQuiet_load_num rfl _ (.tmp 9) rfl _ rfl _ _ _ n3 Try.underlying26 rfl size26 ?_; simp only [Act.put, List.setIfInBounds_toArray, List.set_cons_zero, List.set_cons_succ]) | go_big_quiet_step (fail)
        first | (refine wpQuiet_load_num rfl _ (.tmp 3) rfl _ rfl _ _ _ b_5 Try.underlying26 rfl size26 ?_; simp only [Act.put, List.setIfInBounds_toArray, List.set_cons_zero, List.set_cons_succ]) | go_big_quiet_step (fail)
        go_big_quiet_step (exact later_of (kc _))
        go_big_quiet_step (fail)
        go_big_quiet_step (fail)
        refine wpQuiet_nil ?_
        intro X_1
        have a_5 := a_4.step X_1.h
        have b_6 := b_5.step X_1.h
        have rq_5 := rq_4.step X_1.h
        have rr_5 := rr_4.step X_1.h
        have q_5 := q_4.step X_1.h
        have r_5 := r_4.step X_1.h
        have x_2 := n3.step X_1.h
        have c_5 := step_trans c_4 X_1.h
        clear a_4 b_5 rq_4 rr_4 q_4 r_4 n3 c_4
        go_wp2_with (first | (refine wpList_load_num rfl _ (.tmp 2) rfl _ rfl _ _ _ a_5 Try.underlying26 rfl size26 ?_) | (refine wpList_load_num rfl _ (.tmp 3) rfl _ rfl _ _ _ b_6 Try.underlying26 rfl size26 ?_) | (refine wpList_load_num rfl _ (.tmp 4) rfl _ rfl _ _ _ rq_5 Try.underlying26 rfl size26 ?_) | (refine wpList_load_num rfl _ (.tmp 5) rfl _ rfl _ _ _ rr_5 Try.underlying26 rfl size26 ?_) | (refine wpList_load_num rfl _ (.tmp 6) rfl _ rfl _ _ _ q_5 Try.underlying26 rfl size26 ?_) | (refine wpList_load_num rfl _ (.tmp 7) rfl _ rfl _ _ _ r_5 Try.underlying26 rfl size26 ?_) | (refine wpList_load_num rfl _ (.tmp 9) rfl _ rfl _ _ _ x_2 Try.underlying26 rfl size26 ?_) | (refine wpList_store_num rfl _ (.tmp 7) _ rfl _ rfl _ rfl _ rfl r_5 size26 ?_; intro wy gy my))
        go_roundw
        case rel =>
          have a_6 := a_5.grown gy (ne_some na_r.out)
          have b_7 := b_6.grown gy (ne_some nb_r.out)
          have rq_6 := rq_5.grown gy (ne_some nrq_r.out)
          have rr_6 := rr_5.grown gy (ne_some nrr_r.out)
          have q_6 := q_5.grown gy (ne_some nq_r.out)
          have x_3 := x_2.grown gy (ne_some nr_x.out.symm)
          have c_6 := below_of_grown c_5 gy c_5.size lor.out
          clear a_5 b_6 rq_5 rr_5 q_5 r_5 x_2 c_5 gy
          exact ⟨(k : Int) - 1, by omega, by omega, by go_num, _, _, hid (by rw [show ((k : Int) - 1 + 1).toNat = k by omega]; exact hR'.out), hid (by rw [show ((k : Int) - 1 + 1).toNat = k by omega, ← hQ'.out, hq2]), a_6, b_7, rq_6, rr_6, q_6, my, c_6⟩
        case measure => simp [intOf] <;> omega
    · obtain rfl : q = -1 := by omega
      obtain ⟨e1, e2⟩ := BOT.out
      have e3 : r = V2 := by rw [hr.out, ← e2]; rfl
      have e4 : Q = V1 := by rw [hQ.out, ← e1]; rfl
      subst e3 e4
      clear e1 e2
      go_upto_region 11 with fail
      refine wp_two_rows (by kernel_rfl) 26 _ Try.underlying26 rfl size26 6 7 4 5 61 62 rfl rfl rfl rfl rfl rfl rfl rfl rfl rfl rfl rfl (by kernel_rfl) (by kernel_rfl) (by kernel_rfl) (by kernel_rfl) (by kernel_rfl) (by kernel_rfl) (by kernel_rfl) (by decide) (by simp) (by simp)
        (w.heap.size + 1 + 1 + 1 + 1) (w.heap.size + 1 + 1 + 1 + 1 + 1) (w.heap.size + 1 + 1) (w.heap.size + 1 + 1 + 1) rfl rfl rfl rfl 26 26 _ _ nq nr _ _ nrq nrr rfl rfl ⟨by omega, by omega, by omega⟩ ?_
      intro w9 b9 k9 l9
      simp only [Act.put, List.setIfInBounds_toArray, List.set_cons_zero, List.set_cons_succ]
      go_wp2
      exact bodyPost_ret (results_num2 rfl rfl k9 rfl l9 Try.underlying26 rfl size26) rfl ⟨rfl, hB.trans (b9 _ (by omega) (by omega))⟩
end Go.Proofs.Ytcfobgimpflneaa
