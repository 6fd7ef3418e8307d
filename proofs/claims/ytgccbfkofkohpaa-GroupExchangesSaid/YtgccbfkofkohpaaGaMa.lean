/- The reference's by, In. -/
import Derived.Test.YtgccbfkofkohpaaGaMul
import Derived.Test.YtgccbfkofkohpaaRefM
import Derived.Test.YtgccbfkofkohpaaGaRz
import Derived.Test.YtgccbfkofkohpaaDebt
import Derived.Test.YtgccbfkofkohpaaGaRef
import Derived.Test.YtgccbfkofkohpaaGaByte
import Derived.Test.YtgccbfkofkohpaaPick
namespace Go.Proofs.Ytgccbfkofkohpaa
set_option linter.unusedVariables false
set_option maxRecDepth 20000
set_option linter.unusedSimpArgs false
open Go.ChangeShapes Go.WideShapes Go.ChangeAt Go.RowKit
set_option maxRecDepth 100000 in
set_option maxHeartbeats 4000000 in
theorem by_any (a b m : Nat) (ha : a < 4294967296 ^ 8) (hb : b < 4294967296 ^ 8) (hm : m < 4294967296 ^ 8) (h0 : 0 < m) (w : World) :
    Calls Try.prog 70 #[numV a, numV b, numV m] w fun e w' => e = .returned (numV (a * b % m)) ∧ Below w.heap.size w w' := by
  have hq : a * b % 4294967296 ^ 8 + a * b / 4294967296 ^ 8 * 4294967296 ^ 8 = a * b := by rw [Nat.mul_comm (a * b / _)]; exact Nat.mod_add_div _ _
  have hlo : a * b % 4294967296 ^ 8 < 4294967296 ^ 8 := Nat.mod_lt _ (by decide)
  have hhi : a * b / 4294967296 ^ 8 < 4294967296 ^ 8 := Nat.div_lt_of_lt_mul (Nat.mul_lt_mul'' ha hb)
  have hr := fun w => rrest_any _ _ m hlo hhi hm w
  have hmu := rmul_any a b ha hb
  rw [if_neg (by omega), hq] at hr
  generalize a * b % 4294967296 ^ 8 = lo at *
  generalize a * b / 4294967296 ^ 8 = hi at *
  generalize a * b % m = R at *
  clear hq hlo hhi
  go_enter Try.func70, Try.ntmps70
  go_upto_region 1 with fail
  obtain ⟨W, hW⟩ : ∃ W, W = ((((((w.alloc (.cells (numA a) 26))).alloc (.cells (numA b) 26))).alloc (.cells (numA m) 26))).alloc (.cells #[Value.int .u32 0, .int .u32 0, .int .u32 0, .int .u32 0, .int .u32 0, .int .u32 0, .int .u32 0, .int .u32 0] 26) := ⟨_, rfl⟩
  have q_a : Num W (w.heap.size) 26 (a) := by
    have := ((((Num.new w 26 (a)).alloc (.cells (numA b) 26)).alloc (.cells (numA m) 26)).alloc (.cells #[Value.int .u32 0, .int .u32 0, .int .u32 0, .int .u32 0, .int .u32 0, .int .u32 0, .int .u32 0, .int .u32 0] 26))
    rw [hW]; exact this
  have q_b : Num W (w.heap.size + 1) 26 (b) := by
    have := (((Num.new (w.alloc (.cells (numA a) 26)) 26 (b)).alloc (.cells (numA m) 26)).alloc (.cells #[Value.int .u32 0, .int .u32 0, .int .u32 0, .int .u32 0, .int .u32 0, .int .u32 0, .int .u32 0, .int .u32 0] 26))
    rw [World.size_alloc] at this
    rw [hW]; exact this
  have q_m : Num W (w.heap.size + 1 + 1) 26 (m) := by
    have := ((Num.new (((w.alloc (.cells (numA a) 26))).alloc (.cells (numA b) 26)) 26 (m)).alloc (.cells #[Value.int .u32 0, .int .u32 0, .int .u32 0, .int .u32 0, .int .u32 0, .int .u32 0, .int .u32 0, .int .u32 0] 26))
    rw [World.size_alloc, World.size_alloc] at this
    rw [hW]; exact this
  have q_r : Num W (w.heap.size + 1 + 1 + 1) 26 0 := by
    have := (Num.new (((((w.alloc (.cells (numA a) 26))).alloc (.cells (numA b) 26))).alloc (.cells (numA m) 26)) 26 0)
    rw [World.size_alloc, World.size_alloc, World.size_alloc, ← zeroA] at this
    rw [hW]; exact this
  have gb : Below w.heap.size w W := by rw [hW]; exact (((((Below.refl _ _).alloc (by simp <;> omega) _).alloc (by simp <;> omega) _).alloc (by simp <;> omega) _).alloc (by simp <;> omega) _)
  rw [← hW]
  clear hW
  have lor := hid (show w.heap.size ≤ w.heap.size + 1 + 1 + 1 by omega)
  have na_r := hid (show w.heap.size ≠ w.heap.size + 1 + 1 + 1 by omega)
  have nb_r := hid (show w.heap.size + 1 ≠ w.heap.size + 1 + 1 + 1 by omega)
  have nm_r := hid (show w.heap.size + 1 + 1 ≠ w.heap.size + 1 + 1 + 1 by omega)
  go_wp2_with (first | (refine wpList_load_num rfl _ (.tmp 3) rfl _ rfl _ _ _ q_a Try.underlying26 rfl size26 ?_) | (refine wpList_load_num rfl _ (.tmp 4) rfl _ rfl _ _ _ q_b Try.underlying26 rfl size26 ?_))
  refine (hmu _).mono ?_
  rintro e w1 ⟨rfl, bw1⟩
  have a_1 := q_a.step bw1
  have b_1 := q_b.step bw1
  have m_1 := q_m.step bw1
  have r_1 := q_r.step bw1
  have c_1 := step_trans gb bw1
  clear q_a q_b q_m q_r gb bw1
  go_wp2_with (first | (refine wpList_store_num rfl _ (.tmp 7) _ rfl _ rfl _ rfl _ rfl (news2 w1 _).1 size26 ?_; intro w2 gw2 mw2) | (refine wpList_store_num rfl _ (.tmp 8) _ rfl _ rfl _ rfl _ rfl ((gw2.block _ (by simp) (by simp)).trans (news2 w1 _).2) size26 ?_; intro w3 gw3 mw3; have b_2 := step_new2 gw2 gw3; have qw2 := (mw2.grown gw3 (by simp <;> omega)); have nr_lo := hid (show _ ≠ w1.heap.size from Nat.ne_of_lt (Nat.lt_of_lt_of_le r_1.lt (by omega))); have nr_hi := hid (show _ ≠ w1.heap.size + 1 from Nat.ne_of_lt (Nat.lt_of_lt_of_le r_1.lt (by omega))); have a_2 := a_1.step b_2; have b_3 := b_1.step b_2; have m_2 := m_1.step b_2; have r_2 := r_1.step b_2; have c_2 := step_trans c_1 b_2; clear a_1 b_1 m_1 r_1 c_1 b_2 gw2 gw3 mw2) | (refine wpList_load_num rfl _ (.tmp 5) rfl _ rfl _ _ _ m_2 Try.underlying26 rfl size26 ?_) | (refine wpList_load_num rfl _ (.tmp 7) rfl _ rfl _ _ _ qw2 Try.underlying26 rfl size26 ?_) | (refine wpList_load_num rfl _ (.tmp 8) rfl _ rfl _ _ _ mw3 Try.underlying26 rfl size26 ?_))
  refine (hr _).mono ?_
  rintro e w4 ⟨rfl, bw4⟩
  have a_3 := a_2.step bw4
  have b_4 := b_3.step bw4
  have m_3 := m_2.step bw4
  have r_3 := r_2.step bw4
  have lo_1 := qw2.step bw4
  have hi_1 := mw3.step bw4
  have c_3 := step_trans c_2 bw4
  clear a_2 b_3 m_2 r_2 qw2 mw3 c_2 bw4
  go_upto_region 3 with (first | (refine wpList_store_num rfl _ (.tmp 9) _ rfl _ rfl _ rfl _ rfl (heap_alloc_new _ _) size26 ?_; intro w5 gw5 mw5; have b_5 := step_new gw5; have nr_x := hid (show _ ≠ w4.heap.size from Nat.ne_of_lt (Nat.lt_of_lt_of_le r_3.lt (by omega))); have a_4 := a_3.step b_5; have b_6 := b_4.step b_5; have m_4 := m_3.step b_5; have r_4 := r_3.step b_5; have lo_2 := lo_1.step b_5; have hi_2 := hi_1.step b_5; have c_4 := step_trans c_3 b_5; clear a_3 b_4 m_3 r_3 lo_1 hi_1 c_3 b_5 gw5) | (refine wpList_load_num rfl _ (.tmp 9) rfl _ rfl _ _ _ mw5 Try.underlying26 rfl size26 ?_))
  go_wp2_with (first | (refine wpList_load_num rfl _ (.tmp 9) rfl _ rfl _ _ _ mw5 Try.underlying26 rfl size26 ?_) | (refine wpList_store_num rfl _ (.tmp 6) _ rfl _ rfl _ rfl _ rfl r_4 size26 ?_; intro w6 gw6 mw6; have a_5 := a_4.grown gw6 (ne_some na_r.out); have b_7 := b_6.grown gw6 (ne_some nb_r.out); have m_5 := m_4.grown gw6 (ne_some nm_r.out); have lo_3 := lo_2.grown gw6 (ne_some nr_lo.out.symm); have hi_3 := hi_2.grown gw6 (ne_some nr_hi.out.symm); have x_1 := mw5.grown gw6 (ne_some nr_x.out.symm); have c_5 := below_of_grown c_4 gw6 c_4.size lor.out; clear r_4 a_4 b_6 m_4 lo_2 hi_2 mw5 c_4 gw6) | (refine wpList_load_num rfl _ (.tmp 9) rfl _ rfl _ _ _ x_1 Try.underlying26 rfl size26 ?_))
  exact bodyPost_ret (results_num rfl rfl mw6 Try.underlying26 rfl size26) rfl ⟨rfl, c_5⟩
end Go.Proofs.Ytgccbfkofkohpaa
namespace Go.Proofs.Ytgccbfkofkohpaa
set_option linter.unusedVariables false
set_option maxRecDepth 20000
set_option linter.unusedSimpArgs false
open Go.ChangeShapes Go.WideShapes Go.ChangeAt Go.RowKit
/-- A limb halved, and the bit that comes from the next one. -/
theorem half_or {x y : Nat} (hx : x < 4294967296) (hy : y < 4294967296) : bits .or .u32 ((x : Int) / 2) ((y : Int) * 2147483648 % 4294967296) = ((x / 2 + y % 2 * 2147483648 : Nat) : Int) := by
  have e1 : (x : Int) / 2 = ((x / 2 : Nat) : Int) := by omega
  have e2 : (y : Int) * 2147483648 % 4294967296 = ((y % 2 * 2147483648 : Nat) : Int) := by omega
  rw [e1, e2, u32_or_nat _ _ (by omega) (by omega), Nat.or_comm, nat_join 31 (y % 2 * 2147483648) (x / 2) (by omega) (by omega)]
  omega
theorem half_dig (X i : Nat) : dig (X / 2) i = dig X i / 2 + dig X (i + 1) % 2 * 2147483648 := by
  unfold dig
  have e1 : X / 2 / 4294967296 ^ i = X / 4294967296 ^ i / 2 := by rw [Nat.div_div_eq_div_mul, Nat.div_div_eq_div_mul, Nat.mul_comm]
  have e2 : X / 4294967296 ^ (i + 1) = X / 4294967296 ^ i / 4294967296 := by rw [Nat.pow_succ, Nat.div_div_eq_div_mul]
  rw [e1, e2]
  generalize X / 4294967296 ^ i = Z
  omega
/-- What is halved: a number, or a number and an odd one. -/
theorem half_pack {a m : Nat} (ho : m % 2 = 1) (ha : a < 4294967296 ^ 8) (hm : m < 4294967296 ^ 8) (X : Nat) (hX : X = if a % 2 = 1 then a + m else a) :
    X / 2 = hfM m a ∧ X / 2 < 4294967296 ^ 8 ∧ X / 4294967296 ^ 8 ≤ 1 ∧ (∀ i, i < 8 → dig (X / 2) i = dig (X % 4294967296 ^ 8) i / 2 + dig X (i + 1) % 2 * 2147483648) ∧ dig X 8 = X / 4294967296 ^ 8 := by
  have hXb : X < 2 * 4294967296 ^ 8 := by rw [hX]; split <;> omega
  have h1 : X / 4294967296 ^ 8 ≤ 1 := by
    have : X / 4294967296 ^ 8 < 2 := Nat.div_lt_of_lt_mul (by omega)
    omega
  refine ⟨?_, by omega, h1, fun i hi => ?_, ?_⟩
  · unfold hfM; rw [hX]; split <;> rfl
  · rw [half_dig, dig_mod X hi]
  · unfold dig; rw [Nat.mod_eq_of_lt (by omega)]
theorem half_row {w : World} {g : Nat} {t : TypeId} {A H k : Nat} (h : w.rowIs g t 8 (fun j => if j < k then numF H j else numF A j)) (hk : k < 8) {v : Value} (hv : v = numF H k) : (w.setCell ⟨g, k, none⟩ v).rowIs g t 8 (fun j => if j < k + 1 then numF H j else numF A j) :=
  (h.set k _).congr fun j hj => by
    by_cases e : j = k
    · subst e; rw [if_pos rfl, if_pos (by omega), hv]
    · rw [if_neg e]
      by_cases h1 : j < k
      · rw [if_pos h1, if_pos (by omega)]
      · rw [if_neg h1, if_neg (by omega)]
end Go.Proofs.Ytgccbfkofkohpaa
namespace Go.Proofs.Ytgccbfkofkohpaa
set_option linter.unusedVariables false
set_option maxRecDepth 20000
set_option linter.unusedSimpArgs false
open Go.ChangeShapes Go.WideShapes Go.ChangeAt Go.RowKit
theorem grown_below {w w' : World} {row : Option Nat} (h : Below w.heap.size w w') : w.grownBy w' row := ⟨h.os, h.tape, h.output, h.size, fun b hb _ => h.block b hb⟩
end Go.Proofs.Ytgccbfkofkohpaa
