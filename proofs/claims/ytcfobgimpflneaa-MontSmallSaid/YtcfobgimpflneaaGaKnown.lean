/- A modulus made ready, opaque: what its functions return. -/
import Derived.Test.YtcfobgimpflneaaMtMake
import Derived.Test.YtcfobgimpflneaaMtRMake
import Derived.Test.YtcfobgimpflneaaMtMPow
import Derived.Test.YtcfobgimpflneaaMtRPow
import Derived.Test.YtcfobgimpflneaaMtROut
import Derived.Test.YtcfobgimpflneaaGaMul
import Derived.Test.YtcfobgimpflneaaMtInv
import Derived.Test.YtcfobgimpflneaaGaKn
import Derived.Test.YtcfobgimpflneaaGaInv
import Derived.Test.YtcfobgimpflneaaMtMk
namespace Go.Proofs.Ytcfobgimpflneaa
set_option linter.unusedVariables false
set_option linter.unusedSimpArgs false
open Go.ChangeShapes Go.WideShapes Go.ChangeAt Go.RowKit
/-- C is what Make makes m to. -/
structure MR (m : Nat) (C : Array Value) : Prop where
  odd : m % 2 = 1
  one : 1 < m
  lt : m < 4294967296 ^ 8
  eq : C = montA m (4294967296 ^ 8 % m) (4294967296 ^ 8 * 4294967296 ^ 8 % m) (ngI (digI m 0))
section
variable {m : Nat} {C : Array Value}
theorem MR.size (h : MR m C) : C.size = 25 := by rw [h.eq]; rfl
theorem MR.cells (h : MR m C) : C.all (·.oneCell') = true := by rw [h.eq]; exact montA_cells _ _ _ _
theorem MR.info (h : MR m C) : (Try.prog.info? 29).map (·.size) = some C.size := by rw [h.size]; exact size_mont
theorem MR.pm (h : MR m C) (j : Nat) (v : Value) (hv : (numA m)[j]? = some v) : C[0 + j]? = some v := by rw [h.eq]; exact montA_m j v hv
theorem MR.pr (h : MR m C) (j : Nat) (v : Value) (hv : (numA (4294967296 ^ 8 % m))[j]? = some v) : C[8 + j]? = some v := by rw [h.eq]; exact montA_r j v hv
theorem MR.pt (h : MR m C) (j : Nat) (v : Value) (hv : (numA (4294967296 ^ 8 * 4294967296 ^ 8 % m))[j]? = some v) : C[16 + j]? = some v := by rw [h.eq]; exact montA_t j v hv
theorem MR.pn (h : MR m C) : C[24]? = some (.int .u32 (ngI (digI m 0))) := by rw [h.eq]; rfl
theorem dig0_odd {m : Nat} (h : m % 2 = 1) : digI m 0 % 2 = 1 := by unfold digI dig; simp; omega
theorem MR.ng (h : MR m C) : ∃ q, ngI (digI m 0) * digI m 0 + 1 = 4294967296 * q := ng_spec (dig0_odd h.odd)
theorem ngI_bd (o : Int) : 0 ≤ ngI o ∧ ngI o < 4294967296 := by unfold ngI; omega
theorem MR.t_lt (h : MR m C) : 4294967296 ^ 8 * 4294967296 ^ 8 % m < m := Nat.mod_lt _ (by have := h.one; omega)
theorem mr_of {m : Nat} (ho : m % 2 = 1) (h1 : 1 < m) (hm : m < 4294967296 ^ 8) : ∃ C, MR m C ∧ (∀ w, Calls Try.prog 14 #[numV m] w fun e w' => e = .returned (.tuple #[.agg C, .bool true]) ∧ Below w.heap.size w w') ∧
    (∀ w, Calls Try.prog 15 #[numV m] w fun e w' => e = .returned (.tuple #[.agg C, .bool true]) ∧ Below w.heap.size w w') := by
  have e : 4294967296 ^ 8 % m * (4294967296 ^ 8 % m) % m = 4294967296 ^ 8 * 4294967296 ^ 8 % m := (Nat.mul_mod _ _ _).symm
  refine ⟨_, ⟨ho, h1, hm, rfl⟩, fun w => ?_, fun w => ?_⟩
  · have := mtmake_any m hm w
    rw [if_pos ⟨ho, by omega⟩, e] at this
    exact this
  · have := rmake_any m hm w
    rw [if_pos ⟨ho, by omega⟩, e] at this
    exact this
/-- What is no modulus. -/
theorem mr_none {m : Nat} (h : ¬ (m % 2 = 1 ∧ m ≠ 1)) (hm : m < 4294967296 ^ 8) : (∀ w, Calls Try.prog 14 #[numV m] w fun e w' => e = .returned (.tuple #[.agg (montA 0 0 0 0), .bool false]) ∧ Below w.heap.size w w') ∧
    (∀ w, Calls Try.prog 15 #[numV m] w fun e w' => e = .returned (.tuple #[.agg (montA 0 0 0 0), .bool false]) ∧ Below w.heap.size w w') := by
  refine ⟨fun w => ?_, fun w => ?_⟩
  · have := mtmake_any m hm w
    rw [if_neg h] at this
    exact this
  · have := rmake_any m hm w
    rw [if_neg h] at this
    exact this
theorem MR.in_ (h : MR m C) {a : Nat} (ha : a < 4294967296 ^ 8) (w : World) : Calls Try.prog 17 #[.agg C, numV a] w fun e w' => e = .returned (numV (a * 4294967296 ^ 8 % m)) ∧ Below w.heap.size w w' := by
  have := mtin_any m (4294967296 ^ 8 % m) _ _ h.lt h.odd h.ng (ngI_bd _).1 (ngI_bd _).2 a ha h.t_lt w
  rw [mm_in h.odd a _ rfl] at this
  rw [h.eq]; exact this
theorem MR.rin (h : MR m C) {a : Nat} (ha : a < 4294967296 ^ 8) (w : World) : Calls Try.prog 20 #[.agg C, numV a] w fun e w' => e = .returned (numV (a * 4294967296 ^ 8 % m)) ∧ Below w.heap.size w w' := by
  rw [h.eq]; exact rin_any m _ _ _ a ha h.lt (by have := h.one; omega) w
theorem MR.out (h : MR m C) {a : Nat} (ha : a < 4294967296 ^ 8) (w : World) : Calls Try.prog 21 #[.agg C, numV a] w fun e w' => e = .returned (numV (mm m a)) ∧ Below w.heap.size w w' := by
  rw [h.eq]; exact mtout_any m _ _ _ h.lt h.one h.odd h.ng (ngI_bd _).1 (ngI_bd _).2 a ha w
theorem MR.mul (h : MR m C) {a b : Nat} (ha : a < 4294967296 ^ 8) (hb : b < m) (w : World) : Calls Try.prog 23 #[.agg C, numV a, numV b] w fun e w' => e = .returned (numV (mm m (a * b))) ∧ Below w.heap.size w w' := by
  rw [h.eq]; exact mtmul_any m _ _ _ h.lt h.odd h.ng (ngI_bd _).1 (ngI_bd _).2 a b ha hb w
theorem MR.rmul (h : MR m C) {a b : Nat} (ha : a < 4294967296 ^ 8) (hb : b < 4294967296 ^ 8) (w : World) : Calls Try.prog 24 #[.agg C, numV a, numV b] w fun e w' => e = .returned (numV (mm m (a * b))) ∧ Below w.heap.size w w' := by
  rw [h.eq]; exact rmul2_any m _ _ _ a b ha hb h.lt (by have := h.one; omega) h.odd w
theorem MR.pow (h : MR m C) {a x : Nat} (ha : a < 4294967296 ^ 8) (hx : x < 4294967296 ^ 8) (w : World) : Calls Try.prog 26 #[.agg C, numV a, numV x] w fun e w' => e = .returned (numV (a ^ x % m)) ∧ Below w.heap.size w w' := by
  rw [h.eq]; exact mtpow_any m _ _ _ h.lt h.odd h.ng (ngI_bd _).1 (ngI_bd _).2 h.one rfl rfl a x ha hx w
theorem MR.rpow (h : MR m C) {a x : Nat} (ha : a < 4294967296 ^ 8) (hx : x < 4294967296 ^ 8) (w : World) : Calls Try.prog 28 #[numV a, numV x, numV m] w fun e w' => e = .returned (numV (a ^ x % m)) ∧ Below w.heap.size w w' :=
  rpower_any a x m ha hx h.lt h.one w
end
theorem mont_new (o : Oper) (a : Act) (w : World) (h : o.op = .alloc 29) : (execOp a.eval o).run Try.prog w = .ok (.value (.pointer (some ⟨w.heap.size, 0, none⟩))) (w.alloc (.cells #[Value.int .u32 0, .int .u32 0, .int .u32 0, .int .u32 0, .int .u32 0, .int .u32 0, .int .u32 0, .int .u32 0, .int .u32 0, .int .u32 0, .int .u32 0, .int .u32 0, .int .u32 0, .int .u32 0, .int .u32 0, .int .u32 0, .int .u32 0, .int .u32 0, .int .u32 0, .int .u32 0, .int .u32 0, .int .u32 0, .int .u32 0, .int .u32 0, .int .u32 0] 29)) := by
  unfold execOp
  simp only [h]
  kernel_rfl
end Go.Proofs.Ytcfobgimpflneaa
namespace Go.Proofs.Ytcfobgimpflneaa
set_option linter.unusedVariables false
set_option linter.unusedSimpArgs false
open Go.ChangeShapes Go.WideShapes Go.ChangeAt Go.RowKit
attribute [local go_sem] eqn_same
theorem mknown_pack : ∃ (C : Array Value) (I : Nat), MR 7 C ∧ RunsTo 14 #[numV 7] (.tuple #[.agg C, .bool true]) ∧
    RunsTo 14 #[numV 8] (.tuple #[.agg (montA 0 0 0 0), .bool false]) ∧
    RunsTo 29 #[numV 3, numV 7] (.tuple #[numV 5, .bool true]) ∧
    RunsTo 26 #[.agg C, numV 3, numV 4] (numV 4) ∧
    RunsTo 17 #[.agg C, numV 5] (numV I) ∧
    RunsTo 21 #[.agg C, numV I] (numV 5) := by
  obtain ⟨C, hC, k1, -⟩ := mr_of (m := 7) (by decide) (by decide) (by decide)
  refine ⟨C, 5 * 4294967296 ^ 8 % 7, hC, k1, (mr_none (m := 8) (by decide) (by decide)).1, fun w => ?_, fun w => ?_, hC.in_ (by decide), fun w => ?_⟩
  · have h := inv_yes (a := 3) (m := 7) (y := 5) (by decide) (by decide) (by decide)
    have := inverse_any 3 7 (by decide) (by decide) w
    rw [h.1, h.2] at this; exact this
  · have := hC.pow (a := 3) (x := 4) (by decide) (by decide) w
    exact this
  · have := hC.out (a := 5 * 4294967296 ^ 8 % 7) (by decide) w
    rw [mm_out hC.odd] at this; exact this
theorem rfrom3 (w : World) : Calls Try.prog 27 #[.int .i64 3] w fun e w' => e = .returned (numV 3) ∧ Below w.heap.size w w' := from_ref 3 (by omega) (by omega) w
theorem rfrom4 (w : World) : Calls Try.prog 27 #[.int .i64 4] w fun e w' => e = .returned (numV 4) ∧ Below w.heap.size w w' := from_ref 4 (by omega) (by omega) w
theorem rfrom5 (w : World) : Calls Try.prog 27 #[.int .i64 5] w fun e w' => e = .returned (numV 5) ∧ Below w.heap.size w w' := from_ref 5 (by omega) (by omega) w
theorem rfrom7 (w : World) : Calls Try.prog 27 #[.int .i64 7] w fun e w' => e = .returned (numV 7) ∧ Below w.heap.size w w' := from_ref 7 (by omega) (by omega) w
theorem rfrom8 (w : World) : Calls Try.prog 27 #[.int .i64 8] w fun e w' => e = .returned (numV 8) ∧ Below w.heap.size w w' := from_ref 8 (by omega) (by omega) w
set_option maxRecDepth 100000 in
set_option maxHeartbeats 8000000 in
theorem mknown_any (w : World) : Calls Try.prog 12 #[] w fun e w' => e = .returned (.bool true) ∧ Below w.heap.size w w' := by
  obtain ⟨C, I, hC, k1, k2, k3, k4, k5, k6⟩ := mknown_pack
  go_enter Try.func12, Try.ntmps12
  go_wp2_with (fail)
  refine (rfrom7 _).mono ?_
  rintro e w1 ⟨rfl, bw1⟩
  have c_1 := bw1
  clear bw1
  go_wp2_with (fail)
  refine (k1 _).mono ?_
  rintro e w2 ⟨rfl, bw2⟩
  have c_2 := step_trans c_1 bw2
  clear c_1 bw2
  go_upto_region 2 with (first | (refine wpList_store_blk rfl _ (.tmp 1) _ rfl _ rfl (C) rfl hC.cells _ (heap_alloc_new _ _) (by rw [hC.size]; rfl) hC.info ?_; intro w3 gw3 mw3))
  try simp only [Act.put, List.setIfInBounds_toArray, List.set_cons_zero, List.set_cons_succ]
  have loc := hid (show _ ≤ w2.heap.size from c_2.size)
  have b_1 := step_new gw3
  have c_3 := step_trans c_2 b_1
  clear c_2 b_1
  clear gw3
  go_wp2_with (fail)
  refine (rfrom8 _).mono ?_
  rintro e w4 ⟨rfl, bw4⟩
  have c_4 := mw3.step bw4
  have c_5 := step_trans c_3 bw4
  clear mw3 c_3 bw4
  go_wp2_with (fail)
  refine (k2 _).mono ?_
  rintro e w5 ⟨rfl, bw5⟩
  have c_6 := c_4.step bw5
  have c_7 := step_trans c_5 bw5
  clear c_4 c_5 bw5
  go_upto_region 3 with (first | (refine wpList_store_blk rfl _ (.tmp 3) _ rfl _ rfl (montA 0 0 0 0) rfl (montA_cells _ _ _ _) _ (heap_alloc_new _ _) rfl size_mont ?_; intro w6 gw6 mw6))
  try simp only [Act.put, List.setIfInBounds_toArray, List.set_cons_zero, List.set_cons_succ]
  have nc_z := hid (show _ ≠ w5.heap.size from Nat.ne_of_lt c_6.lt)
  have loz := hid (show _ ≤ w5.heap.size from c_7.size)
  have b_2 := step_new gw6
  have c_8 := c_6.step b_2
  have c_9 := step_trans c_7 b_2
  clear c_6 c_7 b_2
  clear gw6
  go_wp2_with (fail)
  refine (rfrom3 _).mono ?_
  rintro e w7 ⟨rfl, bw7⟩
  have c_10 := c_8.step bw7
  have c_11 := step_trans c_9 bw7
  clear c_8 c_9 bw7
  go_wp2_with (fail)
  refine (rfrom7 _).mono ?_
  rintro e w8 ⟨rfl, bw8⟩
  have c_12 := c_10.step bw8
  have c_13 := step_trans c_11 bw8
  clear c_10 c_11 bw8
  go_wp2_with (fail)
  refine (k3 _).mono ?_
  rintro e w9 ⟨rfl, bw9⟩
  have c_14 := c_12.step bw9
  have c_15 := step_trans c_13 bw9
  clear c_12 c_13 bw9
  go_upto_region 4 with (first | (refine wpList_store_num rfl _ (.tmp 5) _ rfl _ rfl _ rfl _ rfl (heap_alloc_new _ _) size26 ?_; intro w10 gw10 mw10; have b_3 := step_new gw10; have c_16 := c_14.step b_3; have c_17 := step_trans c_15 b_3; clear c_14 c_15 b_3 gw10) | (refine wpList_load_blk rfl _ (.tmp 1) rfl _ rfl _ _ _ c_16 Try.underlying29 rfl hC.info ?_))
  try simp only [Act.put, List.setIfInBounds_toArray, List.set_cons_zero, List.set_cons_succ]
  refine wp_region_later (by kernel_rfl) (by kernel_rfl) ?_
  go_big_quiet_step (fail)
  go_big_quiet_step (fail)
  go_big_quiet_step (fail)
  go_big_quiet_step (fail)
  go_big_quiet_step (fail)
  go_big_quiet_step (fail)
  first | (refine wpQuiet_load_blk rfl _ (.tmp 1) rfl _ rfl _ _ _ c_16 Try.underlying29 rfl hC.info ?_; simp only [Act.put, List.setIfInBounds_toArray, List.set_cons_zero, List.set_cons_succ]) | go_big_quiet_step (fail)
  go_big_quiet_step (exact later_of (rfrom3 _))
  go_big_quiet_step (exact later_of (rfrom4 _))
  go_big_quiet_step (exact later_of (k4 _))
  go_big_quiet_step (exact later_of (rfrom4 _))
  go_big_quiet_step (fail)
  go_big_quiet_step (fail)
  go_big_quiet_step (fail)
  go_big_quiet_step (fail)
  go_big_quiet_step (fail)
  go_big_quiet_step (fail)
  first | (refine wpQuiet_load_num rfl _ (.tmp 5) rfl _ rfl _ _ _ mw10 Try.underlying26 rfl size26 ?_; simp only [Act.put, List.setIfInBounds_toArray, List.set_cons_zero, List.set_cons_succ]) | go_big_quiet_step (fail)
  go_big_quiet_step (exact later_of (rfrom5 _))
  go_big_quiet_step (fail)
  go_big_quiet_step (fail)
  go_big_quiet_step (fail)
  first | (refine wpQuiet_load_blk rfl _ (.tmp 1) rfl _ rfl _ _ _ c_16 Try.underlying29 rfl hC.info ?_; simp only [Act.put, List.setIfInBounds_toArray, List.set_cons_zero, List.set_cons_succ]) | go_big_quiet_step (fail)
  first | (refine wpQuiet_load_blk rfl _ (.tmp 1) rfl _ rfl _ _ _ c_16 Try.underlying29 rfl hC.info ?_; simp only [Act.put, List.setIfInBounds_toArray, List.set_cons_zero, List.set_cons_succ]) | go_big_quiet_step (fail)
  go_big_quiet_step (exact later_of (rfrom5 _))
  go_big_quiet_step (exact later_of (k5 _))
  go_big_quiet_step (exact later_of (k6 _))
  go_big_quiet_step (exact later_of (rfrom5 _))
  go_big_quiet_step (fail)
  go_big_quiet_step (fail)
  go_big_quiet_step (fail)
  refine wpQuiet_nil ?_
  intro X_1
  have c_18 := c_16.step X_1.h
  have x_1 := mw10.step X_1.h
  have c_19 := step_trans c_17 X_1.h
  clear c_16 mw10 c_17
  go_wp2
  go_ret
  exact ⟨rfl, c_19⟩
end Go.Proofs.Ytcfobgimpflneaa
namespace Go.Proofs.Ytcfobgimpflneaa
set_option linter.unusedVariables false
set_option linter.unusedSimpArgs false
open Go.ChangeShapes Go.WideShapes Go.ChangeAt Go.RowKit
def orN (M : Nat) : Nat := M + (1 - M % 2)
def oddN (M : Nat) : Nat := if orN M = 1 then 3 else orN M
theorem or_one {M : Nat} (hM : M < 4294967296 ^ 8) : bits BinOp.or IntKind.u32 (digI M 0) 1 = digI (orN M) 0 ∧ (∀ k, 1 ≤ k → digI (orN M) k = digI M k) ∧ orN M % 2 = 1 ∧ orN M < 4294967296 ^ 8 := by
  unfold orN
  rcases Nat.mod_two_eq_zero_or_one M with h | h
  · obtain ⟨e1, e2⟩ := even_add (n := M) (l := 1) h (by decide) (by decide)
    rw [h]
    exact ⟨e1, e2, by omega, by omega⟩
  · rw [h]
    refine ⟨?_, fun _ _ => rfl, by omega, by omega⟩
    rw [show M + (1 - 1) = M from rfl]
    have hl := dig_lt M 0
    have := (bits_nat .u32 32 (by decide) (fun n h0 h1 => by rw [IntKind.wrap_u32]; omega) (dig M 0) 1 hl (by decide)).2
    have ho : dig M 0 % 2 = 1 := by unfold dig; simp; omega
    have e : dig M 0 ||| 1 = dig M 0 := by
      apply Nat.eq_of_testBit_eq
      intro i
      rw [Nat.testBit_or]
      cases i with
      | zero => simp [ho]
      | succ i => simp [Nat.testBit_succ]
    rw [e] at this
    unfold digI
    exact this
theorem num_three {w : World} {b : Nat} (h : Num w b 26 1) : Num (w.setCell ⟨b, 0, none⟩ (.int .u32 3)) b 26 3 := num_of_row (h.row.set 0 _) fun j hj => by
  by_cases e : j = 0
  · subst e; rw [if_pos rfl, numF, digI_zero 3 (by decide)]; rfl
  · rw [if_neg e, numF, numF, digI_small 1 j (by omega) (by decide), digI_small 3 j (by omega) (by decide)]
theorem oddN_spec {M : Nat} (hM : M < 4294967296 ^ 8) : oddN M % 2 = 1 ∧ 1 < oddN M ∧ oddN M < 4294967296 ^ 8 := by
  obtain ⟨-, -, h3, h4⟩ := or_one hM
  unfold oddN
  split
  · exact ⟨by decide, by decide, by decide⟩
  · exact ⟨h3, by omega, h4⟩
set_option maxHeartbeats 400000 in
theorem mwithin_any (a n : Int) (hn : 0 < n) (hn' : n < 9223372036854775808) (ha : -9223372036854775808 ≤ a) (ha' : a < 9223372036854775808) (w : World) :
    Calls Try.prog 25 #[.int .i64 a, .int .i64 n] w fun e w' => e = .returned (.int .i64 (a % n)) ∧ w = w' := by
  obtain ⟨h1, h2, h3, h4⟩ := tmod_case a n hn
  have hz : (n == 0) = false := by simp; omega
  by_cases h : a.tmod n < 0
  · have H := hid (h2 h)
    clear h1 h2
    go_enter Try.func25, Try.ntmps25
    go_wp2
    go_ret
    exact ⟨congrArg (fun x => Ending.returned (.int .i64 x)) H.out, rfl⟩
  · have H := hid (h1 (by omega))
    clear h1 h2
    go_enter Try.func25, Try.ntmps25
    go_wp2
    go_ret
    exact ⟨congrArg (fun x => Ending.returned (.int .i64 x)) H.out, rfl⟩
set_option maxRecDepth 100000 in
set_option maxHeartbeats 4000000 in
theorem mbelow_any (a m : Nat) (ha : a < 4294967296 ^ 8) (h0 : 0 < m) (hm : m < 4294967296 ^ 8) (w : World) :
    Calls Try.prog 22 #[numV a, numV m] w fun e w' => e = .returned (numV (a % m)) ∧ Below w.heap.size w w' := by
  have hr : ∀ w, Calls Try.prog 19 #[numV a, .agg #[.int .u32 0, .int .u32 0, .int .u32 0, .int .u32 0, .int .u32 0, .int .u32 0, .int .u32 0, .int .u32 0], numV m] w fun e w' => e = .returned (.tuple #[numV (a % m), .bool true]) ∧ Below w.heap.size w w' := fun w => by
    have := rrest_any a 0 m ha (by decide) hm w
    rw [if_neg (by omega), Nat.zero_mul, Nat.add_zero, decide_eq_true (show m ≠ 0 by omega)] at this
    rw [zeroA]; exact this
  obtain ⟨V, hV⟩ : ∃ V, a % m = V := ⟨_, rfl⟩
  rw [hV] at hr ⊢
  clear hV ha h0 hm
  go_enter Try.func22, Try.ntmps22
  go_upto_region 1 with fail
  obtain ⟨W, hW⟩ : ∃ W, W = ((((w.alloc (.cells (numA a) 26))).alloc (.cells (numA m) 26))).alloc (.cells #[Value.int .u32 0, .int .u32 0, .int .u32 0, .int .u32 0, .int .u32 0, .int .u32 0, .int .u32 0, .int .u32 0] 26) := ⟨_, rfl⟩
  have q_a : Num W (w.heap.size) 26 (a) := by
    have := (((Num.new w 26 (a)).alloc (.cells (numA m) 26)).alloc (.cells #[Value.int .u32 0, .int .u32 0, .int .u32 0, .int .u32 0, .int .u32 0, .int .u32 0, .int .u32 0, .int .u32 0] 26))
    rw [hW]; exact this
  have q_m : Num W (w.heap.size + 1) 26 (m) := by
    have := ((Num.new (w.alloc (.cells (numA a) 26)) 26 (m)).alloc (.cells #[Value.int .u32 0, .int .u32 0, .int .u32 0, .int .u32 0, .int .u32 0, .int .u32 0, .int .u32 0, .int .u32 0] 26))
    rw [World.size_alloc] at this
    rw [hW]; exact this
  have q_r : Num W (w.heap.size + 1 + 1) 26 0 := by
    have := (Num.new (((w.alloc (.cells (numA a) 26))).alloc (.cells (numA m) 26)) 26 0)
    rw [World.size_alloc, World.size_alloc, ← zeroA] at this
    rw [hW]; exact this
  have gb : Below w.heap.size w W := by rw [hW]; exact ((((Below.refl _ _).alloc (by simp <;> omega) _).alloc (by simp <;> omega) _).alloc (by simp <;> omega) _)
  rw [← hW]
  clear hW
  have lor := hid (show w.heap.size ≤ w.heap.size + 1 + 1 by omega)
  have na_r := hid (show w.heap.size ≠ w.heap.size + 1 + 1 by omega)
  have nm_r := hid (show w.heap.size + 1 ≠ w.heap.size + 1 + 1 by omega)
  go_wp2_with (first | (refine wpList_load_num rfl _ (.tmp 2) rfl _ rfl _ _ _ q_a Try.underlying26 rfl size26 ?_) | (refine wpList_load_num rfl _ (.tmp 3) rfl _ rfl _ _ _ q_m Try.underlying26 rfl size26 ?_))
  refine (hr _).mono ?_
  rintro e w1 ⟨rfl, bw1⟩
  have a_1 := q_a.step bw1
  have m_1 := q_m.step bw1
  have r_1 := q_r.step bw1
  have c_1 := step_trans gb bw1
  clear q_a q_m q_r gb bw1
  go_upto_region 2 with (first | (refine wpList_store_num rfl _ (.tmp 5) _ rfl _ rfl _ rfl _ rfl (heap_alloc_new _ _) size26 ?_; intro w2 gw2 mw2; have b_1 := step_new gw2; have nr_x := hid (show _ ≠ w1.heap.size from Nat.ne_of_lt (Nat.lt_of_lt_of_le r_1.lt (by omega))); have a_2 := a_1.step b_1; have m_2 := m_1.step b_1; have r_2 := r_1.step b_1; have c_2 := step_trans c_1 b_1; clear a_1 m_1 r_1 c_1 b_1 gw2) | (refine wpList_load_num rfl _ (.tmp 5) rfl _ rfl _ _ _ mw2 Try.underlying26 rfl size26 ?_))
  try simp only [Act.put, List.setIfInBounds_toArray, List.set_cons_zero, List.set_cons_succ]
  have bef := c_2
  go_wp2_with (first | (refine wpList_load_num rfl _ (.tmp 5) rfl _ rfl _ _ _ mw2 Try.underlying26 rfl size26 ?_) | (refine wpList_store_num rfl _ (.tmp 4) _ rfl _ rfl _ rfl _ rfl r_2 size26 ?_; intro wz gz mz))
  exact bodyPost_ret (results_num rfl rfl mz Try.underlying26 rfl size26) rfl ⟨rfl, below_of_grown bef gz bef.size (by omega)⟩
set_option maxRecDepth 100000 in
set_option maxHeartbeats 4000000 in
theorem odd_any (kd : Int) (hk0 : -9223372036854775808 ≤ kd) (hk1 : kd < 9223372036854775808) (A : Option Addr) (n cap : Nat) (x : Nat → Int) (w : World) (hr : RdI w A n x) : Calls Try.prog 16 #[.int .i64 kd, .slice A n cap] w fun e w' => e = .returned (numV (oddN (mkN kd n x))) ∧ Below w.heap.size w w' := by
  have ng := noGuard
  have hM := mkN_lt kd n x
  obtain ⟨M, hMk⟩ : ∃ M, Hid (mkN kd n x = M) := ⟨_, hid rfl⟩
  have hmk := fun (w : World) (hx : RdI w A n x) => make_det kd hk0 hk1 A n cap x w hx
  rw [hMk.out] at hM hmk ⊢
  clear hMk
  obtain ⟨V, hV⟩ : ∃ V, Hid (oddN M = V) := ⟨_, hid rfl⟩
  rw [hV.out]
  go_enter Try.func16, Try.ntmps16
  go_upto_region 1 with fail
  obtain ⟨W, hW⟩ : ∃ W, W = w.alloc (.cells #[Value.int .u32 0, .int .u32 0, .int .u32 0, .int .u32 0, .int .u32 0, .int .u32 0, .int .u32 0, .int .u32 0] 26) := ⟨_, rfl⟩
  have q_r : Num W (w.heap.size) 26 0 := by
    have := (Num.new w 26 0)
    rw [← zeroA] at this
    rw [hW]; exact this
  have gb : Below w.heap.size w W := by rw [hW]; exact ((Below.refl _ _).alloc (by simp <;> omega) _)
  rw [← hW]
  clear hW
  have lor := hid (show w.heap.size ≤ w.heap.size by omega)
  have hr1 := hr.below gb (Nat.le_refl _)
  go_wp2_with (fail)
  refine (hmk _ hr1).mono ?_
  rintro e w1 ⟨rfl, bw1⟩
  have r_1 := q_r.step bw1
  have A_1 := hr1.step bw1
  have c_1 := step_trans gb bw1
  clear q_r hr1 gb bw1
  go_upto_region 2 with (first | (refine wpList_store_num rfl _ (.tmp 5) _ rfl _ rfl _ rfl _ rfl (heap_alloc_new _ _) size26 ?_; intro w2 gw2 mw2; have b_1 := step_new gw2; have lom := hid (show _ ≤ w1.heap.size from Nat.le_trans c_1.size (by omega)); have nr_m := hid (show _ ≠ w1.heap.size from Nat.ne_of_lt (Nat.lt_of_lt_of_le r_1.lt (by omega))); have r_2 := r_1.step b_1; have c_2 := step_trans c_1 b_1; clear r_1 c_1 b_1 gw2) | (refine wpList_load_num rfl _ (.tmp 5) rfl _ rfl _ _ _ mw2 Try.underlying26 rfl size26 ?_))
  try simp only [Act.put, List.setIfInBounds_toArray, List.set_cons_zero, List.set_cons_succ]
  obtain ⟨h1, h2, h3, h4⟩ := or_one hM
  obtain ⟨M', hM'⟩ : ∃ M', Hid (orN M = M') := ⟨_, hid rfl⟩
  rw [hM'.out] at h1 h2 h3 h4
  have F1 := hid h1
  have F2 := hid h2
  have c0 := mw2.cell (k := 0) (by omega)
  have f0 := mw2.frozen 0
  clear h1 h2
  go_upto_region 3 with fail
  rw [F1.out]
  have n3 : Num (w2.setCell ⟨w1.heap.size, 0, none⟩ (.int .u32 (digI M' 0))) w1.heap.size 26 M' := num_of_row (mw2.row.set 0 _) fun j hj => by
    by_cases e : j = 0
    · subst e; rw [if_pos rfl, numF]
    · rw [if_neg e, numF, numF, F2.out j (by omega)]
  have g3 := grown_set (p := ⟨w1.heap.size, 0, none⟩) (World.grownBy.refl w2 (some w1.heap.size)) rfl (.int .u32 (digI M' 0))
  generalize World.setCell _ _ _ = w3 at *
  clear F1 F2 c0 f0
  have r_3 := r_2.grown g3 (ne_some nr_m.out)
  have c_3 := below_of_grown c_2 g3 c_2.size lom.out
  clear r_2 mw2 c_2 g3
  have h4P := h4
  by_cases h5 : M' = 1
  · subst h5
    have ke := fun w => eqn_same 1 w
    refine wp_region_later (by kernel_rfl) (by kernel_rfl) ?_
    (refine wpQuiet_load_num rfl _ (.tmp 5) rfl _ rfl _ _ _ n3 Try.underlying26 rfl size26 ?_; simp only [Act.put, List.setIfInBounds_toArray, List.set_cons_zero, List.set_cons_succ])
    go_big_quiet_step (exact later_of (rfrom_one _))
    go_big_quiet_step (fail)
    refine wpQuiet_nil ?_
    intro X_1
    have r_4 := r_3.step X_1.h
    have m_1 := n3.step X_1.h
    have c_4 := step_trans c_3 X_1.h
    clear r_3 n3 c_3
    have c0 := m_1.cell (k := 0) (by omega)
    have f0 := m_1.frozen 0
    go_upto_region 5 with fail
    have n4 := num_three m_1
    have g4 := grown_set (p := ⟨w1.heap.size, 0, none⟩) (World.grownBy.refl X_1.w (some w1.heap.size)) rfl (.int .u32 3)
    generalize World.setCell _ _ _ = w4 at *
    clear c0 f0
    have r_5 := r_4.grown g4 (ne_some nr_m.out)
    have c_5 := below_of_grown c_4 g4 c_4.size lom.out
    clear r_4 m_1 c_4 g4
    have bef := c_5
    go_wp2_with (first | (refine wpList_load_num rfl _ (.tmp 4) rfl _ rfl _ _ _ r_5 Try.underlying26 rfl size26 ?_) | (refine wpList_load_num rfl _ (.tmp 5) rfl _ rfl _ _ _ n4 Try.underlying26 rfl size26 ?_) | (refine wpList_store_num rfl _ (.tmp 4) _ rfl _ rfl _ rfl _ rfl r_5 size26 ?_; intro wz gz mz))
    exact bodyPost_ret (results_num rfl rfl mz Try.underlying26 rfl size26) rfl ⟨by rw [← hV.out]; unfold oddN; rw [if_pos hM'.out], below_of_grown bef gz bef.size (by omega)⟩
  · have ke := fun w => eqn_diff h4 (show 1 < 4294967296 ^ 8 by decide) h5 w
    refine wp_region_later (by kernel_rfl) (by kernel_rfl) ?_
    (refine wpQuiet_load_num rfl _ (.tmp 5) rfl _ rfl _ _ _ n3 Try.underlying26 rfl size26 ?_; simp only [Act.put, List.setIfInBounds_toArray, List.set_cons_zero, List.set_cons_succ])
    go_big_quiet_step (exact later_of (rfrom_one _))
    go_big_quiet_step (fail)
    refine wpQuiet_nil ?_
    intro X_1
    have r_4 := r_3.step X_1.h
    have m_1 := n3.step X_1.h
    have c_4 := step_trans c_3 X_1.h
    clear r_3 n3 c_3
    have bef := c_4
    go_wp2_with (first | (refine wpList_load_num rfl _ (.tmp 4) rfl _ rfl _ _ _ r_4 Try.underlying26 rfl size26 ?_) | (refine wpList_load_num rfl _ (.tmp 5) rfl _ rfl _ _ _ m_1 Try.underlying26 rfl size26 ?_) | (refine wpList_store_num rfl _ (.tmp 4) _ rfl _ rfl _ rfl _ rfl r_4 size26 ?_; intro wz gz mz))
    exact bodyPost_ret (results_num rfl rfl mz Try.underlying26 rfl size26) rfl ⟨by rw [← hV.out]; unfold oddN; rw [hM'.out, if_neg h5], below_of_grown bef gz bef.size (by omega)⟩
end Go.Proofs.Ytcfobgimpflneaa
namespace Go.Proofs.Ytcfobgimpflneaa
set_option linter.unusedVariables false
set_option linter.unusedSimpArgs false
open Go.ChangeShapes Go.WideShapes Go.ChangeAt Go.RowKit
theorem rest_prod {A B M : Nat} (hA : A < 4294967296 ^ 8) (hB : B < 4294967296 ^ 8) (h0 : 0 < M) (hM : M < 4294967296 ^ 8) (w : World) : Calls Try.prog 19 #[numV (A * B % 4294967296 ^ 8), numV (A * B / 4294967296 ^ 8), numV M] w fun e w' => e = .returned (.tuple #[numV (A * B % M), .bool true]) ∧ Below w.heap.size w w' := by
  have hq : A * B % 4294967296 ^ 8 + A * B / 4294967296 ^ 8 * 4294967296 ^ 8 = A * B := by rw [Nat.mul_comm (A * B / _)]; exact Nat.mod_add_div _ _
  have hh : A * B / 4294967296 ^ 8 < 4294967296 ^ 8 := Nat.div_lt_of_lt_mul (Nat.mul_lt_mul'' hA hB)
  have := rrest_any _ _ M (Nat.mod_lt (A * B) (by decide)) hh hM w
  rw [if_neg (by omega), hq, decide_eq_true (show M ≠ 0 by omega)] at this
  exact this
theorem rest_val {L H M V : Nat} (hL : L < 4294967296 ^ 8) (hH : H < 4294967296 ^ 8) (h0 : 0 < M) (hM : M < 4294967296 ^ 8) (hV : (L + H * 4294967296 ^ 8) % M = V) (w : World) : Calls Try.prog 19 #[numV L, numV H, numV M] w fun e w' => e = .returned (.tuple #[numV V, .bool true]) ∧ Below w.heap.size w w' := by
  have := rrest_any L H M hL hH hM w
  rw [if_neg (by omega), hV, decide_eq_true (show M ≠ 0 by omega)] at this
  exact this
theorem small_lt {o : Int} (h : o ≤ 1) : o.toNat < 4294967296 ^ 8 := Nat.lt_of_le_of_lt (m := 1) (by omega) (by decide)
theorem addN_over {a b : Nat} (ha : a < 4294967296 ^ 8) (hb : b < 4294967296 ^ 8) : addN a b + (overI a b).toNat * 4294967296 ^ 8 = a + b := by
  unfold addN overI
  split <;> simp <;> omega
end Go.Proofs.Ytcfobgimpflneaa
