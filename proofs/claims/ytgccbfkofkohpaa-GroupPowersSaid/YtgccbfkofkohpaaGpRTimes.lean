/- sentinelref4.Times. -/
import Derived.Test.YtgccbfkofkohpaaGaSy
import Derived.Test.YtgccbfkofkohpaaSymA
import Derived.Test.YtgccbfkofkohpaaGpEq
import Derived.Test.YtgccbfkofkohpaaGpLeft
import Derived.Test.YtgccbfkofkohpaaGaGc
namespace Go.Proofs.Ytgccbfkofkohpaa
set_option linter.unusedVariables false
set_option maxRecDepth 20000
set_option linter.unusedSimpArgs false
open Go.ChangeShapes Go.WideShapes Go.ChangeAt Go.RowKit
set_option maxRecDepth 100000 in
set_option maxHeartbeats 4000000 in
theorem rtimes_any (k : Int) (P Q g : Nat) (h1 : 1 < P) (hP : P < 2147483648) (a b : Nat) (ha : a < 4294967296 ^ 8) (hb : b < 4294967296 ^ 8) (w : World) :
    Calls Try.prog 26 #[.agg (groupA k P Q g), numV a, numV b] w fun e' w' => e' = .returned (numV (a * b % P)) ∧ Below w.heap.size w w' := by
  obtain ⟨pz, hpz⟩ : ∃ z : Int, (P : Int) = z := ⟨_, rfl⟩
  have kS := fun w => rsmall_any P (by omega) w
  have kA := fun w => rleft_any a P ha (by omega) (by omega) w
  have kB := fun w => rleft_any b P hb (by omega) (by omega) w
  rw [hpz] at kS kA kB
  obtain ⟨x, hx⟩ : ∃ x, a % P = x := ⟨_, rfl⟩
  obtain ⟨y, hy⟩ : ∃ y, b % P = y := ⟨_, rfl⟩
  obtain ⟨z, hz⟩ : ∃ z, a * b % P = z := ⟨_, rfl⟩
  rw [hx] at kA
  rw [hy] at kB
  rw [hz]
  have hxl : x < P := by rw [← hx]; exact Nat.mod_lt _ (by omega)
  have hyl : y < P := by rw [← hy]; exact Nat.mod_lt _ (by omega)
  have hzl : z < P := by rw [← hz]; exact Nat.mod_lt _ (by omega)
  have hXX : -9223372036854775808 ≤ (x : Int) * y ∧ (x : Int) * y < 9223372036854775808 := by
    have h1 : x * y ≤ 2147483648 * 2147483648 := Nat.mul_le_mul (by omega) (by omega)
    have h2 : (x : Int) * y = ((x * y : Nat) : Int) := by simp
    rw [h2]; omega
  have eZ : ((x : Int) * y) % pz = (z : Int) := by
    have h2 : (x : Int) * y = ((x * y : Nat) : Int) := by simp
    rw [← hpz, h2, ← hz, ← hx, ← hy, Nat.mul_mod a b]; exact (Int.natCast_emod _ _).symm
  have kF := fun w => from_ref (z : Int) (by omega) (by omega) w
  rw [Int.toNat_natCast] at kF
  have hpz0 : 0 < pz ∧ pz < 9223372036854775808 := by omega
  refine calls_fx (args := [.agg (groupA k P Q g), numV a, numV b]) 21 Try.func26 rfl rfl rfl ?_
  intro fa F
  have M := Mx.start w
  refine wp_seq_k fun K1 hK1 => ?_
  refine wp_region_lit ?_
  refine wl_alloc (wanted_none rfl) rfl F rfl M 0 (t := 28) (c := groupA k P Q g) (by unfold execOp; simp only [(F.get (t := 0) rfl)]; kernel_rfl) ?_
  intro g2 a2 w2 F2 M2
  clear F M
  refine wl_alloc (wanted_none rfl) rfl F2 rfl M2 1 (t := 26) (c := numA a) (by unfold execOp; simp only [(F2.get (t := 1) rfl)]; kernel_rfl) ?_
  intro g3 a3 w3 F3 M3
  clear F2 M2
  refine wl_alloc (wanted_none rfl) rfl F3 rfl M3 2 (t := 26) (c := numA b) (by unfold execOp; simp only [(F3.get (t := 2) rfl)]; kernel_rfl) ?_
  intro g4 a4 w4 F4 M4
  clear F3 M3
  refine wl_alloc (wanted_none rfl) rfl F4 rfl M4 3 (t := 26) (c := numA 0) (y_new_num rfl) ?_
  intro g5 a5 w5 F5 M5
  clear F4 M4
  refine hK1 _ _ ?_
  refine wp_seq_k fun K6 hK6 => ?_
  refine wp_region_lit ?_
  refine wl_run (w' := w5) (wanted_none rfl) rfl F5 rfl (.pointer (some ⟨g2, 1, none⟩)) (by unfold execOp; simp only [(F5.get (t := 3) rfl)]; kernel_rfl) fun a7 F7 => ?_
  clear F5
  refine wl_run (w' := w5) (wanted_none rfl) rfl F7 rfl (numV P) (y_ldN _ _ rfl (F7.get (t := 8) rfl) (M5.blk (k := 0) rfl) (numA P) groupA_p Try.underlying26 rfl size26) fun a8 F8 => ?_
  clear F7
  refine wl_call (wanted_none rfl) rfl F8 rfl rfl (enters_of Try.func17 (by kernel_rfl) rfl) #[numV P] (args1 (F8.get (t := 9) rfl)) (call_ex (kS w5)) ?_
  rintro _ w9 a9 ⟨rfl, b9⟩ F9
  have M9 := M5.step b9
  refine wl_run (w' := w9) (wanted_none rfl) rfl F9 rfl (.int .i64 pz) (run_mv _ (.inr rfl) (F9.get (t := 10) rfl)) fun a10 F10 => ?_
  clear F9
  refine hK6 _ _ ?_
  refine wp_seq_k fun K11 hK11 => ?_
  refine region_fx F10 [StK.eq (numV a), StK.eq (.int .i64 pz), StK.eq (.int .i64 (x : Int)), StK.eq (numV b), StK.eq (.int .i64 pz), StK.eq (.int .i64 (y : Int)), StK.eq (.int .i64 ((x : Int) * y)), StK.eq (.int .i64 pz), StK.eq (.int .i64 (z : Int)), StK.eq (numV z)] 10 rfl (by kernel_rfl) ⟨?_, ?_, ?_, ?_, ?_, ?_, ?_, ?_, ?_, ?_, trivial⟩ ?_
  · intro ua uw hb hd
    have e4 : ua.eval (.tmp 4) = .pointer (some ⟨g3, 0, none⟩) := (show ua.eval (.tmp 4) = _ from hd 4 (by decide)).trans (F10.get (t := 4) rfl)
    exact hop_runK (F := (StK.eq (numV a)).F) (wanted_none rfl) (numV a) (y_ldN _ _ rfl e4 ((M9.step hb).blk (k := 1) rfl) (numA a) (y_all rfl) Try.underlying26 rfl size26) rfl
  · intro ua uw hb hd
    have e7 : ua.eval (.tmp 7) = .int .i64 pz := (show ua.eval (.tmp 7) = _ from hd 7 (by decide)).trans (F10.get (t := 7) rfl)
    exact hop_runK (F := (StK.eq (.int .i64 pz)).F) (wanted_none rfl) (.int .i64 pz) (run_mv _ (.inl rfl) e7) rfl
  · intro ua uw hb hd
    have e11 : ua.eval (.tmp 11) = numV a := hd 11 (by decide)
    have e12 : ua.eval (.tmp 12) = .int .i64 pz := hd 12 (by decide)
    exact hop_callK (F := (StK.eq (.int .i64 (x : Int))).F) (wanted_none rfl) hb.size rfl #[numV a, .int .i64 pz] (args2 e11 e12) (enters_of Try.func51 (by kernel_rfl) rfl) (call_eqS (kA uw))
  · intro ua uw hb hd
    have e5 : ua.eval (.tmp 5) = .pointer (some ⟨g4, 0, none⟩) := (show ua.eval (.tmp 5) = _ from hd 5 (by decide)).trans (F10.get (t := 5) rfl)
    exact hop_runK (F := (StK.eq (numV b)).F) (wanted_none rfl) (numV b) (y_ldN _ _ rfl e5 ((M9.step hb).blk (k := 2) rfl) (numA b) (y_all rfl) Try.underlying26 rfl size26) rfl
  · intro ua uw hb hd
    have e7 : ua.eval (.tmp 7) = .int .i64 pz := (show ua.eval (.tmp 7) = _ from hd 7 (by decide)).trans (F10.get (t := 7) rfl)
    exact hop_runK (F := (StK.eq (.int .i64 pz)).F) (wanted_none rfl) (.int .i64 pz) (run_mv _ (.inl rfl) e7) rfl
  · intro ua uw hb hd
    have e14 : ua.eval (.tmp 14) = numV b := hd 14 (by decide)
    have e15 : ua.eval (.tmp 15) = .int .i64 pz := hd 15 (by decide)
    exact hop_callK (F := (StK.eq (.int .i64 (y : Int))).F) (wanted_none rfl) hb.size rfl #[numV b, .int .i64 pz] (args2 e14 e15) (enters_of Try.func51 (by kernel_rfl) rfl) (call_eqS (kB uw))
  · intro ua uw hb hd
    have e13 : ua.eval (.tmp 13) = .int .i64 (x : Int) := hd 13 (by decide)
    have e16 : ua.eval (.tmp 16) = .int .i64 (y : Int) := hd 16 (by decide)
    exact hop_runK (F := (StK.eq (.int .i64 ((x : Int) * y))).F) (wanted_none rfl) (.int .i64 ((x : Int) * y)) (y_mulI _ _ _ _ rfl e13 e16 rfl hXX) rfl
  · intro ua uw hb hd
    have e7 : ua.eval (.tmp 7) = .int .i64 pz := (show ua.eval (.tmp 7) = _ from hd 7 (by decide)).trans (F10.get (t := 7) rfl)
    exact hop_runK (F := (StK.eq (.int .i64 pz)).F) (wanted_none rfl) (.int .i64 pz) (run_mv _ (.inl rfl) e7) rfl
  · intro ua uw hb hd
    have e17 : ua.eval (.tmp 17) = .int .i64 ((x : Int) * y) := hd 17 (by decide)
    have e18 : ua.eval (.tmp 18) = .int .i64 pz := hd 18 (by decide)
    exact hop_runK (F := (StK.eq (.int .i64 (z : Int))).F) (wanted_none rfl) (.int .i64 (z : Int)) (y_remI _ _ _ _ rfl e17 e18 (Int.mul_nonneg (Int.natCast_nonneg x) (Int.natCast_nonneg y)) hpz0 eZ) rfl
  · intro ua uw hb hd
    have e19 : ua.eval (.tmp 19) = .int .i64 (z : Int) := hd 19 (by decide)
    exact hop_callK (F := (StK.eq (numV z)).F) (wanted_none rfl) hb.size rfl #[.int .i64 (z : Int)] (args1 e19) (enters_of Try.func22 (by kernel_rfl) rfl) (call_eqS (kF uw))
  intro p12 a12 w12 b12 G12 y12
  obtain ⟨-, -, -, -, -, -, -, -, -, q9, -⟩ := y12
  have r9 : p12 9 = numV z := q9 (by decide)
  simp only [List.take_succ_cons, List.take_zero, layV, Nat.zero_add, Nat.reduceAdd, r9] at G12
  have M12 := M9.kc b12
  clear F10 M9 r9 q9
  simp only [List.drop_succ_cons, List.drop_zero]
  refine wl_st (wanted_none rfl) rfl G12 M12 (k := 3) rfl _ _ _ rfl (G12.get (t := 6) rfl) (G12.get (t := 20) rfl) (numA z) (numA z) rfl (Nat.le_of_ble_eq_true rfl) (numA_cells _) (y_put0 rfl) size26 ?_
  intro w13 M13
  clear M12
  refine hK11 _ _ ?_
  refine wp_ret ?_
  try simp only [Exit.then, Exit.inBlock]
  exact bodyPost_ret (results_cell_row rfl _ _ _ _ _ (0, 0) _ (G12.get (t := 6) rfl) (M13.blk (k := 3) rfl) Try.underlying26 rfl size26) G12.defers ⟨rfl, M13.below⟩
end Go.Proofs.Ytgccbfkofkohpaa
