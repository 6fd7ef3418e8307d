/- sentinelref4.left. -/
import Derived.Test.YtgccbfkofkohpaaGaSy
import Derived.Test.YtgccbfkofkohpaaGpEq
namespace Go.Proofs.Ytgccbfkofkohpaa
set_option linter.unusedVariables false
set_option maxRecDepth 20000
set_option linter.unusedSimpArgs false
open Go.ChangeShapes Go.WideShapes Go.ChangeAt Go.RowKit
set_option maxRecDepth 100000 in
set_option maxHeartbeats 4000000 in
theorem rleft_any (a m : Nat) (ha : a < 4294967296 ^ 8) (h0 : 0 < m) (h1 : m < 4294967296) (w : World) :
    Calls Try.prog 51 #[numV a, .int .i64 (m : Int)] w fun e w' => e = .returned (.int .i64 ((a % m : Nat) : Int)) ∧ Below w.heap.size w w' := by
  obtain ⟨r, hr⟩ : ∃ r, a % m = r := ⟨_, rfl⟩
  have r1 : r < 4294967296 := by rw [← hr]; exact Nat.lt_trans (Nat.mod_lt _ h0) h1
  have kF := fun w => from_ref (m : Int) (by omega) (by omega) w
  rw [Int.toNat_natCast] at kF
  have kR := fun w => rrest_pos a 0 m ha (by decide) (Nat.lt_trans h1 (by decide)) h0 w
  rw [Nat.zero_mul, Nat.add_zero, hr] at kR
  rw [hr]
  obtain ⟨z, hz⟩ : ∃ z : Int, (m : Int) = z := ⟨_, rfl⟩
  rw [hz] at kF ⊢
  refine calls_fx (args := [numV a, .int .i64 z]) 17 Try.func51 rfl rfl rfl ?_
  intro fa F
  have M := Mx.start w
  refine wp_seq_k fun K1 hK1 => ?_
  refine wp_region_lit ?_
  refine wl_alloc (wanted_none rfl) rfl F rfl M 0 (t := 26) (c := numA a) (by unfold execOp; simp only [(F.get (t := 0) rfl)]; kernel_rfl) ?_
  intro g2 a2 w2 F2 M2
  clear F M
  refine wl_run (w' := w2) (wanted_none rfl) rfl F2 rfl (.int .i64 0) (run_mv _ (.inr rfl) rfl) fun a3 F3 => ?_
  clear F2
  refine hK1 _ _ ?_
  refine wp_seq_k fun K4 hK4 => ?_
  refine region_fxL F3 [StK.eq (numV a), StK.eq (numV 0), StK.eq (.int .i64 z), StK.eq (numV m), StK.eq (.tuple #[numV r, .bool true]), StK.eq (.tuple #[numV r, .bool true]), StK.eq (numV r), StK.eq (.bool true), StK.new w2.heap.size (numA 0) 26 (by decide)] 9 7 7 1 5 #[numV r, .bool true] (.bool true) rfl (by kernel_rfl) rfl (by kernel_rfl) (fun _ _ h => h) rfl (fun _ _ => Iff.rfl) rfl ⟨?_, ?_, ?_, ?_, ?_, ?_, ?_, ?_, ?_, trivial⟩ ?_
  · intro ua uw hb hd
    have e2 : ua.eval (.tmp 2) = .pointer (some ⟨g2, 0, none⟩) := (show ua.eval (.tmp 2) = _ from hd 2 (by decide)).trans (F3.get (t := 2) rfl)
    exact hop_runK (F := (StK.eq (numV a)).F) (wanted_none rfl) (numV a) (y_ldN _ _ rfl e2 ((M2.step hb).blk (k := 0) rfl) (numA a) (y_all rfl) Try.underlying26 rfl size26) rfl
  · intro ua uw hb hd
    exact hop_runK (F := (StK.eq (numV 0)).F) (wanted_none rfl) (numV 0) (y_zbuild rfl) rfl
  · intro ua uw hb hd
    have e1 : ua.eval (.tmp 1) = .int .i64 z := (show ua.eval (.tmp 1) = _ from hd 1 (by decide)).trans (F3.get (t := 1) rfl)
    exact hop_runK (F := (StK.eq (.int .i64 z)).F) (wanted_none rfl) (.int .i64 z) (run_mv _ (.inl rfl) e1) rfl
  · intro ua uw hb hd
    have e10 : ua.eval (.tmp 10) = .int .i64 z := hd 10 (by decide)
    exact hop_callK (F := (StK.eq (numV m)).F) (wanted_none rfl) hb.size rfl #[.int .i64 z] (args1 e10) (enters_of Try.func22 (by kernel_rfl) rfl) (call_eqS (kF uw))
  · intro ua uw hb hd
    have e8 : ua.eval (.tmp 8) = numV a := hd 8 (by decide)
    have e9 : ua.eval (.tmp 9) = numV 0 := hd 9 (by decide)
    have e11 : ua.eval (.tmp 11) = numV m := hd 11 (by decide)
    exact hop_callK (F := (StK.eq (.tuple #[numV r, .bool true])).F) (wanted_none rfl) hb.size rfl #[numV a, numV 0, numV m] (args3 e8 e9 e11) (enters_of Try.func37 (by kernel_rfl) rfl) (call_eqS (kR uw))
  · intro ua uw hb hd
    have e12 : ua.eval (.tmp 12) = .tuple #[numV r, .bool true] := hd 12 (by decide)
    exact hop_runK (F := (StK.eq (.tuple #[numV r, .bool true])).F) (wanted_none rfl) (.tuple #[numV r, .bool true]) (run_mv _ (.inl rfl) e12) rfl
  · intro ua uw hb hd
    have e7 : ua.eval (.tmp 7) = .tuple #[numV r, .bool true] := hd 7 (by decide)
    exact hop_runK (F := (StK.eq (numV r)).F) (wanted_none rfl) (numV r) (y_ext _ _ rfl e7 rfl) rfl
  · intro ua uw hb hd
    have e7 : ua.eval (.tmp 7) = .tuple #[numV r, .bool true] := hd 7 (by decide)
    exact hop_runK (F := (StK.eq (.bool true)).F) (wanted_none rfl) (.bool true) (y_ext _ _ rfl e7 rfl) rfl
  · intro ua uw hb hd
    exact hop_new (wanted_none rfl) hb.size hb.size (by decide) (y_new_num rfl)
  intro p5 a5 w5 b5 G5 y5
  obtain ⟨-, -, -, -, -, -, q6, q7, q8, -⟩ := y5
  obtain ⟨gn8x4, r8, hg8, hc8⟩ := q8 (by decide)
  replace r8 : p5 8 = .pointer (some ⟨gn8x4, 0, none⟩) := r8
  have r6 : p5 6 = numV r := q6 (by decide)
  have r7 : p5 7 = .bool true := q7 (by decide)
  simp only [List.take_succ_cons, List.take_zero, layV, Nat.zero_add, Nat.reduceAdd, r6, r7, r8] at G5
  have M5 := M2.newb b5.below 1 hg8 hc8
  clear hg8 hc8 r8
  clear F3 M2 r6 q6 r7 q7
  simp only [List.drop_succ_cons, List.drop_zero]
  refine st_ex M5 (k := 1) rfl _ _ _ rfl (G5.get (t := 5) rfl) (G5.get (t := 13) rfl) (numA r) (numA r) rfl (Nat.le_of_ble_eq_true rfl) (numA_cells _) (y_put0 rfl) size26 ?_
  intro w6 M6
  clear M5
  refine wl_run (w' := w6) (wanted_none rfl) rfl G5 rfl (.bool true) (run_mv _ (.inr rfl) (G5.get (t := 14) rfl)) fun a7 F7 => ?_
  clear G5
  refine hK4 _ _ ?_
  refine wp_seq_k fun K8 hK8 => ?_
  refine wp_region_lit ?_
  refine wl_run (w' := w6) (wanted_none rfl) rfl F7 rfl (numV r) (y_ldN _ _ rfl (F7.get (t := 5) rfl) (M6.blk (k := 1) rfl) (numA r) (y_all rfl) Try.underlying26 rfl size26) fun a9 F9 => ?_
  clear F7
  refine wl_call (wanted_none rfl) rfl F9 rfl rfl (enters_of Try.func17 (by kernel_rfl) rfl) #[numV r] (args1 (F9.get (t := 15) rfl)) (call_ex (rsmall_any r r1 w6)) ?_
  rintro _ w10 a10 ⟨rfl, b10⟩ F10
  have M10 := M6.step b10
  refine wl_run (w' := w10) (wanted_none rfl) rfl F10 rfl (.int .i64 (r : Int)) (run_mv _ (.inr rfl) (F10.get (t := 16) rfl)) fun a11 F11 => ?_
  clear F10
  refine hK8 _ _ ?_
  refine wp_ret ?_
  try simp only [Exit.then, Exit.inBlock]
  exact bodyPost_ret (res1 rfl (F11.get (t := 4) rfl)) F11.defers ⟨rfl, M10.below⟩
end Go.Proofs.Ytgccbfkofkohpaa
