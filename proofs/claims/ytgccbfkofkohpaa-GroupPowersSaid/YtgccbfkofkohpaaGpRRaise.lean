/- sentinelref4.Raise. -/
import Derived.Test.YtgccbfkofkohpaaGaSy
import Derived.Test.YtgccbfkofkohpaaSymA
import Derived.Test.YtgccbfkofkohpaaGpEq
import Derived.Test.YtgccbfkofkohpaaGpLeft
import Derived.Test.YtgccbfkofkohpaaMtPow
import Derived.Test.YtgccbfkofkohpaaGaGc
namespace Go.Proofs.Ytgccbfkofkohpaa
set_option linter.unusedVariables false
set_option maxRecDepth 20000
set_option linter.unusedSimpArgs false
open Go.ChangeShapes Go.WideShapes Go.ChangeAt Go.RowKit
set_option maxRecDepth 100000 in
set_option maxHeartbeats 4000000 in
theorem rraise_any (k : Int) (P Q g : Nat) (h1 : 1 < P) (hP : P < 2147483648) (a e : Nat) (ha : a < 4294967296 ^ 8) (he : e < 4294967296 ^ 8) (w : World) :
    Calls Try.prog 24 #[.agg (groupA k P Q g), numV a, numV e] w fun e' w' => e' = .returned (numV (a ^ e % P)) ∧ Below w.heap.size w w' := by
  obtain ⟨K, hT0, hT1, hT2⟩ := top_ends he
  obtain ⟨pz, hpz⟩ : ∃ z : Int, (P : Int) = z := ⟨_, rfl⟩
  have kS := fun w => rsmall_any P (by omega) w
  have kL := fun w => rleft_any a P ha (by omega) (by omega) w
  have kB := fun w => rbits_any e he w
  rw [hT0] at kB
  rw [hpz] at kS kL
  obtain ⟨y, hy⟩ : ∃ y, a % P = y := ⟨_, rfl⟩
  rw [hy] at kL
  have hyl : y < P := by rw [← hy]; exact Nat.mod_lt _ (by omega)
  have hp0 := pr_first (m := P) (a := a) h1 hT2
  have hlast := pr_last P a e
  have kF := fun (x : Nat) (hx : x < P) w => from_ref (x : Int) (by omega) (by omega) w
  have hXX : ∀ X Y : Nat, X < P → Y < P → -9223372036854775808 ≤ (X : Int) * Y ∧ (X : Int) * Y < 9223372036854775808 := fun X Y hX hY => by
    have h1 : X * Y ≤ 2147483648 * 2147483648 := Nat.mul_le_mul (by omega) (by omega)
    have h2 : (X : Int) * Y = ((X * Y : Nat) : Int) := by simp
    rw [h2]; omega
  refine calls_fx (args := [.agg (groupA k P Q g), numV a, numV e]) 46 Try.func24 rfl rfl rfl ?_
  intro fa F
  have M := Mx.start w
  refine wp_seq_k fun K1 hK1 => ?_
  refine wp_region_lit ?_
  refine wl_alloc (wanted_none rfl) rfl F rfl M 0 (t := 28) (c := groupA k P Q g) (by unfold execOp; simp only [(F.get (t := 0) rfl)]; kernel_rfl) ?_
  intro g2 a2 w2 F2 M2
  clear F M
  refine wl_alloc (wanted_none rfl) rfl F2 rfl M2 1 (t := 26) (c := numA a) (by unfold execOp; simp only [(F2.get (t := 1) rfl)]; kernel_rfl) ?_
  intro g3 a3 w3 F3 M3
  clear F2 M2
  refine wl_alloc (wanted_none rfl) rfl F3 rfl M3 2 (t := 26) (c := numA e) (by unfold execOp; simp only [(F3.get (t := 2) rfl)]; kernel_rfl) ?_
  intro g4 a4 w4 F4 M4
  clear F3 M3
  refine wl_alloc (wanted_none rfl) rfl F4 rfl M4 3 (t := 26) (c := numA 0) (y_new_num rfl) ?_
  intro g5 a5 w5 F5 M5
  clear F4 M4
  refine hK1 _ _ ?_
  refine wp_seq_k fun K6 hK6 => ?_
  refine wp_region_lit ?_
  refine wl_run (w' := w5) (wanted_none rfl) rfl F5 rfl (.pointer (some ⟨g2, 1, none⟩)) (by unfold execOp; simp only [(F5.get (t := 3) rfl)]; kernel_rfl) fun a7 F7 => ?_
  clear F5
  refine wl_run (w' := w5) (wanted_none rfl) rfl F7 rfl (numV P) (y_ldN _ _ rfl (F7.get (t := 11) rfl) (M5.blk (k := 0) rfl) (numA P) groupA_p Try.underlying26 rfl size26) fun a8 F8 => ?_
  clear F7
  refine wl_call (wanted_none rfl) rfl F8 rfl rfl (enters_of Try.func17 (by kernel_rfl) rfl) #[numV P] (args1 (F8.get (t := 12) rfl)) (call_ex (kS w5)) ?_
  rintro _ w9 a9 ⟨rfl, b9⟩ F9
  have M9 := M5.step b9
  refine wl_run (w' := w9) (wanted_none rfl) rfl F9 rfl (.int .i64 pz) (run_mv _ (.inr rfl) (F9.get (t := 13) rfl)) fun a10 F10 => ?_
  clear F9
  refine hK6 _ _ ?_
  refine wp_seq_k fun K11 hK11 => ?_
  refine wp_region_lit ?_
  refine wl_run (w' := w9) (wanted_none rfl) rfl F10 rfl (numV a) (y_ldN _ _ rfl (F10.get (t := 4) rfl) (M9.blk (k := 1) rfl) (numA a) (y_all rfl) Try.underlying26 rfl size26) fun a12 F12 => ?_
  clear F10
  refine wl_run (w' := w9) (wanted_none rfl) rfl F12 rfl (.int .i64 pz) (run_mv _ (.inl rfl) (F12.get (t := 7) rfl)) fun a13 F13 => ?_
  clear F12
  refine wl_call (wanted_none rfl) rfl F13 rfl rfl (enters_of Try.func51 (by kernel_rfl) rfl) #[numV a, .int .i64 pz] (args2 (F13.get (t := 14) rfl) (F13.get (t := 15) rfl)) (call_ex (kL w9)) ?_
  rintro _ w14 a14 ⟨rfl, b14⟩ F14
  have M14 := M9.step b14
  refine wl_run (w' := w14) (wanted_none rfl) rfl F14 rfl (.int .i64 1) (run_mv _ (.inr rfl) rfl) fun a15 F15 => ?_
  clear F14
  refine wl_run (w' := w14) (wanted_none rfl) rfl F15 rfl (.int .i64 (y : Int)) (run_mv _ (.inr rfl) (F15.get (t := 16) rfl)) fun a16 F16 => ?_
  clear F15
  refine hK11 _ _ ?_
  refine wp_seq_k fun K17 hK17 => ?_
  refine wp_seq_k fun K18 hK18 => ?_
  refine wp_region_lit ?_
  refine wl_run (w' := w14) (wanted_none rfl) rfl F16 rfl (numV e) (y_ldN _ _ rfl (F16.get (t := 5) rfl) (M14.blk (k := 2) rfl) (numA e) (y_all rfl) Try.underlying26 rfl size26) fun a19 F19 => ?_
  clear F16
  refine wl_call (wanted_none rfl) rfl F19 rfl rfl (enters_of Try.func52 (by kernel_rfl) rfl) #[numV e] (args1 (F19.get (t := 17) rfl)) (call_ex (kB w14)) ?_
  rintro _ w20 a20 ⟨rfl, b20⟩ F20
  have M20 := M14.step b20
  refine wl_run (w' := w20) (wanted_none rfl) rfl F20 rfl (.int .i64 ((K : Int) - 1)) (y_subI _ _ _ _ rfl (F20.get (t := 18) rfl) rfl rfl (by omega)) fun a21 F21 => ?_
  clear F20
  refine wl_run (w' := w20) (wanted_none rfl) rfl F21 rfl (.int .i64 ((K : Int) - 1)) (run_mv _ (.inr rfl) (F21.get (t := 19) rfl)) fun a22 F22 => ?_
  clear F21
  refine hK18 _ _ ?_
  refine wp_block ?_
  refine loop_fx (α := Nat) (fun x => [(0, .agg (groupA k P Q g)), (1, numV a), (2, numV e), (3, .pointer (some ⟨g2, 0, none⟩)), (4, .pointer (some ⟨g3, 0, none⟩)), (5, .pointer (some ⟨g4, 0, none⟩)), (6, .pointer (some ⟨g5, 0, none⟩)), (11, .pointer (some ⟨g2, 1, none⟩)), (12, numV P), (13, .int .i64 pz), (7, .int .i64 pz), (14, numV a), (15, .int .i64 pz), (16, .int .i64 (y : Int)), (9, .int .i64 (y : Int)), (17, numV e), (18, .int .i64 (K : Int)), (19, .int .i64 ((K : Int) - 1)), (8, .int .i64 ((prN P a e x : Nat) : Int)), (10, .int .i64 ((x : Int) - 1))]) (fun x => [(0, blkR g2 28 (groupA k P Q g)), (1, blkR g3 26 (numA a)), (2, blkR g4 26 (numA e)), (3, blkR g5 26 (numA 0))]) (fun k x => k = x ∧ (x ≤ 256)) _ K ⟨rfl, hT1⟩ (F22.sub ⟨rfl, rfl, rfl, rfl, rfl, rfl, rfl, rfl, rfl, rfl, rfl, rfl, rfl, rfl, rfl, rfl, rfl, rfl, (by rw [hp0]; rfl), rfl, trivial⟩) (M20.sub ⟨rfl, rfl, rfl, rfl, trivial⟩) ?_
  clear F22 M20
  rintro k23 jn a23 w23 K23 ⟨ek23, I23⟩ F23 M23 hK23
  replace F23 : Fx 46 a23 [(0, .agg (groupA k P Q g)), (1, numV a), (2, numV e), (3, .pointer (some ⟨g2, 0, none⟩)), (4, .pointer (some ⟨g3, 0, none⟩)), (5, .pointer (some ⟨g4, 0, none⟩)), (6, .pointer (some ⟨g5, 0, none⟩)), (11, .pointer (some ⟨g2, 1, none⟩)), (12, numV P), (13, .int .i64 pz), (7, .int .i64 pz), (14, numV a), (15, .int .i64 pz), (16, .int .i64 (y : Int)), (9, .int .i64 (y : Int)), (17, numV e), (18, .int .i64 (K : Int)), (19, .int .i64 ((K : Int) - 1)), (8, .int .i64 ((prN P a e jn : Nat) : Int)), (10, .int .i64 ((jn : Int) - 1))] := F23
  replace M23 : Mx _ _ w23 [(0, blkR g2 28 (groupA k P Q g)), (1, blkR g3 26 (numA a)), (2, blkR g4 26 (numA e)), (3, blkR g5 26 (numA 0))] := M23
  replace I23 : jn ≤ 256 := I23
  replace ek23 : k23 = jn := ek23
  rcases jn with _ | j
  · obtain ⟨X0, hX⟩ : ∃ X, prN P a e 0 = X := ⟨_, rfl⟩
    rw [hX] at F23
    have hX0 : X0 < P := by rw [← hX]; exact pr_lt (by omega) _ _ _
    have hres : X0 = a ^ e % P := by rw [← hX]; exact hlast
    rw [show (((0 : Nat) : Int) - 1) = -1 from rfl] at F23
    refine wp_seq_k fun K24 hK24 => ?_
    refine wp_seq_k fun K25 hK25 => ?_
    refine wp_region_lit ?_
    refine wl_run (w' := w23) (wanted_none rfl) rfl F23 rfl (.int .i64 (-1)) (run_mv _ (.inl rfl) (F23.get (t := 10) rfl)) fun a26 F26 => ?_
    clear F23
    refine wl_run (w' := w23) (wanted_none rfl) rfl F26 rfl (.bool false) (y_geq _ _ _ _ rfl (F26.get (t := 20) rfl) rfl (decide_eq_false (by decide))) fun a27 F27 => ?_
    clear F26
    refine hK25 _ _ ?_
    refine wp_cond_false (F27.get (t := 21) rfl) ?_
    refine wp_exit ?_
    simp only [Exit.then, Exit.inBlock, ↓reduceIte, Nat.reduceEqDiff]
    refine hK17 _ _ ?_
    refine wp_seq_k fun K28 hK28 => ?_
    refine wp_region_lit ?_
    refine wl_run (w' := w23) (wanted_none rfl) rfl F27 rfl (.int .i64 (X0 : Int)) (run_mv _ (.inl rfl) (F27.get (t := 8) rfl)) fun a29 F29 => ?_
    clear F27
    refine wl_call (wanted_none rfl) rfl F29 rfl rfl (enters_of Try.func22 (by kernel_rfl) rfl) #[.int .i64 (X0 : Int)] (args1 (F29.get (t := 44) rfl)) (call_ex (kF X0 hX0 w23)) ?_
    rintro _ w30 a30 ⟨rfl, b30⟩ F30
    have M30 := M23.step b30
    refine wl_st (wanted_none rfl) rfl F30 M30 (k := 3) rfl _ _ _ rfl (F30.get (t := 6) rfl) (F30.get (t := 45) rfl) (numA X0) (numA X0) rfl (Nat.le_of_ble_eq_true rfl) (numA_cells _) (y_put0 rfl) size26 ?_
    intro w31 M31
    clear M30
    refine hK28 _ _ ?_
    refine wp_ret ?_
    try simp only [Exit.then, Exit.inBlock]
    exact bodyPost_ret (results_cell_row rfl _ _ _ _ _ (0, 0) _ (F30.get (t := 6) rfl) (M31.blk (k := 3) rfl) Try.underlying26 rfl size26) F30.defers ⟨by rw [hres], M31.below⟩
  · obtain ⟨Y, e1, hway⟩ := pr_step P a e j
    have hXm := pr_lt (show 0 < P by omega) a e (j + 1)
    obtain ⟨X, hX⟩ : ∃ X, prN P a e (j + 1) = X := ⟨_, rfl⟩
    rw [hX] at F23 e1 hXm
    have hYm : Y < P := by rw [← e1]; exact Nat.mod_lt _ (by omega)
    rw [show ((j + 1 : Nat) : Int) - 1 = (j : Int) by omega] at F23
    have eY : ((X : Int) * X) % pz = (Y : Int) := by rw [← hpz, ← e1]; simp
    have hbit := bit_dig e j
    have hjl : j < 256 := by omega
    rcases hway with ⟨hb, hY2⟩ | ⟨hb, hY2⟩
    · rw [hb] at hbit
      refine wp_seq_k fun K32 hK32 => ?_
      refine wp_seq_k fun K33 hK33 => ?_
      refine wp_region_lit ?_
      refine wl_run (w' := w23) (wanted_none rfl) rfl F23 rfl (.int .i64 (j : Int)) (run_mv _ (.inl rfl) (F23.get (t := 10) rfl)) fun a34 F34 => ?_
      clear F23
      refine wl_run (w' := w23) (wanted_none rfl) rfl F34 rfl (.bool true) (y_geq _ _ _ _ rfl (F34.get (t := 20) rfl) rfl (decide_eq_true (Int.natCast_nonneg j))) fun a35 F35 => ?_
      clear F34
      refine hK33 _ _ ?_
      refine wp_cond_true (F35.get (t := 21) rfl) ?_
      refine wp_skip ?_
      refine hK32 _ _ ?_
      refine wp_seq_k fun K36 hK36 => ?_
      refine wp_block ?_
      refine wp_seq_k fun K37 hK37 => ?_
      refine wp_region_lit ?_
      refine wl_run (w' := w23) (wanted_none rfl) rfl F35 rfl (.int .i64 (X : Int)) (run_mv _ (.inl rfl) (F35.get (t := 8) rfl)) fun a38 F38 => ?_
      clear F35
      refine wl_run (w' := w23) (wanted_none rfl) rfl F38 rfl (.int .i64 (X : Int)) (run_mv _ (.inl rfl) (F38.get (t := 8) rfl)) fun a39 F39 => ?_
      clear F38
      refine wl_run (w' := w23) (wanted_none rfl) rfl F39 rfl (.int .i64 ((X : Int) * X)) (y_mulI _ _ _ _ rfl (F39.get (t := 24) rfl) (F39.get (t := 25) rfl) rfl (hXX X X hXm hXm)) fun a40 F40 => ?_
      clear F39
      refine wl_run (w' := w23) (wanted_none rfl) rfl F40 rfl (.int .i64 pz) (run_mv _ (.inl rfl) (F40.get (t := 7) rfl)) fun a41 F41 => ?_
      clear F40
      refine wl_run (w' := w23) (wanted_none rfl) rfl F41 rfl (.int .i64 (Y : Int)) (y_remI _ _ _ _ rfl (F41.get (t := 26) rfl) (F41.get (t := 27) rfl) (Int.mul_nonneg (Int.natCast_nonneg X) (Int.natCast_nonneg X)) (by omega) eY) fun a42 F42 => ?_
      clear F41
      refine wl_run (w' := w23) (wanted_none rfl) rfl F42 rfl (.int .i64 (Y : Int)) (run_mv _ (.inr rfl) (F42.get (t := 28) rfl)) fun a43 F43 => ?_
      clear F42
      refine hK37 _ _ ?_
      refine wp_seq_k fun K44 hK44 => ?_
      refine wp_region_lit ?_
      refine wl_run (w' := w23) (wanted_none rfl) rfl F43 rfl (.int .i64 (j : Int)) (run_mv _ (.inl rfl) (F43.get (t := 10) rfl)) fun a45 F45 => ?_
      clear F43
      refine wl_run (w' := w23) (wanted_none rfl) rfl F45 rfl (.int .i64 ((j / 32 : Nat) : Int)) (y_quoI _ _ _ _ rfl (F45.get (t := 29) rfl) rfl (by omega) (by omega) (by omega)) fun a46 F46 => ?_
      clear F45
      refine wl_run (w' := w23) (wanted_none rfl) rfl F46 rfl (.pointer (some ⟨g4, (j / 32), none⟩)) (y_ixA (N := 8) _ _ 26 (by kernel_rfl) (by kernel_rfl) (by kernel_rfl) rfl (F46.get (t := 5) rfl) (F46.get (t := 30) rfl) rfl (by omega) (Nat.zero_add _)) fun a47 F47 => ?_
      clear F46
      refine wl_run (w' := w23) (wanted_none rfl) rfl F47 rfl (.int .u32 (digI e (j / 32))) (y_ld1 _ _ rfl (F47.get (t := 31) rfl) (M23.blk (k := 2) rfl) (numA_get e (k := j / 32) (by omega)) Try.underlying24 rfl) fun a48 F48 => ?_
      clear F47
      refine wl_run (w' := w23) (wanted_none rfl) rfl F48 rfl (.int .i64 (j : Int)) (run_mv _ (.inl rfl) (F48.get (t := 10) rfl)) fun a49 F49 => ?_
      clear F48
      refine wl_run (w' := w23) (wanted_none rfl) rfl F49 rfl (.int .i64 ((j % 32 : Nat) : Int)) (y_remI _ _ _ _ rfl (F49.get (t := 33) rfl) rfl (by omega) (by omega) (by omega)) fun a50 F50 => ?_
      clear F49
      refine wl_run (w' := w23) (wanted_none rfl) rfl F50 rfl (.int .u64 ((j % 32 : Nat) : Int)) (y_cvI _ _ _ rfl (F50.get (t := 34) rfl) Try.underlying3 Try.underlying70 (by rw [IntKind.wrap_u64]; omega)) fun a51 F51 => ?_
      clear F50
      refine wl_run (w' := w23) (wanted_none rfl) rfl F51 rfl (.int .u32 (digI e (j / 32) / 2 ^ (j % 32))) (y_shrI _ _ _ _ rfl (F51.get (t := 32) rfl) (F51.get (t := 35) rfl) (by show (0 : Int) ≤ ((j % 32 : Nat) : Int) ∧ ((j % 32 : Nat) : Int) ≤ 32; omega) rfl) fun a52 F52 => ?_
      clear F51
      refine wl_run (w' := w23) (wanted_none rfl) rfl F52 rfl (.int .u32 0) (y_andU _ _ _ _ rfl (F52.get (t := 36) rfl) rfl hbit) fun a53 F53 => ?_
      clear F52
      refine wl_run (w' := w23) (wanted_none rfl) rfl F53 rfl (.bool false) (y_gtr _ _ _ _ rfl (F53.get (t := 37) rfl) rfl (decide_eq_false (by decide))) fun a54 F54 => ?_
      clear F53
      refine hK44 _ _ ?_
      refine wp_cond_false (F54.get (t := 38) rfl) ?_
      refine wp_skip ?_
      refine hK36 _ _ ?_
      refine wp_region_lit ?_
      refine wl_run (w' := w23) (wanted_none rfl) rfl F54 rfl (.int .i64 (j : Int)) (run_mv _ (.inl rfl) (F54.get (t := 10) rfl)) fun a55 F55 => ?_
      clear F54
      refine wl_run (w' := w23) (wanted_none rfl) rfl F55 rfl (.int .i64 ((j : Int) - 1)) (y_subI _ _ _ _ rfl (F55.get (t := 22) rfl) rfl rfl (by omega)) fun a56 F56 => ?_
      clear F55
      refine wl_run (w' := w23) (wanted_none rfl) rfl F56 rfl (.int .i64 ((j : Int) - 1)) (run_mv _ (.inr rfl) (F56.get (t := 23) rfl)) fun a57 F57 => ?_
      clear F56
      rw [hY2] at F57
      subst ek23
      exact hK23 _ j _ _ (Nat.lt_succ_self j) ⟨rfl, by omega⟩ (F57.sub ⟨rfl, rfl, rfl, rfl, rfl, rfl, rfl, rfl, rfl, rfl, rfl, rfl, rfl, rfl, rfl, rfl, rfl, rfl, rfl, rfl, trivial⟩) (M23.sub ⟨rfl, rfl, rfl, rfl, trivial⟩)
    · rw [hb] at hbit
      rw [hy] at hY2
      have eZ : ((Y : Int) * y) % pz = ((prN P a e j : Nat) : Int) := by rw [← hpz, ← hY2]; simp
      refine wp_seq_k fun K58 hK58 => ?_
      refine wp_seq_k fun K59 hK59 => ?_
      refine wp_region_lit ?_
      refine wl_run (w' := w23) (wanted_none rfl) rfl F23 rfl (.int .i64 (j : Int)) (run_mv _ (.inl rfl) (F23.get (t := 10) rfl)) fun a60 F60 => ?_
      clear F23
      refine wl_run (w' := w23) (wanted_none rfl) rfl F60 rfl (.bool true) (y_geq _ _ _ _ rfl (F60.get (t := 20) rfl) rfl (decide_eq_true (Int.natCast_nonneg j))) fun a61 F61 => ?_
      clear F60
      refine hK59 _ _ ?_
      refine wp_cond_true (F61.get (t := 21) rfl) ?_
      refine wp_skip ?_
      refine hK58 _ _ ?_
      refine wp_seq_k fun K62 hK62 => ?_
      refine wp_block ?_
      refine wp_seq_k fun K63 hK63 => ?_
      refine wp_region_lit ?_
      refine wl_run (w' := w23) (wanted_none rfl) rfl F61 rfl (.int .i64 (X : Int)) (run_mv _ (.inl rfl) (F61.get (t := 8) rfl)) fun a64 F64 => ?_
      clear F61
      refine wl_run (w' := w23) (wanted_none rfl) rfl F64 rfl (.int .i64 (X : Int)) (run_mv _ (.inl rfl) (F64.get (t := 8) rfl)) fun a65 F65 => ?_
      clear F64
      refine wl_run (w' := w23) (wanted_none rfl) rfl F65 rfl (.int .i64 ((X : Int) * X)) (y_mulI _ _ _ _ rfl (F65.get (t := 24) rfl) (F65.get (t := 25) rfl) rfl (hXX X X hXm hXm)) fun a66 F66 => ?_
      clear F65
      refine wl_run (w' := w23) (wanted_none rfl) rfl F66 rfl (.int .i64 pz) (run_mv _ (.inl rfl) (F66.get (t := 7) rfl)) fun a67 F67 => ?_
      clear F66
      refine wl_run (w' := w23) (wanted_none rfl) rfl F67 rfl (.int .i64 (Y : Int)) (y_remI _ _ _ _ rfl (F67.get (t := 26) rfl) (F67.get (t := 27) rfl) (Int.mul_nonneg (Int.natCast_nonneg X) (Int.natCast_nonneg X)) (by omega) eY) fun a68 F68 => ?_
      clear F67
      refine wl_run (w' := w23) (wanted_none rfl) rfl F68 rfl (.int .i64 (Y : Int)) (run_mv _ (.inr rfl) (F68.get (t := 28) rfl)) fun a69 F69 => ?_
      clear F68
      refine hK63 _ _ ?_
      refine wp_seq_k fun K70 hK70 => ?_
      refine wp_region_lit ?_
      refine wl_run (w' := w23) (wanted_none rfl) rfl F69 rfl (.int .i64 (j : Int)) (run_mv _ (.inl rfl) (F69.get (t := 10) rfl)) fun a71 F71 => ?_
      clear F69
      refine wl_run (w' := w23) (wanted_none rfl) rfl F71 rfl (.int .i64 ((j / 32 : Nat) : Int)) (y_quoI _ _ _ _ rfl (F71.get (t := 29) rfl) rfl (by omega) (by omega) (by omega)) fun a72 F72 => ?_
      clear F71
      refine wl_run (w' := w23) (wanted_none rfl) rfl F72 rfl (.pointer (some ⟨g4, (j / 32), none⟩)) (y_ixA (N := 8) _ _ 26 (by kernel_rfl) (by kernel_rfl) (by kernel_rfl) rfl (F72.get (t := 5) rfl) (F72.get (t := 30) rfl) rfl (by omega) (Nat.zero_add _)) fun a73 F73 => ?_
      clear F72
      refine wl_run (w' := w23) (wanted_none rfl) rfl F73 rfl (.int .u32 (digI e (j / 32))) (y_ld1 _ _ rfl (F73.get (t := 31) rfl) (M23.blk (k := 2) rfl) (numA_get e (k := j / 32) (by omega)) Try.underlying24 rfl) fun a74 F74 => ?_
      clear F73
      refine wl_run (w' := w23) (wanted_none rfl) rfl F74 rfl (.int .i64 (j : Int)) (run_mv _ (.inl rfl) (F74.get (t := 10) rfl)) fun a75 F75 => ?_
      clear F74
      refine wl_run (w' := w23) (wanted_none rfl) rfl F75 rfl (.int .i64 ((j % 32 : Nat) : Int)) (y_remI _ _ _ _ rfl (F75.get (t := 33) rfl) rfl (by omega) (by omega) (by omega)) fun a76 F76 => ?_
      clear F75
      refine wl_run (w' := w23) (wanted_none rfl) rfl F76 rfl (.int .u64 ((j % 32 : Nat) : Int)) (y_cvI _ _ _ rfl (F76.get (t := 34) rfl) Try.underlying3 Try.underlying70 (by rw [IntKind.wrap_u64]; omega)) fun a77 F77 => ?_
      clear F76
      refine wl_run (w' := w23) (wanted_none rfl) rfl F77 rfl (.int .u32 (digI e (j / 32) / 2 ^ (j % 32))) (y_shrI _ _ _ _ rfl (F77.get (t := 32) rfl) (F77.get (t := 35) rfl) (by show (0 : Int) ≤ ((j % 32 : Nat) : Int) ∧ ((j % 32 : Nat) : Int) ≤ 32; omega) rfl) fun a78 F78 => ?_
      clear F77
      refine wl_run (w' := w23) (wanted_none rfl) rfl F78 rfl (.int .u32 1) (y_andU _ _ _ _ rfl (F78.get (t := 36) rfl) rfl hbit) fun a79 F79 => ?_
      clear F78
      refine wl_run (w' := w23) (wanted_none rfl) rfl F79 rfl (.bool true) (y_gtr _ _ _ _ rfl (F79.get (t := 37) rfl) rfl (decide_eq_true (by decide))) fun a80 F80 => ?_
      clear F79
      refine hK70 _ _ ?_
      refine wp_cond_true (F80.get (t := 38) rfl) ?_
      refine wp_region_lit ?_
      refine wl_run (w' := w23) (wanted_none rfl) rfl F80 rfl (.int .i64 (Y : Int)) (run_mv _ (.inl rfl) (F80.get (t := 8) rfl)) fun a81 F81 => ?_
      clear F80
      refine wl_run (w' := w23) (wanted_none rfl) rfl F81 rfl (.int .i64 (y : Int)) (run_mv _ (.inl rfl) (F81.get (t := 9) rfl)) fun a82 F82 => ?_
      clear F81
      refine wl_run (w' := w23) (wanted_none rfl) rfl F82 rfl (.int .i64 ((Y : Int) * y)) (y_mulI _ _ _ _ rfl (F82.get (t := 39) rfl) (F82.get (t := 40) rfl) rfl (hXX Y y hYm hyl)) fun a83 F83 => ?_
      clear F82
      refine wl_run (w' := w23) (wanted_none rfl) rfl F83 rfl (.int .i64 pz) (run_mv _ (.inl rfl) (F83.get (t := 7) rfl)) fun a84 F84 => ?_
      clear F83
      refine wl_run (w' := w23) (wanted_none rfl) rfl F84 rfl (.int .i64 ((prN P a e j : Nat) : Int)) (y_remI _ _ _ _ rfl (F84.get (t := 41) rfl) (F84.get (t := 42) rfl) (Int.mul_nonneg (Int.natCast_nonneg Y) (Int.natCast_nonneg y)) (by omega) eZ) fun a85 F85 => ?_
      clear F84
      refine wl_run (w' := w23) (wanted_none rfl) rfl F85 rfl (.int .i64 ((prN P a e j : Nat) : Int)) (run_mv _ (.inr rfl) (F85.get (t := 43) rfl)) fun a86 F86 => ?_
      clear F85
      refine hK62 _ _ ?_
      refine wp_region_lit ?_
      refine wl_run (w' := w23) (wanted_none rfl) rfl F86 rfl (.int .i64 (j : Int)) (run_mv _ (.inl rfl) (F86.get (t := 10) rfl)) fun a87 F87 => ?_
      clear F86
      refine wl_run (w' := w23) (wanted_none rfl) rfl F87 rfl (.int .i64 ((j : Int) - 1)) (y_subI _ _ _ _ rfl (F87.get (t := 22) rfl) rfl rfl (by omega)) fun a88 F88 => ?_
      clear F87
      refine wl_run (w' := w23) (wanted_none rfl) rfl F88 rfl (.int .i64 ((j : Int) - 1)) (run_mv _ (.inr rfl) (F88.get (t := 23) rfl)) fun a89 F89 => ?_
      clear F88
      subst ek23
      exact hK23 _ j _ _ (Nat.lt_succ_self j) ⟨rfl, by omega⟩ (F89.sub ⟨rfl, rfl, rfl, rfl, rfl, rfl, rfl, rfl, rfl, rfl, rfl, rfl, rfl, rfl, rfl, rfl, rfl, rfl, rfl, rfl, trivial⟩) (M23.sub ⟨rfl, rfl, rfl, rfl, trivial⟩)
end Go.Proofs.Ytgccbfkofkohpaa
