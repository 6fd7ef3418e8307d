/- sentinellaw4.Group: one of nine. -/
import Derived.Test.YtgccbfkofkohpaaGaGd
import Derived.Test.YtgccbfkofkohpaaGaSy
namespace Go.Proofs.Ytgccbfkofkohpaa
set_option linter.unusedVariables false
set_option maxRecDepth 20000
set_option linter.unusedSimpArgs false
open Go.ChangeShapes Go.WideShapes Go.ChangeAt Go.RowKit
theorem group_t {n : Int} (h0 : -9223372036854775808 ≤ n) (h1 : n < 9223372036854775808) : ∃ t : Nat, t < 9 ∧ ∀ w, Calls Try.prog 14 #[.int .i64 n, .int .i64 9] w fun e w' => e = .returned (.int .i64 (t : Int)) ∧ w = w' := by
  refine ⟨(n % 9).toNat, by omega, fun w => ?_⟩
  have := gwithin_any n 9 (by omega) (by omega) h0 h1 w
  rw [show (((n % 9).toNat : Nat) : Int) = n % 9 by omega]
  exact this
/-- What is asked of a group. -/
def GOk (k : Int) (p : Nat) : Prop := 12 ≤ k ∧ k ≤ 24 ∧ p % 2 = 1 ∧ 4000 < p ∧ p < 16777216 ∧ primeB (p : Int) = true ∧ primeB ((p / 2 : Nat) : Int) = true
theorem group_at {t : Nat} (ht : t < 9) : ∃ (k : Int) (p : Nat), (#[.int .i64 12, .int .i64 13, .int .i64 14, .int .i64 15, .int .i64 16, .int .i64 17, .int .i64 18, .int .i64 20, .int .i64 24] : Array Value)[t]? = some (.int .i64 k) ∧
    RunsTo 16 #[.int .i64 k] (.tuple #[.agg (groupA k p (p / 2) 4), .bool true]) ∧ GOk k p := by
  have key : ∀ K : Nat, 12 ≤ K → K ≤ 24 → ∃ p : Nat, RunsTo 16 #[.int .i64 (K : Int)] (.tuple #[.agg (groupA (K : Int) p (p / 2) 4), .bool true]) ∧ GOk (K : Int) p := fun K g0 g1 => by
    obtain ⟨p, p4, po, pl, ps, pn⟩ := tabs (k := K) (by omega) (by omega)
    have hl : 2 ^ K ≤ 2 ^ 24 := Nat.pow_le_pow_right (by decide) (by omega)
    have hp : p < 16777216 := Nat.lt_of_lt_of_le pl hl
    have e : ((2 : Int) ^ K) = ((2 ^ K : Nat) : Int) := by simp
    have hpr : primeB ((p : Int) / 2) = true ∧ primeB (p : Int) = true := by
      unfold safeB at ps
      simpa using ps
    have hq : ((p / 2 : Nat) : Int) = (p : Int) / 2 := by omega
    refine ⟨p, fun w => ?_, by omega, by omega, po, ?_, hp, hpr.2, by rw [hq]; exact hpr.1⟩
    · refine (rgmake_any (K : Int) (p : Int) (by omega) (by omega) (fun _ => ⟨by omega, by omega, by rw [Int.toNat_natCast, e]; exact_mod_cast pl, ps, by rw [Int.toNat_natCast]; exact pn⟩) w).mono ?_
      rintro e' w' ⟨V, rfl, hV, hb⟩
      rcases hV with ⟨-, hV⟩ | ⟨hn, -⟩
      · exact ⟨by rw [hV, Int.toNat_natCast, ← hq, Int.toNat_natCast], hb⟩
      · omega
    · refine Nat.lt_of_not_le fun hle => ?_
      have h40 : ((4079 : Nat) : Int) < 2 ^ K := by
        rw [e]
        have : 2 ^ 12 ≤ 2 ^ K := Nat.pow_le_pow_right (by decide) g0
        omega
      have := pn ((4079 : Nat) : Int) (by omega) h40
      rw [(tab_of (k := 12) (p := 4079) (D := 63) (E := 45) (by decide) (by decide) (by decide) (by decide) (by decide) tab12).1] at this
      cases this
  have : t = 0 ∨ t = 1 ∨ t = 2 ∨ t = 3 ∨ t = 4 ∨ t = 5 ∨ t = 6 ∨ t = 7 ∨ t = 8 := by omega
  rcases this with rfl | rfl | rfl | rfl | rfl | rfl | rfl | rfl | rfl
  · obtain ⟨p, h1, h2⟩ := key 12 (by decide) (by decide)
    exact ⟨12, p, rfl, h1, h2⟩
  · obtain ⟨p, h1, h2⟩ := key 13 (by decide) (by decide)
    exact ⟨13, p, rfl, h1, h2⟩
  · obtain ⟨p, h1, h2⟩ := key 14 (by decide) (by decide)
    exact ⟨14, p, rfl, h1, h2⟩
  · obtain ⟨p, h1, h2⟩ := key 15 (by decide) (by decide)
    exact ⟨15, p, rfl, h1, h2⟩
  · obtain ⟨p, h1, h2⟩ := key 16 (by decide) (by decide)
    exact ⟨16, p, rfl, h1, h2⟩
  · obtain ⟨p, h1, h2⟩ := key 17 (by decide) (by decide)
    exact ⟨17, p, rfl, h1, h2⟩
  · obtain ⟨p, h1, h2⟩ := key 18 (by decide) (by decide)
    exact ⟨18, p, rfl, h1, h2⟩
  · obtain ⟨p, h1, h2⟩ := key 20 (by decide) (by decide)
    exact ⟨20, p, rfl, h1, h2⟩
  · obtain ⟨p, h1, h2⟩ := key 24 (by decide) (by decide)
    exact ⟨24, p, rfl, h1, h2⟩
set_option maxRecDepth 100000 in
set_option maxHeartbeats 4000000 in
/-- One of the nine groups. -/
theorem group_any {n : Int} (h0 : -9223372036854775808 ≤ n) (h1 : n < 9223372036854775808) : ∃ (k : Int) (p : Nat), GOk k p ∧ RunsTo 20 #[.int .i64 n] (.agg (groupA k p (p / 2) 4)) := by
  obtain ⟨t, ht, kw⟩ := group_t h0 h1
  obtain ⟨k, p, hk, hr, hg⟩ := group_at ht
  refine ⟨k, p, hg, fun w => ?_⟩
  refine calls_fx (args := [.int .i64 n]) 15 Try.func20 rfl rfl rfl ?_
  intro fa F
  have M := Mx.start w
  refine wp_seq_k fun K1 hK1 => ?_
  refine wp_region_lit ?_
  refine wl_alloc (wanted_none rfl) rfl F rfl M 0 (t := 28) (c := groupA 0 0 0 0) (by unfold execOp; rw [groupA_zero]; kernel_rfl) ?_
  intro g2 a2 w2 F2 M2
  clear F M
  refine hK1 _ _ ?_
  refine wp_seq_k fun K3 hK3 => ?_
  refine wp_region_lit ?_
  refine wl_allocS (wanted_none rfl) rfl F2 rfl M2 1 (t := 3) (c := #[.int .i64 12, .int .i64 13, .int .i64 14, .int .i64 15, .int .i64 16, .int .i64 17, .int .i64 18, .int .i64 20, .int .i64 24]) (k := 9) (m := 9) (y_litI rfl #[.int .i64 12, .int .i64 13, .int .i64 14, .int .i64 15, .int .i64 16, .int .i64 17, .int .i64 18, .int .i64 20, .int .i64 24] rfl (by decide) (by decide) (by simp only [List.map_toArray, List.map_cons, List.map_nil]; kernel_rfl)) ?_
  intro g4 a4 w4 F4 M4
  clear F2 M2
  refine wl_run (w' := w4) (wanted_none rfl) rfl F4 rfl (.int .i64 n) (run_mv _ (.inl rfl) (F4.get (t := 0) rfl)) fun a5 F5 => ?_
  clear F4
  refine wl_call (wanted_none rfl) rfl F5 rfl rfl (enters_of Try.func14 (by kernel_rfl) rfl) #[.int .i64 n, .int .i64 9] (args2 (F5.get (t := 7) rfl) rfl) (call_ex (kw w4)) ?_
  rintro _ w6 a6 ⟨rfl, rfl⟩ F6
  refine wl_run (w' := w4) (wanted_none rfl) rfl F6 rfl (.pointer (some ⟨g4, t, none⟩)) (y_ixI _ _ rfl (F6.get (t := 6) rfl) (F6.get (t := 8) rfl) rfl ht (Nat.zero_add t)) fun a7 F7 => ?_
  clear F6
  refine wl_run (w' := w4) (wanted_none rfl) rfl F7 rfl (.int .i64 k) (y_ld1 _ _ rfl (F7.get (t := 9) rfl) (M4.blk (k := 1) rfl) hk Try.underlying3 rfl) fun a8 F8 => ?_
  clear F7
  refine wl_call (wanted_none rfl) rfl F8 rfl rfl (enters_of Try.func16 (by kernel_rfl) rfl) #[.int .i64 k] (args1 (F8.get (t := 10) rfl)) (call_ex (hr w4)) ?_
  rintro _ w9 a9 ⟨rfl, b9⟩ F9
  have M9 := M4.step b9
  refine wl_run (w' := w9) (wanted_none rfl) rfl F9 rfl (.tuple #[.agg (groupA k p (p / 2) 4), .bool true]) (run_mv _ (.inl rfl) (F9.get (t := 11) rfl)) fun a10 F10 => ?_
  clear F9
  refine wl_run (w' := w9) (wanted_none rfl) rfl F10 rfl (.agg (groupA k p (p / 2) 4)) (y_ext _ _ rfl (F10.get (t := 5) rfl) rfl) fun a11 F11 => ?_
  clear F10
  refine wl_run (w' := w9) (wanted_none rfl) rfl F11 rfl (.bool true) (y_ext _ _ rfl (F11.get (t := 5) rfl) rfl) fun a12 F12 => ?_
  clear F11
  refine wl_alloc (wanted_none rfl) rfl F12 rfl M9 2 (t := 28) (c := groupA 0 0 0 0) (by unfold execOp; rw [groupA_zero]; kernel_rfl) ?_
  intro g13 a13 w13 F13 M13
  clear F12 M9
  refine wl_st (wanted_none rfl) rfl F13 M13 (k := 2) rfl _ _ _ rfl (F13.get (t := 3) rfl) (F13.get (t := 12) rfl) (groupA k p (p / 2) 4) (groupA k p (p / 2) 4) rfl (Nat.le_of_ble_eq_true rfl) (groupA_cells _ _ _ _) (y_put0 rfl) (by kernel_rfl) ?_
  intro w14 M14
  clear M13
  refine wl_run (w' := w14) (wanted_none rfl) rfl F13 rfl (.bool true) (run_mv _ (.inr rfl) (F13.get (t := 13) rfl)) fun a15 F15 => ?_
  clear F13
  refine hK3 _ _ ?_
  refine wp_seq_k fun K16 hK16 => ?_
  refine wp_region_lit ?_
  refine wl_run (w' := w14) (wanted_none rfl) rfl F15 rfl (.agg (groupA k p (p / 2) 4)) (y_ldN _ _ rfl (F15.get (t := 3) rfl) (M14.blk (k := 2) rfl) (groupA k p (p / 2) 4) (y_all rfl) Try.underlying28 rfl (by kernel_rfl)) fun a17 F17 => ?_
  clear F15
  refine wl_st (wanted_none rfl) rfl F17 M14 (k := 0) rfl _ _ _ rfl (F17.get (t := 2) rfl) (F17.get (t := 14) rfl) (groupA k p (p / 2) 4) (groupA k p (p / 2) 4) rfl (Nat.le_of_ble_eq_true rfl) (groupA_cells _ _ _ _) (y_put0 rfl) (by kernel_rfl) ?_
  intro w18 M18
  clear M14
  refine hK16 _ _ ?_
  refine wp_ret ?_
  try simp only [Exit.then, Exit.inBlock]
  exact bodyPost_ret (results_cell_row rfl _ _ _ _ _ (0, 0) _ (F17.get (t := 2) rfl) (M18.blk (k := 0) rfl) Try.underlying28 rfl (by kernel_rfl)) F17.defers ⟨rfl, M18.below⟩
end Go.Proofs.Ytgccbfkofkohpaa
