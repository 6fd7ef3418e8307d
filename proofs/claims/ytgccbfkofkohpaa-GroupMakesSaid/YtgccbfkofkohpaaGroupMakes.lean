/- sentinellaw4.GroupMakes: the walk. -/
import Derived.Test.YtgccbfkofkohpaaGpGroup
import Derived.Test.YtgccbfkofkohpaaGpKnown
import Derived.Test.YtgccbfkofkohpaaSymL
import Derived.Test.YtgccbfkofkohpaaGpEq
import Derived.Test.YtgccbfkofkohpaaGpTabs
import Derived.Test.YtgccbfkofkohpaaGpRMake
namespace Go.Proofs.Ytgccbfkofkohpaa
set_option linter.unusedVariables false
set_option maxRecDepth 20000
set_option linter.unusedSimpArgs false
open Go.ChangeShapes Go.WideShapes Go.ChangeAt Go.RowKit
theorem gmakes_pack {k : Int} (k0 : 10 ≤ k) (k1 : k < 28) : ∃ (kk : Int) (pp qq gg : Nat) (b : Bool), RunsTo 15 #[.int .i64 k] (.tuple #[.agg (groupA kk pp qq gg), .bool b]) ∧
    RunsTo 16 #[.int .i64 k] (.tuple #[.agg (groupA kk pp qq gg), .bool b]) ∧
    (b = false ∨ (b = true ∧ kk = k ∧ pp < 4294967296 ∧ qq < 4294967296 ∧ 2 * (qq : Int) + 1 = (pp : Int) ∧ (∀ w, Calls Try.prog 18 #[.int .i64 (pp : Int)] w fun e w' => e = .returned (.bool true) ∧ w = w') ∧ (∀ w, Calls Try.prog 18 #[.int .i64 (qq : Int)] w fun e w' => e = .returned (.bool true) ∧ w = w'))) := by
  by_cases h : 12 ≤ k
  · obtain ⟨K, rfl⟩ := Int.eq_ofNat_of_zero_le (show 0 ≤ k by omega)
    obtain ⟨p, p4, po, pl, ps, pn⟩ := tabs (k := K) (by omega) (by omega)
    have hl : 2 ^ K ≤ 2 ^ 27 := Nat.pow_le_pow_right (by decide) (by omega)
    have hp : p < 134217728 := Nat.lt_of_lt_of_le pl hl
    have e : ((2 : Int) ^ K) = ((2 ^ K : Nat) : Int) := by simp
    have hpr : primeB ((p : Int) / 2) = true ∧ primeB (p : Int) = true := by
      unfold safeB at ps
      simpa using ps
    have hq : ((p / 2 : Nat) : Int) = (p : Int) / 2 := by omega
    refine ⟨(K : Int), p, p / 2, 4, true, fun w => ?_, fun w => ?_, .inr ⟨rfl, rfl, by omega, by omega, by omega, fun w => ?_, fun w => ?_⟩⟩
    · refine (gmake_any (K : Int) (by omega) (by omega) w).mono ?_
      rintro e' w' ⟨V, rfl, hV, hb⟩
      exact ⟨by rw [gm_known (k := K) (p := p) (by omega) (by omega) pl ⟨ps, pn⟩ hV], hb⟩
    · refine (rgmake_any (K : Int) (p : Int) (by omega) (by omega) (fun _ => ⟨by omega, by omega, by rw [Int.toNat_natCast, e]; exact_mod_cast pl, ps, by rw [Int.toNat_natCast]; exact pn⟩) w).mono ?_
      rintro e' w' ⟨V, rfl, hV, hb⟩
      rcases hV with ⟨-, hV⟩ | ⟨hn, -⟩
      · exact ⟨by rw [hV, Int.toNat_natCast, ← hq, Int.toNat_natCast], hb⟩
      · omega
    · have := prime_any (p : Int) (by omega) (by omega) w
      rw [hpr.2] at this; exact this
    · have := prime_any ((p / 2 : Nat) : Int) (by omega) (by omega) w
      rw [hq, hpr.1] at this
      rw [hq]; exact this
  · refine ⟨0, 0, 0, 0, false, fun w => ?_, fun w => ?_, .inl rfl⟩
    · refine (gmake_any k (by omega) (by omega) w).mono ?_
      rintro e' w' ⟨V, rfl, hV, hb⟩
      exact ⟨by rw [gm_none (by omega) hV], hb⟩
    · refine (rgmake_any k 0 (by omega) (by omega) (fun h => by omega) w).mono ?_
      rintro e' w' ⟨V, rfl, hV, hb⟩
      rcases hV with ⟨hn, -⟩ | ⟨-, hV⟩
      · omega
      · exact ⟨by rw [hV], hb⟩
/-- Whatever Make answers: a group, and whether. -/
theorem gmake_some {k : Int} (h0 : -9223372036854775808 ≤ k) (h1 : k < 9223372036854775808) (w : World) : Calls Try.prog 15 #[.int .i64 k] w fun e w' => ∃ kk pp qq gg b, e = .returned (.tuple #[.agg (groupA kk pp qq gg), .bool b]) ∧ Hid (¬ (12 ≤ k ∧ k ≤ 31) → kk = 0 ∧ pp = 0 ∧ qq = 0 ∧ gg = 0 ∧ b = false) ∧ Below w.heap.size w w' := by
  refine (gmake_any k h0 h1 w).mono ?_
  rintro e w' ⟨V, rfl, hV, hb⟩
  by_cases hk : 12 ≤ k ∧ k ≤ 31
  · obtain ⟨r, b, hV, -⟩ := hV
    cases b
    · exact ⟨0, 0, 0, 0, false, by rw [hV, if_neg (by decide)], hid (fun h => absurd hk h), hb⟩
    · exact ⟨k, r.toNat, (r / 2).toNat, 4, true, by rw [hV, if_pos rfl], hid (fun h => absurd hk h), hb⟩
  · exact ⟨0, 0, 0, 0, false, by rw [gm_none hk hV], hid (fun _ => ⟨rfl, rfl, rfl, rfl, rfl⟩), hb⟩
theorem gmake_ex {k : Int} (h0 : -9223372036854775808 ≤ k) (h1 : k < 9223372036854775808) (w : World) : Calls Try.prog 15 #[.int .i64 k] w fun e w' => ∃ v, e = .returned v ∧ ((∃ kk pp qq gg b, v = .tuple #[.agg (groupA kk pp qq gg), .bool b]) ∧ Below w.heap.size w w') :=
  (gmake_some h0 h1 w).mono fun e w' ⟨kk, pp, qq, gg, b, he, _, hb⟩ => ⟨_, he, ⟨kk, pp, qq, gg, b, rfl⟩, hb⟩
theorem gmake_no {k : Int} (h0 : -9223372036854775808 ≤ k) (h1 : k < 9223372036854775808) (hn : ¬ (12 ≤ k ∧ k ≤ 31)) (w : World) : Calls Try.prog 15 #[.int .i64 k] w fun e w' => e = .returned (.tuple #[.agg (groupA 0 0 0 0), .bool false]) ∧ Below w.heap.size w w' :=
  (gmake_some h0 h1 w).mono fun e w' ⟨kk, pp, qq, gg, b, he, hh, hb⟩ => by
    obtain ⟨rfl, rfl, rfl, rfl, rfl⟩ := hh.out hn
    exact ⟨he, hb⟩
set_option maxRecDepth 100000 in
set_option maxHeartbeats 8000000 in
theorem GroupMakes_walk (a0 : Int) (hk0 : -9223372036854775808 ≤ a0) (hl0 : a0 < 9223372036854775808)
    (a1 : Int) (hk1 : -9223372036854775808 ≤ a1) (hl1 : a1 < 9223372036854775808) (w : World)  :
    Calls Try.prog 3 #[.int .i64 a0, .int .i64 a1] w fun e w' => e = .returned (.bool true) ∧ Below w.heap.size w w' := by
  obtain ⟨t, et⟩ : ∃ t : Int, Hid (a0 % 18 = t) := ⟨_, hid rfl⟩
  have kwt := fun (w : World) => gwithin_any a0 18 (by omega) (by omega) hk0 hl0 w
  rw [et.out] at kwt
  obtain ⟨pt, qt⟩ : 0 ≤ t ∧ t < 18 := by have := et.out; omega
  clear et
  obtain ⟨k, hk⟩ : ∃ k : Int, Hid (10 + t = k) := ⟨_, hid rfl⟩
  obtain ⟨kk, pp, qq, gg, b, k1, k2, kb⟩ := gmakes_pack (k := k) (by have := hk.out; omega) (by have := hk.out; omega)
  have hkk : 10 ≤ k ∧ k < 28 := by have := hk.out; omega
  by_cases c : 12 ≤ a1 ∧ a1 ≤ 31
  · rcases kb with rfl | ⟨rfl, rfl, z1, z2, z3, z4, z5⟩
    · refine calls_fx (args := [.int .i64 a0, .int .i64 a1]) 93 Try.func3 rfl rfl rfl ?_
      intro a F
      have M := Mx.start w.heap.size w rfl
      refine wp_seq_k fun K1 hK1 => ?_
      refine wp_region_lit ?_
      refine wl_run (w' := w) (wanted_none rfl) rfl F rfl (.bool false) (run_mv _ (.inr rfl) rfl) fun a2 F2 => ?_
      clear F
      refine hK1 _ _ ?_
      refine wp_seq_k fun K3 hK3 => ?_
      refine wp_seq_k fun K4 hK4 => ?_
      refine wp_region_lit ?_
      refine wl_call (wanted_none rfl) rfl F2 rfl rfl (enters_of Try.func13 (by kernel_rfl) rfl) #[] (args0) (call_ex (gknown_any w)) ?_
      rintro _ w5 a5 ⟨rfl, b5⟩ F5
      have M5 := M.step b5
      refine wl_run (w' := w5) (wanted_none rfl) rfl F5 rfl (.bool false) (run_not _ _ rfl (F5.get (t := 12) rfl)) fun a6 F6 => ?_
      clear F5
      refine hK4 _ _ ?_
      refine wp_cond_false (F6.get (t := 13) rfl) ?_
      refine wp_skip ?_
      refine hK3 _ _ ?_
      refine wp_seq_k fun K7 hK7 => ?_
      refine wp_region_lit ?_
      refine wl_run (w' := w5) (wanted_none rfl) rfl F6 rfl (.int .i64 a0) (run_mv _ (.inl rfl) (F6.get (t := 0) rfl)) fun a8 F8 => ?_
      clear F6
      refine wl_call (wanted_none rfl) rfl F8 rfl rfl (enters_of Try.func14 (by kernel_rfl) rfl) #[.int .i64 a0, .int .i64 18] (args2 (F8.get (t := 14) rfl) rfl) (call_ex (kwt w5)) ?_
      rintro _ w9 a9 ⟨rfl, rfl⟩ F9
      refine wl_run (w' := w5) (wanted_none rfl) rfl F9 rfl (.int .i64 k) (y_addI _ _ _ _ rfl rfl (F9.get (t := 15) rfl) hk.out (by omega)) fun a10 F10 => ?_
      clear F9
      refine wl_run (w' := w5) (wanted_none rfl) rfl F10 rfl (.int .i64 k) (run_mv _ (.inr rfl) (F10.get (t := 16) rfl)) fun a11 F11 => ?_
      clear F10
      refine hK7 _ _ ?_
      refine wp_seq_k fun K12 hK12 => ?_
      refine wp_region_lit ?_
      refine wl_run (w' := w5) (wanted_none rfl) rfl F11 rfl (.int .i64 k) (run_mv _ (.inl rfl) (F11.get (t := 5) rfl)) fun a13 F13 => ?_
      clear F11
      refine wl_call (wanted_none rfl) rfl F13 rfl rfl (enters_of Try.func15 (by kernel_rfl) rfl) #[.int .i64 k] (args1 (F13.get (t := 18) rfl)) (call_ex (k1 w5)) ?_
      rintro _ w14 a14 ⟨rfl, b14⟩ F14
      have M14 := M5.step b14
      refine wl_run (w' := w14) (wanted_none rfl) rfl F14 rfl (.tuple #[.agg (groupA kk pp qq gg), .bool false]) (run_mv _ (.inl rfl) (F14.get (t := 19) rfl)) fun a15 F15 => ?_
      clear F14
      refine wl_run (w' := w14) (wanted_none rfl) rfl F15 rfl (.agg (groupA kk pp qq gg)) (y_ext _ _ rfl (F15.get (t := 17) rfl) rfl) fun a16 F16 => ?_
      clear F15
      refine wl_run (w' := w14) (wanted_none rfl) rfl F16 rfl (.bool false) (y_ext _ _ rfl (F16.get (t := 17) rfl) rfl) fun a17 F17 => ?_
      clear F16
      refine wl_alloc (wanted_none rfl) rfl F17 rfl M14 0 (t := 28) (c := groupA 0 0 0 0) (by decide) (by unfold execOp; rw [groupA_zero]; kernel_rfl) ?_
      intro g18 a18 w18 F18 M18
      clear F17 M14
      refine wl_st (wanted_none rfl) rfl F18 M18 (k := 0) rfl (by decide) _ _ _ rfl (F18.get (t := 6) rfl) (F18.get (t := 20) rfl) (groupA kk pp qq gg) (groupA kk pp qq gg) rfl (Nat.le_of_ble_eq_true rfl) (groupA_cells _ _ _ _) (y_put0 rfl) (by kernel_rfl) ?_
      intro w19 M19
      clear M18
      refine wl_run (w' := w19) (wanted_none rfl) rfl F18 rfl (.bool false) (run_mv _ (.inr rfl) (F18.get (t := 21) rfl)) fun a20 F20 => ?_
      clear F18
      refine hK12 _ _ ?_
      refine wp_seq_k fun K21 hK21 => ?_
      refine wp_region_lit ?_
      refine wl_run (w' := w19) (wanted_none rfl) rfl F20 rfl (.int .i64 k) (run_mv _ (.inl rfl) (F20.get (t := 5) rfl)) fun a22 F22 => ?_
      clear F20
      refine wl_call (wanted_none rfl) rfl F22 rfl rfl (enters_of Try.func16 (by kernel_rfl) rfl) #[.int .i64 k] (args1 (F22.get (t := 23) rfl)) (call_ex (k2 w19)) ?_
      rintro _ w23 a23 ⟨rfl, b23⟩ F23
      have M23 := M19.step b23
      refine wl_run (w' := w23) (wanted_none rfl) rfl F23 rfl (.tuple #[.agg (groupA kk pp qq gg), .bool false]) (run_mv _ (.inl rfl) (F23.get (t := 24) rfl)) fun a24 F24 => ?_
      clear F23
      refine wl_run (w' := w23) (wanted_none rfl) rfl F24 rfl (.agg (groupA kk pp qq gg)) (y_ext _ _ rfl (F24.get (t := 22) rfl) rfl) fun a25 F25 => ?_
      clear F24
      refine wl_run (w' := w23) (wanted_none rfl) rfl F25 rfl (.bool false) (y_ext _ _ rfl (F25.get (t := 22) rfl) rfl) fun a26 F26 => ?_
      clear F25
      refine wl_alloc (wanted_none rfl) rfl F26 rfl M23 1 (t := 28) (c := groupA 0 0 0 0) (by decide) (by unfold execOp; rw [groupA_zero]; kernel_rfl) ?_
      intro g27 a27 w27 F27 M27
      clear F26 M23
      refine wl_st (wanted_none rfl) rfl F27 M27 (k := 1) rfl (by decide) _ _ _ rfl (F27.get (t := 8) rfl) (F27.get (t := 25) rfl) (groupA kk pp qq gg) (groupA kk pp qq gg) rfl (Nat.le_of_ble_eq_true rfl) (groupA_cells _ _ _ _) (y_put0 rfl) (by kernel_rfl) ?_
      intro w28 M28
      clear M27
      refine wl_run (w' := w28) (wanted_none rfl) rfl F27 rfl (.bool false) (run_mv _ (.inr rfl) (F27.get (t := 26) rfl)) fun a29 F29 => ?_
      clear F27
      refine hK21 _ _ ?_
      refine wp_seq_k fun K30 hK30 => ?_
      refine wp_region_lit ?_
      refine wl_run (w' := w28) (wanted_none rfl) rfl F29 rfl (.int .i64 a1) (run_mv _ (.inl rfl) (F29.get (t := 1) rfl)) fun a31 F31 => ?_
      clear F29
      refine wl_call (wanted_none rfl) rfl F31 rfl rfl (enters_of Try.func15 (by kernel_rfl) rfl) #[.int .i64 a1] (args1 (F31.get (t := 28) rfl)) (gmake_ex hk1 hl1 w28) ?_
      rintro _ w32 a32 ⟨⟨kx, px, qx, gx, bx, rfl⟩, b32⟩ F32
      have M32 := M28.step b32
      refine wl_run (w' := w32) (wanted_none rfl) rfl F32 rfl (.tuple #[.agg (groupA kx px qx gx), .bool bx]) (run_mv _ (.inl rfl) (F32.get (t := 29) rfl)) fun a33 F33 => ?_
      clear F32
      refine wl_run (w' := w32) (wanted_none rfl) rfl F33 rfl (.agg (groupA kx px qx gx)) (y_ext _ _ rfl (F33.get (t := 27) rfl) rfl) fun a34 F34 => ?_
      clear F33
      refine wl_run (w' := w32) (wanted_none rfl) rfl F34 rfl (.bool bx) (y_ext _ _ rfl (F34.get (t := 27) rfl) rfl) fun a35 F35 => ?_
      clear F34
      refine wl_alloc (wanted_none rfl) rfl F35 rfl M32 2 (t := 28) (c := groupA 0 0 0 0) (by decide) (by unfold execOp; rw [groupA_zero]; kernel_rfl) ?_
      intro g36 a36 w36 F36 M36
      clear F35 M32
      refine wl_st (wanted_none rfl) rfl F36 M36 (k := 2) rfl (by decide) _ _ _ rfl (F36.get (t := 10) rfl) (F36.get (t := 30) rfl) (groupA kx px qx gx) (groupA kx px qx gx) rfl (Nat.le_of_ble_eq_true rfl) (groupA_cells _ _ _ _) (y_put0 rfl) (by kernel_rfl) ?_
      intro w37 M37
      clear M36
      refine wl_run (w' := w37) (wanted_none rfl) rfl F36 rfl (.bool bx) (run_mv _ (.inr rfl) (F36.get (t := 31) rfl)) fun a38 F38 => ?_
      clear F36
      refine hK30 _ _ ?_
      refine wp_seq_k fun K39 hK39 => ?_
      refine wp_seq_k fun K40 hK40 => ?_
      refine wp_region_lit ?_
      refine wl_run (w' := w37) (wanted_none rfl) rfl F38 rfl (.int .i64 a1) (run_mv _ (.inl rfl) (F38.get (t := 1) rfl)) fun a41 F41 => ?_
      clear F38
      refine wl_run (w' := w37) (wanted_none rfl) rfl F41 rfl (.bool true) (y_geq _ _ _ _ rfl (F41.get (t := 32) rfl) rfl (decide_eq_true c.1)) fun a42 F42 => ?_
      clear F41
      refine wl_run (w' := w37) (wanted_none rfl) rfl F42 rfl (.bool true) (run_mv _ (.inl rfl) (F42.get (t := 33) rfl)) fun a43 F43 => ?_
      clear F42
      refine wl_run (w' := w37) (wanted_yes rfl rfl rfl (F43.get (t := 34) rfl)) rfl F43 rfl (.int .i64 a1) (run_mv _ (.inl rfl) (F43.get (t := 1) rfl)) fun a44 F44 => ?_
      clear F43
      refine wl_run (w' := w37) (wanted_yes rfl rfl rfl (F44.get (t := 34) rfl)) rfl F44 rfl (.bool true) (y_leq _ _ _ _ rfl (F44.get (t := 35) rfl) rfl (decide_eq_true c.2)) fun a45 F45 => ?_
      clear F44
      refine wl_run (w' := w37) (wanted_none rfl) rfl F45 rfl (.bool true) (run_pick_t rfl (F45.get (t := 34) rfl) (F45.get (t := 36) rfl)) fun a46 F46 => ?_
      clear F45
      refine hK40 _ _ ?_
      refine wp_cond_true (F46.get (t := 37) rfl) ?_
      refine wp_seq_k fun K47 hK47 => ?_
      refine wp_region_lit ?_
      refine wl_run (w' := w37) (wanted_none rfl) rfl F46 rfl (.bool false) (run_mv _ (.inl rfl) (F46.get (t := 7) rfl)) fun a48 F48 => ?_
      clear F46
      refine wl_run (w' := w37) (wanted_none rfl) rfl F48 rfl (.bool false) (run_mv _ (.inl rfl) (F48.get (t := 9) rfl)) fun a49 F49 => ?_
      clear F48
      refine wl_run (w' := w37) (wanted_none rfl) rfl F49 rfl (.bool true) (y_eqB _ _ rfl (F49.get (t := 38) rfl) (F49.get (t := 39) rfl) rfl) fun a50 F50 => ?_
      clear F49
      refine wl_run (w' := w37) (wanted_none rfl) rfl F50 rfl (.bool true) (run_mv _ (.inl rfl) (F50.get (t := 40) rfl)) fun a51 F51 => ?_
      clear F50
      refine wl_run (w' := w37) (wanted_yes rfl rfl rfl (F51.get (t := 41) rfl)) rfl F51 rfl (.agg (groupA kk pp qq gg)) (y_ldN _ _ rfl (F51.get (t := 6) rfl) (M37.blk (k := 0) rfl) (groupA kk pp qq gg) (y_all rfl) Try.underlying28 rfl (by kernel_rfl)) fun a52 F52 => ?_
      clear F51
      refine wl_run (w' := w37) (wanted_yes rfl rfl rfl (F52.get (t := 41) rfl)) rfl F52 rfl (.agg (groupA kk pp qq gg)) (y_ldN _ _ rfl (F52.get (t := 8) rfl) (M37.blk (k := 1) rfl) (groupA kk pp qq gg) (y_all rfl) Try.underlying28 rfl (by kernel_rfl)) fun a53 F53 => ?_
      clear F52
      refine wl_run (w' := w37) (wanted_yes rfl rfl rfl (F53.get (t := 41) rfl)) rfl F53 rfl (.bool true) (y_eqA _ _ _ _ rfl (F53.get (t := 42) rfl) (F53.get (t := 43) rfl) (by kernel_rfl) (eq_group _ _ _ _ _)) fun a54 F54 => ?_
      clear F53
      refine wl_run (w' := w37) (wanted_none rfl) rfl F54 rfl (.bool true) (run_pick_t rfl (F54.get (t := 41) rfl) (F54.get (t := 44) rfl)) fun a55 F55 => ?_
      clear F54
      refine wl_run (w' := w37) (wanted_none rfl) rfl F55 rfl (.bool true) (run_mv _ (.inr rfl) (F55.get (t := 45) rfl)) fun a56 F56 => ?_
      clear F55
      refine hK47 _ _ ?_
      refine wp_ret ?_
      try simp only [Exit.then, Exit.inBlock]
      exact bodyPost_ret (res1 rfl (F56.get (t := 4) rfl)) F56.defers ⟨rfl, M37.below⟩
    · refine calls_fx (args := [.int .i64 a0, .int .i64 a1]) 93 Try.func3 rfl rfl rfl ?_
      intro a F
      have M := Mx.start w.heap.size w rfl
      refine wp_seq_k fun K1 hK1 => ?_
      refine wp_region_lit ?_
      refine wl_run (w' := w) (wanted_none rfl) rfl F rfl (.bool false) (run_mv _ (.inr rfl) rfl) fun a2 F2 => ?_
      clear F
      refine hK1 _ _ ?_
      refine wp_seq_k fun K3 hK3 => ?_
      refine wp_seq_k fun K4 hK4 => ?_
      refine wp_region_lit ?_
      refine wl_call (wanted_none rfl) rfl F2 rfl rfl (enters_of Try.func13 (by kernel_rfl) rfl) #[] (args0) (call_ex (gknown_any w)) ?_
      rintro _ w5 a5 ⟨rfl, b5⟩ F5
      have M5 := M.step b5
      refine wl_run (w' := w5) (wanted_none rfl) rfl F5 rfl (.bool false) (run_not _ _ rfl (F5.get (t := 12) rfl)) fun a6 F6 => ?_
      clear F5
      refine hK4 _ _ ?_
      refine wp_cond_false (F6.get (t := 13) rfl) ?_
      refine wp_skip ?_
      refine hK3 _ _ ?_
      refine wp_seq_k fun K7 hK7 => ?_
      refine wp_region_lit ?_
      refine wl_run (w' := w5) (wanted_none rfl) rfl F6 rfl (.int .i64 a0) (run_mv _ (.inl rfl) (F6.get (t := 0) rfl)) fun a8 F8 => ?_
      clear F6
      refine wl_call (wanted_none rfl) rfl F8 rfl rfl (enters_of Try.func14 (by kernel_rfl) rfl) #[.int .i64 a0, .int .i64 18] (args2 (F8.get (t := 14) rfl) rfl) (call_ex (kwt w5)) ?_
      rintro _ w9 a9 ⟨rfl, rfl⟩ F9
      refine wl_run (w' := w5) (wanted_none rfl) rfl F9 rfl (.int .i64 kk) (y_addI _ _ _ _ rfl rfl (F9.get (t := 15) rfl) hk.out (by omega)) fun a10 F10 => ?_
      clear F9
      refine wl_run (w' := w5) (wanted_none rfl) rfl F10 rfl (.int .i64 kk) (run_mv _ (.inr rfl) (F10.get (t := 16) rfl)) fun a11 F11 => ?_
      clear F10
      refine hK7 _ _ ?_
      refine wp_seq_k fun K12 hK12 => ?_
      refine wp_region_lit ?_
      refine wl_run (w' := w5) (wanted_none rfl) rfl F11 rfl (.int .i64 kk) (run_mv _ (.inl rfl) (F11.get (t := 5) rfl)) fun a13 F13 => ?_
      clear F11
      refine wl_call (wanted_none rfl) rfl F13 rfl rfl (enters_of Try.func15 (by kernel_rfl) rfl) #[.int .i64 kk] (args1 (F13.get (t := 18) rfl)) (call_ex (k1 w5)) ?_
      rintro _ w14 a14 ⟨rfl, b14⟩ F14
      have M14 := M5.step b14
      refine wl_run (w' := w14) (wanted_none rfl) rfl F14 rfl (.tuple #[.agg (groupA kk pp qq gg), .bool true]) (run_mv _ (.inl rfl) (F14.get (t := 19) rfl)) fun a15 F15 => ?_
      clear F14
      refine wl_run (w' := w14) (wanted_none rfl) rfl F15 rfl (.agg (groupA kk pp qq gg)) (y_ext _ _ rfl (F15.get (t := 17) rfl) rfl) fun a16 F16 => ?_
      clear F15
      refine wl_run (w' := w14) (wanted_none rfl) rfl F16 rfl (.bool true) (y_ext _ _ rfl (F16.get (t := 17) rfl) rfl) fun a17 F17 => ?_
      clear F16
      refine wl_alloc (wanted_none rfl) rfl F17 rfl M14 0 (t := 28) (c := groupA 0 0 0 0) (by decide) (by unfold execOp; rw [groupA_zero]; kernel_rfl) ?_
      intro g18 a18 w18 F18 M18
      clear F17 M14
      refine wl_st (wanted_none rfl) rfl F18 M18 (k := 0) rfl (by decide) _ _ _ rfl (F18.get (t := 6) rfl) (F18.get (t := 20) rfl) (groupA kk pp qq gg) (groupA kk pp qq gg) rfl (Nat.le_of_ble_eq_true rfl) (groupA_cells _ _ _ _) (y_put0 rfl) (by kernel_rfl) ?_
      intro w19 M19
      clear M18
      refine wl_run (w' := w19) (wanted_none rfl) rfl F18 rfl (.bool true) (run_mv _ (.inr rfl) (F18.get (t := 21) rfl)) fun a20 F20 => ?_
      clear F18
      refine hK12 _ _ ?_
      refine wp_seq_k fun K21 hK21 => ?_
      refine wp_region_lit ?_
      refine wl_run (w' := w19) (wanted_none rfl) rfl F20 rfl (.int .i64 kk) (run_mv _ (.inl rfl) (F20.get (t := 5) rfl)) fun a22 F22 => ?_
      clear F20
      refine wl_call (wanted_none rfl) rfl F22 rfl rfl (enters_of Try.func16 (by kernel_rfl) rfl) #[.int .i64 kk] (args1 (F22.get (t := 23) rfl)) (call_ex (k2 w19)) ?_
      rintro _ w23 a23 ⟨rfl, b23⟩ F23
      have M23 := M19.step b23
      refine wl_run (w' := w23) (wanted_none rfl) rfl F23 rfl (.tuple #[.agg (groupA kk pp qq gg), .bool true]) (run_mv _ (.inl rfl) (F23.get (t := 24) rfl)) fun a24 F24 => ?_
      clear F23
      refine wl_run (w' := w23) (wanted_none rfl) rfl F24 rfl (.agg (groupA kk pp qq gg)) (y_ext _ _ rfl (F24.get (t := 22) rfl) rfl) fun a25 F25 => ?_
      clear F24
      refine wl_run (w' := w23) (wanted_none rfl) rfl F25 rfl (.bool true) (y_ext _ _ rfl (F25.get (t := 22) rfl) rfl) fun a26 F26 => ?_
      clear F25
      refine wl_alloc (wanted_none rfl) rfl F26 rfl M23 1 (t := 28) (c := groupA 0 0 0 0) (by decide) (by unfold execOp; rw [groupA_zero]; kernel_rfl) ?_
      intro g27 a27 w27 F27 M27
      clear F26 M23
      refine wl_st (wanted_none rfl) rfl F27 M27 (k := 1) rfl (by decide) _ _ _ rfl (F27.get (t := 8) rfl) (F27.get (t := 25) rfl) (groupA kk pp qq gg) (groupA kk pp qq gg) rfl (Nat.le_of_ble_eq_true rfl) (groupA_cells _ _ _ _) (y_put0 rfl) (by kernel_rfl) ?_
      intro w28 M28
      clear M27
      refine wl_run (w' := w28) (wanted_none rfl) rfl F27 rfl (.bool true) (run_mv _ (.inr rfl) (F27.get (t := 26) rfl)) fun a29 F29 => ?_
      clear F27
      refine hK21 _ _ ?_
      refine wp_seq_k fun K30 hK30 => ?_
      refine wp_region_lit ?_
      refine wl_run (w' := w28) (wanted_none rfl) rfl F29 rfl (.int .i64 a1) (run_mv _ (.inl rfl) (F29.get (t := 1) rfl)) fun a31 F31 => ?_
      clear F29
      refine wl_call (wanted_none rfl) rfl F31 rfl rfl (enters_of Try.func15 (by kernel_rfl) rfl) #[.int .i64 a1] (args1 (F31.get (t := 28) rfl)) (gmake_ex hk1 hl1 w28) ?_
      rintro _ w32 a32 ⟨⟨kx, px, qx, gx, bx, rfl⟩, b32⟩ F32
      have M32 := M28.step b32
      refine wl_run (w' := w32) (wanted_none rfl) rfl F32 rfl (.tuple #[.agg (groupA kx px qx gx), .bool bx]) (run_mv _ (.inl rfl) (F32.get (t := 29) rfl)) fun a33 F33 => ?_
      clear F32
      refine wl_run (w' := w32) (wanted_none rfl) rfl F33 rfl (.agg (groupA kx px qx gx)) (y_ext _ _ rfl (F33.get (t := 27) rfl) rfl) fun a34 F34 => ?_
      clear F33
      refine wl_run (w' := w32) (wanted_none rfl) rfl F34 rfl (.bool bx) (y_ext _ _ rfl (F34.get (t := 27) rfl) rfl) fun a35 F35 => ?_
      clear F34
      refine wl_alloc (wanted_none rfl) rfl F35 rfl M32 2 (t := 28) (c := groupA 0 0 0 0) (by decide) (by unfold execOp; rw [groupA_zero]; kernel_rfl) ?_
      intro g36 a36 w36 F36 M36
      clear F35 M32
      refine wl_st (wanted_none rfl) rfl F36 M36 (k := 2) rfl (by decide) _ _ _ rfl (F36.get (t := 10) rfl) (F36.get (t := 30) rfl) (groupA kx px qx gx) (groupA kx px qx gx) rfl (Nat.le_of_ble_eq_true rfl) (groupA_cells _ _ _ _) (y_put0 rfl) (by kernel_rfl) ?_
      intro w37 M37
      clear M36
      refine wl_run (w' := w37) (wanted_none rfl) rfl F36 rfl (.bool bx) (run_mv _ (.inr rfl) (F36.get (t := 31) rfl)) fun a38 F38 => ?_
      clear F36
      refine hK30 _ _ ?_
      refine wp_seq_k fun K39 hK39 => ?_
      refine wp_seq_k fun K40 hK40 => ?_
      refine wp_region_lit ?_
      refine wl_run (w' := w37) (wanted_none rfl) rfl F38 rfl (.int .i64 a1) (run_mv _ (.inl rfl) (F38.get (t := 1) rfl)) fun a41 F41 => ?_
      clear F38
      refine wl_run (w' := w37) (wanted_none rfl) rfl F41 rfl (.bool true) (y_geq _ _ _ _ rfl (F41.get (t := 32) rfl) rfl (decide_eq_true c.1)) fun a42 F42 => ?_
      clear F41
      refine wl_run (w' := w37) (wanted_none rfl) rfl F42 rfl (.bool true) (run_mv _ (.inl rfl) (F42.get (t := 33) rfl)) fun a43 F43 => ?_
      clear F42
      refine wl_run (w' := w37) (wanted_yes rfl rfl rfl (F43.get (t := 34) rfl)) rfl F43 rfl (.int .i64 a1) (run_mv _ (.inl rfl) (F43.get (t := 1) rfl)) fun a44 F44 => ?_
      clear F43
      refine wl_run (w' := w37) (wanted_yes rfl rfl rfl (F44.get (t := 34) rfl)) rfl F44 rfl (.bool true) (y_leq _ _ _ _ rfl (F44.get (t := 35) rfl) rfl (decide_eq_true c.2)) fun a45 F45 => ?_
      clear F44
      refine wl_run (w' := w37) (wanted_none rfl) rfl F45 rfl (.bool true) (run_pick_t rfl (F45.get (t := 34) rfl) (F45.get (t := 36) rfl)) fun a46 F46 => ?_
      clear F45
      refine hK40 _ _ ?_
      refine wp_cond_true (F46.get (t := 37) rfl) ?_
      refine wp_seq_k fun K47 hK47 => ?_
      refine wp_region_lit ?_
      refine wl_run (w' := w37) (wanted_none rfl) rfl F46 rfl (.bool true) (run_mv _ (.inl rfl) (F46.get (t := 7) rfl)) fun a48 F48 => ?_
      clear F46
      refine wl_run (w' := w37) (wanted_none rfl) rfl F48 rfl (.bool true) (run_mv _ (.inl rfl) (F48.get (t := 9) rfl)) fun a49 F49 => ?_
      clear F48
      refine wl_run (w' := w37) (wanted_none rfl) rfl F49 rfl (.bool true) (y_eqB _ _ rfl (F49.get (t := 38) rfl) (F49.get (t := 39) rfl) rfl) fun a50 F50 => ?_
      clear F49
      refine wl_run (w' := w37) (wanted_none rfl) rfl F50 rfl (.bool true) (run_mv _ (.inl rfl) (F50.get (t := 40) rfl)) fun a51 F51 => ?_
      clear F50
      refine wl_run (w' := w37) (wanted_yes rfl rfl rfl (F51.get (t := 41) rfl)) rfl F51 rfl (.agg (groupA kk pp qq gg)) (y_ldN _ _ rfl (F51.get (t := 6) rfl) (M37.blk (k := 0) rfl) (groupA kk pp qq gg) (y_all rfl) Try.underlying28 rfl (by kernel_rfl)) fun a52 F52 => ?_
      clear F51
      refine wl_run (w' := w37) (wanted_yes rfl rfl rfl (F52.get (t := 41) rfl)) rfl F52 rfl (.agg (groupA kk pp qq gg)) (y_ldN _ _ rfl (F52.get (t := 8) rfl) (M37.blk (k := 1) rfl) (groupA kk pp qq gg) (y_all rfl) Try.underlying28 rfl (by kernel_rfl)) fun a53 F53 => ?_
      clear F52
      refine wl_run (w' := w37) (wanted_yes rfl rfl rfl (F53.get (t := 41) rfl)) rfl F53 rfl (.bool true) (y_eqA _ _ _ _ rfl (F53.get (t := 42) rfl) (F53.get (t := 43) rfl) (by kernel_rfl) (eq_group _ _ _ _ _)) fun a54 F54 => ?_
      clear F53
      refine wl_run (w' := w37) (wanted_none rfl) rfl F54 rfl (.bool true) (run_pick_t rfl (F54.get (t := 41) rfl) (F54.get (t := 44) rfl)) fun a55 F55 => ?_
      clear F54
      refine wl_run (w' := w37) (wanted_none rfl) rfl F55 rfl (.bool true) (run_mv _ (.inr rfl) (F55.get (t := 45) rfl)) fun a56 F56 => ?_
      clear F55
      refine hK47 _ _ ?_
      refine wp_ret ?_
      try simp only [Exit.then, Exit.inBlock]
      exact bodyPost_ret (res1 rfl (F56.get (t := 4) rfl)) F56.defers ⟨rfl, M37.below⟩
  · rcases kb with rfl | ⟨rfl, rfl, z1, z2, z3, z4, z5⟩
    · refine calls_fx (args := [.int .i64 a0, .int .i64 a1]) 93 Try.func3 rfl rfl rfl ?_
      intro a F
      have M := Mx.start w.heap.size w rfl
      refine wp_seq_k fun K1 hK1 => ?_
      refine wp_region_lit ?_
      refine wl_run (w' := w) (wanted_none rfl) rfl F rfl (.bool false) (run_mv _ (.inr rfl) rfl) fun a2 F2 => ?_
      clear F
      refine hK1 _ _ ?_
      refine wp_seq_k fun K3 hK3 => ?_
      refine wp_seq_k fun K4 hK4 => ?_
      refine wp_region_lit ?_
      refine wl_call (wanted_none rfl) rfl F2 rfl rfl (enters_of Try.func13 (by kernel_rfl) rfl) #[] (args0) (call_ex (gknown_any w)) ?_
      rintro _ w5 a5 ⟨rfl, b5⟩ F5
      have M5 := M.step b5
      refine wl_run (w' := w5) (wanted_none rfl) rfl F5 rfl (.bool false) (run_not _ _ rfl (F5.get (t := 12) rfl)) fun a6 F6 => ?_
      clear F5
      refine hK4 _ _ ?_
      refine wp_cond_false (F6.get (t := 13) rfl) ?_
      refine wp_skip ?_
      refine hK3 _ _ ?_
      refine wp_seq_k fun K7 hK7 => ?_
      refine wp_region_lit ?_
      refine wl_run (w' := w5) (wanted_none rfl) rfl F6 rfl (.int .i64 a0) (run_mv _ (.inl rfl) (F6.get (t := 0) rfl)) fun a8 F8 => ?_
      clear F6
      refine wl_call (wanted_none rfl) rfl F8 rfl rfl (enters_of Try.func14 (by kernel_rfl) rfl) #[.int .i64 a0, .int .i64 18] (args2 (F8.get (t := 14) rfl) rfl) (call_ex (kwt w5)) ?_
      rintro _ w9 a9 ⟨rfl, rfl⟩ F9
      refine wl_run (w' := w5) (wanted_none rfl) rfl F9 rfl (.int .i64 k) (y_addI _ _ _ _ rfl rfl (F9.get (t := 15) rfl) hk.out (by omega)) fun a10 F10 => ?_
      clear F9
      refine wl_run (w' := w5) (wanted_none rfl) rfl F10 rfl (.int .i64 k) (run_mv _ (.inr rfl) (F10.get (t := 16) rfl)) fun a11 F11 => ?_
      clear F10
      refine hK7 _ _ ?_
      refine wp_seq_k fun K12 hK12 => ?_
      refine wp_region_lit ?_
      refine wl_run (w' := w5) (wanted_none rfl) rfl F11 rfl (.int .i64 k) (run_mv _ (.inl rfl) (F11.get (t := 5) rfl)) fun a13 F13 => ?_
      clear F11
      refine wl_call (wanted_none rfl) rfl F13 rfl rfl (enters_of Try.func15 (by kernel_rfl) rfl) #[.int .i64 k] (args1 (F13.get (t := 18) rfl)) (call_ex (k1 w5)) ?_
      rintro _ w14 a14 ⟨rfl, b14⟩ F14
      have M14 := M5.step b14
      refine wl_run (w' := w14) (wanted_none rfl) rfl F14 rfl (.tuple #[.agg (groupA kk pp qq gg), .bool false]) (run_mv _ (.inl rfl) (F14.get (t := 19) rfl)) fun a15 F15 => ?_
      clear F14
      refine wl_run (w' := w14) (wanted_none rfl) rfl F15 rfl (.agg (groupA kk pp qq gg)) (y_ext _ _ rfl (F15.get (t := 17) rfl) rfl) fun a16 F16 => ?_
      clear F15
      refine wl_run (w' := w14) (wanted_none rfl) rfl F16 rfl (.bool false) (y_ext _ _ rfl (F16.get (t := 17) rfl) rfl) fun a17 F17 => ?_
      clear F16
      refine wl_alloc (wanted_none rfl) rfl F17 rfl M14 0 (t := 28) (c := groupA 0 0 0 0) (by decide) (by unfold execOp; rw [groupA_zero]; kernel_rfl) ?_
      intro g18 a18 w18 F18 M18
      clear F17 M14
      refine wl_st (wanted_none rfl) rfl F18 M18 (k := 0) rfl (by decide) _ _ _ rfl (F18.get (t := 6) rfl) (F18.get (t := 20) rfl) (groupA kk pp qq gg) (groupA kk pp qq gg) rfl (Nat.le_of_ble_eq_true rfl) (groupA_cells _ _ _ _) (y_put0 rfl) (by kernel_rfl) ?_
      intro w19 M19
      clear M18
      refine wl_run (w' := w19) (wanted_none rfl) rfl F18 rfl (.bool false) (run_mv _ (.inr rfl) (F18.get (t := 21) rfl)) fun a20 F20 => ?_
      clear F18
      refine hK12 _ _ ?_
      refine wp_seq_k fun K21 hK21 => ?_
      refine wp_region_lit ?_
      refine wl_run (w' := w19) (wanted_none rfl) rfl F20 rfl (.int .i64 k) (run_mv _ (.inl rfl) (F20.get (t := 5) rfl)) fun a22 F22 => ?_
      clear F20
      refine wl_call (wanted_none rfl) rfl F22 rfl rfl (enters_of Try.func16 (by kernel_rfl) rfl) #[.int .i64 k] (args1 (F22.get (t := 23) rfl)) (call_ex (k2 w19)) ?_
      rintro _ w23 a23 ⟨rfl, b23⟩ F23
      have M23 := M19.step b23
      refine wl_run (w' := w23) (wanted_none rfl) rfl F23 rfl (.tuple #[.agg (groupA kk pp qq gg), .bool false]) (run_mv _ (.inl rfl) (F23.get (t := 24) rfl)) fun a24 F24 => ?_
      clear F23
      refine wl_run (w' := w23) (wanted_none rfl) rfl F24 rfl (.agg (groupA kk pp qq gg)) (y_ext _ _ rfl (F24.get (t := 22) rfl) rfl) fun a25 F25 => ?_
      clear F24
      refine wl_run (w' := w23) (wanted_none rfl) rfl F25 rfl (.bool false) (y_ext _ _ rfl (F25.get (t := 22) rfl) rfl) fun a26 F26 => ?_
      clear F25
      refine wl_alloc (wanted_none rfl) rfl F26 rfl M23 1 (t := 28) (c := groupA 0 0 0 0) (by decide) (by unfold execOp; rw [groupA_zero]; kernel_rfl) ?_
      intro g27 a27 w27 F27 M27
      clear F26 M23
      refine wl_st (wanted_none rfl) rfl F27 M27 (k := 1) rfl (by decide) _ _ _ rfl (F27.get (t := 8) rfl) (F27.get (t := 25) rfl) (groupA kk pp qq gg) (groupA kk pp qq gg) rfl (Nat.le_of_ble_eq_true rfl) (groupA_cells _ _ _ _) (y_put0 rfl) (by kernel_rfl) ?_
      intro w28 M28
      clear M27
      refine wl_run (w' := w28) (wanted_none rfl) rfl F27 rfl (.bool false) (run_mv _ (.inr rfl) (F27.get (t := 26) rfl)) fun a29 F29 => ?_
      clear F27
      refine hK21 _ _ ?_
      refine wp_seq_k fun K30 hK30 => ?_
      refine wp_region_lit ?_
      refine wl_run (w' := w28) (wanted_none rfl) rfl F29 rfl (.int .i64 a1) (run_mv _ (.inl rfl) (F29.get (t := 1) rfl)) fun a31 F31 => ?_
      clear F29
      refine wl_call (wanted_none rfl) rfl F31 rfl rfl (enters_of Try.func15 (by kernel_rfl) rfl) #[.int .i64 a1] (args1 (F31.get (t := 28) rfl)) (call_ex (gmake_no hk1 hl1 c w28)) ?_
      rintro _ w32 a32 ⟨rfl, b32⟩ F32
      have M32 := M28.step b32
      refine wl_run (w' := w32) (wanted_none rfl) rfl F32 rfl (.tuple #[.agg (groupA 0 0 0 0), .bool false]) (run_mv _ (.inl rfl) (F32.get (t := 29) rfl)) fun a33 F33 => ?_
      clear F32
      refine wl_run (w' := w32) (wanted_none rfl) rfl F33 rfl (.agg (groupA 0 0 0 0)) (y_ext _ _ rfl (F33.get (t := 27) rfl) rfl) fun a34 F34 => ?_
      clear F33
      refine wl_run (w' := w32) (wanted_none rfl) rfl F34 rfl (.bool false) (y_ext _ _ rfl (F34.get (t := 27) rfl) rfl) fun a35 F35 => ?_
      clear F34
      refine wl_alloc (wanted_none rfl) rfl F35 rfl M32 2 (t := 28) (c := groupA 0 0 0 0) (by decide) (by unfold execOp; rw [groupA_zero]; kernel_rfl) ?_
      intro g36 a36 w36 F36 M36
      clear F35 M32
      refine wl_st (wanted_none rfl) rfl F36 M36 (k := 2) rfl (by decide) _ _ _ rfl (F36.get (t := 10) rfl) (F36.get (t := 30) rfl) (groupA 0 0 0 0) (groupA 0 0 0 0) rfl (Nat.le_of_ble_eq_true rfl) (groupA_cells _ _ _ _) (y_put0 rfl) (by kernel_rfl) ?_
      intro w37 M37
      clear M36
      refine wl_run (w' := w37) (wanted_none rfl) rfl F36 rfl (.bool false) (run_mv _ (.inr rfl) (F36.get (t := 31) rfl)) fun a38 F38 => ?_
      clear F36
      refine hK30 _ _ ?_
      refine wp_seq_k fun K39 hK39 => ?_
      refine wp_seq_k fun K40 hK40 => ?_
      refine wp_region_lit ?_
      refine wl_run (w' := w37) (wanted_none rfl) rfl F38 rfl (.int .i64 a1) (run_mv _ (.inl rfl) (F38.get (t := 1) rfl)) fun a41 F41 => ?_
      clear F38
      by_cases h42 : 12 ≤ a1
      · refine wl_run (w' := w37) (wanted_none rfl) rfl F41 rfl (.bool true) (y_geq _ _ _ _ rfl (F41.get (t := 32) rfl) rfl (decide_eq_true h42)) fun a43 F43 => ?_
        clear F41
        refine wl_run (w' := w37) (wanted_none rfl) rfl F43 rfl (.bool true) (run_mv _ (.inl rfl) (F43.get (t := 33) rfl)) fun a44 F44 => ?_
        clear F43
        refine wl_run (w' := w37) (wanted_yes rfl rfl rfl (F44.get (t := 34) rfl)) rfl F44 rfl (.int .i64 a1) (run_mv _ (.inl rfl) (F44.get (t := 1) rfl)) fun a45 F45 => ?_
        clear F44
        refine wl_run (w' := w37) (wanted_yes rfl rfl rfl (F45.get (t := 34) rfl)) rfl F45 rfl (.bool false) (y_leq _ _ _ _ rfl (F45.get (t := 35) rfl) rfl (decide_eq_false (fun h => c ⟨by assumption, h⟩))) fun a46 F46 => ?_
        clear F45
        refine wl_run (w' := w37) (wanted_none rfl) rfl F46 rfl (.bool false) (run_pick_t rfl (F46.get (t := 34) rfl) (F46.get (t := 36) rfl)) fun a47 F47 => ?_
        clear F46
        refine hK40 _ _ ?_
        refine wp_cond_false (F47.get (t := 37) rfl) ?_
        refine wp_skip ?_
        refine hK39 _ _ ?_
        refine wp_seq_k fun K48 hK48 => ?_
        refine wp_seq_k fun K49 hK49 => ?_
        refine wp_region_lit ?_
        refine wl_run (w' := w37) (wanted_none rfl) rfl F47 rfl (.bool false) (run_mv _ (.inl rfl) (F47.get (t := 7) rfl)) fun a50 F50 => ?_
        clear F47
        refine wl_run (w' := w37) (wanted_none rfl) rfl F50 rfl (.bool false) (run_mv _ (.inl rfl) (F50.get (t := 9) rfl)) fun a51 F51 => ?_
        clear F50
        refine wl_run (w' := w37) (wanted_none rfl) rfl F51 rfl (.bool false) (y_neB _ _ rfl (F51.get (t := 46) rfl) (F51.get (t := 47) rfl) rfl) fun a52 F52 => ?_
        clear F51
        refine wl_run (w' := w37) (wanted_none rfl) rfl F52 rfl (.bool false) (run_mv _ (.inl rfl) (F52.get (t := 48) rfl)) fun a53 F53 => ?_
        clear F52
        refine wl_run (w' := w37) (wanted_yes rfl rfl rfl (F53.get (t := 49) rfl)) rfl F53 rfl (.agg (groupA kk pp qq gg)) (y_ldN _ _ rfl (F53.get (t := 6) rfl) (M37.blk (k := 0) rfl) (groupA kk pp qq gg) (y_all rfl) Try.underlying28 rfl (by kernel_rfl)) fun a54 F54 => ?_
        clear F53
        refine wl_run (w' := w37) (wanted_yes rfl rfl rfl (F54.get (t := 49) rfl)) rfl F54 rfl (.agg (groupA kk pp qq gg)) (y_ldN _ _ rfl (F54.get (t := 8) rfl) (M37.blk (k := 1) rfl) (groupA kk pp qq gg) (y_all rfl) Try.underlying28 rfl (by kernel_rfl)) fun a55 F55 => ?_
        clear F54
        refine wl_run (w' := w37) (wanted_yes rfl rfl rfl (F55.get (t := 49) rfl)) rfl F55 rfl (.bool false) (y_neA _ _ _ _ rfl (F55.get (t := 50) rfl) (F55.get (t := 51) rfl) (by kernel_rfl) (eq_group _ _ _ _ _)) fun a56 F56 => ?_
        clear F55
        refine wl_run (w' := w37) (wanted_none rfl) rfl F56 rfl (.bool false) (run_pick_f rfl (F56.get (t := 49) rfl) (F56.get (t := 52) rfl)) fun a57 F57 => ?_
        clear F56
        refine wl_run (w' := w37) (wanted_none rfl) rfl F57 rfl (.bool false) (run_mv _ (.inl rfl) (F57.get (t := 53) rfl)) fun a58 F58 => ?_
        clear F57
        refine wl_run (w' := w37) (wanted_yes rfl rfl rfl (F58.get (t := 54) rfl)) rfl F58 rfl (.bool false) (run_mv _ (.inl rfl) (F58.get (t := 11) rfl)) fun a59 F59 => ?_
        clear F58
        refine wl_run (w' := w37) (wanted_none rfl) rfl F59 rfl (.bool false) (run_pick_f rfl (F59.get (t := 54) rfl) (F59.get (t := 55) rfl)) fun a60 F60 => ?_
        clear F59
        refine wl_run (w' := w37) (wanted_none rfl) rfl F60 rfl (.bool false) (run_mv _ (.inl rfl) (F60.get (t := 56) rfl)) fun a61 F61 => ?_
        clear F60
        refine wl_run (w' := w37) (wanted_yes rfl rfl rfl (F61.get (t := 57) rfl)) rfl F61 rfl (.agg (groupA 0 0 0 0)) (y_ldN _ _ rfl (F61.get (t := 10) rfl) (M37.blk (k := 2) rfl) (groupA 0 0 0 0) (y_all rfl) Try.underlying28 rfl (by kernel_rfl)) fun a62 F62 => ?_
        clear F61
        refine wl_run (w' := w37) (wanted_yes rfl rfl rfl (F62.get (t := 57) rfl)) rfl F62 rfl (.agg (groupA 0 0 0 0)) (by unfold execOp; rw [groupA_zero]; kernel_rfl) fun a63 F63 => ?_
        clear F62
        refine wl_run (w' := w37) (wanted_yes rfl rfl rfl (F63.get (t := 57) rfl)) rfl F63 rfl (.bool false) (y_neA _ _ _ _ rfl (F63.get (t := 58) rfl) (F63.get (t := 59) rfl) (by kernel_rfl) (eq_group _ _ _ _ _)) fun a64 F64 => ?_
        clear F63
        refine wl_run (w' := w37) (wanted_none rfl) rfl F64 rfl (.bool false) (run_pick_f rfl (F64.get (t := 57) rfl) (F64.get (t := 60) rfl)) fun a65 F65 => ?_
        clear F64
        refine hK49 _ _ ?_
        refine wp_cond_false (F65.get (t := 61) rfl) ?_
        refine wp_skip ?_
        refine hK48 _ _ ?_
        refine wp_seq_k fun K66 hK66 => ?_
        refine region_fx F65 [StK.eq (.bool false), StK.eq (.bool true), StK.eq (.bool true), StK.eq undef, StK.eq undef, StK.eq undef, StK.eq undef, StK.eq undef, StK.eq undef, StK.eq undef, StK.eq undef, StK.eq undef, StK.eq undef, StK.eq undef, StK.eq undef, StK.eq undef, StK.eq undef, StK.eq undef, StK.eq undef, StK.eq undef, StK.eq undef, StK.eq undef, StK.eq undef, StK.eq undef, StK.eq undef, StK.eq undef, StK.eq undef, StK.eq undef, StK.eq undef, StK.eq undef, StK.eq (.bool true), StK.eq (.bool true)] 32 rfl (by kernel_rfl) ⟨?_, ?_, ?_, ?_, ?_, ?_, ?_, ?_, ?_, ?_, ?_, ?_, ?_, ?_, ?_, ?_, ?_, ?_, ?_, ?_, ?_, ?_, ?_, ?_, ?_, ?_, ?_, ?_, ?_, ?_, ?_, ?_, trivial⟩ ?_
        · intro a w hb hd
          have e7 : a.eval (.tmp 7) = .bool false := (show a.eval (.tmp 7) = _ from hd 7 (by decide)).trans (F65.get (t := 7) rfl)
          exact hop_runK (F := (StK.eq (.bool false)).F) (wanted_none rfl) (.bool false) (run_mv _ (.inl rfl) e7) rfl
        · intro a w hb hd
          have e62 : a.eval (.tmp 62) = .bool false := hd 62 (by decide)
          exact hop_runK (F := (StK.eq (.bool true)).F) (wanted_none rfl) (.bool true) (run_not _ _ rfl e62) rfl
        · intro a w hb hd
          have e63 : a.eval (.tmp 63) = .bool true := hd 63 (by decide)
          exact hop_runK (F := (StK.eq (.bool true)).F) (wanted_none rfl) (.bool true) (run_mv _ (.inl rfl) e63) rfl
        · intro a w hb hd
          have eg : a.eval (.tmp 64) = .bool true := hd 64 (by decide)
          exact hop_skipK (F := (StK.eq (undef)).F) rfl rfl rfl eg rfl
        · intro a w hb hd
          have eg : a.eval (.tmp 64) = .bool true := hd 64 (by decide)
          exact hop_skipK (F := (StK.eq (undef)).F) rfl rfl rfl eg rfl
        · intro a w hb hd
          have eg : a.eval (.tmp 64) = .bool true := hd 64 (by decide)
          exact hop_skipK (F := (StK.eq (undef)).F) rfl rfl rfl eg rfl
        · intro a w hb hd
          have eg : a.eval (.tmp 64) = .bool true := hd 64 (by decide)
          exact hop_skipK (F := (StK.eq (undef)).F) rfl rfl rfl eg rfl
        · intro a w hb hd
          have eg : a.eval (.tmp 64) = .bool true := hd 64 (by decide)
          exact hop_skipK (F := (StK.eq (undef)).F) rfl rfl rfl eg rfl
        · intro a w hb hd
          have eg : a.eval (.tmp 64) = .bool true := hd 64 (by decide)
          exact hop_skipK (F := (StK.eq (undef)).F) rfl rfl rfl eg rfl
        · intro a w hb hd
          have eg : a.eval (.tmp 64) = .bool true := hd 64 (by decide)
          exact hop_skipK (F := (StK.eq (undef)).F) rfl rfl rfl eg rfl
        · intro a w hb hd
          have eg : a.eval (.tmp 64) = .bool true := hd 64 (by decide)
          exact hop_skipK (F := (StK.eq (undef)).F) rfl rfl rfl eg rfl
        · intro a w hb hd
          have eg : a.eval (.tmp 64) = .bool true := hd 64 (by decide)
          exact hop_skipK (F := (StK.eq (undef)).F) rfl rfl rfl eg rfl
        · intro a w hb hd
          have eg : a.eval (.tmp 64) = .bool true := hd 64 (by decide)
          exact hop_skipK (F := (StK.eq (undef)).F) rfl rfl rfl eg rfl
        · intro a w hb hd
          have eg : a.eval (.tmp 74) = undef := hd 74 (by decide)
          exact y_skipU (F := (StK.eq (undef)).F) rfl rfl rfl eg rfl
        · intro a w hb hd
          have eg : a.eval (.tmp 74) = undef := hd 74 (by decide)
          exact y_skipU (F := (StK.eq (undef)).F) rfl rfl rfl eg rfl
        · intro a w hb hd
          have eg : a.eval (.tmp 74) = undef := hd 74 (by decide)
          exact y_skipU (F := (StK.eq (undef)).F) rfl rfl rfl eg rfl
        · intro a w hb hd
          have eg : a.eval (.tmp 74) = undef := hd 74 (by decide)
          exact y_skipU (F := (StK.eq (undef)).F) rfl rfl rfl eg rfl
        · intro a w hb hd
          have eg : a.eval (.tmp 64) = .bool true := hd 64 (by decide)
          exact hop_skipK (F := (StK.eq (undef)).F) rfl rfl rfl eg rfl
        · intro a w hb hd
          have eg : a.eval (.tmp 64) = .bool true := hd 64 (by decide)
          exact hop_skipK (F := (StK.eq (undef)).F) rfl rfl rfl eg rfl
        · intro a w hb hd
          have eg : a.eval (.tmp 80) = undef := hd 80 (by decide)
          exact y_skipU (F := (StK.eq (undef)).F) rfl rfl rfl eg rfl
        · intro a w hb hd
          have eg : a.eval (.tmp 80) = undef := hd 80 (by decide)
          exact y_skipU (F := (StK.eq (undef)).F) rfl rfl rfl eg rfl
        · intro a w hb hd
          have eg : a.eval (.tmp 80) = undef := hd 80 (by decide)
          exact y_skipU (F := (StK.eq (undef)).F) rfl rfl rfl eg rfl
        · intro a w hb hd
          have eg : a.eval (.tmp 80) = undef := hd 80 (by decide)
          exact y_skipU (F := (StK.eq (undef)).F) rfl rfl rfl eg rfl
        · intro a w hb hd
          have eg : a.eval (.tmp 64) = .bool true := hd 64 (by decide)
          exact hop_skipK (F := (StK.eq (undef)).F) rfl rfl rfl eg rfl
        · intro a w hb hd
          have eg : a.eval (.tmp 64) = .bool true := hd 64 (by decide)
          exact hop_skipK (F := (StK.eq (undef)).F) rfl rfl rfl eg rfl
        · intro a w hb hd
          have eg : a.eval (.tmp 86) = undef := hd 86 (by decide)
          exact y_skipU (F := (StK.eq (undef)).F) rfl rfl rfl eg rfl
        · intro a w hb hd
          have eg : a.eval (.tmp 86) = undef := hd 86 (by decide)
          exact y_skipU (F := (StK.eq (undef)).F) rfl rfl rfl eg rfl
        · intro a w hb hd
          have eg : a.eval (.tmp 86) = undef := hd 86 (by decide)
          exact y_skipU (F := (StK.eq (undef)).F) rfl rfl rfl eg rfl
        · intro a w hb hd
          have eg : a.eval (.tmp 86) = undef := hd 86 (by decide)
          exact y_skipU (F := (StK.eq (undef)).F) rfl rfl rfl eg rfl
        · intro a w hb hd
          have eg : a.eval (.tmp 64) = .bool true := hd 64 (by decide)
          exact hop_skipK (F := (StK.eq (undef)).F) rfl rfl rfl eg rfl
        · intro a w hb hd
          have e64 : a.eval (.tmp 64) = .bool true := hd 64 (by decide)
          have e91 : a.eval (.tmp 91) = undef := hd 91 (by decide)
          exact hop_runK (F := (StK.eq (.bool true)).F) (wanted_none rfl) (.bool true) (run_pick_t rfl e64 rfl) rfl
        · intro a w hb hd
          have e92 : a.eval (.tmp 92) = .bool true := hd 92 (by decide)
          exact hop_runK (F := (StK.eq (.bool true)).F) (wanted_none rfl) (.bool true) (run_mv _ (.inr rfl) e92) rfl
        intro p67 a67 w67 b67 G67 y67
        obtain ⟨q0, q1, q2, q3, q4, q5, q6, q7, q8, q9, q10, q11, q12, q13, q14, q15, q16, q17, q18, q19, q20, q21, q22, q23, q24, q25, q26, q27, q28, q29, q30, q31, -⟩ := y67
        have r0 : p67 0 = .bool false := q0 (by decide)
        have r1 : p67 1 = .bool true := q1 (by decide)
        have r2 : p67 2 = .bool true := q2 (by decide)
        have r3 : p67 3 = undef := q3 (by decide)
        have r4 : p67 4 = undef := q4 (by decide)
        have r5 : p67 5 = undef := q5 (by decide)
        have r6 : p67 6 = undef := q6 (by decide)
        have r7 : p67 7 = undef := q7 (by decide)
        have r8 : p67 8 = undef := q8 (by decide)
        have r9 : p67 9 = undef := q9 (by decide)
        have r10 : p67 10 = undef := q10 (by decide)
        have r11 : p67 11 = undef := q11 (by decide)
        have r12 : p67 12 = undef := q12 (by decide)
        have r13 : p67 13 = undef := q13 (by decide)
        have r14 : p67 14 = undef := q14 (by decide)
        have r15 : p67 15 = undef := q15 (by decide)
        have r16 : p67 16 = undef := q16 (by decide)
        have r17 : p67 17 = undef := q17 (by decide)
        have r18 : p67 18 = undef := q18 (by decide)
        have r19 : p67 19 = undef := q19 (by decide)
        have r20 : p67 20 = undef := q20 (by decide)
        have r21 : p67 21 = undef := q21 (by decide)
        have r22 : p67 22 = undef := q22 (by decide)
        have r23 : p67 23 = undef := q23 (by decide)
        have r24 : p67 24 = undef := q24 (by decide)
        have r25 : p67 25 = undef := q25 (by decide)
        have r26 : p67 26 = undef := q26 (by decide)
        have r27 : p67 27 = undef := q27 (by decide)
        have r28 : p67 28 = undef := q28 (by decide)
        have r29 : p67 29 = undef := q29 (by decide)
        have r30 : p67 30 = .bool true := q30 (by decide)
        have r31 : p67 31 = .bool true := q31 (by decide)
        simp only [List.take_succ_cons, List.take_zero, layV, Nat.zero_add, Nat.reduceAdd, r0, r1, r2, r3, r4, r5, r6, r7, r8, r9, r10, r11, r12, r13, r14, r15, r16, r17, r18, r19, r20, r21, r22, r23, r24, r25, r26, r27, r28, r29, r30, r31] at G67
        have M67 := M37.kc b67 M37.le
        clear F65 M37 r0 q0 r1 q1 r2 q2 r3 q3 r4 q4 r5 q5 r6 q6 r7 q7 r8 q8 r9 q9 r10 q10 r11 q11 r12 q12 r13 q13 r14 q14 r15 q15 r16 q16 r17 q17 r18 q18 r19 q19 r20 q20 r21 q21 r22 q22 r23 q23 r24 q24 r25 q25 r26 q26 r27 q27 r28 q28 r29 q29 r30 q30 r31 q31
        refine hK66 _ _ ?_
        refine wp_ret ?_
        try simp only [Exit.then, Exit.inBlock]
        exact bodyPost_ret (res1 rfl (G67.get (t := 4) rfl)) G67.defers ⟨rfl, M67.below⟩
      · refine wl_run (w' := w37) (wanted_none rfl) rfl F41 rfl (.bool false) (y_geq _ _ _ _ rfl (F41.get (t := 32) rfl) rfl (decide_eq_false h42)) fun a68 F68 => ?_
        clear F41
        refine wl_run (w' := w37) (wanted_none rfl) rfl F68 rfl (.bool false) (run_mv _ (.inl rfl) (F68.get (t := 33) rfl)) fun a69 F69 => ?_
        clear F68
        refine wl_skip (wanted_no rfl rfl rfl (F69.get (t := 34) rfl)) rfl F69 rfl fun a70 F70 => ?_
        clear F69
        refine wl_skip (wanted_no rfl rfl rfl (F70.get (t := 34) rfl)) rfl F70 rfl fun a71 F71 => ?_
        clear F70
        refine wl_run (w' := w37) (wanted_none rfl) rfl F71 rfl (.bool false) (run_pick_f rfl (F71.get (t := 34) rfl) rfl) fun a72 F72 => ?_
        clear F71
        refine hK40 _ _ ?_
        refine wp_cond_false (F72.get (t := 37) rfl) ?_
        refine wp_skip ?_
        refine hK39 _ _ ?_
        refine wp_seq_k fun K73 hK73 => ?_
        refine wp_seq_k fun K74 hK74 => ?_
        refine wp_region_lit ?_
        refine wl_run (w' := w37) (wanted_none rfl) rfl F72 rfl (.bool false) (run_mv _ (.inl rfl) (F72.get (t := 7) rfl)) fun a75 F75 => ?_
        clear F72
        refine wl_run (w' := w37) (wanted_none rfl) rfl F75 rfl (.bool false) (run_mv _ (.inl rfl) (F75.get (t := 9) rfl)) fun a76 F76 => ?_
        clear F75
        refine wl_run (w' := w37) (wanted_none rfl) rfl F76 rfl (.bool false) (y_neB _ _ rfl (F76.get (t := 46) rfl) (F76.get (t := 47) rfl) rfl) fun a77 F77 => ?_
        clear F76
        refine wl_run (w' := w37) (wanted_none rfl) rfl F77 rfl (.bool false) (run_mv _ (.inl rfl) (F77.get (t := 48) rfl)) fun a78 F78 => ?_
        clear F77
        refine wl_run (w' := w37) (wanted_yes rfl rfl rfl (F78.get (t := 49) rfl)) rfl F78 rfl (.agg (groupA kk pp qq gg)) (y_ldN _ _ rfl (F78.get (t := 6) rfl) (M37.blk (k := 0) rfl) (groupA kk pp qq gg) (y_all rfl) Try.underlying28 rfl (by kernel_rfl)) fun a79 F79 => ?_
        clear F78
        refine wl_run (w' := w37) (wanted_yes rfl rfl rfl (F79.get (t := 49) rfl)) rfl F79 rfl (.agg (groupA kk pp qq gg)) (y_ldN _ _ rfl (F79.get (t := 8) rfl) (M37.blk (k := 1) rfl) (groupA kk pp qq gg) (y_all rfl) Try.underlying28 rfl (by kernel_rfl)) fun a80 F80 => ?_
        clear F79
        refine wl_run (w' := w37) (wanted_yes rfl rfl rfl (F80.get (t := 49) rfl)) rfl F80 rfl (.bool false) (y_neA _ _ _ _ rfl (F80.get (t := 50) rfl) (F80.get (t := 51) rfl) (by kernel_rfl) (eq_group _ _ _ _ _)) fun a81 F81 => ?_
        clear F80
        refine wl_run (w' := w37) (wanted_none rfl) rfl F81 rfl (.bool false) (run_pick_f rfl (F81.get (t := 49) rfl) (F81.get (t := 52) rfl)) fun a82 F82 => ?_
        clear F81
        refine wl_run (w' := w37) (wanted_none rfl) rfl F82 rfl (.bool false) (run_mv _ (.inl rfl) (F82.get (t := 53) rfl)) fun a83 F83 => ?_
        clear F82
        refine wl_run (w' := w37) (wanted_yes rfl rfl rfl (F83.get (t := 54) rfl)) rfl F83 rfl (.bool false) (run_mv _ (.inl rfl) (F83.get (t := 11) rfl)) fun a84 F84 => ?_
        clear F83
        refine wl_run (w' := w37) (wanted_none rfl) rfl F84 rfl (.bool false) (run_pick_f rfl (F84.get (t := 54) rfl) (F84.get (t := 55) rfl)) fun a85 F85 => ?_
        clear F84
        refine wl_run (w' := w37) (wanted_none rfl) rfl F85 rfl (.bool false) (run_mv _ (.inl rfl) (F85.get (t := 56) rfl)) fun a86 F86 => ?_
        clear F85
        refine wl_run (w' := w37) (wanted_yes rfl rfl rfl (F86.get (t := 57) rfl)) rfl F86 rfl (.agg (groupA 0 0 0 0)) (y_ldN _ _ rfl (F86.get (t := 10) rfl) (M37.blk (k := 2) rfl) (groupA 0 0 0 0) (y_all rfl) Try.underlying28 rfl (by kernel_rfl)) fun a87 F87 => ?_
        clear F86
        refine wl_run (w' := w37) (wanted_yes rfl rfl rfl (F87.get (t := 57) rfl)) rfl F87 rfl (.agg (groupA 0 0 0 0)) (by unfold execOp; rw [groupA_zero]; kernel_rfl) fun a88 F88 => ?_
        clear F87
        refine wl_run (w' := w37) (wanted_yes rfl rfl rfl (F88.get (t := 57) rfl)) rfl F88 rfl (.bool false) (y_neA _ _ _ _ rfl (F88.get (t := 58) rfl) (F88.get (t := 59) rfl) (by kernel_rfl) (eq_group _ _ _ _ _)) fun a89 F89 => ?_
        clear F88
        refine wl_run (w' := w37) (wanted_none rfl) rfl F89 rfl (.bool false) (run_pick_f rfl (F89.get (t := 57) rfl) (F89.get (t := 60) rfl)) fun a90 F90 => ?_
        clear F89
        refine hK74 _ _ ?_
        refine wp_cond_false (F90.get (t := 61) rfl) ?_
        refine wp_skip ?_
        refine hK73 _ _ ?_
        refine wp_seq_k fun K91 hK91 => ?_
        refine region_fx F90 [StK.eq (.bool false), StK.eq (.bool true), StK.eq (.bool true), StK.eq undef, StK.eq undef, StK.eq undef, StK.eq undef, StK.eq undef, StK.eq undef, StK.eq undef, StK.eq undef, StK.eq undef, StK.eq undef, StK.eq undef, StK.eq undef, StK.eq undef, StK.eq undef, StK.eq undef, StK.eq undef, StK.eq undef, StK.eq undef, StK.eq undef, StK.eq undef, StK.eq undef, StK.eq undef, StK.eq undef, StK.eq undef, StK.eq undef, StK.eq undef, StK.eq undef, StK.eq (.bool true), StK.eq (.bool true)] 32 rfl (by kernel_rfl) ⟨?_, ?_, ?_, ?_, ?_, ?_, ?_, ?_, ?_, ?_, ?_, ?_, ?_, ?_, ?_, ?_, ?_, ?_, ?_, ?_, ?_, ?_, ?_, ?_, ?_, ?_, ?_, ?_, ?_, ?_, ?_, ?_, trivial⟩ ?_
        · intro a w hb hd
          have e7 : a.eval (.tmp 7) = .bool false := (show a.eval (.tmp 7) = _ from hd 7 (by decide)).trans (F90.get (t := 7) rfl)
          exact hop_runK (F := (StK.eq (.bool false)).F) (wanted_none rfl) (.bool false) (run_mv _ (.inl rfl) e7) rfl
        · intro a w hb hd
          have e62 : a.eval (.tmp 62) = .bool false := hd 62 (by decide)
          exact hop_runK (F := (StK.eq (.bool true)).F) (wanted_none rfl) (.bool true) (run_not _ _ rfl e62) rfl
        · intro a w hb hd
          have e63 : a.eval (.tmp 63) = .bool true := hd 63 (by decide)
          exact hop_runK (F := (StK.eq (.bool true)).F) (wanted_none rfl) (.bool true) (run_mv _ (.inl rfl) e63) rfl
        · intro a w hb hd
          have eg : a.eval (.tmp 64) = .bool true := hd 64 (by decide)
          exact hop_skipK (F := (StK.eq (undef)).F) rfl rfl rfl eg rfl
        · intro a w hb hd
          have eg : a.eval (.tmp 64) = .bool true := hd 64 (by decide)
          exact hop_skipK (F := (StK.eq (undef)).F) rfl rfl rfl eg rfl
        · intro a w hb hd
          have eg : a.eval (.tmp 64) = .bool true := hd 64 (by decide)
          exact hop_skipK (F := (StK.eq (undef)).F) rfl rfl rfl eg rfl
        · intro a w hb hd
          have eg : a.eval (.tmp 64) = .bool true := hd 64 (by decide)
          exact hop_skipK (F := (StK.eq (undef)).F) rfl rfl rfl eg rfl
        · intro a w hb hd
          have eg : a.eval (.tmp 64) = .bool true := hd 64 (by decide)
          exact hop_skipK (F := (StK.eq (undef)).F) rfl rfl rfl eg rfl
        · intro a w hb hd
          have eg : a.eval (.tmp 64) = .bool true := hd 64 (by decide)
          exact hop_skipK (F := (StK.eq (undef)).F) rfl rfl rfl eg rfl
        · intro a w hb hd
          have eg : a.eval (.tmp 64) = .bool true := hd 64 (by decide)
          exact hop_skipK (F := (StK.eq (undef)).F) rfl rfl rfl eg rfl
        · intro a w hb hd
          have eg : a.eval (.tmp 64) = .bool true := hd 64 (by decide)
          exact hop_skipK (F := (StK.eq (undef)).F) rfl rfl rfl eg rfl
        · intro a w hb hd
          have eg : a.eval (.tmp 64) = .bool true := hd 64 (by decide)
          exact hop_skipK (F := (StK.eq (undef)).F) rfl rfl rfl eg rfl
        · intro a w hb hd
          have eg : a.eval (.tmp 64) = .bool true := hd 64 (by decide)
          exact hop_skipK (F := (StK.eq (undef)).F) rfl rfl rfl eg rfl
        · intro a w hb hd
          have eg : a.eval (.tmp 74) = undef := hd 74 (by decide)
          exact y_skipU (F := (StK.eq (undef)).F) rfl rfl rfl eg rfl
        · intro a w hb hd
          have eg : a.eval (.tmp 74) = undef := hd 74 (by decide)
          exact y_skipU (F := (StK.eq (undef)).F) rfl rfl rfl eg rfl
        · intro a w hb hd
          have eg : a.eval (.tmp 74) = undef := hd 74 (by decide)
          exact y_skipU (F := (StK.eq (undef)).F) rfl rfl rfl eg rfl
        · intro a w hb hd
          have eg : a.eval (.tmp 74) = undef := hd 74 (by decide)
          exact y_skipU (F := (StK.eq (undef)).F) rfl rfl rfl eg rfl
        · intro a w hb hd
          have eg : a.eval (.tmp 64) = .bool true := hd 64 (by decide)
          exact hop_skipK (F := (StK.eq (undef)).F) rfl rfl rfl eg rfl
        · intro a w hb hd
          have eg : a.eval (.tmp 64) = .bool true := hd 64 (by decide)
          exact hop_skipK (F := (StK.eq (undef)).F) rfl rfl rfl eg rfl
        · intro a w hb hd
          have eg : a.eval (.tmp 80) = undef := hd 80 (by decide)
          exact y_skipU (F := (StK.eq (undef)).F) rfl rfl rfl eg rfl
        · intro a w hb hd
          have eg : a.eval (.tmp 80) = undef := hd 80 (by decide)
          exact y_skipU (F := (StK.eq (undef)).F) rfl rfl rfl eg rfl
        · intro a w hb hd
          have eg : a.eval (.tmp 80) = undef := hd 80 (by decide)
          exact y_skipU (F := (StK.eq (undef)).F) rfl rfl rfl eg rfl
        · intro a w hb hd
          have eg : a.eval (.tmp 80) = undef := hd 80 (by decide)
          exact y_skipU (F := (StK.eq (undef)).F) rfl rfl rfl eg rfl
        · intro a w hb hd
          have eg : a.eval (.tmp 64) = .bool true := hd 64 (by decide)
          exact hop_skipK (F := (StK.eq (undef)).F) rfl rfl rfl eg rfl
        · intro a w hb hd
          have eg : a.eval (.tmp 64) = .bool true := hd 64 (by decide)
          exact hop_skipK (F := (StK.eq (undef)).F) rfl rfl rfl eg rfl
        · intro a w hb hd
          have eg : a.eval (.tmp 86) = undef := hd 86 (by decide)
          exact y_skipU (F := (StK.eq (undef)).F) rfl rfl rfl eg rfl
        · intro a w hb hd
          have eg : a.eval (.tmp 86) = undef := hd 86 (by decide)
          exact y_skipU (F := (StK.eq (undef)).F) rfl rfl rfl eg rfl
        · intro a w hb hd
          have eg : a.eval (.tmp 86) = undef := hd 86 (by decide)
          exact y_skipU (F := (StK.eq (undef)).F) rfl rfl rfl eg rfl
        · intro a w hb hd
          have eg : a.eval (.tmp 86) = undef := hd 86 (by decide)
          exact y_skipU (F := (StK.eq (undef)).F) rfl rfl rfl eg rfl
        · intro a w hb hd
          have eg : a.eval (.tmp 64) = .bool true := hd 64 (by decide)
          exact hop_skipK (F := (StK.eq (undef)).F) rfl rfl rfl eg rfl
        · intro a w hb hd
          have e64 : a.eval (.tmp 64) = .bool true := hd 64 (by decide)
          have e91 : a.eval (.tmp 91) = undef := hd 91 (by decide)
          exact hop_runK (F := (StK.eq (.bool true)).F) (wanted_none rfl) (.bool true) (run_pick_t rfl e64 rfl) rfl
        · intro a w hb hd
          have e92 : a.eval (.tmp 92) = .bool true := hd 92 (by decide)
          exact hop_runK (F := (StK.eq (.bool true)).F) (wanted_none rfl) (.bool true) (run_mv _ (.inr rfl) e92) rfl
        intro p92 a92 w92 b92 G92 y92
        obtain ⟨q0, q1, q2, q3, q4, q5, q6, q7, q8, q9, q10, q11, q12, q13, q14, q15, q16, q17, q18, q19, q20, q21, q22, q23, q24, q25, q26, q27, q28, q29, q30, q31, -⟩ := y92
        have r0 : p92 0 = .bool false := q0 (by decide)
        have r1 : p92 1 = .bool true := q1 (by decide)
        have r2 : p92 2 = .bool true := q2 (by decide)
        have r3 : p92 3 = undef := q3 (by decide)
        have r4 : p92 4 = undef := q4 (by decide)
        have r5 : p92 5 = undef := q5 (by decide)
        have r6 : p92 6 = undef := q6 (by decide)
        have r7 : p92 7 = undef := q7 (by decide)
        have r8 : p92 8 = undef := q8 (by decide)
        have r9 : p92 9 = undef := q9 (by decide)
        have r10 : p92 10 = undef := q10 (by decide)
        have r11 : p92 11 = undef := q11 (by decide)
        have r12 : p92 12 = undef := q12 (by decide)
        have r13 : p92 13 = undef := q13 (by decide)
        have r14 : p92 14 = undef := q14 (by decide)
        have r15 : p92 15 = undef := q15 (by decide)
        have r16 : p92 16 = undef := q16 (by decide)
        have r17 : p92 17 = undef := q17 (by decide)
        have r18 : p92 18 = undef := q18 (by decide)
        have r19 : p92 19 = undef := q19 (by decide)
        have r20 : p92 20 = undef := q20 (by decide)
        have r21 : p92 21 = undef := q21 (by decide)
        have r22 : p92 22 = undef := q22 (by decide)
        have r23 : p92 23 = undef := q23 (by decide)
        have r24 : p92 24 = undef := q24 (by decide)
        have r25 : p92 25 = undef := q25 (by decide)
        have r26 : p92 26 = undef := q26 (by decide)
        have r27 : p92 27 = undef := q27 (by decide)
        have r28 : p92 28 = undef := q28 (by decide)
        have r29 : p92 29 = undef := q29 (by decide)
        have r30 : p92 30 = .bool true := q30 (by decide)
        have r31 : p92 31 = .bool true := q31 (by decide)
        simp only [List.take_succ_cons, List.take_zero, layV, Nat.zero_add, Nat.reduceAdd, r0, r1, r2, r3, r4, r5, r6, r7, r8, r9, r10, r11, r12, r13, r14, r15, r16, r17, r18, r19, r20, r21, r22, r23, r24, r25, r26, r27, r28, r29, r30, r31] at G92
        have M92 := M37.kc b92 M37.le
        clear F90 M37 r0 q0 r1 q1 r2 q2 r3 q3 r4 q4 r5 q5 r6 q6 r7 q7 r8 q8 r9 q9 r10 q10 r11 q11 r12 q12 r13 q13 r14 q14 r15 q15 r16 q16 r17 q17 r18 q18 r19 q19 r20 q20 r21 q21 r22 q22 r23 q23 r24 q24 r25 q25 r26 q26 r27 q27 r28 q28 r29 q29 r30 q30 r31 q31
        refine hK91 _ _ ?_
        refine wp_ret ?_
        try simp only [Exit.then, Exit.inBlock]
        exact bodyPost_ret (res1 rfl (G92.get (t := 4) rfl)) G92.defers ⟨rfl, M92.below⟩
    · refine calls_fx (args := [.int .i64 a0, .int .i64 a1]) 93 Try.func3 rfl rfl rfl ?_
      intro a F
      have M := Mx.start w.heap.size w rfl
      refine wp_seq_k fun K1 hK1 => ?_
      refine wp_region_lit ?_
      refine wl_run (w' := w) (wanted_none rfl) rfl F rfl (.bool false) (run_mv _ (.inr rfl) rfl) fun a2 F2 => ?_
      clear F
      refine hK1 _ _ ?_
      refine wp_seq_k fun K3 hK3 => ?_
      refine wp_seq_k fun K4 hK4 => ?_
      refine wp_region_lit ?_
      refine wl_call (wanted_none rfl) rfl F2 rfl rfl (enters_of Try.func13 (by kernel_rfl) rfl) #[] (args0) (call_ex (gknown_any w)) ?_
      rintro _ w5 a5 ⟨rfl, b5⟩ F5
      have M5 := M.step b5
      refine wl_run (w' := w5) (wanted_none rfl) rfl F5 rfl (.bool false) (run_not _ _ rfl (F5.get (t := 12) rfl)) fun a6 F6 => ?_
      clear F5
      refine hK4 _ _ ?_
      refine wp_cond_false (F6.get (t := 13) rfl) ?_
      refine wp_skip ?_
      refine hK3 _ _ ?_
      refine wp_seq_k fun K7 hK7 => ?_
      refine wp_region_lit ?_
      refine wl_run (w' := w5) (wanted_none rfl) rfl F6 rfl (.int .i64 a0) (run_mv _ (.inl rfl) (F6.get (t := 0) rfl)) fun a8 F8 => ?_
      clear F6
      refine wl_call (wanted_none rfl) rfl F8 rfl rfl (enters_of Try.func14 (by kernel_rfl) rfl) #[.int .i64 a0, .int .i64 18] (args2 (F8.get (t := 14) rfl) rfl) (call_ex (kwt w5)) ?_
      rintro _ w9 a9 ⟨rfl, rfl⟩ F9
      refine wl_run (w' := w5) (wanted_none rfl) rfl F9 rfl (.int .i64 kk) (y_addI _ _ _ _ rfl rfl (F9.get (t := 15) rfl) hk.out (by omega)) fun a10 F10 => ?_
      clear F9
      refine wl_run (w' := w5) (wanted_none rfl) rfl F10 rfl (.int .i64 kk) (run_mv _ (.inr rfl) (F10.get (t := 16) rfl)) fun a11 F11 => ?_
      clear F10
      refine hK7 _ _ ?_
      refine wp_seq_k fun K12 hK12 => ?_
      refine wp_region_lit ?_
      refine wl_run (w' := w5) (wanted_none rfl) rfl F11 rfl (.int .i64 kk) (run_mv _ (.inl rfl) (F11.get (t := 5) rfl)) fun a13 F13 => ?_
      clear F11
      refine wl_call (wanted_none rfl) rfl F13 rfl rfl (enters_of Try.func15 (by kernel_rfl) rfl) #[.int .i64 kk] (args1 (F13.get (t := 18) rfl)) (call_ex (k1 w5)) ?_
      rintro _ w14 a14 ⟨rfl, b14⟩ F14
      have M14 := M5.step b14
      refine wl_run (w' := w14) (wanted_none rfl) rfl F14 rfl (.tuple #[.agg (groupA kk pp qq gg), .bool true]) (run_mv _ (.inl rfl) (F14.get (t := 19) rfl)) fun a15 F15 => ?_
      clear F14
      refine wl_run (w' := w14) (wanted_none rfl) rfl F15 rfl (.agg (groupA kk pp qq gg)) (y_ext _ _ rfl (F15.get (t := 17) rfl) rfl) fun a16 F16 => ?_
      clear F15
      refine wl_run (w' := w14) (wanted_none rfl) rfl F16 rfl (.bool true) (y_ext _ _ rfl (F16.get (t := 17) rfl) rfl) fun a17 F17 => ?_
      clear F16
      refine wl_alloc (wanted_none rfl) rfl F17 rfl M14 0 (t := 28) (c := groupA 0 0 0 0) (by decide) (by unfold execOp; rw [groupA_zero]; kernel_rfl) ?_
      intro g18 a18 w18 F18 M18
      clear F17 M14
      refine wl_st (wanted_none rfl) rfl F18 M18 (k := 0) rfl (by decide) _ _ _ rfl (F18.get (t := 6) rfl) (F18.get (t := 20) rfl) (groupA kk pp qq gg) (groupA kk pp qq gg) rfl (Nat.le_of_ble_eq_true rfl) (groupA_cells _ _ _ _) (y_put0 rfl) (by kernel_rfl) ?_
      intro w19 M19
      clear M18
      refine wl_run (w' := w19) (wanted_none rfl) rfl F18 rfl (.bool true) (run_mv _ (.inr rfl) (F18.get (t := 21) rfl)) fun a20 F20 => ?_
      clear F18
      refine hK12 _ _ ?_
      refine wp_seq_k fun K21 hK21 => ?_
      refine wp_region_lit ?_
      refine wl_run (w' := w19) (wanted_none rfl) rfl F20 rfl (.int .i64 kk) (run_mv _ (.inl rfl) (F20.get (t := 5) rfl)) fun a22 F22 => ?_
      clear F20
      refine wl_call (wanted_none rfl) rfl F22 rfl rfl (enters_of Try.func16 (by kernel_rfl) rfl) #[.int .i64 kk] (args1 (F22.get (t := 23) rfl)) (call_ex (k2 w19)) ?_
      rintro _ w23 a23 ⟨rfl, b23⟩ F23
      have M23 := M19.step b23
      refine wl_run (w' := w23) (wanted_none rfl) rfl F23 rfl (.tuple #[.agg (groupA kk pp qq gg), .bool true]) (run_mv _ (.inl rfl) (F23.get (t := 24) rfl)) fun a24 F24 => ?_
      clear F23
      refine wl_run (w' := w23) (wanted_none rfl) rfl F24 rfl (.agg (groupA kk pp qq gg)) (y_ext _ _ rfl (F24.get (t := 22) rfl) rfl) fun a25 F25 => ?_
      clear F24
      refine wl_run (w' := w23) (wanted_none rfl) rfl F25 rfl (.bool true) (y_ext _ _ rfl (F25.get (t := 22) rfl) rfl) fun a26 F26 => ?_
      clear F25
      refine wl_alloc (wanted_none rfl) rfl F26 rfl M23 1 (t := 28) (c := groupA 0 0 0 0) (by decide) (by unfold execOp; rw [groupA_zero]; kernel_rfl) ?_
      intro g27 a27 w27 F27 M27
      clear F26 M23
      refine wl_st (wanted_none rfl) rfl F27 M27 (k := 1) rfl (by decide) _ _ _ rfl (F27.get (t := 8) rfl) (F27.get (t := 25) rfl) (groupA kk pp qq gg) (groupA kk pp qq gg) rfl (Nat.le_of_ble_eq_true rfl) (groupA_cells _ _ _ _) (y_put0 rfl) (by kernel_rfl) ?_
      intro w28 M28
      clear M27
      refine wl_run (w' := w28) (wanted_none rfl) rfl F27 rfl (.bool true) (run_mv _ (.inr rfl) (F27.get (t := 26) rfl)) fun a29 F29 => ?_
      clear F27
      refine hK21 _ _ ?_
      refine wp_seq_k fun K30 hK30 => ?_
      refine wp_region_lit ?_
      refine wl_run (w' := w28) (wanted_none rfl) rfl F29 rfl (.int .i64 a1) (run_mv _ (.inl rfl) (F29.get (t := 1) rfl)) fun a31 F31 => ?_
      clear F29
      refine wl_call (wanted_none rfl) rfl F31 rfl rfl (enters_of Try.func15 (by kernel_rfl) rfl) #[.int .i64 a1] (args1 (F31.get (t := 28) rfl)) (call_ex (gmake_no hk1 hl1 c w28)) ?_
      rintro _ w32 a32 ⟨rfl, b32⟩ F32
      have M32 := M28.step b32
      refine wl_run (w' := w32) (wanted_none rfl) rfl F32 rfl (.tuple #[.agg (groupA 0 0 0 0), .bool false]) (run_mv _ (.inl rfl) (F32.get (t := 29) rfl)) fun a33 F33 => ?_
      clear F32
      refine wl_run (w' := w32) (wanted_none rfl) rfl F33 rfl (.agg (groupA 0 0 0 0)) (y_ext _ _ rfl (F33.get (t := 27) rfl) rfl) fun a34 F34 => ?_
      clear F33
      refine wl_run (w' := w32) (wanted_none rfl) rfl F34 rfl (.bool false) (y_ext _ _ rfl (F34.get (t := 27) rfl) rfl) fun a35 F35 => ?_
      clear F34
      refine wl_alloc (wanted_none rfl) rfl F35 rfl M32 2 (t := 28) (c := groupA 0 0 0 0) (by decide) (by unfold execOp; rw [groupA_zero]; kernel_rfl) ?_
      intro g36 a36 w36 F36 M36
      clear F35 M32
      refine wl_st (wanted_none rfl) rfl F36 M36 (k := 2) rfl (by decide) _ _ _ rfl (F36.get (t := 10) rfl) (F36.get (t := 30) rfl) (groupA 0 0 0 0) (groupA 0 0 0 0) rfl (Nat.le_of_ble_eq_true rfl) (groupA_cells _ _ _ _) (y_put0 rfl) (by kernel_rfl) ?_
      intro w37 M37
      clear M36
      refine wl_run (w' := w37) (wanted_none rfl) rfl F36 rfl (.bool false) (run_mv _ (.inr rfl) (F36.get (t := 31) rfl)) fun a38 F38 => ?_
      clear F36
      refine hK30 _ _ ?_
      refine wp_seq_k fun K39 hK39 => ?_
      refine wp_seq_k fun K40 hK40 => ?_
      refine wp_region_lit ?_
      refine wl_run (w' := w37) (wanted_none rfl) rfl F38 rfl (.int .i64 a1) (run_mv _ (.inl rfl) (F38.get (t := 1) rfl)) fun a41 F41 => ?_
      clear F38
      by_cases h42 : 12 ≤ a1
      · refine wl_run (w' := w37) (wanted_none rfl) rfl F41 rfl (.bool true) (y_geq _ _ _ _ rfl (F41.get (t := 32) rfl) rfl (decide_eq_true h42)) fun a43 F43 => ?_
        clear F41
        refine wl_run (w' := w37) (wanted_none rfl) rfl F43 rfl (.bool true) (run_mv _ (.inl rfl) (F43.get (t := 33) rfl)) fun a44 F44 => ?_
        clear F43
        refine wl_run (w' := w37) (wanted_yes rfl rfl rfl (F44.get (t := 34) rfl)) rfl F44 rfl (.int .i64 a1) (run_mv _ (.inl rfl) (F44.get (t := 1) rfl)) fun a45 F45 => ?_
        clear F44
        refine wl_run (w' := w37) (wanted_yes rfl rfl rfl (F45.get (t := 34) rfl)) rfl F45 rfl (.bool false) (y_leq _ _ _ _ rfl (F45.get (t := 35) rfl) rfl (decide_eq_false (fun h => c ⟨by assumption, h⟩))) fun a46 F46 => ?_
        clear F45
        refine wl_run (w' := w37) (wanted_none rfl) rfl F46 rfl (.bool false) (run_pick_t rfl (F46.get (t := 34) rfl) (F46.get (t := 36) rfl)) fun a47 F47 => ?_
        clear F46
        refine hK40 _ _ ?_
        refine wp_cond_false (F47.get (t := 37) rfl) ?_
        refine wp_skip ?_
        refine hK39 _ _ ?_
        refine wp_seq_k fun K48 hK48 => ?_
        refine wp_seq_k fun K49 hK49 => ?_
        refine wp_region_lit ?_
        refine wl_run (w' := w37) (wanted_none rfl) rfl F47 rfl (.bool true) (run_mv _ (.inl rfl) (F47.get (t := 7) rfl)) fun a50 F50 => ?_
        clear F47
        refine wl_run (w' := w37) (wanted_none rfl) rfl F50 rfl (.bool true) (run_mv _ (.inl rfl) (F50.get (t := 9) rfl)) fun a51 F51 => ?_
        clear F50
        refine wl_run (w' := w37) (wanted_none rfl) rfl F51 rfl (.bool false) (y_neB _ _ rfl (F51.get (t := 46) rfl) (F51.get (t := 47) rfl) rfl) fun a52 F52 => ?_
        clear F51
        refine wl_run (w' := w37) (wanted_none rfl) rfl F52 rfl (.bool false) (run_mv _ (.inl rfl) (F52.get (t := 48) rfl)) fun a53 F53 => ?_
        clear F52
        refine wl_run (w' := w37) (wanted_yes rfl rfl rfl (F53.get (t := 49) rfl)) rfl F53 rfl (.agg (groupA kk pp qq gg)) (y_ldN _ _ rfl (F53.get (t := 6) rfl) (M37.blk (k := 0) rfl) (groupA kk pp qq gg) (y_all rfl) Try.underlying28 rfl (by kernel_rfl)) fun a54 F54 => ?_
        clear F53
        refine wl_run (w' := w37) (wanted_yes rfl rfl rfl (F54.get (t := 49) rfl)) rfl F54 rfl (.agg (groupA kk pp qq gg)) (y_ldN _ _ rfl (F54.get (t := 8) rfl) (M37.blk (k := 1) rfl) (groupA kk pp qq gg) (y_all rfl) Try.underlying28 rfl (by kernel_rfl)) fun a55 F55 => ?_
        clear F54
        refine wl_run (w' := w37) (wanted_yes rfl rfl rfl (F55.get (t := 49) rfl)) rfl F55 rfl (.bool false) (y_neA _ _ _ _ rfl (F55.get (t := 50) rfl) (F55.get (t := 51) rfl) (by kernel_rfl) (eq_group _ _ _ _ _)) fun a56 F56 => ?_
        clear F55
        refine wl_run (w' := w37) (wanted_none rfl) rfl F56 rfl (.bool false) (run_pick_f rfl (F56.get (t := 49) rfl) (F56.get (t := 52) rfl)) fun a57 F57 => ?_
        clear F56
        refine wl_run (w' := w37) (wanted_none rfl) rfl F57 rfl (.bool false) (run_mv _ (.inl rfl) (F57.get (t := 53) rfl)) fun a58 F58 => ?_
        clear F57
        refine wl_run (w' := w37) (wanted_yes rfl rfl rfl (F58.get (t := 54) rfl)) rfl F58 rfl (.bool false) (run_mv _ (.inl rfl) (F58.get (t := 11) rfl)) fun a59 F59 => ?_
        clear F58
        refine wl_run (w' := w37) (wanted_none rfl) rfl F59 rfl (.bool false) (run_pick_f rfl (F59.get (t := 54) rfl) (F59.get (t := 55) rfl)) fun a60 F60 => ?_
        clear F59
        refine wl_run (w' := w37) (wanted_none rfl) rfl F60 rfl (.bool false) (run_mv _ (.inl rfl) (F60.get (t := 56) rfl)) fun a61 F61 => ?_
        clear F60
        refine wl_run (w' := w37) (wanted_yes rfl rfl rfl (F61.get (t := 57) rfl)) rfl F61 rfl (.agg (groupA 0 0 0 0)) (y_ldN _ _ rfl (F61.get (t := 10) rfl) (M37.blk (k := 2) rfl) (groupA 0 0 0 0) (y_all rfl) Try.underlying28 rfl (by kernel_rfl)) fun a62 F62 => ?_
        clear F61
        refine wl_run (w' := w37) (wanted_yes rfl rfl rfl (F62.get (t := 57) rfl)) rfl F62 rfl (.agg (groupA 0 0 0 0)) (by unfold execOp; rw [groupA_zero]; kernel_rfl) fun a63 F63 => ?_
        clear F62
        refine wl_run (w' := w37) (wanted_yes rfl rfl rfl (F63.get (t := 57) rfl)) rfl F63 rfl (.bool false) (y_neA _ _ _ _ rfl (F63.get (t := 58) rfl) (F63.get (t := 59) rfl) (by kernel_rfl) (eq_group _ _ _ _ _)) fun a64 F64 => ?_
        clear F63
        refine wl_run (w' := w37) (wanted_none rfl) rfl F64 rfl (.bool false) (run_pick_f rfl (F64.get (t := 57) rfl) (F64.get (t := 60) rfl)) fun a65 F65 => ?_
        clear F64
        refine hK49 _ _ ?_
        refine wp_cond_false (F65.get (t := 61) rfl) ?_
        refine wp_skip ?_
        refine hK48 _ _ ?_
        refine wp_seq_k fun K66 hK66 => ?_
        refine region_fx F65 [StK.eq (.bool true), StK.eq (.bool false), StK.eq (.bool false), StK.eq (.pointer (some ⟨g18, 9, none⟩)), StK.eq (numV qq), StK.eq (.int .i64 (qq : Int)), StK.eq (.int .i64 (2 * (qq : Int))), StK.eq (.int .i64 ((2 * (qq : Int)) + 1)), StK.eq (.pointer (some ⟨g18, 1, none⟩)), StK.eq (numV pp), StK.eq (.int .i64 (pp : Int)), StK.eq (.bool true), StK.eq (.bool true), StK.eq (.pointer (some ⟨g18, 1, none⟩)), StK.eq (numV pp), StK.eq (.int .i64 (pp : Int)), StK.eq (.bool true), StK.eq (.bool true), StK.eq (.bool true), StK.eq (.pointer (some ⟨g18, 9, none⟩)), StK.eq (numV qq), StK.eq (.int .i64 (qq : Int)), StK.eq (.bool true), StK.eq (.bool true), StK.eq (.bool true), StK.eq (.pointer (some ⟨g18, 0, none⟩)), StK.eq (.int .i64 kk), StK.eq (.int .i64 kk), StK.eq (.bool true), StK.eq (.bool true), StK.eq (.bool true), StK.eq (.bool true)] 32 rfl (by kernel_rfl) ⟨?_, ?_, ?_, ?_, ?_, ?_, ?_, ?_, ?_, ?_, ?_, ?_, ?_, ?_, ?_, ?_, ?_, ?_, ?_, ?_, ?_, ?_, ?_, ?_, ?_, ?_, ?_, ?_, ?_, ?_, ?_, ?_, trivial⟩ ?_
        · intro a w hb hd
          have e7 : a.eval (.tmp 7) = .bool true := (show a.eval (.tmp 7) = _ from hd 7 (by decide)).trans (F65.get (t := 7) rfl)
          exact hop_runK (F := (StK.eq (.bool true)).F) (wanted_none rfl) (.bool true) (run_mv _ (.inl rfl) e7) rfl
        · intro a w hb hd
          have e62 : a.eval (.tmp 62) = .bool true := hd 62 (by decide)
          exact hop_runK (F := (StK.eq (.bool false)).F) (wanted_none rfl) (.bool false) (run_not _ _ rfl e62) rfl
        · intro a w hb hd
          have e63 : a.eval (.tmp 63) = .bool false := hd 63 (by decide)
          exact hop_runK (F := (StK.eq (.bool false)).F) (wanted_none rfl) (.bool false) (run_mv _ (.inl rfl) e63) rfl
        · intro a w hb hd
          have eg : a.eval (.tmp 64) = .bool false := hd 64 (by decide)
          have e6 : a.eval (.tmp 6) = .pointer (some ⟨g18, 0, none⟩) := (show a.eval (.tmp 6) = _ from hd 6 (by decide)).trans (F65.get (t := 6) rfl)
          exact hop_runK (F := (StK.eq (.pointer (some ⟨g18, 9, none⟩))).F) (wanted_yes rfl rfl rfl eg) (.pointer (some ⟨g18, 9, none⟩)) (by unfold execOp; simp only [e6]; kernel_rfl) rfl
        · intro a w hb hd
          have eg : a.eval (.tmp 64) = .bool false := hd 64 (by decide)
          have e65 : a.eval (.tmp 65) = .pointer (some ⟨g18, 9, none⟩) := hd 65 (by decide)
          exact hop_runK (F := (StK.eq (numV qq)).F) (wanted_yes rfl rfl rfl eg) (numV qq) (y_ldN _ _ rfl e65 ((M37.step hb).blk (k := 0) rfl) (numA qq) groupA_q Try.underlying26 rfl size26) rfl
        · intro a w hb hd
          have eg : a.eval (.tmp 64) = .bool false := hd 64 (by decide)
          have e66 : a.eval (.tmp 66) = numV qq := hd 66 (by decide)
          exact hop_callK (F := (StK.eq (.int .i64 (qq : Int))).F) (wanted_yes rfl rfl rfl eg) hb.size rfl #[numV qq] (args1 e66) (enters_of Try.func17 (by kernel_rfl) rfl) (call_eqS (rsmall_any qq z2 w))
        · intro a w hb hd
          have eg : a.eval (.tmp 64) = .bool false := hd 64 (by decide)
          have e67 : a.eval (.tmp 67) = .int .i64 (qq : Int) := hd 67 (by decide)
          exact hop_runK (F := (StK.eq (.int .i64 (2 * (qq : Int)))).F) (wanted_yes rfl rfl rfl eg) (.int .i64 (2 * (qq : Int))) (y_mulI _ _ _ _ rfl rfl e67 rfl (by omega)) rfl
        · intro a w hb hd
          have eg : a.eval (.tmp 64) = .bool false := hd 64 (by decide)
          have e68 : a.eval (.tmp 68) = .int .i64 (2 * (qq : Int)) := hd 68 (by decide)
          exact hop_runK (F := (StK.eq (.int .i64 ((2 * (qq : Int)) + 1))).F) (wanted_yes rfl rfl rfl eg) (.int .i64 ((2 * (qq : Int)) + 1)) (y_addI _ _ _ _ rfl e68 rfl rfl (by omega)) rfl
        · intro a w hb hd
          have eg : a.eval (.tmp 64) = .bool false := hd 64 (by decide)
          have e6 : a.eval (.tmp 6) = .pointer (some ⟨g18, 0, none⟩) := (show a.eval (.tmp 6) = _ from hd 6 (by decide)).trans (F65.get (t := 6) rfl)
          exact hop_runK (F := (StK.eq (.pointer (some ⟨g18, 1, none⟩))).F) (wanted_yes rfl rfl rfl eg) (.pointer (some ⟨g18, 1, none⟩)) (by unfold execOp; simp only [e6]; kernel_rfl) rfl
        · intro a w hb hd
          have eg : a.eval (.tmp 64) = .bool false := hd 64 (by decide)
          have e70 : a.eval (.tmp 70) = .pointer (some ⟨g18, 1, none⟩) := hd 70 (by decide)
          exact hop_runK (F := (StK.eq (numV pp)).F) (wanted_yes rfl rfl rfl eg) (numV pp) (y_ldN _ _ rfl e70 ((M37.step hb).blk (k := 0) rfl) (numA pp) groupA_p Try.underlying26 rfl size26) rfl
        · intro a w hb hd
          have eg : a.eval (.tmp 64) = .bool false := hd 64 (by decide)
          have e71 : a.eval (.tmp 71) = numV pp := hd 71 (by decide)
          exact hop_callK (F := (StK.eq (.int .i64 (pp : Int))).F) (wanted_yes rfl rfl rfl eg) hb.size rfl #[numV pp] (args1 e71) (enters_of Try.func17 (by kernel_rfl) rfl) (call_eqS (rsmall_any pp z1 w))
        · intro a w hb hd
          have eg : a.eval (.tmp 64) = .bool false := hd 64 (by decide)
          have e69 : a.eval (.tmp 69) = .int .i64 ((2 * (qq : Int)) + 1) := hd 69 (by decide)
          have e72 : a.eval (.tmp 72) = .int .i64 (pp : Int) := hd 72 (by decide)
          exact hop_runK (F := (StK.eq (.bool true)).F) (wanted_yes rfl rfl rfl eg) (.bool true) (y_eqI _ _ _ _ rfl e69 e72 Try.underlying3 (y_beqT z3)) rfl
        · intro a w hb hd
          have eg : a.eval (.tmp 64) = .bool false := hd 64 (by decide)
          have e73 : a.eval (.tmp 73) = .bool true := hd 73 (by decide)
          exact hop_runK (F := (StK.eq (.bool true)).F) (wanted_yes rfl rfl rfl eg) (.bool true) (run_mv _ (.inl rfl) e73) rfl
        · intro a w hb hd
          have eg : a.eval (.tmp 74) = .bool true := hd 74 (by decide)
          have e6 : a.eval (.tmp 6) = .pointer (some ⟨g18, 0, none⟩) := (show a.eval (.tmp 6) = _ from hd 6 (by decide)).trans (F65.get (t := 6) rfl)
          exact hop_runK (F := (StK.eq (.pointer (some ⟨g18, 1, none⟩))).F) (wanted_yes rfl rfl rfl eg) (.pointer (some ⟨g18, 1, none⟩)) (by unfold execOp; simp only [e6]; kernel_rfl) rfl
        · intro a w hb hd
          have eg : a.eval (.tmp 74) = .bool true := hd 74 (by decide)
          have e75 : a.eval (.tmp 75) = .pointer (some ⟨g18, 1, none⟩) := hd 75 (by decide)
          exact hop_runK (F := (StK.eq (numV pp)).F) (wanted_yes rfl rfl rfl eg) (numV pp) (y_ldN _ _ rfl e75 ((M37.step hb).blk (k := 0) rfl) (numA pp) groupA_p Try.underlying26 rfl size26) rfl
        · intro a w hb hd
          have eg : a.eval (.tmp 74) = .bool true := hd 74 (by decide)
          have e76 : a.eval (.tmp 76) = numV pp := hd 76 (by decide)
          exact hop_callK (F := (StK.eq (.int .i64 (pp : Int))).F) (wanted_yes rfl rfl rfl eg) hb.size rfl #[numV pp] (args1 e76) (enters_of Try.func17 (by kernel_rfl) rfl) (call_eqS (rsmall_any pp z1 w))
        · intro a w hb hd
          have eg : a.eval (.tmp 74) = .bool true := hd 74 (by decide)
          have e77 : a.eval (.tmp 77) = .int .i64 (pp : Int) := hd 77 (by decide)
          exact hop_callK (F := (StK.eq (.bool true)).F) (wanted_yes rfl rfl rfl eg) hb.size rfl #[.int .i64 (pp : Int)] (args1 e77) (enters_of Try.func18 (by kernel_rfl) rfl) (call_eqS ((same_eq (z4 w))))
        · intro a w hb hd
          have eg : a.eval (.tmp 64) = .bool false := hd 64 (by decide)
          have e74 : a.eval (.tmp 74) = .bool true := hd 74 (by decide)
          have e78 : a.eval (.tmp 78) = .bool true := hd 78 (by decide)
          exact hop_runK (F := (StK.eq (.bool true)).F) (wanted_yes rfl rfl rfl eg) (.bool true) (run_pick_t rfl e74 e78) rfl
        · intro a w hb hd
          have eg : a.eval (.tmp 64) = .bool false := hd 64 (by decide)
          have e79 : a.eval (.tmp 79) = .bool true := hd 79 (by decide)
          exact hop_runK (F := (StK.eq (.bool true)).F) (wanted_yes rfl rfl rfl eg) (.bool true) (run_mv _ (.inl rfl) e79) rfl
        · intro a w hb hd
          have eg : a.eval (.tmp 80) = .bool true := hd 80 (by decide)
          have e6 : a.eval (.tmp 6) = .pointer (some ⟨g18, 0, none⟩) := (show a.eval (.tmp 6) = _ from hd 6 (by decide)).trans (F65.get (t := 6) rfl)
          exact hop_runK (F := (StK.eq (.pointer (some ⟨g18, 9, none⟩))).F) (wanted_yes rfl rfl rfl eg) (.pointer (some ⟨g18, 9, none⟩)) (by unfold execOp; simp only [e6]; kernel_rfl) rfl
        · intro a w hb hd
          have eg : a.eval (.tmp 80) = .bool true := hd 80 (by decide)
          have e81 : a.eval (.tmp 81) = .pointer (some ⟨g18, 9, none⟩) := hd 81 (by decide)
          exact hop_runK (F := (StK.eq (numV qq)).F) (wanted_yes rfl rfl rfl eg) (numV qq) (y_ldN _ _ rfl e81 ((M37.step hb).blk (k := 0) rfl) (numA qq) groupA_q Try.underlying26 rfl size26) rfl
        · intro a w hb hd
          have eg : a.eval (.tmp 80) = .bool true := hd 80 (by decide)
          have e82 : a.eval (.tmp 82) = numV qq := hd 82 (by decide)
          exact hop_callK (F := (StK.eq (.int .i64 (qq : Int))).F) (wanted_yes rfl rfl rfl eg) hb.size rfl #[numV qq] (args1 e82) (enters_of Try.func17 (by kernel_rfl) rfl) (call_eqS (rsmall_any qq z2 w))
        · intro a w hb hd
          have eg : a.eval (.tmp 80) = .bool true := hd 80 (by decide)
          have e83 : a.eval (.tmp 83) = .int .i64 (qq : Int) := hd 83 (by decide)
          exact hop_callK (F := (StK.eq (.bool true)).F) (wanted_yes rfl rfl rfl eg) hb.size rfl #[.int .i64 (qq : Int)] (args1 e83) (enters_of Try.func18 (by kernel_rfl) rfl) (call_eqS ((same_eq (z5 w))))
        · intro a w hb hd
          have eg : a.eval (.tmp 64) = .bool false := hd 64 (by decide)
          have e80 : a.eval (.tmp 80) = .bool true := hd 80 (by decide)
          have e84 : a.eval (.tmp 84) = .bool true := hd 84 (by decide)
          exact hop_runK (F := (StK.eq (.bool true)).F) (wanted_yes rfl rfl rfl eg) (.bool true) (run_pick_t rfl e80 e84) rfl
        · intro a w hb hd
          have eg : a.eval (.tmp 64) = .bool false := hd 64 (by decide)
          have e85 : a.eval (.tmp 85) = .bool true := hd 85 (by decide)
          exact hop_runK (F := (StK.eq (.bool true)).F) (wanted_yes rfl rfl rfl eg) (.bool true) (run_mv _ (.inl rfl) e85) rfl
        · intro a w hb hd
          have eg : a.eval (.tmp 86) = .bool true := hd 86 (by decide)
          have e6 : a.eval (.tmp 6) = .pointer (some ⟨g18, 0, none⟩) := (show a.eval (.tmp 6) = _ from hd 6 (by decide)).trans (F65.get (t := 6) rfl)
          exact hop_runK (F := (StK.eq (.pointer (some ⟨g18, 0, none⟩))).F) (wanted_yes rfl rfl rfl eg) (.pointer (some ⟨g18, 0, none⟩)) (by unfold execOp; simp only [e6]; kernel_rfl) rfl
        · intro a w hb hd
          have eg : a.eval (.tmp 86) = .bool true := hd 86 (by decide)
          have e87 : a.eval (.tmp 87) = .pointer (some ⟨g18, 0, none⟩) := hd 87 (by decide)
          exact hop_runK (F := (StK.eq (.int .i64 kk)).F) (wanted_yes rfl rfl rfl eg) (.int .i64 kk) (y_ld1 _ _ rfl e87 ((M37.step hb).blk (k := 0) rfl) rfl Try.underlying3 rfl) rfl
        · intro a w hb hd
          have eg : a.eval (.tmp 86) = .bool true := hd 86 (by decide)
          have e5 : a.eval (.tmp 5) = .int .i64 kk := (show a.eval (.tmp 5) = _ from hd 5 (by decide)).trans (F65.get (t := 5) rfl)
          exact hop_runK (F := (StK.eq (.int .i64 kk)).F) (wanted_yes rfl rfl rfl eg) (.int .i64 kk) (run_mv _ (.inl rfl) e5) rfl
        · intro a w hb hd
          have eg : a.eval (.tmp 86) = .bool true := hd 86 (by decide)
          have e88 : a.eval (.tmp 88) = .int .i64 kk := hd 88 (by decide)
          have e89 : a.eval (.tmp 89) = .int .i64 kk := hd 89 (by decide)
          exact hop_runK (F := (StK.eq (.bool true)).F) (wanted_yes rfl rfl rfl eg) (.bool true) (y_eqI _ _ _ _ rfl e88 e89 Try.underlying3 (y_beqT rfl)) rfl
        · intro a w hb hd
          have eg : a.eval (.tmp 64) = .bool false := hd 64 (by decide)
          have e86 : a.eval (.tmp 86) = .bool true := hd 86 (by decide)
          have e90 : a.eval (.tmp 90) = .bool true := hd 90 (by decide)
          exact hop_runK (F := (StK.eq (.bool true)).F) (wanted_yes rfl rfl rfl eg) (.bool true) (run_pick_t rfl e86 e90) rfl
        · intro a w hb hd
          have e64 : a.eval (.tmp 64) = .bool false := hd 64 (by decide)
          have e91 : a.eval (.tmp 91) = .bool true := hd 91 (by decide)
          exact hop_runK (F := (StK.eq (.bool true)).F) (wanted_none rfl) (.bool true) (run_pick_f rfl e64 e91) rfl
        · intro a w hb hd
          have e92 : a.eval (.tmp 92) = .bool true := hd 92 (by decide)
          exact hop_runK (F := (StK.eq (.bool true)).F) (wanted_none rfl) (.bool true) (run_mv _ (.inr rfl) e92) rfl
        intro p67 a67 w67 b67 G67 y67
        obtain ⟨q0, q1, q2, q3, q4, q5, q6, q7, q8, q9, q10, q11, q12, q13, q14, q15, q16, q17, q18, q19, q20, q21, q22, q23, q24, q25, q26, q27, q28, q29, q30, q31, -⟩ := y67
        have r0 : p67 0 = .bool true := q0 (by decide)
        have r1 : p67 1 = .bool false := q1 (by decide)
        have r2 : p67 2 = .bool false := q2 (by decide)
        have r3 : p67 3 = .pointer (some ⟨g18, 9, none⟩) := q3 (by decide)
        have r4 : p67 4 = numV qq := q4 (by decide)
        have r5 : p67 5 = .int .i64 (qq : Int) := q5 (by decide)
        have r6 : p67 6 = .int .i64 (2 * (qq : Int)) := q6 (by decide)
        have r7 : p67 7 = .int .i64 ((2 * (qq : Int)) + 1) := q7 (by decide)
        have r8 : p67 8 = .pointer (some ⟨g18, 1, none⟩) := q8 (by decide)
        have r9 : p67 9 = numV pp := q9 (by decide)
        have r10 : p67 10 = .int .i64 (pp : Int) := q10 (by decide)
        have r11 : p67 11 = .bool true := q11 (by decide)
        have r12 : p67 12 = .bool true := q12 (by decide)
        have r13 : p67 13 = .pointer (some ⟨g18, 1, none⟩) := q13 (by decide)
        have r14 : p67 14 = numV pp := q14 (by decide)
        have r15 : p67 15 = .int .i64 (pp : Int) := q15 (by decide)
        have r16 : p67 16 = .bool true := q16 (by decide)
        have r17 : p67 17 = .bool true := q17 (by decide)
        have r18 : p67 18 = .bool true := q18 (by decide)
        have r19 : p67 19 = .pointer (some ⟨g18, 9, none⟩) := q19 (by decide)
        have r20 : p67 20 = numV qq := q20 (by decide)
        have r21 : p67 21 = .int .i64 (qq : Int) := q21 (by decide)
        have r22 : p67 22 = .bool true := q22 (by decide)
        have r23 : p67 23 = .bool true := q23 (by decide)
        have r24 : p67 24 = .bool true := q24 (by decide)
        have r25 : p67 25 = .pointer (some ⟨g18, 0, none⟩) := q25 (by decide)
        have r26 : p67 26 = .int .i64 kk := q26 (by decide)
        have r27 : p67 27 = .int .i64 kk := q27 (by decide)
        have r28 : p67 28 = .bool true := q28 (by decide)
        have r29 : p67 29 = .bool true := q29 (by decide)
        have r30 : p67 30 = .bool true := q30 (by decide)
        have r31 : p67 31 = .bool true := q31 (by decide)
        simp only [List.take_succ_cons, List.take_zero, layV, Nat.zero_add, Nat.reduceAdd, r0, r1, r2, r3, r4, r5, r6, r7, r8, r9, r10, r11, r12, r13, r14, r15, r16, r17, r18, r19, r20, r21, r22, r23, r24, r25, r26, r27, r28, r29, r30, r31] at G67
        have M67 := M37.kc b67 M37.le
        clear F65 M37 r0 q0 r1 q1 r2 q2 r3 q3 r4 q4 r5 q5 r6 q6 r7 q7 r8 q8 r9 q9 r10 q10 r11 q11 r12 q12 r13 q13 r14 q14 r15 q15 r16 q16 r17 q17 r18 q18 r19 q19 r20 q20 r21 q21 r22 q22 r23 q23 r24 q24 r25 q25 r26 q26 r27 q27 r28 q28 r29 q29 r30 q30 r31 q31
        refine hK66 _ _ ?_
        refine wp_ret ?_
        try simp only [Exit.then, Exit.inBlock]
        exact bodyPost_ret (res1 rfl (G67.get (t := 4) rfl)) G67.defers ⟨rfl, M67.below⟩
      · refine wl_run (w' := w37) (wanted_none rfl) rfl F41 rfl (.bool false) (y_geq _ _ _ _ rfl (F41.get (t := 32) rfl) rfl (decide_eq_false h42)) fun a68 F68 => ?_
        clear F41
        refine wl_run (w' := w37) (wanted_none rfl) rfl F68 rfl (.bool false) (run_mv _ (.inl rfl) (F68.get (t := 33) rfl)) fun a69 F69 => ?_
        clear F68
        refine wl_skip (wanted_no rfl rfl rfl (F69.get (t := 34) rfl)) rfl F69 rfl fun a70 F70 => ?_
        clear F69
        refine wl_skip (wanted_no rfl rfl rfl (F70.get (t := 34) rfl)) rfl F70 rfl fun a71 F71 => ?_
        clear F70
        refine wl_run (w' := w37) (wanted_none rfl) rfl F71 rfl (.bool false) (run_pick_f rfl (F71.get (t := 34) rfl) rfl) fun a72 F72 => ?_
        clear F71
        refine hK40 _ _ ?_
        refine wp_cond_false (F72.get (t := 37) rfl) ?_
        refine wp_skip ?_
        refine hK39 _ _ ?_
        refine wp_seq_k fun K73 hK73 => ?_
        refine wp_seq_k fun K74 hK74 => ?_
        refine wp_region_lit ?_
        refine wl_run (w' := w37) (wanted_none rfl) rfl F72 rfl (.bool true) (run_mv _ (.inl rfl) (F72.get (t := 7) rfl)) fun a75 F75 => ?_
        clear F72
        refine wl_run (w' := w37) (wanted_none rfl) rfl F75 rfl (.bool true) (run_mv _ (.inl rfl) (F75.get (t := 9) rfl)) fun a76 F76 => ?_
        clear F75
        refine wl_run (w' := w37) (wanted_none rfl) rfl F76 rfl (.bool false) (y_neB _ _ rfl (F76.get (t := 46) rfl) (F76.get (t := 47) rfl) rfl) fun a77 F77 => ?_
        clear F76
        refine wl_run (w' := w37) (wanted_none rfl) rfl F77 rfl (.bool false) (run_mv _ (.inl rfl) (F77.get (t := 48) rfl)) fun a78 F78 => ?_
        clear F77
        refine wl_run (w' := w37) (wanted_yes rfl rfl rfl (F78.get (t := 49) rfl)) rfl F78 rfl (.agg (groupA kk pp qq gg)) (y_ldN _ _ rfl (F78.get (t := 6) rfl) (M37.blk (k := 0) rfl) (groupA kk pp qq gg) (y_all rfl) Try.underlying28 rfl (by kernel_rfl)) fun a79 F79 => ?_
        clear F78
        refine wl_run (w' := w37) (wanted_yes rfl rfl rfl (F79.get (t := 49) rfl)) rfl F79 rfl (.agg (groupA kk pp qq gg)) (y_ldN _ _ rfl (F79.get (t := 8) rfl) (M37.blk (k := 1) rfl) (groupA kk pp qq gg) (y_all rfl) Try.underlying28 rfl (by kernel_rfl)) fun a80 F80 => ?_
        clear F79
        refine wl_run (w' := w37) (wanted_yes rfl rfl rfl (F80.get (t := 49) rfl)) rfl F80 rfl (.bool false) (y_neA _ _ _ _ rfl (F80.get (t := 50) rfl) (F80.get (t := 51) rfl) (by kernel_rfl) (eq_group _ _ _ _ _)) fun a81 F81 => ?_
        clear F80
        refine wl_run (w' := w37) (wanted_none rfl) rfl F81 rfl (.bool false) (run_pick_f rfl (F81.get (t := 49) rfl) (F81.get (t := 52) rfl)) fun a82 F82 => ?_
        clear F81
        refine wl_run (w' := w37) (wanted_none rfl) rfl F82 rfl (.bool false) (run_mv _ (.inl rfl) (F82.get (t := 53) rfl)) fun a83 F83 => ?_
        clear F82
        refine wl_run (w' := w37) (wanted_yes rfl rfl rfl (F83.get (t := 54) rfl)) rfl F83 rfl (.bool false) (run_mv _ (.inl rfl) (F83.get (t := 11) rfl)) fun a84 F84 => ?_
        clear F83
        refine wl_run (w' := w37) (wanted_none rfl) rfl F84 rfl (.bool false) (run_pick_f rfl (F84.get (t := 54) rfl) (F84.get (t := 55) rfl)) fun a85 F85 => ?_
        clear F84
        refine wl_run (w' := w37) (wanted_none rfl) rfl F85 rfl (.bool false) (run_mv _ (.inl rfl) (F85.get (t := 56) rfl)) fun a86 F86 => ?_
        clear F85
        refine wl_run (w' := w37) (wanted_yes rfl rfl rfl (F86.get (t := 57) rfl)) rfl F86 rfl (.agg (groupA 0 0 0 0)) (y_ldN _ _ rfl (F86.get (t := 10) rfl) (M37.blk (k := 2) rfl) (groupA 0 0 0 0) (y_all rfl) Try.underlying28 rfl (by kernel_rfl)) fun a87 F87 => ?_
        clear F86
        refine wl_run (w' := w37) (wanted_yes rfl rfl rfl (F87.get (t := 57) rfl)) rfl F87 rfl (.agg (groupA 0 0 0 0)) (by unfold execOp; rw [groupA_zero]; kernel_rfl) fun a88 F88 => ?_
        clear F87
        refine wl_run (w' := w37) (wanted_yes rfl rfl rfl (F88.get (t := 57) rfl)) rfl F88 rfl (.bool false) (y_neA _ _ _ _ rfl (F88.get (t := 58) rfl) (F88.get (t := 59) rfl) (by kernel_rfl) (eq_group _ _ _ _ _)) fun a89 F89 => ?_
        clear F88
        refine wl_run (w' := w37) (wanted_none rfl) rfl F89 rfl (.bool false) (run_pick_f rfl (F89.get (t := 57) rfl) (F89.get (t := 60) rfl)) fun a90 F90 => ?_
        clear F89
        refine hK74 _ _ ?_
        refine wp_cond_false (F90.get (t := 61) rfl) ?_
        refine wp_skip ?_
        refine hK73 _ _ ?_
        refine wp_seq_k fun K91 hK91 => ?_
        refine region_fx F90 [StK.eq (.bool true), StK.eq (.bool false), StK.eq (.bool false), StK.eq (.pointer (some ⟨g18, 9, none⟩)), StK.eq (numV qq), StK.eq (.int .i64 (qq : Int)), StK.eq (.int .i64 (2 * (qq : Int))), StK.eq (.int .i64 ((2 * (qq : Int)) + 1)), StK.eq (.pointer (some ⟨g18, 1, none⟩)), StK.eq (numV pp), StK.eq (.int .i64 (pp : Int)), StK.eq (.bool true), StK.eq (.bool true), StK.eq (.pointer (some ⟨g18, 1, none⟩)), StK.eq (numV pp), StK.eq (.int .i64 (pp : Int)), StK.eq (.bool true), StK.eq (.bool true), StK.eq (.bool true), StK.eq (.pointer (some ⟨g18, 9, none⟩)), StK.eq (numV qq), StK.eq (.int .i64 (qq : Int)), StK.eq (.bool true), StK.eq (.bool true), StK.eq (.bool true), StK.eq (.pointer (some ⟨g18, 0, none⟩)), StK.eq (.int .i64 kk), StK.eq (.int .i64 kk), StK.eq (.bool true), StK.eq (.bool true), StK.eq (.bool true), StK.eq (.bool true)] 32 rfl (by kernel_rfl) ⟨?_, ?_, ?_, ?_, ?_, ?_, ?_, ?_, ?_, ?_, ?_, ?_, ?_, ?_, ?_, ?_, ?_, ?_, ?_, ?_, ?_, ?_, ?_, ?_, ?_, ?_, ?_, ?_, ?_, ?_, ?_, ?_, trivial⟩ ?_
        · intro a w hb hd
          have e7 : a.eval (.tmp 7) = .bool true := (show a.eval (.tmp 7) = _ from hd 7 (by decide)).trans (F90.get (t := 7) rfl)
          exact hop_runK (F := (StK.eq (.bool true)).F) (wanted_none rfl) (.bool true) (run_mv _ (.inl rfl) e7) rfl
        · intro a w hb hd
          have e62 : a.eval (.tmp 62) = .bool true := hd 62 (by decide)
          exact hop_runK (F := (StK.eq (.bool false)).F) (wanted_none rfl) (.bool false) (run_not _ _ rfl e62) rfl
        · intro a w hb hd
          have e63 : a.eval (.tmp 63) = .bool false := hd 63 (by decide)
          exact hop_runK (F := (StK.eq (.bool false)).F) (wanted_none rfl) (.bool false) (run_mv _ (.inl rfl) e63) rfl
        · intro a w hb hd
          have eg : a.eval (.tmp 64) = .bool false := hd 64 (by decide)
          have e6 : a.eval (.tmp 6) = .pointer (some ⟨g18, 0, none⟩) := (show a.eval (.tmp 6) = _ from hd 6 (by decide)).trans (F90.get (t := 6) rfl)
          exact hop_runK (F := (StK.eq (.pointer (some ⟨g18, 9, none⟩))).F) (wanted_yes rfl rfl rfl eg) (.pointer (some ⟨g18, 9, none⟩)) (by unfold execOp; simp only [e6]; kernel_rfl) rfl
        · intro a w hb hd
          have eg : a.eval (.tmp 64) = .bool false := hd 64 (by decide)
          have e65 : a.eval (.tmp 65) = .pointer (some ⟨g18, 9, none⟩) := hd 65 (by decide)
          exact hop_runK (F := (StK.eq (numV qq)).F) (wanted_yes rfl rfl rfl eg) (numV qq) (y_ldN _ _ rfl e65 ((M37.step hb).blk (k := 0) rfl) (numA qq) groupA_q Try.underlying26 rfl size26) rfl
        · intro a w hb hd
          have eg : a.eval (.tmp 64) = .bool false := hd 64 (by decide)
          have e66 : a.eval (.tmp 66) = numV qq := hd 66 (by decide)
          exact hop_callK (F := (StK.eq (.int .i64 (qq : Int))).F) (wanted_yes rfl rfl rfl eg) hb.size rfl #[numV qq] (args1 e66) (enters_of Try.func17 (by kernel_rfl) rfl) (call_eqS (rsmall_any qq z2 w))
        · intro a w hb hd
          have eg : a.eval (.tmp 64) = .bool false := hd 64 (by decide)
          have e67 : a.eval (.tmp 67) = .int .i64 (qq : Int) := hd 67 (by decide)
          exact hop_runK (F := (StK.eq (.int .i64 (2 * (qq : Int)))).F) (wanted_yes rfl rfl rfl eg) (.int .i64 (2 * (qq : Int))) (y_mulI _ _ _ _ rfl rfl e67 rfl (by omega)) rfl
        · intro a w hb hd
          have eg : a.eval (.tmp 64) = .bool false := hd 64 (by decide)
          have e68 : a.eval (.tmp 68) = .int .i64 (2 * (qq : Int)) := hd 68 (by decide)
          exact hop_runK (F := (StK.eq (.int .i64 ((2 * (qq : Int)) + 1))).F) (wanted_yes rfl rfl rfl eg) (.int .i64 ((2 * (qq : Int)) + 1)) (y_addI _ _ _ _ rfl e68 rfl rfl (by omega)) rfl
        · intro a w hb hd
          have eg : a.eval (.tmp 64) = .bool false := hd 64 (by decide)
          have e6 : a.eval (.tmp 6) = .pointer (some ⟨g18, 0, none⟩) := (show a.eval (.tmp 6) = _ from hd 6 (by decide)).trans (F90.get (t := 6) rfl)
          exact hop_runK (F := (StK.eq (.pointer (some ⟨g18, 1, none⟩))).F) (wanted_yes rfl rfl rfl eg) (.pointer (some ⟨g18, 1, none⟩)) (by unfold execOp; simp only [e6]; kernel_rfl) rfl
        · intro a w hb hd
          have eg : a.eval (.tmp 64) = .bool false := hd 64 (by decide)
          have e70 : a.eval (.tmp 70) = .pointer (some ⟨g18, 1, none⟩) := hd 70 (by decide)
          exact hop_runK (F := (StK.eq (numV pp)).F) (wanted_yes rfl rfl rfl eg) (numV pp) (y_ldN _ _ rfl e70 ((M37.step hb).blk (k := 0) rfl) (numA pp) groupA_p Try.underlying26 rfl size26) rfl
        · intro a w hb hd
          have eg : a.eval (.tmp 64) = .bool false := hd 64 (by decide)
          have e71 : a.eval (.tmp 71) = numV pp := hd 71 (by decide)
          exact hop_callK (F := (StK.eq (.int .i64 (pp : Int))).F) (wanted_yes rfl rfl rfl eg) hb.size rfl #[numV pp] (args1 e71) (enters_of Try.func17 (by kernel_rfl) rfl) (call_eqS (rsmall_any pp z1 w))
        · intro a w hb hd
          have eg : a.eval (.tmp 64) = .bool false := hd 64 (by decide)
          have e69 : a.eval (.tmp 69) = .int .i64 ((2 * (qq : Int)) + 1) := hd 69 (by decide)
          have e72 : a.eval (.tmp 72) = .int .i64 (pp : Int) := hd 72 (by decide)
          exact hop_runK (F := (StK.eq (.bool true)).F) (wanted_yes rfl rfl rfl eg) (.bool true) (y_eqI _ _ _ _ rfl e69 e72 Try.underlying3 (y_beqT z3)) rfl
        · intro a w hb hd
          have eg : a.eval (.tmp 64) = .bool false := hd 64 (by decide)
          have e73 : a.eval (.tmp 73) = .bool true := hd 73 (by decide)
          exact hop_runK (F := (StK.eq (.bool true)).F) (wanted_yes rfl rfl rfl eg) (.bool true) (run_mv _ (.inl rfl) e73) rfl
        · intro a w hb hd
          have eg : a.eval (.tmp 74) = .bool true := hd 74 (by decide)
          have e6 : a.eval (.tmp 6) = .pointer (some ⟨g18, 0, none⟩) := (show a.eval (.tmp 6) = _ from hd 6 (by decide)).trans (F90.get (t := 6) rfl)
          exact hop_runK (F := (StK.eq (.pointer (some ⟨g18, 1, none⟩))).F) (wanted_yes rfl rfl rfl eg) (.pointer (some ⟨g18, 1, none⟩)) (by unfold execOp; simp only [e6]; kernel_rfl) rfl
        · intro a w hb hd
          have eg : a.eval (.tmp 74) = .bool true := hd 74 (by decide)
          have e75 : a.eval (.tmp 75) = .pointer (some ⟨g18, 1, none⟩) := hd 75 (by decide)
          exact hop_runK (F := (StK.eq (numV pp)).F) (wanted_yes rfl rfl rfl eg) (numV pp) (y_ldN _ _ rfl e75 ((M37.step hb).blk (k := 0) rfl) (numA pp) groupA_p Try.underlying26 rfl size26) rfl
        · intro a w hb hd
          have eg : a.eval (.tmp 74) = .bool true := hd 74 (by decide)
          have e76 : a.eval (.tmp 76) = numV pp := hd 76 (by decide)
          exact hop_callK (F := (StK.eq (.int .i64 (pp : Int))).F) (wanted_yes rfl rfl rfl eg) hb.size rfl #[numV pp] (args1 e76) (enters_of Try.func17 (by kernel_rfl) rfl) (call_eqS (rsmall_any pp z1 w))
        · intro a w hb hd
          have eg : a.eval (.tmp 74) = .bool true := hd 74 (by decide)
          have e77 : a.eval (.tmp 77) = .int .i64 (pp : Int) := hd 77 (by decide)
          exact hop_callK (F := (StK.eq (.bool true)).F) (wanted_yes rfl rfl rfl eg) hb.size rfl #[.int .i64 (pp : Int)] (args1 e77) (enters_of Try.func18 (by kernel_rfl) rfl) (call_eqS ((same_eq (z4 w))))
        · intro a w hb hd
          have eg : a.eval (.tmp 64) = .bool false := hd 64 (by decide)
          have e74 : a.eval (.tmp 74) = .bool true := hd 74 (by decide)
          have e78 : a.eval (.tmp 78) = .bool true := hd 78 (by decide)
          exact hop_runK (F := (StK.eq (.bool true)).F) (wanted_yes rfl rfl rfl eg) (.bool true) (run_pick_t rfl e74 e78) rfl
        · intro a w hb hd
          have eg : a.eval (.tmp 64) = .bool false := hd 64 (by decide)
          have e79 : a.eval (.tmp 79) = .bool true := hd 79 (by decide)
          exact hop_runK (F := (StK.eq (.bool true)).F) (wanted_yes rfl rfl rfl eg) (.bool true) (run_mv _ (.inl rfl) e79) rfl
        · intro a w hb hd
          have eg : a.eval (.tmp 80) = .bool true := hd 80 (by decide)
          have e6 : a.eval (.tmp 6) = .pointer (some ⟨g18, 0, none⟩) := (show a.eval (.tmp 6) = _ from hd 6 (by decide)).trans (F90.get (t := 6) rfl)
          exact hop_runK (F := (StK.eq (.pointer (some ⟨g18, 9, none⟩))).F) (wanted_yes rfl rfl rfl eg) (.pointer (some ⟨g18, 9, none⟩)) (by unfold execOp; simp only [e6]; kernel_rfl) rfl
        · intro a w hb hd
          have eg : a.eval (.tmp 80) = .bool true := hd 80 (by decide)
          have e81 : a.eval (.tmp 81) = .pointer (some ⟨g18, 9, none⟩) := hd 81 (by decide)
          exact hop_runK (F := (StK.eq (numV qq)).F) (wanted_yes rfl rfl rfl eg) (numV qq) (y_ldN _ _ rfl e81 ((M37.step hb).blk (k := 0) rfl) (numA qq) groupA_q Try.underlying26 rfl size26) rfl
        · intro a w hb hd
          have eg : a.eval (.tmp 80) = .bool true := hd 80 (by decide)
          have e82 : a.eval (.tmp 82) = numV qq := hd 82 (by decide)
          exact hop_callK (F := (StK.eq (.int .i64 (qq : Int))).F) (wanted_yes rfl rfl rfl eg) hb.size rfl #[numV qq] (args1 e82) (enters_of Try.func17 (by kernel_rfl) rfl) (call_eqS (rsmall_any qq z2 w))
        · intro a w hb hd
          have eg : a.eval (.tmp 80) = .bool true := hd 80 (by decide)
          have e83 : a.eval (.tmp 83) = .int .i64 (qq : Int) := hd 83 (by decide)
          exact hop_callK (F := (StK.eq (.bool true)).F) (wanted_yes rfl rfl rfl eg) hb.size rfl #[.int .i64 (qq : Int)] (args1 e83) (enters_of Try.func18 (by kernel_rfl) rfl) (call_eqS ((same_eq (z5 w))))
        · intro a w hb hd
          have eg : a.eval (.tmp 64) = .bool false := hd 64 (by decide)
          have e80 : a.eval (.tmp 80) = .bool true := hd 80 (by decide)
          have e84 : a.eval (.tmp 84) = .bool true := hd 84 (by decide)
          exact hop_runK (F := (StK.eq (.bool true)).F) (wanted_yes rfl rfl rfl eg) (.bool true) (run_pick_t rfl e80 e84) rfl
        · intro a w hb hd
          have eg : a.eval (.tmp 64) = .bool false := hd 64 (by decide)
          have e85 : a.eval (.tmp 85) = .bool true := hd 85 (by decide)
          exact hop_runK (F := (StK.eq (.bool true)).F) (wanted_yes rfl rfl rfl eg) (.bool true) (run_mv _ (.inl rfl) e85) rfl
        · intro a w hb hd
          have eg : a.eval (.tmp 86) = .bool true := hd 86 (by decide)
          have e6 : a.eval (.tmp 6) = .pointer (some ⟨g18, 0, none⟩) := (show a.eval (.tmp 6) = _ from hd 6 (by decide)).trans (F90.get (t := 6) rfl)
          exact hop_runK (F := (StK.eq (.pointer (some ⟨g18, 0, none⟩))).F) (wanted_yes rfl rfl rfl eg) (.pointer (some ⟨g18, 0, none⟩)) (by unfold execOp; simp only [e6]; kernel_rfl) rfl
        · intro a w hb hd
          have eg : a.eval (.tmp 86) = .bool true := hd 86 (by decide)
          have e87 : a.eval (.tmp 87) = .pointer (some ⟨g18, 0, none⟩) := hd 87 (by decide)
          exact hop_runK (F := (StK.eq (.int .i64 kk)).F) (wanted_yes rfl rfl rfl eg) (.int .i64 kk) (y_ld1 _ _ rfl e87 ((M37.step hb).blk (k := 0) rfl) rfl Try.underlying3 rfl) rfl
        · intro a w hb hd
          have eg : a.eval (.tmp 86) = .bool true := hd 86 (by decide)
          have e5 : a.eval (.tmp 5) = .int .i64 kk := (show a.eval (.tmp 5) = _ from hd 5 (by decide)).trans (F90.get (t := 5) rfl)
          exact hop_runK (F := (StK.eq (.int .i64 kk)).F) (wanted_yes rfl rfl rfl eg) (.int .i64 kk) (run_mv _ (.inl rfl) e5) rfl
        · intro a w hb hd
          have eg : a.eval (.tmp 86) = .bool true := hd 86 (by decide)
          have e88 : a.eval (.tmp 88) = .int .i64 kk := hd 88 (by decide)
          have e89 : a.eval (.tmp 89) = .int .i64 kk := hd 89 (by decide)
          exact hop_runK (F := (StK.eq (.bool true)).F) (wanted_yes rfl rfl rfl eg) (.bool true) (y_eqI _ _ _ _ rfl e88 e89 Try.underlying3 (y_beqT rfl)) rfl
        · intro a w hb hd
          have eg : a.eval (.tmp 64) = .bool false := hd 64 (by decide)
          have e86 : a.eval (.tmp 86) = .bool true := hd 86 (by decide)
          have e90 : a.eval (.tmp 90) = .bool true := hd 90 (by decide)
          exact hop_runK (F := (StK.eq (.bool true)).F) (wanted_yes rfl rfl rfl eg) (.bool true) (run_pick_t rfl e86 e90) rfl
        · intro a w hb hd
          have e64 : a.eval (.tmp 64) = .bool false := hd 64 (by decide)
          have e91 : a.eval (.tmp 91) = .bool true := hd 91 (by decide)
          exact hop_runK (F := (StK.eq (.bool true)).F) (wanted_none rfl) (.bool true) (run_pick_f rfl e64 e91) rfl
        · intro a w hb hd
          have e92 : a.eval (.tmp 92) = .bool true := hd 92 (by decide)
          exact hop_runK (F := (StK.eq (.bool true)).F) (wanted_none rfl) (.bool true) (run_mv _ (.inr rfl) e92) rfl
        intro p92 a92 w92 b92 G92 y92
        obtain ⟨q0, q1, q2, q3, q4, q5, q6, q7, q8, q9, q10, q11, q12, q13, q14, q15, q16, q17, q18, q19, q20, q21, q22, q23, q24, q25, q26, q27, q28, q29, q30, q31, -⟩ := y92
        have r0 : p92 0 = .bool true := q0 (by decide)
        have r1 : p92 1 = .bool false := q1 (by decide)
        have r2 : p92 2 = .bool false := q2 (by decide)
        have r3 : p92 3 = .pointer (some ⟨g18, 9, none⟩) := q3 (by decide)
        have r4 : p92 4 = numV qq := q4 (by decide)
        have r5 : p92 5 = .int .i64 (qq : Int) := q5 (by decide)
        have r6 : p92 6 = .int .i64 (2 * (qq : Int)) := q6 (by decide)
        have r7 : p92 7 = .int .i64 ((2 * (qq : Int)) + 1) := q7 (by decide)
        have r8 : p92 8 = .pointer (some ⟨g18, 1, none⟩) := q8 (by decide)
        have r9 : p92 9 = numV pp := q9 (by decide)
        have r10 : p92 10 = .int .i64 (pp : Int) := q10 (by decide)
        have r11 : p92 11 = .bool true := q11 (by decide)
        have r12 : p92 12 = .bool true := q12 (by decide)
        have r13 : p92 13 = .pointer (some ⟨g18, 1, none⟩) := q13 (by decide)
        have r14 : p92 14 = numV pp := q14 (by decide)
        have r15 : p92 15 = .int .i64 (pp : Int) := q15 (by decide)
        have r16 : p92 16 = .bool true := q16 (by decide)
        have r17 : p92 17 = .bool true := q17 (by decide)
        have r18 : p92 18 = .bool true := q18 (by decide)
        have r19 : p92 19 = .pointer (some ⟨g18, 9, none⟩) := q19 (by decide)
        have r20 : p92 20 = numV qq := q20 (by decide)
        have r21 : p92 21 = .int .i64 (qq : Int) := q21 (by decide)
        have r22 : p92 22 = .bool true := q22 (by decide)
        have r23 : p92 23 = .bool true := q23 (by decide)
        have r24 : p92 24 = .bool true := q24 (by decide)
        have r25 : p92 25 = .pointer (some ⟨g18, 0, none⟩) := q25 (by decide)
        have r26 : p92 26 = .int .i64 kk := q26 (by decide)
        have r27 : p92 27 = .int .i64 kk := q27 (by decide)
        have r28 : p92 28 = .bool true := q28 (by decide)
        have r29 : p92 29 = .bool true := q29 (by decide)
        have r30 : p92 30 = .bool true := q30 (by decide)
        have r31 : p92 31 = .bool true := q31 (by decide)
        simp only [List.take_succ_cons, List.take_zero, layV, Nat.zero_add, Nat.reduceAdd, r0, r1, r2, r3, r4, r5, r6, r7, r8, r9, r10, r11, r12, r13, r14, r15, r16, r17, r18, r19, r20, r21, r22, r23, r24, r25, r26, r27, r28, r29, r30, r31] at G92
        have M92 := M37.kc b92 M37.le
        clear F90 M37 r0 q0 r1 q1 r2 q2 r3 q3 r4 q4 r5 q5 r6 q6 r7 q7 r8 q8 r9 q9 r10 q10 r11 q11 r12 q12 r13 q13 r14 q14 r15 q15 r16 q16 r17 q17 r18 q18 r19 q19 r20 q20 r21 q21 r22 q22 r23 q23 r24 q24 r25 q25 r26 q26 r27 q27 r28 q28 r29 q29 r30 q30 r31 q31
        refine hK91 _ _ ?_
        refine wp_ret ?_
        try simp only [Exit.then, Exit.inBlock]
        exact bodyPost_ret (res1 rfl (G92.get (t := 4) rfl)) G92.defers ⟨rfl, M92.below⟩
end Go.Proofs.Ytgccbfkofkohpaa
