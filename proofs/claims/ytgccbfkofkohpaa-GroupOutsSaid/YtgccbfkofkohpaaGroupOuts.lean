/- sentinellaw4.GroupOuts: the walk. -/
import Derived.Test.YtgccbfkofkohpaaGpGroup
import Derived.Test.YtgccbfkofkohpaaGpKnown
import Derived.Test.YtgccbfkofkohpaaSymL
import Derived.Test.YtgccbfkofkohpaaMtMk
import Derived.Test.YtgccbfkofkohpaaGpEq
namespace Go.Proofs.Ytgccbfkofkohpaa
set_option linter.unusedVariables false
set_option maxRecDepth 20000
set_option linter.unusedSimpArgs false
open Go.ChangeShapes Go.WideShapes Go.ChangeAt Go.RowKit
/-- What is P less a number, by P. -/
theorem sq_minus {p z : Nat} (hz : z ≤ p) : (p - z) * (p - z) % p = z * z % p := by
  obtain ⟨y, rfl⟩ : ∃ y, p = z + y := ⟨p - z, by omega⟩
  rw [Nat.add_sub_cancel_left]
  have e1 : y * y + (z + y) * z = z * z + (z + y) * y := by
    simp only [Nat.add_mul]
    have := Nat.mul_comm y z
    omega
  have e2 : (y * y + (z + y) * z) % (z + y) = y * y % (z + y) := Nat.add_mul_mod_self_left _ _ _
  have e3 : (z * z + (z + y) * y) % (z + y) = z * z % (z + y) := Nat.add_mul_mod_self_left _ _ _
  rw [← e2, e1, e3]
theorem odd_minus {p z : Nat} (hz : z ≤ p) (m : Nat) : ((p - z) ^ (2 * m + 1) + z ^ (2 * m + 1)) % p = 0 := by
  have e : (p - z) ^ (2 * m) % p = z ^ (2 * m) % p := by
    rw [Nat.pow_mul, Nat.pow_mul, Nat.pow_two, Nat.pow_two, Nat.pow_mod, sq_minus hz, ← Nat.pow_mod]
  rw [Nat.pow_succ, Nat.pow_succ, Nat.add_mod, Nat.mul_mod, e, ← Nat.mul_mod, ← Nat.add_mod, ← Nat.mul_add, Nat.sub_add_cancel hz]
  exact Nat.mul_mod_left _ _
theorem not_both {p z q : Nat} (hp : 2 < p) (hq : q % 2 = 1) (hz : z ≤ p) (h1 : z ^ q % p = 1) (h2 : (p - z) ^ q % p = 1) : False := by
  obtain ⟨m, rfl⟩ : ∃ m, q = 2 * m + 1 := ⟨q / 2, by omega⟩
  have := odd_minus hz m
  rw [Nat.add_mod, h1, h2, Nat.mod_eq_of_lt hp] at this
  cases this
theorem prime_odd {q : Nat} (h : primeB (q : Int) = true) (h2 : 4 < q) : q % 2 = 1 := by
  rcases Nat.mod_two_eq_zero_or_one q with h0 | h1
  · have := primeF_no (n := q) (d := 2) (by decide) (by omega) h0
    rw [h] at this; cases this
  · exact h1
theorem outs_pack {k t : Int} {p x : Nat} (hg : GOk k p) (hx : x < 4294967296 ^ 8) (t0 : 0 ≤ t) (t1 : t < (p : Int) - 1) : ∃ (Z N : Nat) (u d : Int) (hz hn : Bool), RunsTo 22 #[.int .i64 (1 + t)] (numV Z) ∧
    RunsTo 38 #[numV p, numV Z] (.tuple #[numV N, .int .u32 u]) ∧
    RunsTo 29 #[numV x, numV p] (.int .i64 d) ∧
    RunsTo 27 #[.agg (groupA k p (p / 2) 4), numV 0] (.bool false) ∧
    RunsTo 27 #[.agg (groupA k p (p / 2) 4), numV 1] (.bool false) ∧
    RunsTo 27 #[.agg (groupA k p (p / 2) 4), numV p] (.bool false) ∧
    RunsTo 27 #[.agg (groupA k p (p / 2) 4), numV Z] (.bool hz) ∧
    RunsTo 27 #[.agg (groupA k p (p / 2) 4), numV N] (.bool hn) ∧
    RunsTo 22 #[.int .i64 1] (numV 1) ∧ (0 ≤ d → RunsTo 27 #[.agg (groupA k p (p / 2) 4), numV x] (.bool false)) ∧ (hz = false ∨ hn = false) := by
  obtain ⟨-, -, po, p1, p2, pp, pq⟩ := hg
  have hp : p < 4294967296 ^ 8 := Nat.lt_trans p2 (by decide)
  have hQ : p / 2 < 4294967296 ^ 8 := Nat.lt_of_le_of_lt (Nat.div_le_self _ _) hp
  have hZ : (1 + t).toNat < 4294967296 ^ 8 := Nat.lt_trans (m := 16777216) (by omega) (by decide)
  have H : ∀ a b, a < 4294967296 ^ 8 → hasB a p (p / 2) = b → RunsTo 27 #[.agg (groupA k p (p / 2) 4), numV a] (.bool b) := fun a b ha hb w => by
    have := ghas_any k p (p / 2) 4 po (by omega) hp a ha hQ w
    rw [hb] at this; exact this
  have hN : subN p (1 + t).toNat = p - (1 + t).toNat := by unfold subN; rw [if_pos (by omega)]
  refine ⟨(1 + t).toNat, p - (1 + t).toNat, lentI p (1 + t).toNat, cmpI x p, hasB (1 + t).toNat p (p / 2), hasB (p - (1 + t).toNat) p (p / 2), from_ref (1 + t) (by omega) (by omega), fun w => ?_, rcmp_any x p hx hp, H 0 _ (by decide) ?_, H 1 _ (by decide) ?_, H p _ hp ?_, H _ _ hZ rfl, H _ _ (Nat.lt_of_le_of_lt (Nat.sub_le _ _) hp) rfl, fun w => from_ref 1 (by decide) (by decide) w, fun hd => H x _ hx ?_, ?_⟩
  · have := rsub_any p (1 + t).toNat hp hZ w
    rw [hN] at this; exact this
  · unfold hasB; exact decide_eq_false (fun h => by omega)
  · unfold hasB; exact decide_eq_false (fun h => by omega)
  · unfold hasB; exact decide_eq_false (fun h => by omega)
  · unfold hasB; refine decide_eq_false (fun h => ?_)
    unfold cmpI at hd
    rw [if_pos h.2.1] at hd
    exact absurd hd (by decide)
  · unfold hasB
    by_cases h : 1 < (1 + t).toNat ∧ (1 + t).toNat < p ∧ (1 + t).toNat ^ (p / 2) % p = 1
    · refine .inr (decide_eq_false fun h2 => ?_)
      exact not_both (by omega) (prime_odd pq (by omega)) (by omega) h.2.2 h2.2.2
    · exact .inl (decide_eq_false h)
set_option maxRecDepth 100000 in
set_option maxHeartbeats 8000000 in
theorem GroupOuts_walk (a0 : Int) (hk0 : -9223372036854775808 ≤ a0) (hl0 : a0 < 9223372036854775808)
    (a1 : Int) (hk1 : -9223372036854775808 ≤ a1) (hl1 : a1 < 9223372036854775808)
    (A2 : Option Addr) (n2 cap2 : Nat) (x2 : Nat → Int)
    (a3 : Int) (hk3 : -9223372036854775808 ≤ a3) (hl3 : a3 < 9223372036854775808) (w : World) (hr2 : RdI w A2 n2 x2) :
    Calls Try.prog 10 #[.int .i64 a0, .int .i64 a1, .slice A2 n2 cap2, .int .i64 a3] w fun e w' => e = .returned (.bool true) ∧ Below w.heap.size w w' := by
  obtain ⟨k, p, hg, kG⟩ := group_any hk0 hl0
  obtain ⟨x, ex⟩ : ∃ x, Hid (mkN a1 n2 x2 = x) := ⟨_, hid rfl⟩
  have mkx := fun (w : World) (hx : RdI w A2 n2 x2) => make_det a1 hk1 hl1 A2 n2 cap2 x2 w hx
  rw [ex.out] at mkx
  have bx : x < 4294967296 ^ 8 := by rw [← ex.out]; exact mkN_lt _ _ _
  clear ex
  obtain ⟨p1, p2⟩ : 4000 < p ∧ p < 16777216 := ⟨hg.2.2.2.1, hg.2.2.2.2.1⟩
  obtain ⟨t, et⟩ : ∃ t : Int, Hid (a3 % ((p : Int) - 1) = t) := ⟨_, hid rfl⟩
  have kwt := fun (w : World) => gwithin_any a3 ((p : Int) - 1) (by omega) (by omega) hk3 hl3 w
  rw [et.out] at kwt
  obtain ⟨pt, qt⟩ : 0 ≤ t ∧ t < (p : Int) - 1 := by rw [← et.out]; exact ⟨Int.emod_nonneg _ (by omega), Int.emod_lt_of_pos _ (by omega)⟩
  obtain ⟨Z, N, u, d, hz, hn, z1, z2, z3, z4, z5, z6, z7, z8, z9, z10, z11⟩ := outs_pack hg bx pt qt
  clear et
  refine calls_fx (args := [.int .i64 a0, .int .i64 a1, .slice A2 n2 cap2, .int .i64 a3]) 76 Try.func10 rfl rfl rfl ?_
  intro a F
  have M := Mx.start w.heap.size w rfl
  refine wp_seq_k fun K1 hK1 => ?_
  refine wp_region_lit ?_
  refine wl_run (w' := w) (wanted_none rfl) rfl F rfl (.bool false) (run_mv _ (.inr rfl) rfl) fun a2 F2 => ?_
  clear F
  refine hK1 _ _ ?_
  refine wp_seq_k fun K3 hK3 => ?_
  refine wp_seq_k fun K4 hK4 => ?_
  refine wp_region_lit ?_
  refine wl_call (wanted_none rfl) rfl F2 rfl rfl (enters_of Try.func13 (by kernel_rfl) rfl) #[] (args0) (call_ex (gknown_any w)) ?_
  rintro _ w5 a5 ⟨rfl, b5⟩ F5
  have M5 := M.step b5
  refine wl_run (w' := w5) (wanted_none rfl) rfl F5 rfl (.bool false) (run_not _ _ rfl (F5.get (t := 15) rfl)) fun a6 F6 => ?_
  clear F5
  refine hK4 _ _ ?_
  refine wp_cond_false (F6.get (t := 16) rfl) ?_
  refine wp_skip ?_
  refine hK3 _ _ ?_
  refine wp_seq_k fun K7 hK7 => ?_
  refine wp_region_lit ?_
  refine wl_run (w' := w5) (wanted_none rfl) rfl F6 rfl (.int .i64 a0) (run_mv _ (.inl rfl) (F6.get (t := 0) rfl)) fun a8 F8 => ?_
  clear F6
  refine wl_call (wanted_none rfl) rfl F8 rfl rfl (enters_of Try.func20 (by kernel_rfl) rfl) #[.int .i64 a0] (args1 (F8.get (t := 17) rfl)) (call_ex (kG w5)) ?_
  rintro _ w9 a9 ⟨rfl, b9⟩ F9
  have M9 := M5.step b9
  refine wl_alloc (wanted_none rfl) rfl F9 rfl M9 0 (t := 28) (c := groupA 0 0 0 0) (by decide) (by unfold execOp; rw [groupA_zero]; kernel_rfl) ?_
  intro g10 a10 w10 F10 M10
  clear F9 M9
  refine wl_st (wanted_none rfl) rfl F10 M10 (k := 0) rfl (by decide) _ _ _ rfl (F10.get (t := 9) rfl) (F10.get (t := 18) rfl) (groupA k p (p / 2) 4) (groupA k p (p / 2) 4) rfl (Nat.le_of_ble_eq_true rfl) (groupA_cells _ _ _ _) (y_put0 rfl) (by kernel_rfl) ?_
  intro w11 M11
  clear M10
  refine hK7 _ _ ?_
  refine wp_seq_k fun K12 hK12 => ?_
  refine wp_region_lit ?_
  refine wl_run (w' := w11) (wanted_none rfl) rfl F10 rfl (.int .i64 a1) (run_mv _ (.inl rfl) (F10.get (t := 1) rfl)) fun a13 F13 => ?_
  clear F10
  refine wl_run (w' := w11) (wanted_none rfl) rfl F13 rfl (.slice A2 n2 cap2) (run_mv _ (.inl rfl) (F13.get (t := 2) rfl)) fun a14 F14 => ?_
  clear F13
  refine wl_call (wanted_none rfl) rfl F14 rfl rfl (enters_of Try.func21 (by kernel_rfl) rfl) #[.int .i64 a1, .slice A2 n2 cap2] (args2 (F14.get (t := 19) rfl) (F14.get (t := 20) rfl)) (call_ex (mkx w11 (hr2.step M11.below))) ?_
  rintro _ w15 a15 ⟨rfl, b15⟩ F15
  have M15 := M11.step b15
  refine wl_alloc (wanted_none rfl) rfl F15 rfl M15 1 (t := 26) (c := numA 0) (by decide) (y_new_num rfl) ?_
  intro g16 a16 w16 F16 M16
  clear F15 M15
  refine wl_st (wanted_none rfl) rfl F16 M16 (k := 1) rfl (by decide) _ _ _ rfl (F16.get (t := 10) rfl) (F16.get (t := 21) rfl) (numA x) (numA x) rfl (Nat.le_of_ble_eq_true rfl) (numA_cells _) (y_put0 rfl) size26 ?_
  intro w17 M17
  clear M16
  refine hK12 _ _ ?_
  refine wp_seq_k fun K18 hK18 => ?_
  refine wp_region_lit ?_
  refine wl_run (w' := w17) (wanted_none rfl) rfl F16 rfl (.pointer (some ⟨g10, 1, none⟩)) (by unfold execOp; simp only [(F16.get (t := 9) rfl)]; kernel_rfl) fun a19 F19 => ?_
  clear F16
  refine wl_run (w' := w17) (wanted_none rfl) rfl F19 rfl (numV p) (y_ldN _ _ rfl (F19.get (t := 22) rfl) (M17.blk (k := 0) rfl) (numA p) groupA_p Try.underlying26 rfl size26) fun a20 F20 => ?_
  clear F19
  refine wl_call (wanted_none rfl) rfl F20 rfl rfl (enters_of Try.func17 (by kernel_rfl) rfl) #[numV p] (args1 (F20.get (t := 23) rfl)) (call_ex (rsmall_any p (by omega) w17)) ?_
  rintro _ w21 a21 ⟨rfl, b21⟩ F21
  have M21 := M17.step b21
  refine wl_run (w' := w21) (wanted_none rfl) rfl F21 rfl (.int .i64 (p : Int)) (run_mv _ (.inr rfl) (F21.get (t := 24) rfl)) fun a22 F22 => ?_
  clear F21
  refine hK18 _ _ ?_
  refine wp_seq_k fun K23 hK23 => ?_
  refine wp_region_lit ?_
  refine wl_run (w' := w21) (wanted_none rfl) rfl F22 rfl (.int .i64 a3) (run_mv _ (.inl rfl) (F22.get (t := 3) rfl)) fun a24 F24 => ?_
  clear F22
  refine wl_run (w' := w21) (wanted_none rfl) rfl F24 rfl (.int .i64 (p : Int)) (run_mv _ (.inl rfl) (F24.get (t := 11) rfl)) fun a25 F25 => ?_
  clear F24
  refine wl_run (w' := w21) (wanted_none rfl) rfl F25 rfl (.int .i64 ((p : Int) - 1)) (y_subI _ _ _ _ rfl (F25.get (t := 26) rfl) rfl rfl (by omega)) fun a26 F26 => ?_
  clear F25
  refine wl_call (wanted_none rfl) rfl F26 rfl rfl (enters_of Try.func14 (by kernel_rfl) rfl) #[.int .i64 a3, .int .i64 ((p : Int) - 1)] (args2 (F26.get (t := 25) rfl) (F26.get (t := 27) rfl)) (call_ex (kwt w21)) ?_
  rintro _ w27 a27 ⟨rfl, rfl⟩ F27
  refine wl_run (w' := w21) (wanted_none rfl) rfl F27 rfl (.int .i64 (1 + t)) (y_addI _ _ _ _ rfl rfl (F27.get (t := 28) rfl) rfl (by omega)) fun a28 F28 => ?_
  clear F27
  refine wl_call (wanted_none rfl) rfl F28 rfl rfl (enters_of Try.func22 (by kernel_rfl) rfl) #[.int .i64 (1 + t)] (args1 (F28.get (t := 29) rfl)) (call_ex (z1 w21)) ?_
  rintro _ w29 a29 ⟨rfl, b29⟩ F29
  have M29 := M21.step b29
  refine wl_alloc (wanted_none rfl) rfl F29 rfl M29 2 (t := 26) (c := numA 0) (by decide) (y_new_num rfl) ?_
  intro g30 a30 w30 F30 M30
  clear F29 M29
  refine wl_st (wanted_none rfl) rfl F30 M30 (k := 2) rfl (by decide) _ _ _ rfl (F30.get (t := 12) rfl) (F30.get (t := 30) rfl) (numA Z) (numA Z) rfl (Nat.le_of_ble_eq_true rfl) (numA_cells _) (y_put0 rfl) size26 ?_
  intro w31 M31
  clear M30
  refine hK23 _ _ ?_
  refine wp_seq_k fun K32 hK32 => ?_
  refine wp_region_lit ?_
  refine wl_run (w' := w31) (wanted_none rfl) rfl F30 rfl (.pointer (some ⟨g10, 1, none⟩)) (by unfold execOp; simp only [(F30.get (t := 9) rfl)]; kernel_rfl) fun a33 F33 => ?_
  clear F30
  refine wl_run (w' := w31) (wanted_none rfl) rfl F33 rfl (numV p) (y_ldN _ _ rfl (F33.get (t := 32) rfl) (M31.blk (k := 0) rfl) (numA p) groupA_p Try.underlying26 rfl size26) fun a34 F34 => ?_
  clear F33
  refine wl_run (w' := w31) (wanted_none rfl) rfl F34 rfl (numV Z) (y_ldN _ _ rfl (F34.get (t := 12) rfl) (M31.blk (k := 2) rfl) (numA Z) (y_all rfl) Try.underlying26 rfl size26) fun a35 F35 => ?_
  clear F34
  refine wl_call (wanted_none rfl) rfl F35 rfl rfl (enters_of Try.func38 (by kernel_rfl) rfl) #[numV p, numV Z] (args2 (F35.get (t := 33) rfl) (F35.get (t := 34) rfl)) (call_ex (z2 w31)) ?_
  rintro _ w36 a36 ⟨rfl, b36⟩ F36
  have M36 := M31.step b36
  refine wl_run (w' := w36) (wanted_none rfl) rfl F36 rfl (.tuple #[numV N, .int .u32 u]) (run_mv _ (.inl rfl) (F36.get (t := 35) rfl)) fun a37 F37 => ?_
  clear F36
  refine wl_run (w' := w36) (wanted_none rfl) rfl F37 rfl (numV N) (y_ext _ _ rfl (F37.get (t := 31) rfl) rfl) fun a38 F38 => ?_
  clear F37
  refine wl_run (w' := w36) (wanted_none rfl) rfl F38 rfl (.int .u32 u) (y_ext _ _ rfl (F38.get (t := 31) rfl) rfl) fun a39 F39 => ?_
  clear F38
  refine wl_alloc (wanted_none rfl) rfl F39 rfl M36 3 (t := 26) (c := numA 0) (by decide) (y_new_num rfl) ?_
  intro g40 a40 w40 F40 M40
  clear F39 M36
  refine wl_st (wanted_none rfl) rfl F40 M40 (k := 3) rfl (by decide) _ _ _ rfl (F40.get (t := 13) rfl) (F40.get (t := 36) rfl) (numA N) (numA N) rfl (Nat.le_of_ble_eq_true rfl) (numA_cells _) (y_put0 rfl) size26 ?_
  intro w41 M41
  clear M40
  refine wl_run (w' := w41) (wanted_none rfl) rfl F40 rfl (.int .u32 u) (run_mv _ (.inr rfl) (F40.get (t := 37) rfl)) fun a42 F42 => ?_
  clear F40
  refine hK32 _ _ ?_
  refine wp_seq_k fun K43 hK43 => ?_
  refine wp_seq_k fun K44 hK44 => ?_
  refine wp_region_lit ?_
  refine wl_run (w' := w41) (wanted_none rfl) rfl F42 rfl (numV x) (y_ldN _ _ rfl (F42.get (t := 10) rfl) (M41.blk (k := 1) rfl) (numA x) (y_all rfl) Try.underlying26 rfl size26) fun a45 F45 => ?_
  clear F42
  refine wl_run (w' := w41) (wanted_none rfl) rfl F45 rfl (.pointer (some ⟨g10, 1, none⟩)) (by unfold execOp; simp only [(F45.get (t := 9) rfl)]; kernel_rfl) fun a46 F46 => ?_
  clear F45
  refine wl_run (w' := w41) (wanted_none rfl) rfl F46 rfl (numV p) (y_ldN _ _ rfl (F46.get (t := 39) rfl) (M41.blk (k := 0) rfl) (numA p) groupA_p Try.underlying26 rfl size26) fun a47 F47 => ?_
  clear F46
  refine wl_call (wanted_none rfl) rfl F47 rfl rfl (enters_of Try.func29 (by kernel_rfl) rfl) #[numV x, numV p] (args2 (F47.get (t := 38) rfl) (F47.get (t := 40) rfl)) (call_ex (z3 w41)) ?_
  rintro _ w48 a48 ⟨rfl, b48⟩ F48
  have M48 := M41.step b48
  by_cases h49 : 0 ≤ d
  · have z10h := z10 h49
    refine wl_run (w' := w48) (wanted_none rfl) rfl F48 rfl (.bool true) (y_geq _ _ _ _ rfl (F48.get (t := 41) rfl) rfl (decide_eq_true h49)) fun a50 F50 => ?_
    clear F48
    refine wl_run (w' := w48) (wanted_none rfl) rfl F50 rfl (.bool true) (run_mv _ (.inl rfl) (F50.get (t := 42) rfl)) fun a51 F51 => ?_
    clear F50
    refine wl_run (w' := w48) (wanted_yes rfl rfl rfl (F51.get (t := 43) rfl)) rfl F51 rfl (.agg (groupA k p (p / 2) 4)) (y_ldN _ _ rfl (F51.get (t := 9) rfl) (M48.blk (k := 0) rfl) (groupA k p (p / 2) 4) (y_all rfl) Try.underlying28 rfl (by kernel_rfl)) fun a52 F52 => ?_
    clear F51
    refine wl_run (w' := w48) (wanted_yes rfl rfl rfl (F52.get (t := 43) rfl)) rfl F52 rfl (numV x) (y_ldN _ _ rfl (F52.get (t := 10) rfl) (M48.blk (k := 1) rfl) (numA x) (y_all rfl) Try.underlying26 rfl size26) fun a53 F53 => ?_
    clear F52
    refine wl_call (wanted_yes rfl rfl rfl (F53.get (t := 43) rfl)) rfl F53 rfl rfl (enters_of Try.func27 (by kernel_rfl) rfl) #[.agg (groupA k p (p / 2) 4), numV x] (args2 (F53.get (t := 44) rfl) (F53.get (t := 45) rfl)) (call_ex (z10h w48)) ?_
    rintro _ w54 a54 ⟨rfl, b54⟩ F54
    have M54 := M48.step b54
    refine wl_run (w' := w54) (wanted_none rfl) rfl F54 rfl (.bool false) (run_pick_t rfl (F54.get (t := 43) rfl) (F54.get (t := 46) rfl)) fun a55 F55 => ?_
    clear F54
    refine hK44 _ _ ?_
    refine wp_cond_false (F55.get (t := 47) rfl) ?_
    refine wp_skip ?_
    refine hK43 _ _ ?_
    refine wp_seq_k fun K56 hK56 => ?_
    cases hz
    · refine region_fx F55 [StK.eq (.agg (groupA k p (p / 2) 4)), StK.eq (numV 0), StK.eq (.bool false), StK.eq (.bool true), StK.eq (.bool true), StK.eq (.agg (groupA k p (p / 2) 4)), StK.eq (numV 1), StK.eq (.bool false), StK.eq (.bool true), StK.eq (.bool true), StK.eq (.bool true), StK.eq (.agg (groupA k p (p / 2) 4)), StK.eq (.pointer (some ⟨g10, 1, none⟩)), StK.eq (numV p), StK.eq (.bool false), StK.eq (.bool true), StK.eq (.bool true), StK.eq (.bool true), StK.eq (.agg (groupA k p (p / 2) 4)), StK.eq (numV Z), StK.eq (.bool false), StK.eq (.bool false), StK.eq undef, StK.eq undef, StK.eq undef, StK.eq (.bool false), StK.eq (.bool true), StK.eq (.bool true), StK.eq (.bool true)] 29 rfl (by kernel_rfl) ⟨?_, ?_, ?_, ?_, ?_, ?_, ?_, ?_, ?_, ?_, ?_, ?_, ?_, ?_, ?_, ?_, ?_, ?_, ?_, ?_, ?_, ?_, ?_, ?_, ?_, ?_, ?_, ?_, ?_, trivial⟩ ?_
      · intro a w hb hd
        have e9 : a.eval (.tmp 9) = .pointer (some ⟨g10, 0, none⟩) := (show a.eval (.tmp 9) = _ from hd 9 (by decide)).trans (F55.get (t := 9) rfl)
        exact hop_runK (F := (StK.eq (.agg (groupA k p (p / 2) 4))).F) (wanted_none rfl) (.agg (groupA k p (p / 2) 4)) (y_ldN _ _ rfl e9 ((M54.step hb).blk (k := 0) rfl) (groupA k p (p / 2) 4) (y_all rfl) Try.underlying28 rfl (by kernel_rfl)) rfl
      · intro a w hb hd
        exact hop_runK (F := (StK.eq (numV 0)).F) (wanted_none rfl) (numV 0) (y_zbuild rfl) rfl
      · intro a w hb hd
        have e48 : a.eval (.tmp 48) = .agg (groupA k p (p / 2) 4) := hd 48 (by decide)
        have e49 : a.eval (.tmp 49) = numV 0 := hd 49 (by decide)
        exact hop_callK (F := (StK.eq (.bool false)).F) (wanted_none rfl) hb.size rfl #[.agg (groupA k p (p / 2) 4), numV 0] (args2 e48 e49) (enters_of Try.func27 (by kernel_rfl) rfl) (call_eqS (z4 w))
      · intro a w hb hd
        have e50 : a.eval (.tmp 50) = .bool false := hd 50 (by decide)
        exact hop_runK (F := (StK.eq (.bool true)).F) (wanted_none rfl) (.bool true) (run_not _ _ rfl e50) rfl
      · intro a w hb hd
        have e51 : a.eval (.tmp 51) = .bool true := hd 51 (by decide)
        exact hop_runK (F := (StK.eq (.bool true)).F) (wanted_none rfl) (.bool true) (run_mv _ (.inl rfl) e51) rfl
      · intro a w hb hd
        have eg : a.eval (.tmp 52) = .bool true := hd 52 (by decide)
        have e9 : a.eval (.tmp 9) = .pointer (some ⟨g10, 0, none⟩) := (show a.eval (.tmp 9) = _ from hd 9 (by decide)).trans (F55.get (t := 9) rfl)
        exact hop_runK (F := (StK.eq (.agg (groupA k p (p / 2) 4))).F) (wanted_yes rfl rfl rfl eg) (.agg (groupA k p (p / 2) 4)) (y_ldN _ _ rfl e9 ((M54.step hb).blk (k := 0) rfl) (groupA k p (p / 2) 4) (y_all rfl) Try.underlying28 rfl (by kernel_rfl)) rfl
      · intro a w hb hd
        have eg : a.eval (.tmp 52) = .bool true := hd 52 (by decide)
        exact hop_callK (F := (StK.eq (numV 1)).F) (wanted_yes rfl rfl rfl eg) hb.size rfl #[.int .i64 1] (args1 rfl) (enters_of Try.func22 (by kernel_rfl) rfl) (call_eqS (z9 w))
      · intro a w hb hd
        have eg : a.eval (.tmp 52) = .bool true := hd 52 (by decide)
        have e53 : a.eval (.tmp 53) = .agg (groupA k p (p / 2) 4) := hd 53 (by decide)
        have e54 : a.eval (.tmp 54) = numV 1 := hd 54 (by decide)
        exact hop_callK (F := (StK.eq (.bool false)).F) (wanted_yes rfl rfl rfl eg) hb.size rfl #[.agg (groupA k p (p / 2) 4), numV 1] (args2 e53 e54) (enters_of Try.func27 (by kernel_rfl) rfl) (call_eqS (z5 w))
      · intro a w hb hd
        have eg : a.eval (.tmp 52) = .bool true := hd 52 (by decide)
        have e55 : a.eval (.tmp 55) = .bool false := hd 55 (by decide)
        exact hop_runK (F := (StK.eq (.bool true)).F) (wanted_yes rfl rfl rfl eg) (.bool true) (run_not _ _ rfl e55) rfl
      · intro a w hb hd
        have e52 : a.eval (.tmp 52) = .bool true := hd 52 (by decide)
        have e56 : a.eval (.tmp 56) = .bool true := hd 56 (by decide)
        exact hop_runK (F := (StK.eq (.bool true)).F) (wanted_none rfl) (.bool true) (run_pick_t rfl e52 e56) rfl
      · intro a w hb hd
        have e57 : a.eval (.tmp 57) = .bool true := hd 57 (by decide)
        exact hop_runK (F := (StK.eq (.bool true)).F) (wanted_none rfl) (.bool true) (run_mv _ (.inl rfl) e57) rfl
      · intro a w hb hd
        have eg : a.eval (.tmp 58) = .bool true := hd 58 (by decide)
        have e9 : a.eval (.tmp 9) = .pointer (some ⟨g10, 0, none⟩) := (show a.eval (.tmp 9) = _ from hd 9 (by decide)).trans (F55.get (t := 9) rfl)
        exact hop_runK (F := (StK.eq (.agg (groupA k p (p / 2) 4))).F) (wanted_yes rfl rfl rfl eg) (.agg (groupA k p (p / 2) 4)) (y_ldN _ _ rfl e9 ((M54.step hb).blk (k := 0) rfl) (groupA k p (p / 2) 4) (y_all rfl) Try.underlying28 rfl (by kernel_rfl)) rfl
      · intro a w hb hd
        have eg : a.eval (.tmp 58) = .bool true := hd 58 (by decide)
        have e9 : a.eval (.tmp 9) = .pointer (some ⟨g10, 0, none⟩) := (show a.eval (.tmp 9) = _ from hd 9 (by decide)).trans (F55.get (t := 9) rfl)
        exact hop_runK (F := (StK.eq (.pointer (some ⟨g10, 1, none⟩))).F) (wanted_yes rfl rfl rfl eg) (.pointer (some ⟨g10, 1, none⟩)) (by unfold execOp; simp only [e9]; kernel_rfl) rfl
      · intro a w hb hd
        have eg : a.eval (.tmp 58) = .bool true := hd 58 (by decide)
        have e60 : a.eval (.tmp 60) = .pointer (some ⟨g10, 1, none⟩) := hd 60 (by decide)
        exact hop_runK (F := (StK.eq (numV p)).F) (wanted_yes rfl rfl rfl eg) (numV p) (y_ldN _ _ rfl e60 ((M54.step hb).blk (k := 0) rfl) (numA p) groupA_p Try.underlying26 rfl size26) rfl
      · intro a w hb hd
        have eg : a.eval (.tmp 58) = .bool true := hd 58 (by decide)
        have e59 : a.eval (.tmp 59) = .agg (groupA k p (p / 2) 4) := hd 59 (by decide)
        have e61 : a.eval (.tmp 61) = numV p := hd 61 (by decide)
        exact hop_callK (F := (StK.eq (.bool false)).F) (wanted_yes rfl rfl rfl eg) hb.size rfl #[.agg (groupA k p (p / 2) 4), numV p] (args2 e59 e61) (enters_of Try.func27 (by kernel_rfl) rfl) (call_eqS (z6 w))
      · intro a w hb hd
        have eg : a.eval (.tmp 58) = .bool true := hd 58 (by decide)
        have e62 : a.eval (.tmp 62) = .bool false := hd 62 (by decide)
        exact hop_runK (F := (StK.eq (.bool true)).F) (wanted_yes rfl rfl rfl eg) (.bool true) (run_not _ _ rfl e62) rfl
      · intro a w hb hd
        have e58 : a.eval (.tmp 58) = .bool true := hd 58 (by decide)
        have e63 : a.eval (.tmp 63) = .bool true := hd 63 (by decide)
        exact hop_runK (F := (StK.eq (.bool true)).F) (wanted_none rfl) (.bool true) (run_pick_t rfl e58 e63) rfl
      · intro a w hb hd
        have e64 : a.eval (.tmp 64) = .bool true := hd 64 (by decide)
        exact hop_runK (F := (StK.eq (.bool true)).F) (wanted_none rfl) (.bool true) (run_mv _ (.inl rfl) e64) rfl
      · intro a w hb hd
        have eg : a.eval (.tmp 65) = .bool true := hd 65 (by decide)
        have e9 : a.eval (.tmp 9) = .pointer (some ⟨g10, 0, none⟩) := (show a.eval (.tmp 9) = _ from hd 9 (by decide)).trans (F55.get (t := 9) rfl)
        exact hop_runK (F := (StK.eq (.agg (groupA k p (p / 2) 4))).F) (wanted_yes rfl rfl rfl eg) (.agg (groupA k p (p / 2) 4)) (y_ldN _ _ rfl e9 ((M54.step hb).blk (k := 0) rfl) (groupA k p (p / 2) 4) (y_all rfl) Try.underlying28 rfl (by kernel_rfl)) rfl
      · intro a w hb hd
        have eg : a.eval (.tmp 65) = .bool true := hd 65 (by decide)
        have e12 : a.eval (.tmp 12) = .pointer (some ⟨g30, 0, none⟩) := (show a.eval (.tmp 12) = _ from hd 12 (by decide)).trans (F55.get (t := 12) rfl)
        exact hop_runK (F := (StK.eq (numV Z)).F) (wanted_yes rfl rfl rfl eg) (numV Z) (y_ldN _ _ rfl e12 ((M54.step hb).blk (k := 2) rfl) (numA Z) (y_all rfl) Try.underlying26 rfl size26) rfl
      · intro a w hb hd
        have eg : a.eval (.tmp 65) = .bool true := hd 65 (by decide)
        have e66 : a.eval (.tmp 66) = .agg (groupA k p (p / 2) 4) := hd 66 (by decide)
        have e67 : a.eval (.tmp 67) = numV Z := hd 67 (by decide)
        exact hop_callK (F := (StK.eq (.bool false)).F) (wanted_yes rfl rfl rfl eg) hb.size rfl #[.agg (groupA k p (p / 2) 4), numV Z] (args2 e66 e67) (enters_of Try.func27 (by kernel_rfl) rfl) (call_eqS (z7 w))
      · intro a w hb hd
        have eg : a.eval (.tmp 65) = .bool true := hd 65 (by decide)
        have e68 : a.eval (.tmp 68) = .bool false := hd 68 (by decide)
        exact hop_runK (F := (StK.eq (.bool false)).F) (wanted_yes rfl rfl rfl eg) (.bool false) (run_mv _ (.inl rfl) e68) rfl
      · intro a w hb hd
        have eg : a.eval (.tmp 69) = .bool false := hd 69 (by decide)
        exact hop_skipK (F := (StK.eq (undef)).F) rfl rfl rfl eg rfl
      · intro a w hb hd
        have eg : a.eval (.tmp 69) = .bool false := hd 69 (by decide)
        exact hop_skipK (F := (StK.eq (undef)).F) rfl rfl rfl eg rfl
      · intro a w hb hd
        have eg : a.eval (.tmp 69) = .bool false := hd 69 (by decide)
        exact hop_skipK (F := (StK.eq (undef)).F) rfl rfl rfl eg rfl
      · intro a w hb hd
        have eg : a.eval (.tmp 65) = .bool true := hd 65 (by decide)
        have e69 : a.eval (.tmp 69) = .bool false := hd 69 (by decide)
        have e72 : a.eval (.tmp 72) = undef := hd 72 (by decide)
        exact hop_runK (F := (StK.eq (.bool false)).F) (wanted_yes rfl rfl rfl eg) (.bool false) (run_pick_f rfl e69 rfl) rfl
      · intro a w hb hd
        have eg : a.eval (.tmp 65) = .bool true := hd 65 (by decide)
        have e73 : a.eval (.tmp 73) = .bool false := hd 73 (by decide)
        exact hop_runK (F := (StK.eq (.bool true)).F) (wanted_yes rfl rfl rfl eg) (.bool true) (run_not _ _ rfl e73) rfl
      · intro a w hb hd
        have e65 : a.eval (.tmp 65) = .bool true := hd 65 (by decide)
        have e74 : a.eval (.tmp 74) = .bool true := hd 74 (by decide)
        exact hop_runK (F := (StK.eq (.bool true)).F) (wanted_none rfl) (.bool true) (run_pick_t rfl e65 e74) rfl
      · intro a w hb hd
        have e75 : a.eval (.tmp 75) = .bool true := hd 75 (by decide)
        exact hop_runK (F := (StK.eq (.bool true)).F) (wanted_none rfl) (.bool true) (run_mv _ (.inr rfl) e75) rfl
      intro p57 a57 w57 b57 G57 y57
      obtain ⟨-, -, -, -, -, -, -, -, -, -, -, -, -, -, -, -, -, -, -, -, -, -, -, -, -, -, -, -, q28, -⟩ := y57
      have r28 : p57 28 = .bool true := q28 (by decide)
      simp only [List.take_succ_cons, List.take_zero, layV, Nat.zero_add, Nat.reduceAdd, r28] at G57
      have M57 := M54.kc b57 M54.le
      clear F55 M54 r28 q28
      refine hK56 _ _ ?_
      refine wp_ret ?_
      try simp only [Exit.then, Exit.inBlock]
      exact bodyPost_ret (res1 rfl (G57.get (t := 8) rfl)) G57.defers ⟨rfl, M57.below⟩
    · cases hn
      · refine region_fx F55 [StK.eq (.agg (groupA k p (p / 2) 4)), StK.eq (numV 0), StK.eq (.bool false), StK.eq (.bool true), StK.eq (.bool true), StK.eq (.agg (groupA k p (p / 2) 4)), StK.eq (numV 1), StK.eq (.bool false), StK.eq (.bool true), StK.eq (.bool true), StK.eq (.bool true), StK.eq (.agg (groupA k p (p / 2) 4)), StK.eq (.pointer (some ⟨g10, 1, none⟩)), StK.eq (numV p), StK.eq (.bool false), StK.eq (.bool true), StK.eq (.bool true), StK.eq (.bool true), StK.eq (.agg (groupA k p (p / 2) 4)), StK.eq (numV Z), StK.eq (.bool true), StK.eq (.bool true), StK.eq (.agg (groupA k p (p / 2) 4)), StK.eq (numV N), StK.eq (.bool false), StK.eq (.bool false), StK.eq (.bool true), StK.eq (.bool true), StK.eq (.bool true)] 29 rfl (by kernel_rfl) ⟨?_, ?_, ?_, ?_, ?_, ?_, ?_, ?_, ?_, ?_, ?_, ?_, ?_, ?_, ?_, ?_, ?_, ?_, ?_, ?_, ?_, ?_, ?_, ?_, ?_, ?_, ?_, ?_, ?_, trivial⟩ ?_
        · intro a w hb hd
          have e9 : a.eval (.tmp 9) = .pointer (some ⟨g10, 0, none⟩) := (show a.eval (.tmp 9) = _ from hd 9 (by decide)).trans (F55.get (t := 9) rfl)
          exact hop_runK (F := (StK.eq (.agg (groupA k p (p / 2) 4))).F) (wanted_none rfl) (.agg (groupA k p (p / 2) 4)) (y_ldN _ _ rfl e9 ((M54.step hb).blk (k := 0) rfl) (groupA k p (p / 2) 4) (y_all rfl) Try.underlying28 rfl (by kernel_rfl)) rfl
        · intro a w hb hd
          exact hop_runK (F := (StK.eq (numV 0)).F) (wanted_none rfl) (numV 0) (y_zbuild rfl) rfl
        · intro a w hb hd
          have e48 : a.eval (.tmp 48) = .agg (groupA k p (p / 2) 4) := hd 48 (by decide)
          have e49 : a.eval (.tmp 49) = numV 0 := hd 49 (by decide)
          exact hop_callK (F := (StK.eq (.bool false)).F) (wanted_none rfl) hb.size rfl #[.agg (groupA k p (p / 2) 4), numV 0] (args2 e48 e49) (enters_of Try.func27 (by kernel_rfl) rfl) (call_eqS (z4 w))
        · intro a w hb hd
          have e50 : a.eval (.tmp 50) = .bool false := hd 50 (by decide)
          exact hop_runK (F := (StK.eq (.bool true)).F) (wanted_none rfl) (.bool true) (run_not _ _ rfl e50) rfl
        · intro a w hb hd
          have e51 : a.eval (.tmp 51) = .bool true := hd 51 (by decide)
          exact hop_runK (F := (StK.eq (.bool true)).F) (wanted_none rfl) (.bool true) (run_mv _ (.inl rfl) e51) rfl
        · intro a w hb hd
          have eg : a.eval (.tmp 52) = .bool true := hd 52 (by decide)
          have e9 : a.eval (.tmp 9) = .pointer (some ⟨g10, 0, none⟩) := (show a.eval (.tmp 9) = _ from hd 9 (by decide)).trans (F55.get (t := 9) rfl)
          exact hop_runK (F := (StK.eq (.agg (groupA k p (p / 2) 4))).F) (wanted_yes rfl rfl rfl eg) (.agg (groupA k p (p / 2) 4)) (y_ldN _ _ rfl e9 ((M54.step hb).blk (k := 0) rfl) (groupA k p (p / 2) 4) (y_all rfl) Try.underlying28 rfl (by kernel_rfl)) rfl
        · intro a w hb hd
          have eg : a.eval (.tmp 52) = .bool true := hd 52 (by decide)
          exact hop_callK (F := (StK.eq (numV 1)).F) (wanted_yes rfl rfl rfl eg) hb.size rfl #[.int .i64 1] (args1 rfl) (enters_of Try.func22 (by kernel_rfl) rfl) (call_eqS (z9 w))
        · intro a w hb hd
          have eg : a.eval (.tmp 52) = .bool true := hd 52 (by decide)
          have e53 : a.eval (.tmp 53) = .agg (groupA k p (p / 2) 4) := hd 53 (by decide)
          have e54 : a.eval (.tmp 54) = numV 1 := hd 54 (by decide)
          exact hop_callK (F := (StK.eq (.bool false)).F) (wanted_yes rfl rfl rfl eg) hb.size rfl #[.agg (groupA k p (p / 2) 4), numV 1] (args2 e53 e54) (enters_of Try.func27 (by kernel_rfl) rfl) (call_eqS (z5 w))
        · intro a w hb hd
          have eg : a.eval (.tmp 52) = .bool true := hd 52 (by decide)
          have e55 : a.eval (.tmp 55) = .bool false := hd 55 (by decide)
          exact hop_runK (F := (StK.eq (.bool true)).F) (wanted_yes rfl rfl rfl eg) (.bool true) (run_not _ _ rfl e55) rfl
        · intro a w hb hd
          have e52 : a.eval (.tmp 52) = .bool true := hd 52 (by decide)
          have e56 : a.eval (.tmp 56) = .bool true := hd 56 (by decide)
          exact hop_runK (F := (StK.eq (.bool true)).F) (wanted_none rfl) (.bool true) (run_pick_t rfl e52 e56) rfl
        · intro a w hb hd
          have e57 : a.eval (.tmp 57) = .bool true := hd 57 (by decide)
          exact hop_runK (F := (StK.eq (.bool true)).F) (wanted_none rfl) (.bool true) (run_mv _ (.inl rfl) e57) rfl
        · intro a w hb hd
          have eg : a.eval (.tmp 58) = .bool true := hd 58 (by decide)
          have e9 : a.eval (.tmp 9) = .pointer (some ⟨g10, 0, none⟩) := (show a.eval (.tmp 9) = _ from hd 9 (by decide)).trans (F55.get (t := 9) rfl)
          exact hop_runK (F := (StK.eq (.agg (groupA k p (p / 2) 4))).F) (wanted_yes rfl rfl rfl eg) (.agg (groupA k p (p / 2) 4)) (y_ldN _ _ rfl e9 ((M54.step hb).blk (k := 0) rfl) (groupA k p (p / 2) 4) (y_all rfl) Try.underlying28 rfl (by kernel_rfl)) rfl
        · intro a w hb hd
          have eg : a.eval (.tmp 58) = .bool true := hd 58 (by decide)
          have e9 : a.eval (.tmp 9) = .pointer (some ⟨g10, 0, none⟩) := (show a.eval (.tmp 9) = _ from hd 9 (by decide)).trans (F55.get (t := 9) rfl)
          exact hop_runK (F := (StK.eq (.pointer (some ⟨g10, 1, none⟩))).F) (wanted_yes rfl rfl rfl eg) (.pointer (some ⟨g10, 1, none⟩)) (by unfold execOp; simp only [e9]; kernel_rfl) rfl
        · intro a w hb hd
          have eg : a.eval (.tmp 58) = .bool true := hd 58 (by decide)
          have e60 : a.eval (.tmp 60) = .pointer (some ⟨g10, 1, none⟩) := hd 60 (by decide)
          exact hop_runK (F := (StK.eq (numV p)).F) (wanted_yes rfl rfl rfl eg) (numV p) (y_ldN _ _ rfl e60 ((M54.step hb).blk (k := 0) rfl) (numA p) groupA_p Try.underlying26 rfl size26) rfl
        · intro a w hb hd
          have eg : a.eval (.tmp 58) = .bool true := hd 58 (by decide)
          have e59 : a.eval (.tmp 59) = .agg (groupA k p (p / 2) 4) := hd 59 (by decide)
          have e61 : a.eval (.tmp 61) = numV p := hd 61 (by decide)
          exact hop_callK (F := (StK.eq (.bool false)).F) (wanted_yes rfl rfl rfl eg) hb.size rfl #[.agg (groupA k p (p / 2) 4), numV p] (args2 e59 e61) (enters_of Try.func27 (by kernel_rfl) rfl) (call_eqS (z6 w))
        · intro a w hb hd
          have eg : a.eval (.tmp 58) = .bool true := hd 58 (by decide)
          have e62 : a.eval (.tmp 62) = .bool false := hd 62 (by decide)
          exact hop_runK (F := (StK.eq (.bool true)).F) (wanted_yes rfl rfl rfl eg) (.bool true) (run_not _ _ rfl e62) rfl
        · intro a w hb hd
          have e58 : a.eval (.tmp 58) = .bool true := hd 58 (by decide)
          have e63 : a.eval (.tmp 63) = .bool true := hd 63 (by decide)
          exact hop_runK (F := (StK.eq (.bool true)).F) (wanted_none rfl) (.bool true) (run_pick_t rfl e58 e63) rfl
        · intro a w hb hd
          have e64 : a.eval (.tmp 64) = .bool true := hd 64 (by decide)
          exact hop_runK (F := (StK.eq (.bool true)).F) (wanted_none rfl) (.bool true) (run_mv _ (.inl rfl) e64) rfl
        · intro a w hb hd
          have eg : a.eval (.tmp 65) = .bool true := hd 65 (by decide)
          have e9 : a.eval (.tmp 9) = .pointer (some ⟨g10, 0, none⟩) := (show a.eval (.tmp 9) = _ from hd 9 (by decide)).trans (F55.get (t := 9) rfl)
          exact hop_runK (F := (StK.eq (.agg (groupA k p (p / 2) 4))).F) (wanted_yes rfl rfl rfl eg) (.agg (groupA k p (p / 2) 4)) (y_ldN _ _ rfl e9 ((M54.step hb).blk (k := 0) rfl) (groupA k p (p / 2) 4) (y_all rfl) Try.underlying28 rfl (by kernel_rfl)) rfl
        · intro a w hb hd
          have eg : a.eval (.tmp 65) = .bool true := hd 65 (by decide)
          have e12 : a.eval (.tmp 12) = .pointer (some ⟨g30, 0, none⟩) := (show a.eval (.tmp 12) = _ from hd 12 (by decide)).trans (F55.get (t := 12) rfl)
          exact hop_runK (F := (StK.eq (numV Z)).F) (wanted_yes rfl rfl rfl eg) (numV Z) (y_ldN _ _ rfl e12 ((M54.step hb).blk (k := 2) rfl) (numA Z) (y_all rfl) Try.underlying26 rfl size26) rfl
        · intro a w hb hd
          have eg : a.eval (.tmp 65) = .bool true := hd 65 (by decide)
          have e66 : a.eval (.tmp 66) = .agg (groupA k p (p / 2) 4) := hd 66 (by decide)
          have e67 : a.eval (.tmp 67) = numV Z := hd 67 (by decide)
          exact hop_callK (F := (StK.eq (.bool true)).F) (wanted_yes rfl rfl rfl eg) hb.size rfl #[.agg (groupA k p (p / 2) 4), numV Z] (args2 e66 e67) (enters_of Try.func27 (by kernel_rfl) rfl) (call_eqS (z7 w))
        · intro a w hb hd
          have eg : a.eval (.tmp 65) = .bool true := hd 65 (by decide)
          have e68 : a.eval (.tmp 68) = .bool true := hd 68 (by decide)
          exact hop_runK (F := (StK.eq (.bool true)).F) (wanted_yes rfl rfl rfl eg) (.bool true) (run_mv _ (.inl rfl) e68) rfl
        · intro a w hb hd
          have eg : a.eval (.tmp 69) = .bool true := hd 69 (by decide)
          have e9 : a.eval (.tmp 9) = .pointer (some ⟨g10, 0, none⟩) := (show a.eval (.tmp 9) = _ from hd 9 (by decide)).trans (F55.get (t := 9) rfl)
          exact hop_runK (F := (StK.eq (.agg (groupA k p (p / 2) 4))).F) (wanted_yes rfl rfl rfl eg) (.agg (groupA k p (p / 2) 4)) (y_ldN _ _ rfl e9 ((M54.step hb).blk (k := 0) rfl) (groupA k p (p / 2) 4) (y_all rfl) Try.underlying28 rfl (by kernel_rfl)) rfl
        · intro a w hb hd
          have eg : a.eval (.tmp 69) = .bool true := hd 69 (by decide)
          have e13 : a.eval (.tmp 13) = .pointer (some ⟨g40, 0, none⟩) := (show a.eval (.tmp 13) = _ from hd 13 (by decide)).trans (F55.get (t := 13) rfl)
          exact hop_runK (F := (StK.eq (numV N)).F) (wanted_yes rfl rfl rfl eg) (numV N) (y_ldN _ _ rfl e13 ((M54.step hb).blk (k := 3) rfl) (numA N) (y_all rfl) Try.underlying26 rfl size26) rfl
        · intro a w hb hd
          have eg : a.eval (.tmp 69) = .bool true := hd 69 (by decide)
          have e70 : a.eval (.tmp 70) = .agg (groupA k p (p / 2) 4) := hd 70 (by decide)
          have e71 : a.eval (.tmp 71) = numV N := hd 71 (by decide)
          exact hop_callK (F := (StK.eq (.bool false)).F) (wanted_yes rfl rfl rfl eg) hb.size rfl #[.agg (groupA k p (p / 2) 4), numV N] (args2 e70 e71) (enters_of Try.func27 (by kernel_rfl) rfl) (call_eqS (z8 w))
        · intro a w hb hd
          have eg : a.eval (.tmp 65) = .bool true := hd 65 (by decide)
          have e69 : a.eval (.tmp 69) = .bool true := hd 69 (by decide)
          have e72 : a.eval (.tmp 72) = .bool false := hd 72 (by decide)
          exact hop_runK (F := (StK.eq (.bool false)).F) (wanted_yes rfl rfl rfl eg) (.bool false) (run_pick_t rfl e69 e72) rfl
        · intro a w hb hd
          have eg : a.eval (.tmp 65) = .bool true := hd 65 (by decide)
          have e73 : a.eval (.tmp 73) = .bool false := hd 73 (by decide)
          exact hop_runK (F := (StK.eq (.bool true)).F) (wanted_yes rfl rfl rfl eg) (.bool true) (run_not _ _ rfl e73) rfl
        · intro a w hb hd
          have e65 : a.eval (.tmp 65) = .bool true := hd 65 (by decide)
          have e74 : a.eval (.tmp 74) = .bool true := hd 74 (by decide)
          exact hop_runK (F := (StK.eq (.bool true)).F) (wanted_none rfl) (.bool true) (run_pick_t rfl e65 e74) rfl
        · intro a w hb hd
          have e75 : a.eval (.tmp 75) = .bool true := hd 75 (by decide)
          exact hop_runK (F := (StK.eq (.bool true)).F) (wanted_none rfl) (.bool true) (run_mv _ (.inr rfl) e75) rfl
        intro p58 a58 w58 b58 G58 y58
        obtain ⟨-, -, -, -, -, -, -, -, -, -, -, -, -, -, -, -, -, -, -, -, -, -, -, -, -, -, -, -, q28, -⟩ := y58
        have r28 : p58 28 = .bool true := q28 (by decide)
        simp only [List.take_succ_cons, List.take_zero, layV, Nat.zero_add, Nat.reduceAdd, r28] at G58
        have M58 := M54.kc b58 M54.le
        clear F55 M54 r28 q28
        refine hK56 _ _ ?_
        refine wp_ret ?_
        try simp only [Exit.then, Exit.inBlock]
        exact bodyPost_ret (res1 rfl (G58.get (t := 8) rfl)) G58.defers ⟨rfl, M58.below⟩
      · rcases z11 with h | h <;> cases h
  · refine wl_run (w' := w48) (wanted_none rfl) rfl F48 rfl (.bool false) (y_geq _ _ _ _ rfl (F48.get (t := 41) rfl) rfl (decide_eq_false h49)) fun a59 F59 => ?_
    clear F48
    refine wl_run (w' := w48) (wanted_none rfl) rfl F59 rfl (.bool false) (run_mv _ (.inl rfl) (F59.get (t := 42) rfl)) fun a60 F60 => ?_
    clear F59
    refine wl_skip (wanted_no rfl rfl rfl (F60.get (t := 43) rfl)) rfl F60 rfl fun a61 F61 => ?_
    clear F60
    refine wl_skip (wanted_no rfl rfl rfl (F61.get (t := 43) rfl)) rfl F61 rfl fun a62 F62 => ?_
    clear F61
    refine wl_skip (wanted_no rfl rfl rfl (F62.get (t := 43) rfl)) rfl F62 rfl fun a63 F63 => ?_
    clear F62
    refine wl_run (w' := w48) (wanted_none rfl) rfl F63 rfl (.bool false) (run_pick_f rfl (F63.get (t := 43) rfl) rfl) fun a64 F64 => ?_
    clear F63
    refine hK44 _ _ ?_
    refine wp_cond_false (F64.get (t := 47) rfl) ?_
    refine wp_skip ?_
    refine hK43 _ _ ?_
    refine wp_seq_k fun K65 hK65 => ?_
    cases hz
    · refine region_fx F64 [StK.eq (.agg (groupA k p (p / 2) 4)), StK.eq (numV 0), StK.eq (.bool false), StK.eq (.bool true), StK.eq (.bool true), StK.eq (.agg (groupA k p (p / 2) 4)), StK.eq (numV 1), StK.eq (.bool false), StK.eq (.bool true), StK.eq (.bool true), StK.eq (.bool true), StK.eq (.agg (groupA k p (p / 2) 4)), StK.eq (.pointer (some ⟨g10, 1, none⟩)), StK.eq (numV p), StK.eq (.bool false), StK.eq (.bool true), StK.eq (.bool true), StK.eq (.bool true), StK.eq (.agg (groupA k p (p / 2) 4)), StK.eq (numV Z), StK.eq (.bool false), StK.eq (.bool false), StK.eq undef, StK.eq undef, StK.eq undef, StK.eq (.bool false), StK.eq (.bool true), StK.eq (.bool true), StK.eq (.bool true)] 29 rfl (by kernel_rfl) ⟨?_, ?_, ?_, ?_, ?_, ?_, ?_, ?_, ?_, ?_, ?_, ?_, ?_, ?_, ?_, ?_, ?_, ?_, ?_, ?_, ?_, ?_, ?_, ?_, ?_, ?_, ?_, ?_, ?_, trivial⟩ ?_
      · intro a w hb hd
        have e9 : a.eval (.tmp 9) = .pointer (some ⟨g10, 0, none⟩) := (show a.eval (.tmp 9) = _ from hd 9 (by decide)).trans (F64.get (t := 9) rfl)
        exact hop_runK (F := (StK.eq (.agg (groupA k p (p / 2) 4))).F) (wanted_none rfl) (.agg (groupA k p (p / 2) 4)) (y_ldN _ _ rfl e9 ((M48.step hb).blk (k := 0) rfl) (groupA k p (p / 2) 4) (y_all rfl) Try.underlying28 rfl (by kernel_rfl)) rfl
      · intro a w hb hd
        exact hop_runK (F := (StK.eq (numV 0)).F) (wanted_none rfl) (numV 0) (y_zbuild rfl) rfl
      · intro a w hb hd
        have e48 : a.eval (.tmp 48) = .agg (groupA k p (p / 2) 4) := hd 48 (by decide)
        have e49 : a.eval (.tmp 49) = numV 0 := hd 49 (by decide)
        exact hop_callK (F := (StK.eq (.bool false)).F) (wanted_none rfl) hb.size rfl #[.agg (groupA k p (p / 2) 4), numV 0] (args2 e48 e49) (enters_of Try.func27 (by kernel_rfl) rfl) (call_eqS (z4 w))
      · intro a w hb hd
        have e50 : a.eval (.tmp 50) = .bool false := hd 50 (by decide)
        exact hop_runK (F := (StK.eq (.bool true)).F) (wanted_none rfl) (.bool true) (run_not _ _ rfl e50) rfl
      · intro a w hb hd
        have e51 : a.eval (.tmp 51) = .bool true := hd 51 (by decide)
        exact hop_runK (F := (StK.eq (.bool true)).F) (wanted_none rfl) (.bool true) (run_mv _ (.inl rfl) e51) rfl
      · intro a w hb hd
        have eg : a.eval (.tmp 52) = .bool true := hd 52 (by decide)
        have e9 : a.eval (.tmp 9) = .pointer (some ⟨g10, 0, none⟩) := (show a.eval (.tmp 9) = _ from hd 9 (by decide)).trans (F64.get (t := 9) rfl)
        exact hop_runK (F := (StK.eq (.agg (groupA k p (p / 2) 4))).F) (wanted_yes rfl rfl rfl eg) (.agg (groupA k p (p / 2) 4)) (y_ldN _ _ rfl e9 ((M48.step hb).blk (k := 0) rfl) (groupA k p (p / 2) 4) (y_all rfl) Try.underlying28 rfl (by kernel_rfl)) rfl
      · intro a w hb hd
        have eg : a.eval (.tmp 52) = .bool true := hd 52 (by decide)
        exact hop_callK (F := (StK.eq (numV 1)).F) (wanted_yes rfl rfl rfl eg) hb.size rfl #[.int .i64 1] (args1 rfl) (enters_of Try.func22 (by kernel_rfl) rfl) (call_eqS (z9 w))
      · intro a w hb hd
        have eg : a.eval (.tmp 52) = .bool true := hd 52 (by decide)
        have e53 : a.eval (.tmp 53) = .agg (groupA k p (p / 2) 4) := hd 53 (by decide)
        have e54 : a.eval (.tmp 54) = numV 1 := hd 54 (by decide)
        exact hop_callK (F := (StK.eq (.bool false)).F) (wanted_yes rfl rfl rfl eg) hb.size rfl #[.agg (groupA k p (p / 2) 4), numV 1] (args2 e53 e54) (enters_of Try.func27 (by kernel_rfl) rfl) (call_eqS (z5 w))
      · intro a w hb hd
        have eg : a.eval (.tmp 52) = .bool true := hd 52 (by decide)
        have e55 : a.eval (.tmp 55) = .bool false := hd 55 (by decide)
        exact hop_runK (F := (StK.eq (.bool true)).F) (wanted_yes rfl rfl rfl eg) (.bool true) (run_not _ _ rfl e55) rfl
      · intro a w hb hd
        have e52 : a.eval (.tmp 52) = .bool true := hd 52 (by decide)
        have e56 : a.eval (.tmp 56) = .bool true := hd 56 (by decide)
        exact hop_runK (F := (StK.eq (.bool true)).F) (wanted_none rfl) (.bool true) (run_pick_t rfl e52 e56) rfl
      · intro a w hb hd
        have e57 : a.eval (.tmp 57) = .bool true := hd 57 (by decide)
        exact hop_runK (F := (StK.eq (.bool true)).F) (wanted_none rfl) (.bool true) (run_mv _ (.inl rfl) e57) rfl
      · intro a w hb hd
        have eg : a.eval (.tmp 58) = .bool true := hd 58 (by decide)
        have e9 : a.eval (.tmp 9) = .pointer (some ⟨g10, 0, none⟩) := (show a.eval (.tmp 9) = _ from hd 9 (by decide)).trans (F64.get (t := 9) rfl)
        exact hop_runK (F := (StK.eq (.agg (groupA k p (p / 2) 4))).F) (wanted_yes rfl rfl rfl eg) (.agg (groupA k p (p / 2) 4)) (y_ldN _ _ rfl e9 ((M48.step hb).blk (k := 0) rfl) (groupA k p (p / 2) 4) (y_all rfl) Try.underlying28 rfl (by kernel_rfl)) rfl
      · intro a w hb hd
        have eg : a.eval (.tmp 58) = .bool true := hd 58 (by decide)
        have e9 : a.eval (.tmp 9) = .pointer (some ⟨g10, 0, none⟩) := (show a.eval (.tmp 9) = _ from hd 9 (by decide)).trans (F64.get (t := 9) rfl)
        exact hop_runK (F := (StK.eq (.pointer (some ⟨g10, 1, none⟩))).F) (wanted_yes rfl rfl rfl eg) (.pointer (some ⟨g10, 1, none⟩)) (by unfold execOp; simp only [e9]; kernel_rfl) rfl
      · intro a w hb hd
        have eg : a.eval (.tmp 58) = .bool true := hd 58 (by decide)
        have e60 : a.eval (.tmp 60) = .pointer (some ⟨g10, 1, none⟩) := hd 60 (by decide)
        exact hop_runK (F := (StK.eq (numV p)).F) (wanted_yes rfl rfl rfl eg) (numV p) (y_ldN _ _ rfl e60 ((M48.step hb).blk (k := 0) rfl) (numA p) groupA_p Try.underlying26 rfl size26) rfl
      · intro a w hb hd
        have eg : a.eval (.tmp 58) = .bool true := hd 58 (by decide)
        have e59 : a.eval (.tmp 59) = .agg (groupA k p (p / 2) 4) := hd 59 (by decide)
        have e61 : a.eval (.tmp 61) = numV p := hd 61 (by decide)
        exact hop_callK (F := (StK.eq (.bool false)).F) (wanted_yes rfl rfl rfl eg) hb.size rfl #[.agg (groupA k p (p / 2) 4), numV p] (args2 e59 e61) (enters_of Try.func27 (by kernel_rfl) rfl) (call_eqS (z6 w))
      · intro a w hb hd
        have eg : a.eval (.tmp 58) = .bool true := hd 58 (by decide)
        have e62 : a.eval (.tmp 62) = .bool false := hd 62 (by decide)
        exact hop_runK (F := (StK.eq (.bool true)).F) (wanted_yes rfl rfl rfl eg) (.bool true) (run_not _ _ rfl e62) rfl
      · intro a w hb hd
        have e58 : a.eval (.tmp 58) = .bool true := hd 58 (by decide)
        have e63 : a.eval (.tmp 63) = .bool true := hd 63 (by decide)
        exact hop_runK (F := (StK.eq (.bool true)).F) (wanted_none rfl) (.bool true) (run_pick_t rfl e58 e63) rfl
      · intro a w hb hd
        have e64 : a.eval (.tmp 64) = .bool true := hd 64 (by decide)
        exact hop_runK (F := (StK.eq (.bool true)).F) (wanted_none rfl) (.bool true) (run_mv _ (.inl rfl) e64) rfl
      · intro a w hb hd
        have eg : a.eval (.tmp 65) = .bool true := hd 65 (by decide)
        have e9 : a.eval (.tmp 9) = .pointer (some ⟨g10, 0, none⟩) := (show a.eval (.tmp 9) = _ from hd 9 (by decide)).trans (F64.get (t := 9) rfl)
        exact hop_runK (F := (StK.eq (.agg (groupA k p (p / 2) 4))).F) (wanted_yes rfl rfl rfl eg) (.agg (groupA k p (p / 2) 4)) (y_ldN _ _ rfl e9 ((M48.step hb).blk (k := 0) rfl) (groupA k p (p / 2) 4) (y_all rfl) Try.underlying28 rfl (by kernel_rfl)) rfl
      · intro a w hb hd
        have eg : a.eval (.tmp 65) = .bool true := hd 65 (by decide)
        have e12 : a.eval (.tmp 12) = .pointer (some ⟨g30, 0, none⟩) := (show a.eval (.tmp 12) = _ from hd 12 (by decide)).trans (F64.get (t := 12) rfl)
        exact hop_runK (F := (StK.eq (numV Z)).F) (wanted_yes rfl rfl rfl eg) (numV Z) (y_ldN _ _ rfl e12 ((M48.step hb).blk (k := 2) rfl) (numA Z) (y_all rfl) Try.underlying26 rfl size26) rfl
      · intro a w hb hd
        have eg : a.eval (.tmp 65) = .bool true := hd 65 (by decide)
        have e66 : a.eval (.tmp 66) = .agg (groupA k p (p / 2) 4) := hd 66 (by decide)
        have e67 : a.eval (.tmp 67) = numV Z := hd 67 (by decide)
        exact hop_callK (F := (StK.eq (.bool false)).F) (wanted_yes rfl rfl rfl eg) hb.size rfl #[.agg (groupA k p (p / 2) 4), numV Z] (args2 e66 e67) (enters_of Try.func27 (by kernel_rfl) rfl) (call_eqS (z7 w))
      · intro a w hb hd
        have eg : a.eval (.tmp 65) = .bool true := hd 65 (by decide)
        have e68 : a.eval (.tmp 68) = .bool false := hd 68 (by decide)
        exact hop_runK (F := (StK.eq (.bool false)).F) (wanted_yes rfl rfl rfl eg) (.bool false) (run_mv _ (.inl rfl) e68) rfl
      · intro a w hb hd
        have eg : a.eval (.tmp 69) = .bool false := hd 69 (by decide)
        exact hop_skipK (F := (StK.eq (undef)).F) rfl rfl rfl eg rfl
      · intro a w hb hd
        have eg : a.eval (.tmp 69) = .bool false := hd 69 (by decide)
        exact hop_skipK (F := (StK.eq (undef)).F) rfl rfl rfl eg rfl
      · intro a w hb hd
        have eg : a.eval (.tmp 69) = .bool false := hd 69 (by decide)
        exact hop_skipK (F := (StK.eq (undef)).F) rfl rfl rfl eg rfl
      · intro a w hb hd
        have eg : a.eval (.tmp 65) = .bool true := hd 65 (by decide)
        have e69 : a.eval (.tmp 69) = .bool false := hd 69 (by decide)
        have e72 : a.eval (.tmp 72) = undef := hd 72 (by decide)
        exact hop_runK (F := (StK.eq (.bool false)).F) (wanted_yes rfl rfl rfl eg) (.bool false) (run_pick_f rfl e69 rfl) rfl
      · intro a w hb hd
        have eg : a.eval (.tmp 65) = .bool true := hd 65 (by decide)
        have e73 : a.eval (.tmp 73) = .bool false := hd 73 (by decide)
        exact hop_runK (F := (StK.eq (.bool true)).F) (wanted_yes rfl rfl rfl eg) (.bool true) (run_not _ _ rfl e73) rfl
      · intro a w hb hd
        have e65 : a.eval (.tmp 65) = .bool true := hd 65 (by decide)
        have e74 : a.eval (.tmp 74) = .bool true := hd 74 (by decide)
        exact hop_runK (F := (StK.eq (.bool true)).F) (wanted_none rfl) (.bool true) (run_pick_t rfl e65 e74) rfl
      · intro a w hb hd
        have e75 : a.eval (.tmp 75) = .bool true := hd 75 (by decide)
        exact hop_runK (F := (StK.eq (.bool true)).F) (wanted_none rfl) (.bool true) (run_mv _ (.inr rfl) e75) rfl
      intro p66 a66 w66 b66 G66 y66
      obtain ⟨-, -, -, -, -, -, -, -, -, -, -, -, -, -, -, -, -, -, -, -, -, -, -, -, -, -, -, -, q28, -⟩ := y66
      have r28 : p66 28 = .bool true := q28 (by decide)
      simp only [List.take_succ_cons, List.take_zero, layV, Nat.zero_add, Nat.reduceAdd, r28] at G66
      have M66 := M48.kc b66 M48.le
      clear F64 M48 r28 q28
      refine hK65 _ _ ?_
      refine wp_ret ?_
      try simp only [Exit.then, Exit.inBlock]
      exact bodyPost_ret (res1 rfl (G66.get (t := 8) rfl)) G66.defers ⟨rfl, M66.below⟩
    · cases hn
      · refine region_fx F64 [StK.eq (.agg (groupA k p (p / 2) 4)), StK.eq (numV 0), StK.eq (.bool false), StK.eq (.bool true), StK.eq (.bool true), StK.eq (.agg (groupA k p (p / 2) 4)), StK.eq (numV 1), StK.eq (.bool false), StK.eq (.bool true), StK.eq (.bool true), StK.eq (.bool true), StK.eq (.agg (groupA k p (p / 2) 4)), StK.eq (.pointer (some ⟨g10, 1, none⟩)), StK.eq (numV p), StK.eq (.bool false), StK.eq (.bool true), StK.eq (.bool true), StK.eq (.bool true), StK.eq (.agg (groupA k p (p / 2) 4)), StK.eq (numV Z), StK.eq (.bool true), StK.eq (.bool true), StK.eq (.agg (groupA k p (p / 2) 4)), StK.eq (numV N), StK.eq (.bool false), StK.eq (.bool false), StK.eq (.bool true), StK.eq (.bool true), StK.eq (.bool true)] 29 rfl (by kernel_rfl) ⟨?_, ?_, ?_, ?_, ?_, ?_, ?_, ?_, ?_, ?_, ?_, ?_, ?_, ?_, ?_, ?_, ?_, ?_, ?_, ?_, ?_, ?_, ?_, ?_, ?_, ?_, ?_, ?_, ?_, trivial⟩ ?_
        · intro a w hb hd
          have e9 : a.eval (.tmp 9) = .pointer (some ⟨g10, 0, none⟩) := (show a.eval (.tmp 9) = _ from hd 9 (by decide)).trans (F64.get (t := 9) rfl)
          exact hop_runK (F := (StK.eq (.agg (groupA k p (p / 2) 4))).F) (wanted_none rfl) (.agg (groupA k p (p / 2) 4)) (y_ldN _ _ rfl e9 ((M48.step hb).blk (k := 0) rfl) (groupA k p (p / 2) 4) (y_all rfl) Try.underlying28 rfl (by kernel_rfl)) rfl
        · intro a w hb hd
          exact hop_runK (F := (StK.eq (numV 0)).F) (wanted_none rfl) (numV 0) (y_zbuild rfl) rfl
        · intro a w hb hd
          have e48 : a.eval (.tmp 48) = .agg (groupA k p (p / 2) 4) := hd 48 (by decide)
          have e49 : a.eval (.tmp 49) = numV 0 := hd 49 (by decide)
          exact hop_callK (F := (StK.eq (.bool false)).F) (wanted_none rfl) hb.size rfl #[.agg (groupA k p (p / 2) 4), numV 0] (args2 e48 e49) (enters_of Try.func27 (by kernel_rfl) rfl) (call_eqS (z4 w))
        · intro a w hb hd
          have e50 : a.eval (.tmp 50) = .bool false := hd 50 (by decide)
          exact hop_runK (F := (StK.eq (.bool true)).F) (wanted_none rfl) (.bool true) (run_not _ _ rfl e50) rfl
        · intro a w hb hd
          have e51 : a.eval (.tmp 51) = .bool true := hd 51 (by decide)
          exact hop_runK (F := (StK.eq (.bool true)).F) (wanted_none rfl) (.bool true) (run_mv _ (.inl rfl) e51) rfl
        · intro a w hb hd
          have eg : a.eval (.tmp 52) = .bool true := hd 52 (by decide)
          have e9 : a.eval (.tmp 9) = .pointer (some ⟨g10, 0, none⟩) := (show a.eval (.tmp 9) = _ from hd 9 (by decide)).trans (F64.get (t := 9) rfl)
          exact hop_runK (F := (StK.eq (.agg (groupA k p (p / 2) 4))).F) (wanted_yes rfl rfl rfl eg) (.agg (groupA k p (p / 2) 4)) (y_ldN _ _ rfl e9 ((M48.step hb).blk (k := 0) rfl) (groupA k p (p / 2) 4) (y_all rfl) Try.underlying28 rfl (by kernel_rfl)) rfl
        · intro a w hb hd
          have eg : a.eval (.tmp 52) = .bool true := hd 52 (by decide)
          exact hop_callK (F := (StK.eq (numV 1)).F) (wanted_yes rfl rfl rfl eg) hb.size rfl #[.int .i64 1] (args1 rfl) (enters_of Try.func22 (by kernel_rfl) rfl) (call_eqS (z9 w))
        · intro a w hb hd
          have eg : a.eval (.tmp 52) = .bool true := hd 52 (by decide)
          have e53 : a.eval (.tmp 53) = .agg (groupA k p (p / 2) 4) := hd 53 (by decide)
          have e54 : a.eval (.tmp 54) = numV 1 := hd 54 (by decide)
          exact hop_callK (F := (StK.eq (.bool false)).F) (wanted_yes rfl rfl rfl eg) hb.size rfl #[.agg (groupA k p (p / 2) 4), numV 1] (args2 e53 e54) (enters_of Try.func27 (by kernel_rfl) rfl) (call_eqS (z5 w))
        · intro a w hb hd
          have eg : a.eval (.tmp 52) = .bool true := hd 52 (by decide)
          have e55 : a.eval (.tmp 55) = .bool false := hd 55 (by decide)
          exact hop_runK (F := (StK.eq (.bool true)).F) (wanted_yes rfl rfl rfl eg) (.bool true) (run_not _ _ rfl e55) rfl
        · intro a w hb hd
          have e52 : a.eval (.tmp 52) = .bool true := hd 52 (by decide)
          have e56 : a.eval (.tmp 56) = .bool true := hd 56 (by decide)
          exact hop_runK (F := (StK.eq (.bool true)).F) (wanted_none rfl) (.bool true) (run_pick_t rfl e52 e56) rfl
        · intro a w hb hd
          have e57 : a.eval (.tmp 57) = .bool true := hd 57 (by decide)
          exact hop_runK (F := (StK.eq (.bool true)).F) (wanted_none rfl) (.bool true) (run_mv _ (.inl rfl) e57) rfl
        · intro a w hb hd
          have eg : a.eval (.tmp 58) = .bool true := hd 58 (by decide)
          have e9 : a.eval (.tmp 9) = .pointer (some ⟨g10, 0, none⟩) := (show a.eval (.tmp 9) = _ from hd 9 (by decide)).trans (F64.get (t := 9) rfl)
          exact hop_runK (F := (StK.eq (.agg (groupA k p (p / 2) 4))).F) (wanted_yes rfl rfl rfl eg) (.agg (groupA k p (p / 2) 4)) (y_ldN _ _ rfl e9 ((M48.step hb).blk (k := 0) rfl) (groupA k p (p / 2) 4) (y_all rfl) Try.underlying28 rfl (by kernel_rfl)) rfl
        · intro a w hb hd
          have eg : a.eval (.tmp 58) = .bool true := hd 58 (by decide)
          have e9 : a.eval (.tmp 9) = .pointer (some ⟨g10, 0, none⟩) := (show a.eval (.tmp 9) = _ from hd 9 (by decide)).trans (F64.get (t := 9) rfl)
          exact hop_runK (F := (StK.eq (.pointer (some ⟨g10, 1, none⟩))).F) (wanted_yes rfl rfl rfl eg) (.pointer (some ⟨g10, 1, none⟩)) (by unfold execOp; simp only [e9]; kernel_rfl) rfl
        · intro a w hb hd
          have eg : a.eval (.tmp 58) = .bool true := hd 58 (by decide)
          have e60 : a.eval (.tmp 60) = .pointer (some ⟨g10, 1, none⟩) := hd 60 (by decide)
          exact hop_runK (F := (StK.eq (numV p)).F) (wanted_yes rfl rfl rfl eg) (numV p) (y_ldN _ _ rfl e60 ((M48.step hb).blk (k := 0) rfl) (numA p) groupA_p Try.underlying26 rfl size26) rfl
        · intro a w hb hd
          have eg : a.eval (.tmp 58) = .bool true := hd 58 (by decide)
          have e59 : a.eval (.tmp 59) = .agg (groupA k p (p / 2) 4) := hd 59 (by decide)
          have e61 : a.eval (.tmp 61) = numV p := hd 61 (by decide)
          exact hop_callK (F := (StK.eq (.bool false)).F) (wanted_yes rfl rfl rfl eg) hb.size rfl #[.agg (groupA k p (p / 2) 4), numV p] (args2 e59 e61) (enters_of Try.func27 (by kernel_rfl) rfl) (call_eqS (z6 w))
        · intro a w hb hd
          have eg : a.eval (.tmp 58) = .bool true := hd 58 (by decide)
          have e62 : a.eval (.tmp 62) = .bool false := hd 62 (by decide)
          exact hop_runK (F := (StK.eq (.bool true)).F) (wanted_yes rfl rfl rfl eg) (.bool true) (run_not _ _ rfl e62) rfl
        · intro a w hb hd
          have e58 : a.eval (.tmp 58) = .bool true := hd 58 (by decide)
          have e63 : a.eval (.tmp 63) = .bool true := hd 63 (by decide)
          exact hop_runK (F := (StK.eq (.bool true)).F) (wanted_none rfl) (.bool true) (run_pick_t rfl e58 e63) rfl
        · intro a w hb hd
          have e64 : a.eval (.tmp 64) = .bool true := hd 64 (by decide)
          exact hop_runK (F := (StK.eq (.bool true)).F) (wanted_none rfl) (.bool true) (run_mv _ (.inl rfl) e64) rfl
        · intro a w hb hd
          have eg : a.eval (.tmp 65) = .bool true := hd 65 (by decide)
          have e9 : a.eval (.tmp 9) = .pointer (some ⟨g10, 0, none⟩) := (show a.eval (.tmp 9) = _ from hd 9 (by decide)).trans (F64.get (t := 9) rfl)
          exact hop_runK (F := (StK.eq (.agg (groupA k p (p / 2) 4))).F) (wanted_yes rfl rfl rfl eg) (.agg (groupA k p (p / 2) 4)) (y_ldN _ _ rfl e9 ((M48.step hb).blk (k := 0) rfl) (groupA k p (p / 2) 4) (y_all rfl) Try.underlying28 rfl (by kernel_rfl)) rfl
        · intro a w hb hd
          have eg : a.eval (.tmp 65) = .bool true := hd 65 (by decide)
          have e12 : a.eval (.tmp 12) = .pointer (some ⟨g30, 0, none⟩) := (show a.eval (.tmp 12) = _ from hd 12 (by decide)).trans (F64.get (t := 12) rfl)
          exact hop_runK (F := (StK.eq (numV Z)).F) (wanted_yes rfl rfl rfl eg) (numV Z) (y_ldN _ _ rfl e12 ((M48.step hb).blk (k := 2) rfl) (numA Z) (y_all rfl) Try.underlying26 rfl size26) rfl
        · intro a w hb hd
          have eg : a.eval (.tmp 65) = .bool true := hd 65 (by decide)
          have e66 : a.eval (.tmp 66) = .agg (groupA k p (p / 2) 4) := hd 66 (by decide)
          have e67 : a.eval (.tmp 67) = numV Z := hd 67 (by decide)
          exact hop_callK (F := (StK.eq (.bool true)).F) (wanted_yes rfl rfl rfl eg) hb.size rfl #[.agg (groupA k p (p / 2) 4), numV Z] (args2 e66 e67) (enters_of Try.func27 (by kernel_rfl) rfl) (call_eqS (z7 w))
        · intro a w hb hd
          have eg : a.eval (.tmp 65) = .bool true := hd 65 (by decide)
          have e68 : a.eval (.tmp 68) = .bool true := hd 68 (by decide)
          exact hop_runK (F := (StK.eq (.bool true)).F) (wanted_yes rfl rfl rfl eg) (.bool true) (run_mv _ (.inl rfl) e68) rfl
        · intro a w hb hd
          have eg : a.eval (.tmp 69) = .bool true := hd 69 (by decide)
          have e9 : a.eval (.tmp 9) = .pointer (some ⟨g10, 0, none⟩) := (show a.eval (.tmp 9) = _ from hd 9 (by decide)).trans (F64.get (t := 9) rfl)
          exact hop_runK (F := (StK.eq (.agg (groupA k p (p / 2) 4))).F) (wanted_yes rfl rfl rfl eg) (.agg (groupA k p (p / 2) 4)) (y_ldN _ _ rfl e9 ((M48.step hb).blk (k := 0) rfl) (groupA k p (p / 2) 4) (y_all rfl) Try.underlying28 rfl (by kernel_rfl)) rfl
        · intro a w hb hd
          have eg : a.eval (.tmp 69) = .bool true := hd 69 (by decide)
          have e13 : a.eval (.tmp 13) = .pointer (some ⟨g40, 0, none⟩) := (show a.eval (.tmp 13) = _ from hd 13 (by decide)).trans (F64.get (t := 13) rfl)
          exact hop_runK (F := (StK.eq (numV N)).F) (wanted_yes rfl rfl rfl eg) (numV N) (y_ldN _ _ rfl e13 ((M48.step hb).blk (k := 3) rfl) (numA N) (y_all rfl) Try.underlying26 rfl size26) rfl
        · intro a w hb hd
          have eg : a.eval (.tmp 69) = .bool true := hd 69 (by decide)
          have e70 : a.eval (.tmp 70) = .agg (groupA k p (p / 2) 4) := hd 70 (by decide)
          have e71 : a.eval (.tmp 71) = numV N := hd 71 (by decide)
          exact hop_callK (F := (StK.eq (.bool false)).F) (wanted_yes rfl rfl rfl eg) hb.size rfl #[.agg (groupA k p (p / 2) 4), numV N] (args2 e70 e71) (enters_of Try.func27 (by kernel_rfl) rfl) (call_eqS (z8 w))
        · intro a w hb hd
          have eg : a.eval (.tmp 65) = .bool true := hd 65 (by decide)
          have e69 : a.eval (.tmp 69) = .bool true := hd 69 (by decide)
          have e72 : a.eval (.tmp 72) = .bool false := hd 72 (by decide)
          exact hop_runK (F := (StK.eq (.bool false)).F) (wanted_yes rfl rfl rfl eg) (.bool false) (run_pick_t rfl e69 e72) rfl
        · intro a w hb hd
          have eg : a.eval (.tmp 65) = .bool true := hd 65 (by decide)
          have e73 : a.eval (.tmp 73) = .bool false := hd 73 (by decide)
          exact hop_runK (F := (StK.eq (.bool true)).F) (wanted_yes rfl rfl rfl eg) (.bool true) (run_not _ _ rfl e73) rfl
        · intro a w hb hd
          have e65 : a.eval (.tmp 65) = .bool true := hd 65 (by decide)
          have e74 : a.eval (.tmp 74) = .bool true := hd 74 (by decide)
          exact hop_runK (F := (StK.eq (.bool true)).F) (wanted_none rfl) (.bool true) (run_pick_t rfl e65 e74) rfl
        · intro a w hb hd
          have e75 : a.eval (.tmp 75) = .bool true := hd 75 (by decide)
          exact hop_runK (F := (StK.eq (.bool true)).F) (wanted_none rfl) (.bool true) (run_mv _ (.inr rfl) e75) rfl
        intro p67 a67 w67 b67 G67 y67
        obtain ⟨-, -, -, -, -, -, -, -, -, -, -, -, -, -, -, -, -, -, -, -, -, -, -, -, -, -, -, -, q28, -⟩ := y67
        have r28 : p67 28 = .bool true := q28 (by decide)
        simp only [List.take_succ_cons, List.take_zero, layV, Nat.zero_add, Nat.reduceAdd, r28] at G67
        have M67 := M48.kc b67 M48.le
        clear F64 M48 r28 q28
        refine hK65 _ _ ?_
        refine wp_ret ?_
        try simp only [Exit.then, Exit.inBlock]
        exact bodyPost_ret (res1 rfl (G67.get (t := 8) rfl)) G67.defers ⟨rfl, M67.below⟩
      · rcases z11 with h | h <;> cases h
end Go.Proofs.Ytgccbfkofkohpaa
