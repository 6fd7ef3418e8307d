/- sentinellaw4.GroupPowers: the walk. -/
import Derived.Test.YtgccbfkofkohpaaGpGroup
import Derived.Test.YtgccbfkofkohpaaGpKnown
import Derived.Test.YtgccbfkofkohpaaGaSy
import Derived.Test.YtgccbfkofkohpaaMtMk
import Derived.Test.YtgccbfkofkohpaaGpEq
import Derived.Test.YtgccbfkofkohpaaGpRHas
import Derived.Test.YtgccbfkofkohpaaGpRTimes
import Derived.Test.YtgccbfkofkohpaaFermat
namespace Go.Proofs.Ytgccbfkofkohpaa
set_option linter.unusedVariables false
set_option maxRecDepth 20000
set_option linter.unusedSimpArgs false
open Go.ChangeShapes Go.WideShapes Go.ChangeAt Go.RowKit
theorem powers_pack {k t : Int} {p x y : Nat} (hg : GOk k p) (hx : x < 4294967296 ^ 8) (hy : y < 4294967296 ^ 8) (t0 : 0 ≤ t) (t1 : t < (p : Int) + 3) : ∃ (Z U T S : Nat) (hx hz hs : Bool) (c : Int), RunsTo 22 #[.int .i64 t] (numV Z) ∧
    RunsTo 23 #[.agg (groupA k p (p / 2) 4), numV x, numV y] (numV U) ∧
    RunsTo 24 #[.agg (groupA k p (p / 2) 4), numV x, numV y] (numV U) ∧
    RunsTo 25 #[.agg (groupA k p (p / 2) 4), numV x, numV y] (numV T) ∧
    RunsTo 26 #[.agg (groupA k p (p / 2) 4), numV x, numV y] (numV T) ∧
    RunsTo 27 #[.agg (groupA k p (p / 2) 4), numV x] (.bool hx) ∧
    RunsTo 28 #[.agg (groupA k p (p / 2) 4), numV x] (.bool hx) ∧
    RunsTo 27 #[.agg (groupA k p (p / 2) 4), numV Z] (.bool hz) ∧
    RunsTo 28 #[.agg (groupA k p (p / 2) 4), numV Z] (.bool hz) ∧
    RunsTo 25 #[.agg (groupA k p (p / 2) 4), numV Z, numV Z] (numV S) ∧
    RunsTo 27 #[.agg (groupA k p (p / 2) 4), numV S] (.bool hs) ∧
    RunsTo 22 #[.int .i64 2] (numV 2) ∧
    RunsTo 29 #[numV S, numV 2] (.int .i64 c) ∧
    RunsTo 23 #[.agg (groupA k p (p / 2) 4), numV Z, numV 2] (numV S) ∧ (hs = true ∨ c < 0) := by
  obtain ⟨-, -, po, p1, p2, pp, pq⟩ := hg
  have hp : p < 4294967296 ^ 8 := Nat.lt_trans p2 (by decide)
  have hQ : p / 2 < 4294967296 ^ 8 := Nat.lt_of_le_of_lt (Nat.div_le_self _ _) hp
  have hZ : t.toNat < 4294967296 ^ 8 := Nat.lt_trans (m := 16777220) (by omega) (by decide)
  have hS : t.toNat * t.toNat % p < 4294967296 ^ 8 := Nat.lt_trans (Nat.mod_lt _ (by omega)) hp
  have q1 : 1 < p := by omega
  have q2 : p < 2147483648 := by omega
  refine ⟨t.toNat, x ^ y % p, x * y % p, t.toNat * t.toNat % p, hasB x p (p / 2), hasB t.toNat p (p / 2), hasB (t.toNat * t.toNat % p) p (p / 2), cmpI (t.toNat * t.toNat % p) 2, from_ref t (by omega) (by omega), graise_any k p (p / 2) 4 po q1 hp x y hx hy, rraise_any k p (p / 2) 4 q1 q2 x y hx hy, gtimes_any k p (p / 2) 4 po q1 hp x y hx hy, rtimes_any k p (p / 2) 4 q1 q2 x y hx hy, ghas_any k p (p / 2) 4 po q1 hp x hx hQ, rhas_any k p (p / 2) 4 q1 q2 x hx hQ, ghas_any k p (p / 2) 4 po q1 hp _ hZ hQ, rhas_any k p (p / 2) 4 q1 q2 _ hZ hQ, gtimes_any k p (p / 2) 4 po q1 hp _ _ hZ hZ, ghas_any k p (p / 2) 4 po q1 hp _ hS hQ, fun w => from_ref 2 (by decide) (by decide) w, rcmp_any _ 2 hS (by decide), fun w => ?_, ?_⟩
  · have := graise_any k p (p / 2) 4 po q1 hp t.toNat 2 hZ (by decide) w
    rwa [Nat.pow_two] at this
  · by_cases h : t.toNat * t.toNat % p < 2
    · right; unfold cmpI; rw [if_pos h]; decide
    · left
      unfold hasB
      exact decide_eq_true ⟨by omega, Nat.mod_lt _ (by omega), square_one pp po (by omega)⟩
set_option maxRecDepth 100000 in
set_option maxHeartbeats 8000000 in
theorem GroupPowers_walk (a0 : Int) (hk0 : -9223372036854775808 ≤ a0) (hl0 : a0 < 9223372036854775808)
    (a1 : Int) (hk1 : -9223372036854775808 ≤ a1) (hl1 : a1 < 9223372036854775808)
    (A2 : Option Addr) (n2 cap2 : Nat) (x2 : Nat → Int)
    (a3 : Int) (hk3 : -9223372036854775808 ≤ a3) (hl3 : a3 < 9223372036854775808)
    (A4 : Option Addr) (n4 cap4 : Nat) (x4 : Nat → Int) (w : World) (hr2 : RdI w A2 n2 x2) (hr4 : RdI w A4 n4 x4) :
    Calls Try.prog 5 #[.int .i64 a0, .int .i64 a1, .slice A2 n2 cap2, .int .i64 a3, .slice A4 n4 cap4] w fun e w' => e = .returned (.bool true) ∧ Below w.heap.size w w' := by
  obtain ⟨k, p, hg, kG⟩ := group_any hk0 hl0
  obtain ⟨x, ex⟩ : ∃ x, Hid (mkN a1 n2 x2 = x) := ⟨_, hid rfl⟩
  have mkx := fun (w : World) (hx : RdI w A2 n2 x2) => make_det a1 hk1 hl1 A2 n2 cap2 x2 w hx
  rw [ex.out] at mkx
  have bx : x < 4294967296 ^ 8 := by rw [← ex.out]; exact mkN_lt _ _ _
  clear ex
  obtain ⟨y, ey⟩ : ∃ y, Hid (mkN a3 n4 x4 = y) := ⟨_, hid rfl⟩
  have mky := fun (w : World) (hx : RdI w A4 n4 x4) => make_det a3 hk3 hl3 A4 n4 cap4 x4 w hx
  rw [ey.out] at mky
  have hyy : y < 4294967296 ^ 8 := by rw [← ey.out]; exact mkN_lt _ _ _
  clear ey
  obtain ⟨p1, p2⟩ : 4000 < p ∧ p < 16777216 := ⟨hg.2.2.2.1, hg.2.2.2.2.1⟩
  obtain ⟨t, et⟩ : ∃ t : Int, Hid (a1 % ((p : Int) + 3) = t) := ⟨_, hid rfl⟩
  have kwt := fun (w : World) => gwithin_any a1 ((p : Int) + 3) (by omega) (by omega) hk1 hl1 w
  rw [et.out] at kwt
  obtain ⟨pt, qt⟩ : 0 ≤ t ∧ t < (p : Int) + 3 := by rw [← et.out]; exact ⟨Int.emod_nonneg _ (by omega), Int.emod_lt_of_pos _ (by omega)⟩
  obtain ⟨Z, U, T, S, hx, hz, hs, c, z1, z2, z3, z4, z5, z6, z7, z8, z9, z10, z11, z12, z13, z14, z15⟩ := powers_pack hg bx hyy pt qt
  clear et
  refine calls_fx (args := [.int .i64 a0, .int .i64 a1, .slice A2 n2 cap2, .int .i64 a3, .slice A4 n4 cap4]) 92 Try.func5 rfl rfl rfl ?_
  intro fa F
  have M := Mx.start w
  refine wp_seq_k fun K1 hK1 => ?_
  refine wp_region_lit ?_
  refine wl_run (w' := w) (wanted_none rfl) rfl F rfl (.bool false) (run_mv _ (.inr rfl) rfl) fun a2 F2 => ?_
  clear F
  refine hK1 _ _ ?_
  refine wp_seq_k fun K3 hK3 => ?_
  refine wp_seq_k fun K4 hK4 => ?_
  refine wp_region_lit ?_
  refine wl_call (wanted_none rfl) rfl F2 rfl rfl (enters_of Try.func13 (by kernel_rfl) rfl) #[] (args0) (call_ex (gknown_any w)) ?_
  rintro _ w5 a5 ⟨rfl, b5⟩ F5
  have M5 := M.step b5
  refine wl_run (w' := w5) (wanted_none rfl) rfl F5 rfl (.bool false) (run_not _ _ rfl (F5.get (t := 16) rfl)) fun a6 F6 => ?_
  clear F5
  refine hK4 _ _ ?_
  refine wp_cond_false (F6.get (t := 17) rfl) ?_
  refine wp_skip ?_
  refine hK3 _ _ ?_
  refine wp_seq_k fun K7 hK7 => ?_
  refine wp_region_lit ?_
  refine wl_run (w' := w5) (wanted_none rfl) rfl F6 rfl (.int .i64 a0) (run_mv _ (.inl rfl) (F6.get (t := 0) rfl)) fun a8 F8 => ?_
  clear F6
  refine wl_call (wanted_none rfl) rfl F8 rfl rfl (enters_of Try.func20 (by kernel_rfl) rfl) #[.int .i64 a0] (args1 (F8.get (t := 18) rfl)) (call_ex (kG w5)) ?_
  rintro _ w9 a9 ⟨rfl, b9⟩ F9
  have M9 := M5.step b9
  refine wl_alloc (wanted_none rfl) rfl F9 rfl M9 0 (t := 28) (c := groupA 0 0 0 0) (by unfold execOp; rw [groupA_zero]; kernel_rfl) ?_
  intro g10 a10 w10 F10 M10
  clear F9 M9
  refine wl_st (wanted_none rfl) rfl F10 M10 (k := 0) rfl _ _ _ rfl (F10.get (t := 11) rfl) (F10.get (t := 19) rfl) (groupA k p (p / 2) 4) (groupA k p (p / 2) 4) rfl (Nat.le_of_ble_eq_true rfl) (groupA_cells _ _ _ _) (y_put0 rfl) (by kernel_rfl) ?_
  intro w11 M11
  clear M10
  refine hK7 _ _ ?_
  refine wp_seq_k fun K12 hK12 => ?_
  refine wp_region_lit ?_
  refine wl_run (w' := w11) (wanted_none rfl) rfl F10 rfl (.int .i64 a1) (run_mv _ (.inl rfl) (F10.get (t := 1) rfl)) fun a13 F13 => ?_
  clear F10
  refine wl_run (w' := w11) (wanted_none rfl) rfl F13 rfl (.slice A2 n2 cap2) (run_mv _ (.inl rfl) (F13.get (t := 2) rfl)) fun a14 F14 => ?_
  clear F13
  refine wl_call (wanted_none rfl) rfl F14 rfl rfl (enters_of Try.func21 (by kernel_rfl) rfl) #[.int .i64 a1, .slice A2 n2 cap2] (args2 (F14.get (t := 20) rfl) (F14.get (t := 21) rfl)) (call_ex (mkx w11 (hr2.step M11.below))) ?_
  rintro _ w15 a15 ⟨rfl, b15⟩ F15
  have M15 := M11.step b15
  refine wl_run (w' := w15) (wanted_none rfl) rfl F15 rfl (.int .i64 a3) (run_mv _ (.inl rfl) (F15.get (t := 3) rfl)) fun a16 F16 => ?_
  clear F15
  refine wl_run (w' := w15) (wanted_none rfl) rfl F16 rfl (.slice A4 n4 cap4) (run_mv _ (.inl rfl) (F16.get (t := 4) rfl)) fun a17 F17 => ?_
  clear F16
  refine wl_call (wanted_none rfl) rfl F17 rfl rfl (enters_of Try.func21 (by kernel_rfl) rfl) #[.int .i64 a3, .slice A4 n4 cap4] (args2 (F17.get (t := 23) rfl) (F17.get (t := 24) rfl)) (call_ex (mky w15 (hr4.step M15.below))) ?_
  rintro _ w18 a18 ⟨rfl, b18⟩ F18
  have M18 := M15.step b18
  refine wl_alloc (wanted_none rfl) rfl F18 rfl M18 1 (t := 26) (c := numA 0) (y_new_num rfl) ?_
  intro g19 a19 w19 F19 M19
  clear F18 M18
  refine wl_alloc (wanted_none rfl) rfl F19 rfl M19 2 (t := 26) (c := numA 0) (y_new_num rfl) ?_
  intro g20 a20 w20 F20 M20
  clear F19 M19
  refine wl_st (wanted_none rfl) rfl F20 M20 (k := 1) rfl _ _ _ rfl (F20.get (t := 12) rfl) (F20.get (t := 22) rfl) (numA x) (numA x) rfl (Nat.le_of_ble_eq_true rfl) (numA_cells _) (y_put0 rfl) size26 ?_
  intro w21 M21
  clear M20
  refine wl_st (wanted_none rfl) rfl F20 M21 (k := 2) rfl _ _ _ rfl (F20.get (t := 13) rfl) (F20.get (t := 25) rfl) (numA y) (numA y) rfl (Nat.le_of_ble_eq_true rfl) (numA_cells _) (y_put0 rfl) size26 ?_
  intro w22 M22
  clear M21
  refine hK12 _ _ ?_
  refine wp_seq_k fun K23 hK23 => ?_
  refine wp_region_lit ?_
  refine wl_run (w' := w22) (wanted_none rfl) rfl F20 rfl (.int .i64 a1) (run_mv _ (.inl rfl) (F20.get (t := 1) rfl)) fun a24 F24 => ?_
  clear F20
  refine wl_run (w' := w22) (wanted_none rfl) rfl F24 rfl (.pointer (some ⟨g10, 1, none⟩)) (by unfold execOp; simp only [(F24.get (t := 11) rfl)]; kernel_rfl) fun a25 F25 => ?_
  clear F24
  refine wl_run (w' := w22) (wanted_none rfl) rfl F25 rfl (numV p) (y_ldN _ _ rfl (F25.get (t := 27) rfl) (M22.blk (k := 0) rfl) (numA p) groupA_p Try.underlying26 rfl size26) fun a26 F26 => ?_
  clear F25
  refine wl_call (wanted_none rfl) rfl F26 rfl rfl (enters_of Try.func17 (by kernel_rfl) rfl) #[numV p] (args1 (F26.get (t := 28) rfl)) (call_ex (rsmall_any p (by omega) w22)) ?_
  rintro _ w27 a27 ⟨rfl, b27⟩ F27
  have M27 := M22.step b27
  refine wl_run (w' := w27) (wanted_none rfl) rfl F27 rfl (.int .i64 ((p : Int) + 3)) (y_addI _ _ _ _ rfl (F27.get (t := 29) rfl) rfl rfl (by omega)) fun a28 F28 => ?_
  clear F27
  refine wl_call (wanted_none rfl) rfl F28 rfl rfl (enters_of Try.func14 (by kernel_rfl) rfl) #[.int .i64 a1, .int .i64 ((p : Int) + 3)] (args2 (F28.get (t := 26) rfl) (F28.get (t := 30) rfl)) (call_ex (kwt w27)) ?_
  rintro _ w29 a29 ⟨rfl, rfl⟩ F29
  refine wl_call (wanted_none rfl) rfl F29 rfl rfl (enters_of Try.func22 (by kernel_rfl) rfl) #[.int .i64 t] (args1 (F29.get (t := 31) rfl)) (call_ex (z1 w27)) ?_
  rintro _ w30 a30 ⟨rfl, b30⟩ F30
  have M30 := M27.step b30
  refine wl_alloc (wanted_none rfl) rfl F30 rfl M30 3 (t := 26) (c := numA 0) (y_new_num rfl) ?_
  intro g31 a31 w31 F31 M31
  clear F30 M30
  refine wl_st (wanted_none rfl) rfl F31 M31 (k := 3) rfl _ _ _ rfl (F31.get (t := 14) rfl) (F31.get (t := 32) rfl) (numA Z) (numA Z) rfl (Nat.le_of_ble_eq_true rfl) (numA_cells _) (y_put0 rfl) size26 ?_
  intro w32 M32
  clear M31
  refine hK23 _ _ ?_
  refine wp_seq_k fun K33 hK33 => ?_
  refine wp_seq_k fun K34 hK34 => ?_
  cases hx
  · cases hz
    · refine region_fx F31 [StK.eq (.agg (groupA k p (p / 2) 4)), StK.eq (numV x), StK.eq (numV y), StK.eq (numV U), StK.eq (.agg (groupA k p (p / 2) 4)), StK.eq (numV x), StK.eq (numV y), StK.eq (numV U), StK.eq (.bool false), StK.eq (.bool false), StK.eq (.agg (groupA k p (p / 2) 4)), StK.eq (numV x), StK.eq (numV y), StK.eq (numV T), StK.eq (.agg (groupA k p (p / 2) 4)), StK.eq (numV x), StK.eq (numV y), StK.eq (numV T), StK.eq (.bool false), StK.eq (.bool false), StK.eq (.bool false), StK.eq (.agg (groupA k p (p / 2) 4)), StK.eq (numV x), StK.eq (.bool false), StK.eq (.agg (groupA k p (p / 2) 4)), StK.eq (numV x), StK.eq (.bool false), StK.eq (.bool false), StK.eq (.bool false), StK.eq (.bool false), StK.eq (.agg (groupA k p (p / 2) 4)), StK.eq (numV Z), StK.eq (.bool false), StK.eq (.agg (groupA k p (p / 2) 4)), StK.eq (numV Z), StK.eq (.bool false), StK.eq (.bool false), StK.eq (.bool false)] 38 rfl (by kernel_rfl) ⟨?_, ?_, ?_, ?_, ?_, ?_, ?_, ?_, ?_, ?_, ?_, ?_, ?_, ?_, ?_, ?_, ?_, ?_, ?_, ?_, ?_, ?_, ?_, ?_, ?_, ?_, ?_, ?_, ?_, ?_, ?_, ?_, ?_, ?_, ?_, ?_, ?_, ?_, trivial⟩ ?_
      · intro ua uw hb hd
        have e11 : ua.eval (.tmp 11) = .pointer (some ⟨g10, 0, none⟩) := (show ua.eval (.tmp 11) = _ from hd 11 (by decide)).trans (F31.get (t := 11) rfl)
        exact hop_runK (F := (StK.eq (.agg (groupA k p (p / 2) 4))).F) (wanted_none rfl) (.agg (groupA k p (p / 2) 4)) (y_ldN _ _ rfl e11 ((M32.step hb).blk (k := 0) rfl) (groupA k p (p / 2) 4) (y_all rfl) Try.underlying28 rfl (by kernel_rfl)) rfl
      · intro ua uw hb hd
        have e12 : ua.eval (.tmp 12) = .pointer (some ⟨g19, 0, none⟩) := (show ua.eval (.tmp 12) = _ from hd 12 (by decide)).trans (F31.get (t := 12) rfl)
        exact hop_runK (F := (StK.eq (numV x)).F) (wanted_none rfl) (numV x) (y_ldN _ _ rfl e12 ((M32.step hb).blk (k := 1) rfl) (numA x) (y_all rfl) Try.underlying26 rfl size26) rfl
      · intro ua uw hb hd
        have e13 : ua.eval (.tmp 13) = .pointer (some ⟨g20, 0, none⟩) := (show ua.eval (.tmp 13) = _ from hd 13 (by decide)).trans (F31.get (t := 13) rfl)
        exact hop_runK (F := (StK.eq (numV y)).F) (wanted_none rfl) (numV y) (y_ldN _ _ rfl e13 ((M32.step hb).blk (k := 2) rfl) (numA y) (y_all rfl) Try.underlying26 rfl size26) rfl
      · intro ua uw hb hd
        have e33 : ua.eval (.tmp 33) = .agg (groupA k p (p / 2) 4) := hd 33 (by decide)
        have e34 : ua.eval (.tmp 34) = numV x := hd 34 (by decide)
        have e35 : ua.eval (.tmp 35) = numV y := hd 35 (by decide)
        exact hop_callK (F := (StK.eq (numV U)).F) (wanted_none rfl) hb.size rfl #[.agg (groupA k p (p / 2) 4), numV x, numV y] (args3 e33 e34 e35) (enters_of Try.func23 (by kernel_rfl) rfl) (call_eqS (z2 uw))
      · intro ua uw hb hd
        have e11 : ua.eval (.tmp 11) = .pointer (some ⟨g10, 0, none⟩) := (show ua.eval (.tmp 11) = _ from hd 11 (by decide)).trans (F31.get (t := 11) rfl)
        exact hop_runK (F := (StK.eq (.agg (groupA k p (p / 2) 4))).F) (wanted_none rfl) (.agg (groupA k p (p / 2) 4)) (y_ldN _ _ rfl e11 ((M32.step hb).blk (k := 0) rfl) (groupA k p (p / 2) 4) (y_all rfl) Try.underlying28 rfl (by kernel_rfl)) rfl
      · intro ua uw hb hd
        have e12 : ua.eval (.tmp 12) = .pointer (some ⟨g19, 0, none⟩) := (show ua.eval (.tmp 12) = _ from hd 12 (by decide)).trans (F31.get (t := 12) rfl)
        exact hop_runK (F := (StK.eq (numV x)).F) (wanted_none rfl) (numV x) (y_ldN _ _ rfl e12 ((M32.step hb).blk (k := 1) rfl) (numA x) (y_all rfl) Try.underlying26 rfl size26) rfl
      · intro ua uw hb hd
        have e13 : ua.eval (.tmp 13) = .pointer (some ⟨g20, 0, none⟩) := (show ua.eval (.tmp 13) = _ from hd 13 (by decide)).trans (F31.get (t := 13) rfl)
        exact hop_runK (F := (StK.eq (numV y)).F) (wanted_none rfl) (numV y) (y_ldN _ _ rfl e13 ((M32.step hb).blk (k := 2) rfl) (numA y) (y_all rfl) Try.underlying26 rfl size26) rfl
      · intro ua uw hb hd
        have e37 : ua.eval (.tmp 37) = .agg (groupA k p (p / 2) 4) := hd 37 (by decide)
        have e38 : ua.eval (.tmp 38) = numV x := hd 38 (by decide)
        have e39 : ua.eval (.tmp 39) = numV y := hd 39 (by decide)
        exact hop_callK (F := (StK.eq (numV U)).F) (wanted_none rfl) hb.size rfl #[.agg (groupA k p (p / 2) 4), numV x, numV y] (args3 e37 e38 e39) (enters_of Try.func24 (by kernel_rfl) rfl) (call_eqS (z3 uw))
      · intro ua uw hb hd
        have e36 : ua.eval (.tmp 36) = numV U := hd 36 (by decide)
        have e40 : ua.eval (.tmp 40) = numV U := hd 40 (by decide)
        exact hop_runK (F := (StK.eq (.bool false)).F) (wanted_none rfl) (.bool false) (y_neA _ _ _ _ rfl e36 e40 (by kernel_rfl) (eqn_same U _)) rfl
      · intro ua uw hb hd
        have e41 : ua.eval (.tmp 41) = .bool false := hd 41 (by decide)
        exact hop_runK (F := (StK.eq (.bool false)).F) (wanted_none rfl) (.bool false) (run_mv _ (.inl rfl) e41) rfl
      · intro ua uw hb hd
        have eg : ua.eval (.tmp 42) = .bool false := hd 42 (by decide)
        have e11 : ua.eval (.tmp 11) = .pointer (some ⟨g10, 0, none⟩) := (show ua.eval (.tmp 11) = _ from hd 11 (by decide)).trans (F31.get (t := 11) rfl)
        exact hop_runK (F := (StK.eq (.agg (groupA k p (p / 2) 4))).F) (wanted_yes rfl rfl rfl eg) (.agg (groupA k p (p / 2) 4)) (y_ldN _ _ rfl e11 ((M32.step hb).blk (k := 0) rfl) (groupA k p (p / 2) 4) (y_all rfl) Try.underlying28 rfl (by kernel_rfl)) rfl
      · intro ua uw hb hd
        have eg : ua.eval (.tmp 42) = .bool false := hd 42 (by decide)
        have e12 : ua.eval (.tmp 12) = .pointer (some ⟨g19, 0, none⟩) := (show ua.eval (.tmp 12) = _ from hd 12 (by decide)).trans (F31.get (t := 12) rfl)
        exact hop_runK (F := (StK.eq (numV x)).F) (wanted_yes rfl rfl rfl eg) (numV x) (y_ldN _ _ rfl e12 ((M32.step hb).blk (k := 1) rfl) (numA x) (y_all rfl) Try.underlying26 rfl size26) rfl
      · intro ua uw hb hd
        have eg : ua.eval (.tmp 42) = .bool false := hd 42 (by decide)
        have e13 : ua.eval (.tmp 13) = .pointer (some ⟨g20, 0, none⟩) := (show ua.eval (.tmp 13) = _ from hd 13 (by decide)).trans (F31.get (t := 13) rfl)
        exact hop_runK (F := (StK.eq (numV y)).F) (wanted_yes rfl rfl rfl eg) (numV y) (y_ldN _ _ rfl e13 ((M32.step hb).blk (k := 2) rfl) (numA y) (y_all rfl) Try.underlying26 rfl size26) rfl
      · intro ua uw hb hd
        have eg : ua.eval (.tmp 42) = .bool false := hd 42 (by decide)
        have e43 : ua.eval (.tmp 43) = .agg (groupA k p (p / 2) 4) := hd 43 (by decide)
        have e44 : ua.eval (.tmp 44) = numV x := hd 44 (by decide)
        have e45 : ua.eval (.tmp 45) = numV y := hd 45 (by decide)
        exact hop_callK (F := (StK.eq (numV T)).F) (wanted_yes rfl rfl rfl eg) hb.size rfl #[.agg (groupA k p (p / 2) 4), numV x, numV y] (args3 e43 e44 e45) (enters_of Try.func25 (by kernel_rfl) rfl) (call_eqS (z4 uw))
      · intro ua uw hb hd
        have eg : ua.eval (.tmp 42) = .bool false := hd 42 (by decide)
        have e11 : ua.eval (.tmp 11) = .pointer (some ⟨g10, 0, none⟩) := (show ua.eval (.tmp 11) = _ from hd 11 (by decide)).trans (F31.get (t := 11) rfl)
        exact hop_runK (F := (StK.eq (.agg (groupA k p (p / 2) 4))).F) (wanted_yes rfl rfl rfl eg) (.agg (groupA k p (p / 2) 4)) (y_ldN _ _ rfl e11 ((M32.step hb).blk (k := 0) rfl) (groupA k p (p / 2) 4) (y_all rfl) Try.underlying28 rfl (by kernel_rfl)) rfl
      · intro ua uw hb hd
        have eg : ua.eval (.tmp 42) = .bool false := hd 42 (by decide)
        have e12 : ua.eval (.tmp 12) = .pointer (some ⟨g19, 0, none⟩) := (show ua.eval (.tmp 12) = _ from hd 12 (by decide)).trans (F31.get (t := 12) rfl)
        exact hop_runK (F := (StK.eq (numV x)).F) (wanted_yes rfl rfl rfl eg) (numV x) (y_ldN _ _ rfl e12 ((M32.step hb).blk (k := 1) rfl) (numA x) (y_all rfl) Try.underlying26 rfl size26) rfl
      · intro ua uw hb hd
        have eg : ua.eval (.tmp 42) = .bool false := hd 42 (by decide)
        have e13 : ua.eval (.tmp 13) = .pointer (some ⟨g20, 0, none⟩) := (show ua.eval (.tmp 13) = _ from hd 13 (by decide)).trans (F31.get (t := 13) rfl)
        exact hop_runK (F := (StK.eq (numV y)).F) (wanted_yes rfl rfl rfl eg) (numV y) (y_ldN _ _ rfl e13 ((M32.step hb).blk (k := 2) rfl) (numA y) (y_all rfl) Try.underlying26 rfl size26) rfl
      · intro ua uw hb hd
        have eg : ua.eval (.tmp 42) = .bool false := hd 42 (by decide)
        have e47 : ua.eval (.tmp 47) = .agg (groupA k p (p / 2) 4) := hd 47 (by decide)
        have e48 : ua.eval (.tmp 48) = numV x := hd 48 (by decide)
        have e49 : ua.eval (.tmp 49) = numV y := hd 49 (by decide)
        exact hop_callK (F := (StK.eq (numV T)).F) (wanted_yes rfl rfl rfl eg) hb.size rfl #[.agg (groupA k p (p / 2) 4), numV x, numV y] (args3 e47 e48 e49) (enters_of Try.func26 (by kernel_rfl) rfl) (call_eqS (z5 uw))
      · intro ua uw hb hd
        have eg : ua.eval (.tmp 42) = .bool false := hd 42 (by decide)
        have e46 : ua.eval (.tmp 46) = numV T := hd 46 (by decide)
        have e50 : ua.eval (.tmp 50) = numV T := hd 50 (by decide)
        exact hop_runK (F := (StK.eq (.bool false)).F) (wanted_yes rfl rfl rfl eg) (.bool false) (y_neA _ _ _ _ rfl e46 e50 (by kernel_rfl) (eqn_same T _)) rfl
      · intro ua uw hb hd
        have e42 : ua.eval (.tmp 42) = .bool false := hd 42 (by decide)
        have e51 : ua.eval (.tmp 51) = .bool false := hd 51 (by decide)
        exact hop_runK (F := (StK.eq (.bool false)).F) (wanted_none rfl) (.bool false) (run_pick_f rfl e42 e51) rfl
      · intro ua uw hb hd
        have e52 : ua.eval (.tmp 52) = .bool false := hd 52 (by decide)
        exact hop_runK (F := (StK.eq (.bool false)).F) (wanted_none rfl) (.bool false) (run_mv _ (.inl rfl) e52) rfl
      · intro ua uw hb hd
        have eg : ua.eval (.tmp 53) = .bool false := hd 53 (by decide)
        have e11 : ua.eval (.tmp 11) = .pointer (some ⟨g10, 0, none⟩) := (show ua.eval (.tmp 11) = _ from hd 11 (by decide)).trans (F31.get (t := 11) rfl)
        exact hop_runK (F := (StK.eq (.agg (groupA k p (p / 2) 4))).F) (wanted_yes rfl rfl rfl eg) (.agg (groupA k p (p / 2) 4)) (y_ldN _ _ rfl e11 ((M32.step hb).blk (k := 0) rfl) (groupA k p (p / 2) 4) (y_all rfl) Try.underlying28 rfl (by kernel_rfl)) rfl
      · intro ua uw hb hd
        have eg : ua.eval (.tmp 53) = .bool false := hd 53 (by decide)
        have e12 : ua.eval (.tmp 12) = .pointer (some ⟨g19, 0, none⟩) := (show ua.eval (.tmp 12) = _ from hd 12 (by decide)).trans (F31.get (t := 12) rfl)
        exact hop_runK (F := (StK.eq (numV x)).F) (wanted_yes rfl rfl rfl eg) (numV x) (y_ldN _ _ rfl e12 ((M32.step hb).blk (k := 1) rfl) (numA x) (y_all rfl) Try.underlying26 rfl size26) rfl
      · intro ua uw hb hd
        have eg : ua.eval (.tmp 53) = .bool false := hd 53 (by decide)
        have e54 : ua.eval (.tmp 54) = .agg (groupA k p (p / 2) 4) := hd 54 (by decide)
        have e55 : ua.eval (.tmp 55) = numV x := hd 55 (by decide)
        exact hop_callK (F := (StK.eq (.bool false)).F) (wanted_yes rfl rfl rfl eg) hb.size rfl #[.agg (groupA k p (p / 2) 4), numV x] (args2 e54 e55) (enters_of Try.func27 (by kernel_rfl) rfl) (call_eqS (z6 uw))
      · intro ua uw hb hd
        have eg : ua.eval (.tmp 53) = .bool false := hd 53 (by decide)
        have e11 : ua.eval (.tmp 11) = .pointer (some ⟨g10, 0, none⟩) := (show ua.eval (.tmp 11) = _ from hd 11 (by decide)).trans (F31.get (t := 11) rfl)
        exact hop_runK (F := (StK.eq (.agg (groupA k p (p / 2) 4))).F) (wanted_yes rfl rfl rfl eg) (.agg (groupA k p (p / 2) 4)) (y_ldN _ _ rfl e11 ((M32.step hb).blk (k := 0) rfl) (groupA k p (p / 2) 4) (y_all rfl) Try.underlying28 rfl (by kernel_rfl)) rfl
      · intro ua uw hb hd
        have eg : ua.eval (.tmp 53) = .bool false := hd 53 (by decide)
        have e12 : ua.eval (.tmp 12) = .pointer (some ⟨g19, 0, none⟩) := (show ua.eval (.tmp 12) = _ from hd 12 (by decide)).trans (F31.get (t := 12) rfl)
        exact hop_runK (F := (StK.eq (numV x)).F) (wanted_yes rfl rfl rfl eg) (numV x) (y_ldN _ _ rfl e12 ((M32.step hb).blk (k := 1) rfl) (numA x) (y_all rfl) Try.underlying26 rfl size26) rfl
      · intro ua uw hb hd
        have eg : ua.eval (.tmp 53) = .bool false := hd 53 (by decide)
        have e57 : ua.eval (.tmp 57) = .agg (groupA k p (p / 2) 4) := hd 57 (by decide)
        have e58 : ua.eval (.tmp 58) = numV x := hd 58 (by decide)
        exact hop_callK (F := (StK.eq (.bool false)).F) (wanted_yes rfl rfl rfl eg) hb.size rfl #[.agg (groupA k p (p / 2) 4), numV x] (args2 e57 e58) (enters_of Try.func28 (by kernel_rfl) rfl) (call_eqS (z7 uw))
      · intro ua uw hb hd
        have eg : ua.eval (.tmp 53) = .bool false := hd 53 (by decide)
        have e56 : ua.eval (.tmp 56) = .bool false := hd 56 (by decide)
        have e59 : ua.eval (.tmp 59) = .bool false := hd 59 (by decide)
        exact hop_runK (F := (StK.eq (.bool false)).F) (wanted_yes rfl rfl rfl eg) (.bool false) (y_neB _ _ rfl e56 e59 rfl) rfl
      · intro ua uw hb hd
        have e53 : ua.eval (.tmp 53) = .bool false := hd 53 (by decide)
        have e60 : ua.eval (.tmp 60) = .bool false := hd 60 (by decide)
        exact hop_runK (F := (StK.eq (.bool false)).F) (wanted_none rfl) (.bool false) (run_pick_f rfl e53 e60) rfl
      · intro ua uw hb hd
        have e61 : ua.eval (.tmp 61) = .bool false := hd 61 (by decide)
        exact hop_runK (F := (StK.eq (.bool false)).F) (wanted_none rfl) (.bool false) (run_mv _ (.inl rfl) e61) rfl
      · intro ua uw hb hd
        have eg : ua.eval (.tmp 62) = .bool false := hd 62 (by decide)
        have e11 : ua.eval (.tmp 11) = .pointer (some ⟨g10, 0, none⟩) := (show ua.eval (.tmp 11) = _ from hd 11 (by decide)).trans (F31.get (t := 11) rfl)
        exact hop_runK (F := (StK.eq (.agg (groupA k p (p / 2) 4))).F) (wanted_yes rfl rfl rfl eg) (.agg (groupA k p (p / 2) 4)) (y_ldN _ _ rfl e11 ((M32.step hb).blk (k := 0) rfl) (groupA k p (p / 2) 4) (y_all rfl) Try.underlying28 rfl (by kernel_rfl)) rfl
      · intro ua uw hb hd
        have eg : ua.eval (.tmp 62) = .bool false := hd 62 (by decide)
        have e14 : ua.eval (.tmp 14) = .pointer (some ⟨g31, 0, none⟩) := (show ua.eval (.tmp 14) = _ from hd 14 (by decide)).trans (F31.get (t := 14) rfl)
        exact hop_runK (F := (StK.eq (numV Z)).F) (wanted_yes rfl rfl rfl eg) (numV Z) (y_ldN _ _ rfl e14 ((M32.step hb).blk (k := 3) rfl) (numA Z) (y_all rfl) Try.underlying26 rfl size26) rfl
      · intro ua uw hb hd
        have eg : ua.eval (.tmp 62) = .bool false := hd 62 (by decide)
        have e63 : ua.eval (.tmp 63) = .agg (groupA k p (p / 2) 4) := hd 63 (by decide)
        have e64 : ua.eval (.tmp 64) = numV Z := hd 64 (by decide)
        exact hop_callK (F := (StK.eq (.bool false)).F) (wanted_yes rfl rfl rfl eg) hb.size rfl #[.agg (groupA k p (p / 2) 4), numV Z] (args2 e63 e64) (enters_of Try.func27 (by kernel_rfl) rfl) (call_eqS (z8 uw))
      · intro ua uw hb hd
        have eg : ua.eval (.tmp 62) = .bool false := hd 62 (by decide)
        have e11 : ua.eval (.tmp 11) = .pointer (some ⟨g10, 0, none⟩) := (show ua.eval (.tmp 11) = _ from hd 11 (by decide)).trans (F31.get (t := 11) rfl)
        exact hop_runK (F := (StK.eq (.agg (groupA k p (p / 2) 4))).F) (wanted_yes rfl rfl rfl eg) (.agg (groupA k p (p / 2) 4)) (y_ldN _ _ rfl e11 ((M32.step hb).blk (k := 0) rfl) (groupA k p (p / 2) 4) (y_all rfl) Try.underlying28 rfl (by kernel_rfl)) rfl
      · intro ua uw hb hd
        have eg : ua.eval (.tmp 62) = .bool false := hd 62 (by decide)
        have e14 : ua.eval (.tmp 14) = .pointer (some ⟨g31, 0, none⟩) := (show ua.eval (.tmp 14) = _ from hd 14 (by decide)).trans (F31.get (t := 14) rfl)
        exact hop_runK (F := (StK.eq (numV Z)).F) (wanted_yes rfl rfl rfl eg) (numV Z) (y_ldN _ _ rfl e14 ((M32.step hb).blk (k := 3) rfl) (numA Z) (y_all rfl) Try.underlying26 rfl size26) rfl
      · intro ua uw hb hd
        have eg : ua.eval (.tmp 62) = .bool false := hd 62 (by decide)
        have e66 : ua.eval (.tmp 66) = .agg (groupA k p (p / 2) 4) := hd 66 (by decide)
        have e67 : ua.eval (.tmp 67) = numV Z := hd 67 (by decide)
        exact hop_callK (F := (StK.eq (.bool false)).F) (wanted_yes rfl rfl rfl eg) hb.size rfl #[.agg (groupA k p (p / 2) 4), numV Z] (args2 e66 e67) (enters_of Try.func28 (by kernel_rfl) rfl) (call_eqS (z9 uw))
      · intro ua uw hb hd
        have eg : ua.eval (.tmp 62) = .bool false := hd 62 (by decide)
        have e65 : ua.eval (.tmp 65) = .bool false := hd 65 (by decide)
        have e68 : ua.eval (.tmp 68) = .bool false := hd 68 (by decide)
        exact hop_runK (F := (StK.eq (.bool false)).F) (wanted_yes rfl rfl rfl eg) (.bool false) (y_neB _ _ rfl e65 e68 rfl) rfl
      · intro ua uw hb hd
        have e62 : ua.eval (.tmp 62) = .bool false := hd 62 (by decide)
        have e69 : ua.eval (.tmp 69) = .bool false := hd 69 (by decide)
        exact hop_runK (F := (StK.eq (.bool false)).F) (wanted_none rfl) (.bool false) (run_pick_f rfl e62 e69) rfl
      intro p35 a35 w35 b35 G35 y35
      obtain ⟨-, -, -, -, -, -, -, -, -, -, -, -, -, -, -, -, -, -, -, -, -, -, -, -, -, -, -, -, -, -, -, -, -, -, -, -, -, q37, -⟩ := y35
      have r37 : p35 37 = .bool false := q37 (by decide)
      simp only [List.take_succ_cons, List.take_zero, layV, Nat.zero_add, Nat.reduceAdd, r37] at G35
      have M35 := M32.kc b35
      clear F31 M32 r37 q37
      refine hK34 _ _ ?_
      refine wp_cond_false (G35.get (t := 70) rfl) ?_
      refine wp_skip ?_
      refine hK33 _ _ ?_
      refine wp_seq_k fun K36 hK36 => ?_
      refine wp_region_lit ?_
      refine wl_run (w' := w35) (wanted_none rfl) rfl G35 rfl (.agg (groupA k p (p / 2) 4)) (y_ldN _ _ rfl (G35.get (t := 11) rfl) (M35.blk (k := 0) rfl) (groupA k p (p / 2) 4) (y_all rfl) Try.underlying28 rfl (by kernel_rfl)) fun a37 F37 => ?_
      clear G35
      refine wl_run (w' := w35) (wanted_none rfl) rfl F37 rfl (numV Z) (y_ldN _ _ rfl (F37.get (t := 14) rfl) (M35.blk (k := 3) rfl) (numA Z) (y_all rfl) Try.underlying26 rfl size26) fun a38 F38 => ?_
      clear F37
      refine wl_run (w' := w35) (wanted_none rfl) rfl F38 rfl (numV Z) (y_ldN _ _ rfl (F38.get (t := 14) rfl) (M35.blk (k := 3) rfl) (numA Z) (y_all rfl) Try.underlying26 rfl size26) fun a39 F39 => ?_
      clear F38
      refine wl_call (wanted_none rfl) rfl F39 rfl rfl (enters_of Try.func25 (by kernel_rfl) rfl) #[.agg (groupA k p (p / 2) 4), numV Z, numV Z] (args3 (F39.get (t := 71) rfl) (F39.get (t := 72) rfl) (F39.get (t := 73) rfl)) (call_ex (z10 w35)) ?_
      rintro _ w40 a40 ⟨rfl, b40⟩ F40
      have M40 := M35.step b40
      refine wl_alloc (wanted_none rfl) rfl F40 rfl M40 4 (t := 26) (c := numA 0) (y_new_num rfl) ?_
      intro g41 a41 w41 F41 M41
      clear F40 M40
      refine wl_st (wanted_none rfl) rfl F41 M41 (k := 4) rfl _ _ _ rfl (F41.get (t := 15) rfl) (F41.get (t := 74) rfl) (numA S) (numA S) rfl (Nat.le_of_ble_eq_true rfl) (numA_cells _) (y_put0 rfl) size26 ?_
      intro w42 M42
      clear M41
      refine hK36 _ _ ?_
      refine wp_seq_k fun K43 hK43 => ?_
      cases hs
      · replace z15 : c < 0 := z15.elim (fun h => by cases h) id
        refine region_fx F41 [StK.eq (.agg (groupA k p (p / 2) 4)), StK.eq (numV S), StK.eq (.bool false), StK.eq (.bool false), StK.eq (numV S), StK.eq (numV 2), StK.eq (.int .i64 c), StK.eq (.bool true), StK.eq (.bool true), StK.eq (.bool true), StK.eq (.agg (groupA k p (p / 2) 4)), StK.eq (numV Z), StK.eq (numV 2), StK.eq (numV S), StK.eq (numV S), StK.eq (.bool true), StK.eq (.bool true), StK.eq (.bool true)] 18 rfl (by kernel_rfl) ⟨?_, ?_, ?_, ?_, ?_, ?_, ?_, ?_, ?_, ?_, ?_, ?_, ?_, ?_, ?_, ?_, ?_, ?_, trivial⟩ ?_
        · intro ua uw hb hd
          have e11 : ua.eval (.tmp 11) = .pointer (some ⟨g10, 0, none⟩) := (show ua.eval (.tmp 11) = _ from hd 11 (by decide)).trans (F41.get (t := 11) rfl)
          exact hop_runK (F := (StK.eq (.agg (groupA k p (p / 2) 4))).F) (wanted_none rfl) (.agg (groupA k p (p / 2) 4)) (y_ldN _ _ rfl e11 ((M42.step hb).blk (k := 0) rfl) (groupA k p (p / 2) 4) (y_all rfl) Try.underlying28 rfl (by kernel_rfl)) rfl
        · intro ua uw hb hd
          have e15 : ua.eval (.tmp 15) = .pointer (some ⟨g41, 0, none⟩) := (show ua.eval (.tmp 15) = _ from hd 15 (by decide)).trans (F41.get (t := 15) rfl)
          exact hop_runK (F := (StK.eq (numV S)).F) (wanted_none rfl) (numV S) (y_ldN _ _ rfl e15 ((M42.step hb).blk (k := 4) rfl) (numA S) (y_all rfl) Try.underlying26 rfl size26) rfl
        · intro ua uw hb hd
          have e75 : ua.eval (.tmp 75) = .agg (groupA k p (p / 2) 4) := hd 75 (by decide)
          have e76 : ua.eval (.tmp 76) = numV S := hd 76 (by decide)
          exact hop_callK (F := (StK.eq (.bool false)).F) (wanted_none rfl) hb.size rfl #[.agg (groupA k p (p / 2) 4), numV S] (args2 e75 e76) (enters_of Try.func27 (by kernel_rfl) rfl) (call_eqS (z11 uw))
        · intro ua uw hb hd
          have e77 : ua.eval (.tmp 77) = .bool false := hd 77 (by decide)
          exact hop_runK (F := (StK.eq (.bool false)).F) (wanted_none rfl) (.bool false) (run_mv _ (.inl rfl) e77) rfl
        · intro ua uw hb hd
          have eg : ua.eval (.tmp 78) = .bool false := hd 78 (by decide)
          have e15 : ua.eval (.tmp 15) = .pointer (some ⟨g41, 0, none⟩) := (show ua.eval (.tmp 15) = _ from hd 15 (by decide)).trans (F41.get (t := 15) rfl)
          exact hop_runK (F := (StK.eq (numV S)).F) (wanted_yes rfl rfl rfl eg) (numV S) (y_ldN _ _ rfl e15 ((M42.step hb).blk (k := 4) rfl) (numA S) (y_all rfl) Try.underlying26 rfl size26) rfl
        · intro ua uw hb hd
          have eg : ua.eval (.tmp 78) = .bool false := hd 78 (by decide)
          exact hop_callK (F := (StK.eq (numV 2)).F) (wanted_yes rfl rfl rfl eg) hb.size rfl #[.int .i64 2] (args1 rfl) (enters_of Try.func22 (by kernel_rfl) rfl) (call_eqS (z12 uw))
        · intro ua uw hb hd
          have eg : ua.eval (.tmp 78) = .bool false := hd 78 (by decide)
          have e79 : ua.eval (.tmp 79) = numV S := hd 79 (by decide)
          have e80 : ua.eval (.tmp 80) = numV 2 := hd 80 (by decide)
          exact hop_callK (F := (StK.eq (.int .i64 c)).F) (wanted_yes rfl rfl rfl eg) hb.size rfl #[numV S, numV 2] (args2 e79 e80) (enters_of Try.func29 (by kernel_rfl) rfl) (call_eqS (z13 uw))
        · intro ua uw hb hd
          have eg : ua.eval (.tmp 78) = .bool false := hd 78 (by decide)
          have e81 : ua.eval (.tmp 81) = .int .i64 c := hd 81 (by decide)
          exact hop_runK (F := (StK.eq (.bool true)).F) (wanted_yes rfl rfl rfl eg) (.bool true) (y_lss _ _ _ _ rfl e81 rfl (decide_eq_true z15)) rfl
        · intro ua uw hb hd
          have e78 : ua.eval (.tmp 78) = .bool false := hd 78 (by decide)
          have e82 : ua.eval (.tmp 82) = .bool true := hd 82 (by decide)
          exact hop_runK (F := (StK.eq (.bool true)).F) (wanted_none rfl) (.bool true) (run_pick_f rfl e78 e82) rfl
        · intro ua uw hb hd
          have e83 : ua.eval (.tmp 83) = .bool true := hd 83 (by decide)
          exact hop_runK (F := (StK.eq (.bool true)).F) (wanted_none rfl) (.bool true) (run_mv _ (.inl rfl) e83) rfl
        · intro ua uw hb hd
          have eg : ua.eval (.tmp 84) = .bool true := hd 84 (by decide)
          have e11 : ua.eval (.tmp 11) = .pointer (some ⟨g10, 0, none⟩) := (show ua.eval (.tmp 11) = _ from hd 11 (by decide)).trans (F41.get (t := 11) rfl)
          exact hop_runK (F := (StK.eq (.agg (groupA k p (p / 2) 4))).F) (wanted_yes rfl rfl rfl eg) (.agg (groupA k p (p / 2) 4)) (y_ldN _ _ rfl e11 ((M42.step hb).blk (k := 0) rfl) (groupA k p (p / 2) 4) (y_all rfl) Try.underlying28 rfl (by kernel_rfl)) rfl
        · intro ua uw hb hd
          have eg : ua.eval (.tmp 84) = .bool true := hd 84 (by decide)
          have e14 : ua.eval (.tmp 14) = .pointer (some ⟨g31, 0, none⟩) := (show ua.eval (.tmp 14) = _ from hd 14 (by decide)).trans (F41.get (t := 14) rfl)
          exact hop_runK (F := (StK.eq (numV Z)).F) (wanted_yes rfl rfl rfl eg) (numV Z) (y_ldN _ _ rfl e14 ((M42.step hb).blk (k := 3) rfl) (numA Z) (y_all rfl) Try.underlying26 rfl size26) rfl
        · intro ua uw hb hd
          have eg : ua.eval (.tmp 84) = .bool true := hd 84 (by decide)
          exact hop_callK (F := (StK.eq (numV 2)).F) (wanted_yes rfl rfl rfl eg) hb.size rfl #[.int .i64 2] (args1 rfl) (enters_of Try.func22 (by kernel_rfl) rfl) (call_eqS (z12 uw))
        · intro ua uw hb hd
          have eg : ua.eval (.tmp 84) = .bool true := hd 84 (by decide)
          have e85 : ua.eval (.tmp 85) = .agg (groupA k p (p / 2) 4) := hd 85 (by decide)
          have e86 : ua.eval (.tmp 86) = numV Z := hd 86 (by decide)
          have e87 : ua.eval (.tmp 87) = numV 2 := hd 87 (by decide)
          exact hop_callK (F := (StK.eq (numV S)).F) (wanted_yes rfl rfl rfl eg) hb.size rfl #[.agg (groupA k p (p / 2) 4), numV Z, numV 2] (args3 e85 e86 e87) (enters_of Try.func23 (by kernel_rfl) rfl) (call_eqS (z14 uw))
        · intro ua uw hb hd
          have eg : ua.eval (.tmp 84) = .bool true := hd 84 (by decide)
          have e15 : ua.eval (.tmp 15) = .pointer (some ⟨g41, 0, none⟩) := (show ua.eval (.tmp 15) = _ from hd 15 (by decide)).trans (F41.get (t := 15) rfl)
          exact hop_runK (F := (StK.eq (numV S)).F) (wanted_yes rfl rfl rfl eg) (numV S) (y_ldN _ _ rfl e15 ((M42.step hb).blk (k := 4) rfl) (numA S) (y_all rfl) Try.underlying26 rfl size26) rfl
        · intro ua uw hb hd
          have eg : ua.eval (.tmp 84) = .bool true := hd 84 (by decide)
          have e88 : ua.eval (.tmp 88) = numV S := hd 88 (by decide)
          have e89 : ua.eval (.tmp 89) = numV S := hd 89 (by decide)
          exact hop_runK (F := (StK.eq (.bool true)).F) (wanted_yes rfl rfl rfl eg) (.bool true) (y_eqA _ _ _ _ rfl e88 e89 (by kernel_rfl) (eqn_same S _)) rfl
        · intro ua uw hb hd
          have e84 : ua.eval (.tmp 84) = .bool true := hd 84 (by decide)
          have e90 : ua.eval (.tmp 90) = .bool true := hd 90 (by decide)
          exact hop_runK (F := (StK.eq (.bool true)).F) (wanted_none rfl) (.bool true) (run_pick_t rfl e84 e90) rfl
        · intro ua uw hb hd
          have e91 : ua.eval (.tmp 91) = .bool true := hd 91 (by decide)
          exact hop_runK (F := (StK.eq (.bool true)).F) (wanted_none rfl) (.bool true) (run_mv _ (.inr rfl) e91) rfl
        intro p44 a44 w44 b44 G44 y44
        obtain ⟨-, -, -, -, -, -, -, -, -, -, -, -, -, -, -, -, -, q17, -⟩ := y44
        have r17 : p44 17 = .bool true := q17 (by decide)
        simp only [List.take_succ_cons, List.take_zero, layV, Nat.zero_add, Nat.reduceAdd, r17] at G44
        have M44 := M42.kc b44
        clear F41 M42 r17 q17
        refine hK43 _ _ ?_
        refine wp_ret ?_
        try simp only [Exit.then, Exit.inBlock]
        exact bodyPost_ret (res1 rfl (G44.get (t := 10) rfl)) G44.defers ⟨rfl, M44.below⟩
      · refine region_fx F41 [StK.eq (.agg (groupA k p (p / 2) 4)), StK.eq (numV S), StK.eq (.bool true), StK.eq (.bool true), StK.eq undef, StK.eq undef, StK.eq undef, StK.eq undef, StK.eq (.bool true), StK.eq (.bool true), StK.eq (.agg (groupA k p (p / 2) 4)), StK.eq (numV Z), StK.eq (numV 2), StK.eq (numV S), StK.eq (numV S), StK.eq (.bool true), StK.eq (.bool true), StK.eq (.bool true)] 18 rfl (by kernel_rfl) ⟨?_, ?_, ?_, ?_, ?_, ?_, ?_, ?_, ?_, ?_, ?_, ?_, ?_, ?_, ?_, ?_, ?_, ?_, trivial⟩ ?_
        · intro ua uw hb hd
          have e11 : ua.eval (.tmp 11) = .pointer (some ⟨g10, 0, none⟩) := (show ua.eval (.tmp 11) = _ from hd 11 (by decide)).trans (F41.get (t := 11) rfl)
          exact hop_runK (F := (StK.eq (.agg (groupA k p (p / 2) 4))).F) (wanted_none rfl) (.agg (groupA k p (p / 2) 4)) (y_ldN _ _ rfl e11 ((M42.step hb).blk (k := 0) rfl) (groupA k p (p / 2) 4) (y_all rfl) Try.underlying28 rfl (by kernel_rfl)) rfl
        · intro ua uw hb hd
          have e15 : ua.eval (.tmp 15) = .pointer (some ⟨g41, 0, none⟩) := (show ua.eval (.tmp 15) = _ from hd 15 (by decide)).trans (F41.get (t := 15) rfl)
          exact hop_runK (F := (StK.eq (numV S)).F) (wanted_none rfl) (numV S) (y_ldN _ _ rfl e15 ((M42.step hb).blk (k := 4) rfl) (numA S) (y_all rfl) Try.underlying26 rfl size26) rfl
        · intro ua uw hb hd
          have e75 : ua.eval (.tmp 75) = .agg (groupA k p (p / 2) 4) := hd 75 (by decide)
          have e76 : ua.eval (.tmp 76) = numV S := hd 76 (by decide)
          exact hop_callK (F := (StK.eq (.bool true)).F) (wanted_none rfl) hb.size rfl #[.agg (groupA k p (p / 2) 4), numV S] (args2 e75 e76) (enters_of Try.func27 (by kernel_rfl) rfl) (call_eqS (z11 uw))
        · intro ua uw hb hd
          have e77 : ua.eval (.tmp 77) = .bool true := hd 77 (by decide)
          exact hop_runK (F := (StK.eq (.bool true)).F) (wanted_none rfl) (.bool true) (run_mv _ (.inl rfl) e77) rfl
        · intro ua uw hb hd
          have eg : ua.eval (.tmp 78) = .bool true := hd 78 (by decide)
          exact hop_skipK (F := (StK.eq (undef)).F) rfl rfl rfl eg rfl
        · intro ua uw hb hd
          have eg : ua.eval (.tmp 78) = .bool true := hd 78 (by decide)
          exact hop_skipK (F := (StK.eq (undef)).F) rfl rfl rfl eg rfl
        · intro ua uw hb hd
          have eg : ua.eval (.tmp 78) = .bool true := hd 78 (by decide)
          exact hop_skipK (F := (StK.eq (undef)).F) rfl rfl rfl eg rfl
        · intro ua uw hb hd
          have eg : ua.eval (.tmp 78) = .bool true := hd 78 (by decide)
          exact hop_skipK (F := (StK.eq (undef)).F) rfl rfl rfl eg rfl
        · intro ua uw hb hd
          have e78 : ua.eval (.tmp 78) = .bool true := hd 78 (by decide)
          have e82 : ua.eval (.tmp 82) = undef := hd 82 (by decide)
          exact hop_runK (F := (StK.eq (.bool true)).F) (wanted_none rfl) (.bool true) (run_pick_t rfl e78 rfl) rfl
        · intro ua uw hb hd
          have e83 : ua.eval (.tmp 83) = .bool true := hd 83 (by decide)
          exact hop_runK (F := (StK.eq (.bool true)).F) (wanted_none rfl) (.bool true) (run_mv _ (.inl rfl) e83) rfl
        · intro ua uw hb hd
          have eg : ua.eval (.tmp 84) = .bool true := hd 84 (by decide)
          have e11 : ua.eval (.tmp 11) = .pointer (some ⟨g10, 0, none⟩) := (show ua.eval (.tmp 11) = _ from hd 11 (by decide)).trans (F41.get (t := 11) rfl)
          exact hop_runK (F := (StK.eq (.agg (groupA k p (p / 2) 4))).F) (wanted_yes rfl rfl rfl eg) (.agg (groupA k p (p / 2) 4)) (y_ldN _ _ rfl e11 ((M42.step hb).blk (k := 0) rfl) (groupA k p (p / 2) 4) (y_all rfl) Try.underlying28 rfl (by kernel_rfl)) rfl
        · intro ua uw hb hd
          have eg : ua.eval (.tmp 84) = .bool true := hd 84 (by decide)
          have e14 : ua.eval (.tmp 14) = .pointer (some ⟨g31, 0, none⟩) := (show ua.eval (.tmp 14) = _ from hd 14 (by decide)).trans (F41.get (t := 14) rfl)
          exact hop_runK (F := (StK.eq (numV Z)).F) (wanted_yes rfl rfl rfl eg) (numV Z) (y_ldN _ _ rfl e14 ((M42.step hb).blk (k := 3) rfl) (numA Z) (y_all rfl) Try.underlying26 rfl size26) rfl
        · intro ua uw hb hd
          have eg : ua.eval (.tmp 84) = .bool true := hd 84 (by decide)
          exact hop_callK (F := (StK.eq (numV 2)).F) (wanted_yes rfl rfl rfl eg) hb.size rfl #[.int .i64 2] (args1 rfl) (enters_of Try.func22 (by kernel_rfl) rfl) (call_eqS (z12 uw))
        · intro ua uw hb hd
          have eg : ua.eval (.tmp 84) = .bool true := hd 84 (by decide)
          have e85 : ua.eval (.tmp 85) = .agg (groupA k p (p / 2) 4) := hd 85 (by decide)
          have e86 : ua.eval (.tmp 86) = numV Z := hd 86 (by decide)
          have e87 : ua.eval (.tmp 87) = numV 2 := hd 87 (by decide)
          exact hop_callK (F := (StK.eq (numV S)).F) (wanted_yes rfl rfl rfl eg) hb.size rfl #[.agg (groupA k p (p / 2) 4), numV Z, numV 2] (args3 e85 e86 e87) (enters_of Try.func23 (by kernel_rfl) rfl) (call_eqS (z14 uw))
        · intro ua uw hb hd
          have eg : ua.eval (.tmp 84) = .bool true := hd 84 (by decide)
          have e15 : ua.eval (.tmp 15) = .pointer (some ⟨g41, 0, none⟩) := (show ua.eval (.tmp 15) = _ from hd 15 (by decide)).trans (F41.get (t := 15) rfl)
          exact hop_runK (F := (StK.eq (numV S)).F) (wanted_yes rfl rfl rfl eg) (numV S) (y_ldN _ _ rfl e15 ((M42.step hb).blk (k := 4) rfl) (numA S) (y_all rfl) Try.underlying26 rfl size26) rfl
        · intro ua uw hb hd
          have eg : ua.eval (.tmp 84) = .bool true := hd 84 (by decide)
          have e88 : ua.eval (.tmp 88) = numV S := hd 88 (by decide)
          have e89 : ua.eval (.tmp 89) = numV S := hd 89 (by decide)
          exact hop_runK (F := (StK.eq (.bool true)).F) (wanted_yes rfl rfl rfl eg) (.bool true) (y_eqA _ _ _ _ rfl e88 e89 (by kernel_rfl) (eqn_same S _)) rfl
        · intro ua uw hb hd
          have e84 : ua.eval (.tmp 84) = .bool true := hd 84 (by decide)
          have e90 : ua.eval (.tmp 90) = .bool true := hd 90 (by decide)
          exact hop_runK (F := (StK.eq (.bool true)).F) (wanted_none rfl) (.bool true) (run_pick_t rfl e84 e90) rfl
        · intro ua uw hb hd
          have e91 : ua.eval (.tmp 91) = .bool true := hd 91 (by decide)
          exact hop_runK (F := (StK.eq (.bool true)).F) (wanted_none rfl) (.bool true) (run_mv _ (.inr rfl) e91) rfl
        intro p45 a45 w45 b45 G45 y45
        obtain ⟨-, -, -, -, -, -, -, -, -, -, -, -, -, -, -, -, -, q17, -⟩ := y45
        have r17 : p45 17 = .bool true := q17 (by decide)
        simp only [List.take_succ_cons, List.take_zero, layV, Nat.zero_add, Nat.reduceAdd, r17] at G45
        have M45 := M42.kc b45
        clear F41 M42 r17 q17
        refine hK43 _ _ ?_
        refine wp_ret ?_
        try simp only [Exit.then, Exit.inBlock]
        exact bodyPost_ret (res1 rfl (G45.get (t := 10) rfl)) G45.defers ⟨rfl, M45.below⟩
    · refine region_fx F31 [StK.eq (.agg (groupA k p (p / 2) 4)), StK.eq (numV x), StK.eq (numV y), StK.eq (numV U), StK.eq (.agg (groupA k p (p / 2) 4)), StK.eq (numV x), StK.eq (numV y), StK.eq (numV U), StK.eq (.bool false), StK.eq (.bool false), StK.eq (.agg (groupA k p (p / 2) 4)), StK.eq (numV x), StK.eq (numV y), StK.eq (numV T), StK.eq (.agg (groupA k p (p / 2) 4)), StK.eq (numV x), StK.eq (numV y), StK.eq (numV T), StK.eq (.bool false), StK.eq (.bool false), StK.eq (.bool false), StK.eq (.agg (groupA k p (p / 2) 4)), StK.eq (numV x), StK.eq (.bool false), StK.eq (.agg (groupA k p (p / 2) 4)), StK.eq (numV x), StK.eq (.bool false), StK.eq (.bool false), StK.eq (.bool false), StK.eq (.bool false), StK.eq (.agg (groupA k p (p / 2) 4)), StK.eq (numV Z), StK.eq (.bool true), StK.eq (.agg (groupA k p (p / 2) 4)), StK.eq (numV Z), StK.eq (.bool true), StK.eq (.bool false), StK.eq (.bool false)] 38 rfl (by kernel_rfl) ⟨?_, ?_, ?_, ?_, ?_, ?_, ?_, ?_, ?_, ?_, ?_, ?_, ?_, ?_, ?_, ?_, ?_, ?_, ?_, ?_, ?_, ?_, ?_, ?_, ?_, ?_, ?_, ?_, ?_, ?_, ?_, ?_, ?_, ?_, ?_, ?_, ?_, ?_, trivial⟩ ?_
      · intro ua uw hb hd
        have e11 : ua.eval (.tmp 11) = .pointer (some ⟨g10, 0, none⟩) := (show ua.eval (.tmp 11) = _ from hd 11 (by decide)).trans (F31.get (t := 11) rfl)
        exact hop_runK (F := (StK.eq (.agg (groupA k p (p / 2) 4))).F) (wanted_none rfl) (.agg (groupA k p (p / 2) 4)) (y_ldN _ _ rfl e11 ((M32.step hb).blk (k := 0) rfl) (groupA k p (p / 2) 4) (y_all rfl) Try.underlying28 rfl (by kernel_rfl)) rfl
      · intro ua uw hb hd
        have e12 : ua.eval (.tmp 12) = .pointer (some ⟨g19, 0, none⟩) := (show ua.eval (.tmp 12) = _ from hd 12 (by decide)).trans (F31.get (t := 12) rfl)
        exact hop_runK (F := (StK.eq (numV x)).F) (wanted_none rfl) (numV x) (y_ldN _ _ rfl e12 ((M32.step hb).blk (k := 1) rfl) (numA x) (y_all rfl) Try.underlying26 rfl size26) rfl
      · intro ua uw hb hd
        have e13 : ua.eval (.tmp 13) = .pointer (some ⟨g20, 0, none⟩) := (show ua.eval (.tmp 13) = _ from hd 13 (by decide)).trans (F31.get (t := 13) rfl)
        exact hop_runK (F := (StK.eq (numV y)).F) (wanted_none rfl) (numV y) (y_ldN _ _ rfl e13 ((M32.step hb).blk (k := 2) rfl) (numA y) (y_all rfl) Try.underlying26 rfl size26) rfl
      · intro ua uw hb hd
        have e33 : ua.eval (.tmp 33) = .agg (groupA k p (p / 2) 4) := hd 33 (by decide)
        have e34 : ua.eval (.tmp 34) = numV x := hd 34 (by decide)
        have e35 : ua.eval (.tmp 35) = numV y := hd 35 (by decide)
        exact hop_callK (F := (StK.eq (numV U)).F) (wanted_none rfl) hb.size rfl #[.agg (groupA k p (p / 2) 4), numV x, numV y] (args3 e33 e34 e35) (enters_of Try.func23 (by kernel_rfl) rfl) (call_eqS (z2 uw))
      · intro ua uw hb hd
        have e11 : ua.eval (.tmp 11) = .pointer (some ⟨g10, 0, none⟩) := (show ua.eval (.tmp 11) = _ from hd 11 (by decide)).trans (F31.get (t := 11) rfl)
        exact hop_runK (F := (StK.eq (.agg (groupA k p (p / 2) 4))).F) (wanted_none rfl) (.agg (groupA k p (p / 2) 4)) (y_ldN _ _ rfl e11 ((M32.step hb).blk (k := 0) rfl) (groupA k p (p / 2) 4) (y_all rfl) Try.underlying28 rfl (by kernel_rfl)) rfl
      · intro ua uw hb hd
        have e12 : ua.eval (.tmp 12) = .pointer (some ⟨g19, 0, none⟩) := (show ua.eval (.tmp 12) = _ from hd 12 (by decide)).trans (F31.get (t := 12) rfl)
        exact hop_runK (F := (StK.eq (numV x)).F) (wanted_none rfl) (numV x) (y_ldN _ _ rfl e12 ((M32.step hb).blk (k := 1) rfl) (numA x) (y_all rfl) Try.underlying26 rfl size26) rfl
      · intro ua uw hb hd
        have e13 : ua.eval (.tmp 13) = .pointer (some ⟨g20, 0, none⟩) := (show ua.eval (.tmp 13) = _ from hd 13 (by decide)).trans (F31.get (t := 13) rfl)
        exact hop_runK (F := (StK.eq (numV y)).F) (wanted_none rfl) (numV y) (y_ldN _ _ rfl e13 ((M32.step hb).blk (k := 2) rfl) (numA y) (y_all rfl) Try.underlying26 rfl size26) rfl
      · intro ua uw hb hd
        have e37 : ua.eval (.tmp 37) = .agg (groupA k p (p / 2) 4) := hd 37 (by decide)
        have e38 : ua.eval (.tmp 38) = numV x := hd 38 (by decide)
        have e39 : ua.eval (.tmp 39) = numV y := hd 39 (by decide)
        exact hop_callK (F := (StK.eq (numV U)).F) (wanted_none rfl) hb.size rfl #[.agg (groupA k p (p / 2) 4), numV x, numV y] (args3 e37 e38 e39) (enters_of Try.func24 (by kernel_rfl) rfl) (call_eqS (z3 uw))
      · intro ua uw hb hd
        have e36 : ua.eval (.tmp 36) = numV U := hd 36 (by decide)
        have e40 : ua.eval (.tmp 40) = numV U := hd 40 (by decide)
        exact hop_runK (F := (StK.eq (.bool false)).F) (wanted_none rfl) (.bool false) (y_neA _ _ _ _ rfl e36 e40 (by kernel_rfl) (eqn_same U _)) rfl
      · intro ua uw hb hd
        have e41 : ua.eval (.tmp 41) = .bool false := hd 41 (by decide)
        exact hop_runK (F := (StK.eq (.bool false)).F) (wanted_none rfl) (.bool false) (run_mv _ (.inl rfl) e41) rfl
      · intro ua uw hb hd
        have eg : ua.eval (.tmp 42) = .bool false := hd 42 (by decide)
        have e11 : ua.eval (.tmp 11) = .pointer (some ⟨g10, 0, none⟩) := (show ua.eval (.tmp 11) = _ from hd 11 (by decide)).trans (F31.get (t := 11) rfl)
        exact hop_runK (F := (StK.eq (.agg (groupA k p (p / 2) 4))).F) (wanted_yes rfl rfl rfl eg) (.agg (groupA k p (p / 2) 4)) (y_ldN _ _ rfl e11 ((M32.step hb).blk (k := 0) rfl) (groupA k p (p / 2) 4) (y_all rfl) Try.underlying28 rfl (by kernel_rfl)) rfl
      · intro ua uw hb hd
        have eg : ua.eval (.tmp 42) = .bool false := hd 42 (by decide)
        have e12 : ua.eval (.tmp 12) = .pointer (some ⟨g19, 0, none⟩) := (show ua.eval (.tmp 12) = _ from hd 12 (by decide)).trans (F31.get (t := 12) rfl)
        exact hop_runK (F := (StK.eq (numV x)).F) (wanted_yes rfl rfl rfl eg) (numV x) (y_ldN _ _ rfl e12 ((M32.step hb).blk (k := 1) rfl) (numA x) (y_all rfl) Try.underlying26 rfl size26) rfl
      · intro ua uw hb hd
        have eg : ua.eval (.tmp 42) = .bool false := hd 42 (by decide)
        have e13 : ua.eval (.tmp 13) = .pointer (some ⟨g20, 0, none⟩) := (show ua.eval (.tmp 13) = _ from hd 13 (by decide)).trans (F31.get (t := 13) rfl)
        exact hop_runK (F := (StK.eq (numV y)).F) (wanted_yes rfl rfl rfl eg) (numV y) (y_ldN _ _ rfl e13 ((M32.step hb).blk (k := 2) rfl) (numA y) (y_all rfl) Try.underlying26 rfl size26) rfl
      · intro ua uw hb hd
        have eg : ua.eval (.tmp 42) = .bool false := hd 42 (by decide)
        have e43 : ua.eval (.tmp 43) = .agg (groupA k p (p / 2) 4) := hd 43 (by decide)
        have e44 : ua.eval (.tmp 44) = numV x := hd 44 (by decide)
        have e45 : ua.eval (.tmp 45) = numV y := hd 45 (by decide)
        exact hop_callK (F := (StK.eq (numV T)).F) (wanted_yes rfl rfl rfl eg) hb.size rfl #[.agg (groupA k p (p / 2) 4), numV x, numV y] (args3 e43 e44 e45) (enters_of Try.func25 (by kernel_rfl) rfl) (call_eqS (z4 uw))
      · intro ua uw hb hd
        have eg : ua.eval (.tmp 42) = .bool false := hd 42 (by decide)
        have e11 : ua.eval (.tmp 11) = .pointer (some ⟨g10, 0, none⟩) := (show ua.eval (.tmp 11) = _ from hd 11 (by decide)).trans (F31.get (t := 11) rfl)
        exact hop_runK (F := (StK.eq (.agg (groupA k p (p / 2) 4))).F) (wanted_yes rfl rfl rfl eg) (.agg (groupA k p (p / 2) 4)) (y_ldN _ _ rfl e11 ((M32.step hb).blk (k := 0) rfl) (groupA k p (p / 2) 4) (y_all rfl) Try.underlying28 rfl (by kernel_rfl)) rfl
      · intro ua uw hb hd
        have eg : ua.eval (.tmp 42) = .bool false := hd 42 (by decide)
        have e12 : ua.eval (.tmp 12) = .pointer (some ⟨g19, 0, none⟩) := (show ua.eval (.tmp 12) = _ from hd 12 (by decide)).trans (F31.get (t := 12) rfl)
        exact hop_runK (F := (StK.eq (numV x)).F) (wanted_yes rfl rfl rfl eg) (numV x) (y_ldN _ _ rfl e12 ((M32.step hb).blk (k := 1) rfl) (numA x) (y_all rfl) Try.underlying26 rfl size26) rfl
      · intro ua uw hb hd
        have eg : ua.eval (.tmp 42) = .bool false := hd 42 (by decide)
        have e13 : ua.eval (.tmp 13) = .pointer (some ⟨g20, 0, none⟩) := (show ua.eval (.tmp 13) = _ from hd 13 (by decide)).trans (F31.get (t := 13) rfl)
        exact hop_runK (F := (StK.eq (numV y)).F) (wanted_yes rfl rfl rfl eg) (numV y) (y_ldN _ _ rfl e13 ((M32.step hb).blk (k := 2) rfl) (numA y) (y_all rfl) Try.underlying26 rfl size26) rfl
      · intro ua uw hb hd
        have eg : ua.eval (.tmp 42) = .bool false := hd 42 (by decide)
        have e47 : ua.eval (.tmp 47) = .agg (groupA k p (p / 2) 4) := hd 47 (by decide)
        have e48 : ua.eval (.tmp 48) = numV x := hd 48 (by decide)
        have e49 : ua.eval (.tmp 49) = numV y := hd 49 (by decide)
        exact hop_callK (F := (StK.eq (numV T)).F) (wanted_yes rfl rfl rfl eg) hb.size rfl #[.agg (groupA k p (p / 2) 4), numV x, numV y] (args3 e47 e48 e49) (enters_of Try.func26 (by kernel_rfl) rfl) (call_eqS (z5 uw))
      · intro ua uw hb hd
        have eg : ua.eval (.tmp 42) = .bool false := hd 42 (by decide)
        have e46 : ua.eval (.tmp 46) = numV T := hd 46 (by decide)
        have e50 : ua.eval (.tmp 50) = numV T := hd 50 (by decide)
        exact hop_runK (F := (StK.eq (.bool false)).F) (wanted_yes rfl rfl rfl eg) (.bool false) (y_neA _ _ _ _ rfl e46 e50 (by kernel_rfl) (eqn_same T _)) rfl
      · intro ua uw hb hd
        have e42 : ua.eval (.tmp 42) = .bool false := hd 42 (by decide)
        have e51 : ua.eval (.tmp 51) = .bool false := hd 51 (by decide)
        exact hop_runK (F := (StK.eq (.bool false)).F) (wanted_none rfl) (.bool false) (run_pick_f rfl e42 e51) rfl
      · intro ua uw hb hd
        have e52 : ua.eval (.tmp 52) = .bool false := hd 52 (by decide)
        exact hop_runK (F := (StK.eq (.bool false)).F) (wanted_none rfl) (.bool false) (run_mv _ (.inl rfl) e52) rfl
      · intro ua uw hb hd
        have eg : ua.eval (.tmp 53) = .bool false := hd 53 (by decide)
        have e11 : ua.eval (.tmp 11) = .pointer (some ⟨g10, 0, none⟩) := (show ua.eval (.tmp 11) = _ from hd 11 (by decide)).trans (F31.get (t := 11) rfl)
        exact hop_runK (F := (StK.eq (.agg (groupA k p (p / 2) 4))).F) (wanted_yes rfl rfl rfl eg) (.agg (groupA k p (p / 2) 4)) (y_ldN _ _ rfl e11 ((M32.step hb).blk (k := 0) rfl) (groupA k p (p / 2) 4) (y_all rfl) Try.underlying28 rfl (by kernel_rfl)) rfl
      · intro ua uw hb hd
        have eg : ua.eval (.tmp 53) = .bool false := hd 53 (by decide)
        have e12 : ua.eval (.tmp 12) = .pointer (some ⟨g19, 0, none⟩) := (show ua.eval (.tmp 12) = _ from hd 12 (by decide)).trans (F31.get (t := 12) rfl)
        exact hop_runK (F := (StK.eq (numV x)).F) (wanted_yes rfl rfl rfl eg) (numV x) (y_ldN _ _ rfl e12 ((M32.step hb).blk (k := 1) rfl) (numA x) (y_all rfl) Try.underlying26 rfl size26) rfl
      · intro ua uw hb hd
        have eg : ua.eval (.tmp 53) = .bool false := hd 53 (by decide)
        have e54 : ua.eval (.tmp 54) = .agg (groupA k p (p / 2) 4) := hd 54 (by decide)
        have e55 : ua.eval (.tmp 55) = numV x := hd 55 (by decide)
        exact hop_callK (F := (StK.eq (.bool false)).F) (wanted_yes rfl rfl rfl eg) hb.size rfl #[.agg (groupA k p (p / 2) 4), numV x] (args2 e54 e55) (enters_of Try.func27 (by kernel_rfl) rfl) (call_eqS (z6 uw))
      · intro ua uw hb hd
        have eg : ua.eval (.tmp 53) = .bool false := hd 53 (by decide)
        have e11 : ua.eval (.tmp 11) = .pointer (some ⟨g10, 0, none⟩) := (show ua.eval (.tmp 11) = _ from hd 11 (by decide)).trans (F31.get (t := 11) rfl)
        exact hop_runK (F := (StK.eq (.agg (groupA k p (p / 2) 4))).F) (wanted_yes rfl rfl rfl eg) (.agg (groupA k p (p / 2) 4)) (y_ldN _ _ rfl e11 ((M32.step hb).blk (k := 0) rfl) (groupA k p (p / 2) 4) (y_all rfl) Try.underlying28 rfl (by kernel_rfl)) rfl
      · intro ua uw hb hd
        have eg : ua.eval (.tmp 53) = .bool false := hd 53 (by decide)
        have e12 : ua.eval (.tmp 12) = .pointer (some ⟨g19, 0, none⟩) := (show ua.eval (.tmp 12) = _ from hd 12 (by decide)).trans (F31.get (t := 12) rfl)
        exact hop_runK (F := (StK.eq (numV x)).F) (wanted_yes rfl rfl rfl eg) (numV x) (y_ldN _ _ rfl e12 ((M32.step hb).blk (k := 1) rfl) (numA x) (y_all rfl) Try.underlying26 rfl size26) rfl
      · intro ua uw hb hd
        have eg : ua.eval (.tmp 53) = .bool false := hd 53 (by decide)
        have e57 : ua.eval (.tmp 57) = .agg (groupA k p (p / 2) 4) := hd 57 (by decide)
        have e58 : ua.eval (.tmp 58) = numV x := hd 58 (by decide)
        exact hop_callK (F := (StK.eq (.bool false)).F) (wanted_yes rfl rfl rfl eg) hb.size rfl #[.agg (groupA k p (p / 2) 4), numV x] (args2 e57 e58) (enters_of Try.func28 (by kernel_rfl) rfl) (call_eqS (z7 uw))
      · intro ua uw hb hd
        have eg : ua.eval (.tmp 53) = .bool false := hd 53 (by decide)
        have e56 : ua.eval (.tmp 56) = .bool false := hd 56 (by decide)
        have e59 : ua.eval (.tmp 59) = .bool false := hd 59 (by decide)
        exact hop_runK (F := (StK.eq (.bool false)).F) (wanted_yes rfl rfl rfl eg) (.bool false) (y_neB _ _ rfl e56 e59 rfl) rfl
      · intro ua uw hb hd
        have e53 : ua.eval (.tmp 53) = .bool false := hd 53 (by decide)
        have e60 : ua.eval (.tmp 60) = .bool false := hd 60 (by decide)
        exact hop_runK (F := (StK.eq (.bool false)).F) (wanted_none rfl) (.bool false) (run_pick_f rfl e53 e60) rfl
      · intro ua uw hb hd
        have e61 : ua.eval (.tmp 61) = .bool false := hd 61 (by decide)
        exact hop_runK (F := (StK.eq (.bool false)).F) (wanted_none rfl) (.bool false) (run_mv _ (.inl rfl) e61) rfl
      · intro ua uw hb hd
        have eg : ua.eval (.tmp 62) = .bool false := hd 62 (by decide)
        have e11 : ua.eval (.tmp 11) = .pointer (some ⟨g10, 0, none⟩) := (show ua.eval (.tmp 11) = _ from hd 11 (by decide)).trans (F31.get (t := 11) rfl)
        exact hop_runK (F := (StK.eq (.agg (groupA k p (p / 2) 4))).F) (wanted_yes rfl rfl rfl eg) (.agg (groupA k p (p / 2) 4)) (y_ldN _ _ rfl e11 ((M32.step hb).blk (k := 0) rfl) (groupA k p (p / 2) 4) (y_all rfl) Try.underlying28 rfl (by kernel_rfl)) rfl
      · intro ua uw hb hd
        have eg : ua.eval (.tmp 62) = .bool false := hd 62 (by decide)
        have e14 : ua.eval (.tmp 14) = .pointer (some ⟨g31, 0, none⟩) := (show ua.eval (.tmp 14) = _ from hd 14 (by decide)).trans (F31.get (t := 14) rfl)
        exact hop_runK (F := (StK.eq (numV Z)).F) (wanted_yes rfl rfl rfl eg) (numV Z) (y_ldN _ _ rfl e14 ((M32.step hb).blk (k := 3) rfl) (numA Z) (y_all rfl) Try.underlying26 rfl size26) rfl
      · intro ua uw hb hd
        have eg : ua.eval (.tmp 62) = .bool false := hd 62 (by decide)
        have e63 : ua.eval (.tmp 63) = .agg (groupA k p (p / 2) 4) := hd 63 (by decide)
        have e64 : ua.eval (.tmp 64) = numV Z := hd 64 (by decide)
        exact hop_callK (F := (StK.eq (.bool true)).F) (wanted_yes rfl rfl rfl eg) hb.size rfl #[.agg (groupA k p (p / 2) 4), numV Z] (args2 e63 e64) (enters_of Try.func27 (by kernel_rfl) rfl) (call_eqS (z8 uw))
      · intro ua uw hb hd
        have eg : ua.eval (.tmp 62) = .bool false := hd 62 (by decide)
        have e11 : ua.eval (.tmp 11) = .pointer (some ⟨g10, 0, none⟩) := (show ua.eval (.tmp 11) = _ from hd 11 (by decide)).trans (F31.get (t := 11) rfl)
        exact hop_runK (F := (StK.eq (.agg (groupA k p (p / 2) 4))).F) (wanted_yes rfl rfl rfl eg) (.agg (groupA k p (p / 2) 4)) (y_ldN _ _ rfl e11 ((M32.step hb).blk (k := 0) rfl) (groupA k p (p / 2) 4) (y_all rfl) Try.underlying28 rfl (by kernel_rfl)) rfl
      · intro ua uw hb hd
        have eg : ua.eval (.tmp 62) = .bool false := hd 62 (by decide)
        have e14 : ua.eval (.tmp 14) = .pointer (some ⟨g31, 0, none⟩) := (show ua.eval (.tmp 14) = _ from hd 14 (by decide)).trans (F31.get (t := 14) rfl)
        exact hop_runK (F := (StK.eq (numV Z)).F) (wanted_yes rfl rfl rfl eg) (numV Z) (y_ldN _ _ rfl e14 ((M32.step hb).blk (k := 3) rfl) (numA Z) (y_all rfl) Try.underlying26 rfl size26) rfl
      · intro ua uw hb hd
        have eg : ua.eval (.tmp 62) = .bool false := hd 62 (by decide)
        have e66 : ua.eval (.tmp 66) = .agg (groupA k p (p / 2) 4) := hd 66 (by decide)
        have e67 : ua.eval (.tmp 67) = numV Z := hd 67 (by decide)
        exact hop_callK (F := (StK.eq (.bool true)).F) (wanted_yes rfl rfl rfl eg) hb.size rfl #[.agg (groupA k p (p / 2) 4), numV Z] (args2 e66 e67) (enters_of Try.func28 (by kernel_rfl) rfl) (call_eqS (z9 uw))
      · intro ua uw hb hd
        have eg : ua.eval (.tmp 62) = .bool false := hd 62 (by decide)
        have e65 : ua.eval (.tmp 65) = .bool true := hd 65 (by decide)
        have e68 : ua.eval (.tmp 68) = .bool true := hd 68 (by decide)
        exact hop_runK (F := (StK.eq (.bool false)).F) (wanted_yes rfl rfl rfl eg) (.bool false) (y_neB _ _ rfl e65 e68 rfl) rfl
      · intro ua uw hb hd
        have e62 : ua.eval (.tmp 62) = .bool false := hd 62 (by decide)
        have e69 : ua.eval (.tmp 69) = .bool false := hd 69 (by decide)
        exact hop_runK (F := (StK.eq (.bool false)).F) (wanted_none rfl) (.bool false) (run_pick_f rfl e62 e69) rfl
      intro p46 a46 w46 b46 G46 y46
      obtain ⟨-, -, -, -, -, -, -, -, -, -, -, -, -, -, -, -, -, -, -, -, -, -, -, -, -, -, -, -, -, -, -, -, -, -, -, -, -, q37, -⟩ := y46
      have r37 : p46 37 = .bool false := q37 (by decide)
      simp only [List.take_succ_cons, List.take_zero, layV, Nat.zero_add, Nat.reduceAdd, r37] at G46
      have M46 := M32.kc b46
      clear F31 M32 r37 q37
      refine hK34 _ _ ?_
      refine wp_cond_false (G46.get (t := 70) rfl) ?_
      refine wp_skip ?_
      refine hK33 _ _ ?_
      refine wp_seq_k fun K47 hK47 => ?_
      refine wp_region_lit ?_
      refine wl_run (w' := w46) (wanted_none rfl) rfl G46 rfl (.agg (groupA k p (p / 2) 4)) (y_ldN _ _ rfl (G46.get (t := 11) rfl) (M46.blk (k := 0) rfl) (groupA k p (p / 2) 4) (y_all rfl) Try.underlying28 rfl (by kernel_rfl)) fun a48 F48 => ?_
      clear G46
      refine wl_run (w' := w46) (wanted_none rfl) rfl F48 rfl (numV Z) (y_ldN _ _ rfl (F48.get (t := 14) rfl) (M46.blk (k := 3) rfl) (numA Z) (y_all rfl) Try.underlying26 rfl size26) fun a49 F49 => ?_
      clear F48
      refine wl_run (w' := w46) (wanted_none rfl) rfl F49 rfl (numV Z) (y_ldN _ _ rfl (F49.get (t := 14) rfl) (M46.blk (k := 3) rfl) (numA Z) (y_all rfl) Try.underlying26 rfl size26) fun a50 F50 => ?_
      clear F49
      refine wl_call (wanted_none rfl) rfl F50 rfl rfl (enters_of Try.func25 (by kernel_rfl) rfl) #[.agg (groupA k p (p / 2) 4), numV Z, numV Z] (args3 (F50.get (t := 71) rfl) (F50.get (t := 72) rfl) (F50.get (t := 73) rfl)) (call_ex (z10 w46)) ?_
      rintro _ w51 a51 ⟨rfl, b51⟩ F51
      have M51 := M46.step b51
      refine wl_alloc (wanted_none rfl) rfl F51 rfl M51 4 (t := 26) (c := numA 0) (y_new_num rfl) ?_
      intro g52 a52 w52 F52 M52
      clear F51 M51
      refine wl_st (wanted_none rfl) rfl F52 M52 (k := 4) rfl _ _ _ rfl (F52.get (t := 15) rfl) (F52.get (t := 74) rfl) (numA S) (numA S) rfl (Nat.le_of_ble_eq_true rfl) (numA_cells _) (y_put0 rfl) size26 ?_
      intro w53 M53
      clear M52
      refine hK47 _ _ ?_
      refine wp_seq_k fun K54 hK54 => ?_
      cases hs
      · replace z15 : c < 0 := z15.elim (fun h => by cases h) id
        refine region_fx F52 [StK.eq (.agg (groupA k p (p / 2) 4)), StK.eq (numV S), StK.eq (.bool false), StK.eq (.bool false), StK.eq (numV S), StK.eq (numV 2), StK.eq (.int .i64 c), StK.eq (.bool true), StK.eq (.bool true), StK.eq (.bool true), StK.eq (.agg (groupA k p (p / 2) 4)), StK.eq (numV Z), StK.eq (numV 2), StK.eq (numV S), StK.eq (numV S), StK.eq (.bool true), StK.eq (.bool true), StK.eq (.bool true)] 18 rfl (by kernel_rfl) ⟨?_, ?_, ?_, ?_, ?_, ?_, ?_, ?_, ?_, ?_, ?_, ?_, ?_, ?_, ?_, ?_, ?_, ?_, trivial⟩ ?_
        · intro ua uw hb hd
          have e11 : ua.eval (.tmp 11) = .pointer (some ⟨g10, 0, none⟩) := (show ua.eval (.tmp 11) = _ from hd 11 (by decide)).trans (F52.get (t := 11) rfl)
          exact hop_runK (F := (StK.eq (.agg (groupA k p (p / 2) 4))).F) (wanted_none rfl) (.agg (groupA k p (p / 2) 4)) (y_ldN _ _ rfl e11 ((M53.step hb).blk (k := 0) rfl) (groupA k p (p / 2) 4) (y_all rfl) Try.underlying28 rfl (by kernel_rfl)) rfl
        · intro ua uw hb hd
          have e15 : ua.eval (.tmp 15) = .pointer (some ⟨g52, 0, none⟩) := (show ua.eval (.tmp 15) = _ from hd 15 (by decide)).trans (F52.get (t := 15) rfl)
          exact hop_runK (F := (StK.eq (numV S)).F) (wanted_none rfl) (numV S) (y_ldN _ _ rfl e15 ((M53.step hb).blk (k := 4) rfl) (numA S) (y_all rfl) Try.underlying26 rfl size26) rfl
        · intro ua uw hb hd
          have e75 : ua.eval (.tmp 75) = .agg (groupA k p (p / 2) 4) := hd 75 (by decide)
          have e76 : ua.eval (.tmp 76) = numV S := hd 76 (by decide)
          exact hop_callK (F := (StK.eq (.bool false)).F) (wanted_none rfl) hb.size rfl #[.agg (groupA k p (p / 2) 4), numV S] (args2 e75 e76) (enters_of Try.func27 (by kernel_rfl) rfl) (call_eqS (z11 uw))
        · intro ua uw hb hd
          have e77 : ua.eval (.tmp 77) = .bool false := hd 77 (by decide)
          exact hop_runK (F := (StK.eq (.bool false)).F) (wanted_none rfl) (.bool false) (run_mv _ (.inl rfl) e77) rfl
        · intro ua uw hb hd
          have eg : ua.eval (.tmp 78) = .bool false := hd 78 (by decide)
          have e15 : ua.eval (.tmp 15) = .pointer (some ⟨g52, 0, none⟩) := (show ua.eval (.tmp 15) = _ from hd 15 (by decide)).trans (F52.get (t := 15) rfl)
          exact hop_runK (F := (StK.eq (numV S)).F) (wanted_yes rfl rfl rfl eg) (numV S) (y_ldN _ _ rfl e15 ((M53.step hb).blk (k := 4) rfl) (numA S) (y_all rfl) Try.underlying26 rfl size26) rfl
        · intro ua uw hb hd
          have eg : ua.eval (.tmp 78) = .bool false := hd 78 (by decide)
          exact hop_callK (F := (StK.eq (numV 2)).F) (wanted_yes rfl rfl rfl eg) hb.size rfl #[.int .i64 2] (args1 rfl) (enters_of Try.func22 (by kernel_rfl) rfl) (call_eqS (z12 uw))
        · intro ua uw hb hd
          have eg : ua.eval (.tmp 78) = .bool false := hd 78 (by decide)
          have e79 : ua.eval (.tmp 79) = numV S := hd 79 (by decide)
          have e80 : ua.eval (.tmp 80) = numV 2 := hd 80 (by decide)
          exact hop_callK (F := (StK.eq (.int .i64 c)).F) (wanted_yes rfl rfl rfl eg) hb.size rfl #[numV S, numV 2] (args2 e79 e80) (enters_of Try.func29 (by kernel_rfl) rfl) (call_eqS (z13 uw))
        · intro ua uw hb hd
          have eg : ua.eval (.tmp 78) = .bool false := hd 78 (by decide)
          have e81 : ua.eval (.tmp 81) = .int .i64 c := hd 81 (by decide)
          exact hop_runK (F := (StK.eq (.bool true)).F) (wanted_yes rfl rfl rfl eg) (.bool true) (y_lss _ _ _ _ rfl e81 rfl (decide_eq_true z15)) rfl
        · intro ua uw hb hd
          have e78 : ua.eval (.tmp 78) = .bool false := hd 78 (by decide)
          have e82 : ua.eval (.tmp 82) = .bool true := hd 82 (by decide)
          exact hop_runK (F := (StK.eq (.bool true)).F) (wanted_none rfl) (.bool true) (run_pick_f rfl e78 e82) rfl
        · intro ua uw hb hd
          have e83 : ua.eval (.tmp 83) = .bool true := hd 83 (by decide)
          exact hop_runK (F := (StK.eq (.bool true)).F) (wanted_none rfl) (.bool true) (run_mv _ (.inl rfl) e83) rfl
        · intro ua uw hb hd
          have eg : ua.eval (.tmp 84) = .bool true := hd 84 (by decide)
          have e11 : ua.eval (.tmp 11) = .pointer (some ⟨g10, 0, none⟩) := (show ua.eval (.tmp 11) = _ from hd 11 (by decide)).trans (F52.get (t := 11) rfl)
          exact hop_runK (F := (StK.eq (.agg (groupA k p (p / 2) 4))).F) (wanted_yes rfl rfl rfl eg) (.agg (groupA k p (p / 2) 4)) (y_ldN _ _ rfl e11 ((M53.step hb).blk (k := 0) rfl) (groupA k p (p / 2) 4) (y_all rfl) Try.underlying28 rfl (by kernel_rfl)) rfl
        · intro ua uw hb hd
          have eg : ua.eval (.tmp 84) = .bool true := hd 84 (by decide)
          have e14 : ua.eval (.tmp 14) = .pointer (some ⟨g31, 0, none⟩) := (show ua.eval (.tmp 14) = _ from hd 14 (by decide)).trans (F52.get (t := 14) rfl)
          exact hop_runK (F := (StK.eq (numV Z)).F) (wanted_yes rfl rfl rfl eg) (numV Z) (y_ldN _ _ rfl e14 ((M53.step hb).blk (k := 3) rfl) (numA Z) (y_all rfl) Try.underlying26 rfl size26) rfl
        · intro ua uw hb hd
          have eg : ua.eval (.tmp 84) = .bool true := hd 84 (by decide)
          exact hop_callK (F := (StK.eq (numV 2)).F) (wanted_yes rfl rfl rfl eg) hb.size rfl #[.int .i64 2] (args1 rfl) (enters_of Try.func22 (by kernel_rfl) rfl) (call_eqS (z12 uw))
        · intro ua uw hb hd
          have eg : ua.eval (.tmp 84) = .bool true := hd 84 (by decide)
          have e85 : ua.eval (.tmp 85) = .agg (groupA k p (p / 2) 4) := hd 85 (by decide)
          have e86 : ua.eval (.tmp 86) = numV Z := hd 86 (by decide)
          have e87 : ua.eval (.tmp 87) = numV 2 := hd 87 (by decide)
          exact hop_callK (F := (StK.eq (numV S)).F) (wanted_yes rfl rfl rfl eg) hb.size rfl #[.agg (groupA k p (p / 2) 4), numV Z, numV 2] (args3 e85 e86 e87) (enters_of Try.func23 (by kernel_rfl) rfl) (call_eqS (z14 uw))
        · intro ua uw hb hd
          have eg : ua.eval (.tmp 84) = .bool true := hd 84 (by decide)
          have e15 : ua.eval (.tmp 15) = .pointer (some ⟨g52, 0, none⟩) := (show ua.eval (.tmp 15) = _ from hd 15 (by decide)).trans (F52.get (t := 15) rfl)
          exact hop_runK (F := (StK.eq (numV S)).F) (wanted_yes rfl rfl rfl eg) (numV S) (y_ldN _ _ rfl e15 ((M53.step hb).blk (k := 4) rfl) (numA S) (y_all rfl) Try.underlying26 rfl size26) rfl
        · intro ua uw hb hd
          have eg : ua.eval (.tmp 84) = .bool true := hd 84 (by decide)
          have e88 : ua.eval (.tmp 88) = numV S := hd 88 (by decide)
          have e89 : ua.eval (.tmp 89) = numV S := hd 89 (by decide)
          exact hop_runK (F := (StK.eq (.bool true)).F) (wanted_yes rfl rfl rfl eg) (.bool true) (y_eqA _ _ _ _ rfl e88 e89 (by kernel_rfl) (eqn_same S _)) rfl
        · intro ua uw hb hd
          have e84 : ua.eval (.tmp 84) = .bool true := hd 84 (by decide)
          have e90 : ua.eval (.tmp 90) = .bool true := hd 90 (by decide)
          exact hop_runK (F := (StK.eq (.bool true)).F) (wanted_none rfl) (.bool true) (run_pick_t rfl e84 e90) rfl
        · intro ua uw hb hd
          have e91 : ua.eval (.tmp 91) = .bool true := hd 91 (by decide)
          exact hop_runK (F := (StK.eq (.bool true)).F) (wanted_none rfl) (.bool true) (run_mv _ (.inr rfl) e91) rfl
        intro p55 a55 w55 b55 G55 y55
        obtain ⟨-, -, -, -, -, -, -, -, -, -, -, -, -, -, -, -, -, q17, -⟩ := y55
        have r17 : p55 17 = .bool true := q17 (by decide)
        simp only [List.take_succ_cons, List.take_zero, layV, Nat.zero_add, Nat.reduceAdd, r17] at G55
        have M55 := M53.kc b55
        clear F52 M53 r17 q17
        refine hK54 _ _ ?_
        refine wp_ret ?_
        try simp only [Exit.then, Exit.inBlock]
        exact bodyPost_ret (res1 rfl (G55.get (t := 10) rfl)) G55.defers ⟨rfl, M55.below⟩
      · refine region_fx F52 [StK.eq (.agg (groupA k p (p / 2) 4)), StK.eq (numV S), StK.eq (.bool true), StK.eq (.bool true), StK.eq undef, StK.eq undef, StK.eq undef, StK.eq undef, StK.eq (.bool true), StK.eq (.bool true), StK.eq (.agg (groupA k p (p / 2) 4)), StK.eq (numV Z), StK.eq (numV 2), StK.eq (numV S), StK.eq (numV S), StK.eq (.bool true), StK.eq (.bool true), StK.eq (.bool true)] 18 rfl (by kernel_rfl) ⟨?_, ?_, ?_, ?_, ?_, ?_, ?_, ?_, ?_, ?_, ?_, ?_, ?_, ?_, ?_, ?_, ?_, ?_, trivial⟩ ?_
        · intro ua uw hb hd
          have e11 : ua.eval (.tmp 11) = .pointer (some ⟨g10, 0, none⟩) := (show ua.eval (.tmp 11) = _ from hd 11 (by decide)).trans (F52.get (t := 11) rfl)
          exact hop_runK (F := (StK.eq (.agg (groupA k p (p / 2) 4))).F) (wanted_none rfl) (.agg (groupA k p (p / 2) 4)) (y_ldN _ _ rfl e11 ((M53.step hb).blk (k := 0) rfl) (groupA k p (p / 2) 4) (y_all rfl) Try.underlying28 rfl (by kernel_rfl)) rfl
        · intro ua uw hb hd
          have e15 : ua.eval (.tmp 15) = .pointer (some ⟨g52, 0, none⟩) := (show ua.eval (.tmp 15) = _ from hd 15 (by decide)).trans (F52.get (t := 15) rfl)
          exact hop_runK (F := (StK.eq (numV S)).F) (wanted_none rfl) (numV S) (y_ldN _ _ rfl e15 ((M53.step hb).blk (k := 4) rfl) (numA S) (y_all rfl) Try.underlying26 rfl size26) rfl
        · intro ua uw hb hd
          have e75 : ua.eval (.tmp 75) = .agg (groupA k p (p / 2) 4) := hd 75 (by decide)
          have e76 : ua.eval (.tmp 76) = numV S := hd 76 (by decide)
          exact hop_callK (F := (StK.eq (.bool true)).F) (wanted_none rfl) hb.size rfl #[.agg (groupA k p (p / 2) 4), numV S] (args2 e75 e76) (enters_of Try.func27 (by kernel_rfl) rfl) (call_eqS (z11 uw))
        · intro ua uw hb hd
          have e77 : ua.eval (.tmp 77) = .bool true := hd 77 (by decide)
          exact hop_runK (F := (StK.eq (.bool true)).F) (wanted_none rfl) (.bool true) (run_mv _ (.inl rfl) e77) rfl
        · intro ua uw hb hd
          have eg : ua.eval (.tmp 78) = .bool true := hd 78 (by decide)
          exact hop_skipK (F := (StK.eq (undef)).F) rfl rfl rfl eg rfl
        · intro ua uw hb hd
          have eg : ua.eval (.tmp 78) = .bool true := hd 78 (by decide)
          exact hop_skipK (F := (StK.eq (undef)).F) rfl rfl rfl eg rfl
        · intro ua uw hb hd
          have eg : ua.eval (.tmp 78) = .bool true := hd 78 (by decide)
          exact hop_skipK (F := (StK.eq (undef)).F) rfl rfl rfl eg rfl
        · intro ua uw hb hd
          have eg : ua.eval (.tmp 78) = .bool true := hd 78 (by decide)
          exact hop_skipK (F := (StK.eq (undef)).F) rfl rfl rfl eg rfl
        · intro ua uw hb hd
          have e78 : ua.eval (.tmp 78) = .bool true := hd 78 (by decide)
          have e82 : ua.eval (.tmp 82) = undef := hd 82 (by decide)
          exact hop_runK (F := (StK.eq (.bool true)).F) (wanted_none rfl) (.bool true) (run_pick_t rfl e78 rfl) rfl
        · intro ua uw hb hd
          have e83 : ua.eval (.tmp 83) = .bool true := hd 83 (by decide)
          exact hop_runK (F := (StK.eq (.bool true)).F) (wanted_none rfl) (.bool true) (run_mv _ (.inl rfl) e83) rfl
        · intro ua uw hb hd
          have eg : ua.eval (.tmp 84) = .bool true := hd 84 (by decide)
          have e11 : ua.eval (.tmp 11) = .pointer (some ⟨g10, 0, none⟩) := (show ua.eval (.tmp 11) = _ from hd 11 (by decide)).trans (F52.get (t := 11) rfl)
          exact hop_runK (F := (StK.eq (.agg (groupA k p (p / 2) 4))).F) (wanted_yes rfl rfl rfl eg) (.agg (groupA k p (p / 2) 4)) (y_ldN _ _ rfl e11 ((M53.step hb).blk (k := 0) rfl) (groupA k p (p / 2) 4) (y_all rfl) Try.underlying28 rfl (by kernel_rfl)) rfl
        · intro ua uw hb hd
          have eg : ua.eval (.tmp 84) = .bool true := hd 84 (by decide)
          have e14 : ua.eval (.tmp 14) = .pointer (some ⟨g31, 0, none⟩) := (show ua.eval (.tmp 14) = _ from hd 14 (by decide)).trans (F52.get (t := 14) rfl)
          exact hop_runK (F := (StK.eq (numV Z)).F) (wanted_yes rfl rfl rfl eg) (numV Z) (y_ldN _ _ rfl e14 ((M53.step hb).blk (k := 3) rfl) (numA Z) (y_all rfl) Try.underlying26 rfl size26) rfl
        · intro ua uw hb hd
          have eg : ua.eval (.tmp 84) = .bool true := hd 84 (by decide)
          exact hop_callK (F := (StK.eq (numV 2)).F) (wanted_yes rfl rfl rfl eg) hb.size rfl #[.int .i64 2] (args1 rfl) (enters_of Try.func22 (by kernel_rfl) rfl) (call_eqS (z12 uw))
        · intro ua uw hb hd
          have eg : ua.eval (.tmp 84) = .bool true := hd 84 (by decide)
          have e85 : ua.eval (.tmp 85) = .agg (groupA k p (p / 2) 4) := hd 85 (by decide)
          have e86 : ua.eval (.tmp 86) = numV Z := hd 86 (by decide)
          have e87 : ua.eval (.tmp 87) = numV 2 := hd 87 (by decide)
          exact hop_callK (F := (StK.eq (numV S)).F) (wanted_yes rfl rfl rfl eg) hb.size rfl #[.agg (groupA k p (p / 2) 4), numV Z, numV 2] (args3 e85 e86 e87) (enters_of Try.func23 (by kernel_rfl) rfl) (call_eqS (z14 uw))
        · intro ua uw hb hd
          have eg : ua.eval (.tmp 84) = .bool true := hd 84 (by decide)
          have e15 : ua.eval (.tmp 15) = .pointer (some ⟨g52, 0, none⟩) := (show ua.eval (.tmp 15) = _ from hd 15 (by decide)).trans (F52.get (t := 15) rfl)
          exact hop_runK (F := (StK.eq (numV S)).F) (wanted_yes rfl rfl rfl eg) (numV S) (y_ldN _ _ rfl e15 ((M53.step hb).blk (k := 4) rfl) (numA S) (y_all rfl) Try.underlying26 rfl size26) rfl
        · intro ua uw hb hd
          have eg : ua.eval (.tmp 84) = .bool true := hd 84 (by decide)
          have e88 : ua.eval (.tmp 88) = numV S := hd 88 (by decide)
          have e89 : ua.eval (.tmp 89) = numV S := hd 89 (by decide)
          exact hop_runK (F := (StK.eq (.bool true)).F) (wanted_yes rfl rfl rfl eg) (.bool true) (y_eqA _ _ _ _ rfl e88 e89 (by kernel_rfl) (eqn_same S _)) rfl
        · intro ua uw hb hd
          have e84 : ua.eval (.tmp 84) = .bool true := hd 84 (by decide)
          have e90 : ua.eval (.tmp 90) = .bool true := hd 90 (by decide)
          exact hop_runK (F := (StK.eq (.bool true)).F) (wanted_none rfl) (.bool true) (run_pick_t rfl e84 e90) rfl
        · intro ua uw hb hd
          have e91 : ua.eval (.tmp 91) = .bool true := hd 91 (by decide)
          exact hop_runK (F := (StK.eq (.bool true)).F) (wanted_none rfl) (.bool true) (run_mv _ (.inr rfl) e91) rfl
        intro p56 a56 w56 b56 G56 y56
        obtain ⟨-, -, -, -, -, -, -, -, -, -, -, -, -, -, -, -, -, q17, -⟩ := y56
        have r17 : p56 17 = .bool true := q17 (by decide)
        simp only [List.take_succ_cons, List.take_zero, layV, Nat.zero_add, Nat.reduceAdd, r17] at G56
        have M56 := M53.kc b56
        clear F52 M53 r17 q17
        refine hK54 _ _ ?_
        refine wp_ret ?_
        try simp only [Exit.then, Exit.inBlock]
        exact bodyPost_ret (res1 rfl (G56.get (t := 10) rfl)) G56.defers ⟨rfl, M56.below⟩
  · cases hz
    · refine region_fx F31 [StK.eq (.agg (groupA k p (p / 2) 4)), StK.eq (numV x), StK.eq (numV y), StK.eq (numV U), StK.eq (.agg (groupA k p (p / 2) 4)), StK.eq (numV x), StK.eq (numV y), StK.eq (numV U), StK.eq (.bool false), StK.eq (.bool false), StK.eq (.agg (groupA k p (p / 2) 4)), StK.eq (numV x), StK.eq (numV y), StK.eq (numV T), StK.eq (.agg (groupA k p (p / 2) 4)), StK.eq (numV x), StK.eq (numV y), StK.eq (numV T), StK.eq (.bool false), StK.eq (.bool false), StK.eq (.bool false), StK.eq (.agg (groupA k p (p / 2) 4)), StK.eq (numV x), StK.eq (.bool true), StK.eq (.agg (groupA k p (p / 2) 4)), StK.eq (numV x), StK.eq (.bool true), StK.eq (.bool false), StK.eq (.bool false), StK.eq (.bool false), StK.eq (.agg (groupA k p (p / 2) 4)), StK.eq (numV Z), StK.eq (.bool false), StK.eq (.agg (groupA k p (p / 2) 4)), StK.eq (numV Z), StK.eq (.bool false), StK.eq (.bool false), StK.eq (.bool false)] 38 rfl (by kernel_rfl) ⟨?_, ?_, ?_, ?_, ?_, ?_, ?_, ?_, ?_, ?_, ?_, ?_, ?_, ?_, ?_, ?_, ?_, ?_, ?_, ?_, ?_, ?_, ?_, ?_, ?_, ?_, ?_, ?_, ?_, ?_, ?_, ?_, ?_, ?_, ?_, ?_, ?_, ?_, trivial⟩ ?_
      · intro ua uw hb hd
        have e11 : ua.eval (.tmp 11) = .pointer (some ⟨g10, 0, none⟩) := (show ua.eval (.tmp 11) = _ from hd 11 (by decide)).trans (F31.get (t := 11) rfl)
        exact hop_runK (F := (StK.eq (.agg (groupA k p (p / 2) 4))).F) (wanted_none rfl) (.agg (groupA k p (p / 2) 4)) (y_ldN _ _ rfl e11 ((M32.step hb).blk (k := 0) rfl) (groupA k p (p / 2) 4) (y_all rfl) Try.underlying28 rfl (by kernel_rfl)) rfl
      · intro ua uw hb hd
        have e12 : ua.eval (.tmp 12) = .pointer (some ⟨g19, 0, none⟩) := (show ua.eval (.tmp 12) = _ from hd 12 (by decide)).trans (F31.get (t := 12) rfl)
        exact hop_runK (F := (StK.eq (numV x)).F) (wanted_none rfl) (numV x) (y_ldN _ _ rfl e12 ((M32.step hb).blk (k := 1) rfl) (numA x) (y_all rfl) Try.underlying26 rfl size26) rfl
      · intro ua uw hb hd
        have e13 : ua.eval (.tmp 13) = .pointer (some ⟨g20, 0, none⟩) := (show ua.eval (.tmp 13) = _ from hd 13 (by decide)).trans (F31.get (t := 13) rfl)
        exact hop_runK (F := (StK.eq (numV y)).F) (wanted_none rfl) (numV y) (y_ldN _ _ rfl e13 ((M32.step hb).blk (k := 2) rfl) (numA y) (y_all rfl) Try.underlying26 rfl size26) rfl
      · intro ua uw hb hd
        have e33 : ua.eval (.tmp 33) = .agg (groupA k p (p / 2) 4) := hd 33 (by decide)
        have e34 : ua.eval (.tmp 34) = numV x := hd 34 (by decide)
        have e35 : ua.eval (.tmp 35) = numV y := hd 35 (by decide)
        exact hop_callK (F := (StK.eq (numV U)).F) (wanted_none rfl) hb.size rfl #[.agg (groupA k p (p / 2) 4), numV x, numV y] (args3 e33 e34 e35) (enters_of Try.func23 (by kernel_rfl) rfl) (call_eqS (z2 uw))
      · intro ua uw hb hd
        have e11 : ua.eval (.tmp 11) = .pointer (some ⟨g10, 0, none⟩) := (show ua.eval (.tmp 11) = _ from hd 11 (by decide)).trans (F31.get (t := 11) rfl)
        exact hop_runK (F := (StK.eq (.agg (groupA k p (p / 2) 4))).F) (wanted_none rfl) (.agg (groupA k p (p / 2) 4)) (y_ldN _ _ rfl e11 ((M32.step hb).blk (k := 0) rfl) (groupA k p (p / 2) 4) (y_all rfl) Try.underlying28 rfl (by kernel_rfl)) rfl
      · intro ua uw hb hd
        have e12 : ua.eval (.tmp 12) = .pointer (some ⟨g19, 0, none⟩) := (show ua.eval (.tmp 12) = _ from hd 12 (by decide)).trans (F31.get (t := 12) rfl)
        exact hop_runK (F := (StK.eq (numV x)).F) (wanted_none rfl) (numV x) (y_ldN _ _ rfl e12 ((M32.step hb).blk (k := 1) rfl) (numA x) (y_all rfl) Try.underlying26 rfl size26) rfl
      · intro ua uw hb hd
        have e13 : ua.eval (.tmp 13) = .pointer (some ⟨g20, 0, none⟩) := (show ua.eval (.tmp 13) = _ from hd 13 (by decide)).trans (F31.get (t := 13) rfl)
        exact hop_runK (F := (StK.eq (numV y)).F) (wanted_none rfl) (numV y) (y_ldN _ _ rfl e13 ((M32.step hb).blk (k := 2) rfl) (numA y) (y_all rfl) Try.underlying26 rfl size26) rfl
      · intro ua uw hb hd
        have e37 : ua.eval (.tmp 37) = .agg (groupA k p (p / 2) 4) := hd 37 (by decide)
        have e38 : ua.eval (.tmp 38) = numV x := hd 38 (by decide)
        have e39 : ua.eval (.tmp 39) = numV y := hd 39 (by decide)
        exact hop_callK (F := (StK.eq (numV U)).F) (wanted_none rfl) hb.size rfl #[.agg (groupA k p (p / 2) 4), numV x, numV y] (args3 e37 e38 e39) (enters_of Try.func24 (by kernel_rfl) rfl) (call_eqS (z3 uw))
      · intro ua uw hb hd
        have e36 : ua.eval (.tmp 36) = numV U := hd 36 (by decide)
        have e40 : ua.eval (.tmp 40) = numV U := hd 40 (by decide)
        exact hop_runK (F := (StK.eq (.bool false)).F) (wanted_none rfl) (.bool false) (y_neA _ _ _ _ rfl e36 e40 (by kernel_rfl) (eqn_same U _)) rfl
      · intro ua uw hb hd
        have e41 : ua.eval (.tmp 41) = .bool false := hd 41 (by decide)
        exact hop_runK (F := (StK.eq (.bool false)).F) (wanted_none rfl) (.bool false) (run_mv _ (.inl rfl) e41) rfl
      · intro ua uw hb hd
        have eg : ua.eval (.tmp 42) = .bool false := hd 42 (by decide)
        have e11 : ua.eval (.tmp 11) = .pointer (some ⟨g10, 0, none⟩) := (show ua.eval (.tmp 11) = _ from hd 11 (by decide)).trans (F31.get (t := 11) rfl)
        exact hop_runK (F := (StK.eq (.agg (groupA k p (p / 2) 4))).F) (wanted_yes rfl rfl rfl eg) (.agg (groupA k p (p / 2) 4)) (y_ldN _ _ rfl e11 ((M32.step hb).blk (k := 0) rfl) (groupA k p (p / 2) 4) (y_all rfl) Try.underlying28 rfl (by kernel_rfl)) rfl
      · intro ua uw hb hd
        have eg : ua.eval (.tmp 42) = .bool false := hd 42 (by decide)
        have e12 : ua.eval (.tmp 12) = .pointer (some ⟨g19, 0, none⟩) := (show ua.eval (.tmp 12) = _ from hd 12 (by decide)).trans (F31.get (t := 12) rfl)
        exact hop_runK (F := (StK.eq (numV x)).F) (wanted_yes rfl rfl rfl eg) (numV x) (y_ldN _ _ rfl e12 ((M32.step hb).blk (k := 1) rfl) (numA x) (y_all rfl) Try.underlying26 rfl size26) rfl
      · intro ua uw hb hd
        have eg : ua.eval (.tmp 42) = .bool false := hd 42 (by decide)
        have e13 : ua.eval (.tmp 13) = .pointer (some ⟨g20, 0, none⟩) := (show ua.eval (.tmp 13) = _ from hd 13 (by decide)).trans (F31.get (t := 13) rfl)
        exact hop_runK (F := (StK.eq (numV y)).F) (wanted_yes rfl rfl rfl eg) (numV y) (y_ldN _ _ rfl e13 ((M32.step hb).blk (k := 2) rfl) (numA y) (y_all rfl) Try.underlying26 rfl size26) rfl
      · intro ua uw hb hd
        have eg : ua.eval (.tmp 42) = .bool false := hd 42 (by decide)
        have e43 : ua.eval (.tmp 43) = .agg (groupA k p (p / 2) 4) := hd 43 (by decide)
        have e44 : ua.eval (.tmp 44) = numV x := hd 44 (by decide)
        have e45 : ua.eval (.tmp 45) = numV y := hd 45 (by decide)
        exact hop_callK (F := (StK.eq (numV T)).F) (wanted_yes rfl rfl rfl eg) hb.size rfl #[.agg (groupA k p (p / 2) 4), numV x, numV y] (args3 e43 e44 e45) (enters_of Try.func25 (by kernel_rfl) rfl) (call_eqS (z4 uw))
      · intro ua uw hb hd
        have eg : ua.eval (.tmp 42) = .bool false := hd 42 (by decide)
        have e11 : ua.eval (.tmp 11) = .pointer (some ⟨g10, 0, none⟩) := (show ua.eval (.tmp 11) = _ from hd 11 (by decide)).trans (F31.get (t := 11) rfl)
        exact hop_runK (F := (StK.eq (.agg (groupA k p (p / 2) 4))).F) (wanted_yes rfl rfl rfl eg) (.agg (groupA k p (p / 2) 4)) (y_ldN _ _ rfl e11 ((M32.step hb).blk (k := 0) rfl) (groupA k p (p / 2) 4) (y_all rfl) Try.underlying28 rfl (by kernel_rfl)) rfl
      · intro ua uw hb hd
        have eg : ua.eval (.tmp 42) = .bool false := hd 42 (by decide)
        have e12 : ua.eval (.tmp 12) = .pointer (some ⟨g19, 0, none⟩) := (show ua.eval (.tmp 12) = _ from hd 12 (by decide)).trans (F31.get (t := 12) rfl)
        exact hop_runK (F := (StK.eq (numV x)).F) (wanted_yes rfl rfl rfl eg) (numV x) (y_ldN _ _ rfl e12 ((M32.step hb).blk (k := 1) rfl) (numA x) (y_all rfl) Try.underlying26 rfl size26) rfl
      · intro ua uw hb hd
        have eg : ua.eval (.tmp 42) = .bool false := hd 42 (by decide)
        have e13 : ua.eval (.tmp 13) = .pointer (some ⟨g20, 0, none⟩) := (show ua.eval (.tmp 13) = _ from hd 13 (by decide)).trans (F31.get (t := 13) rfl)
        exact hop_runK (F := (StK.eq (numV y)).F) (wanted_yes rfl rfl rfl eg) (numV y) (y_ldN _ _ rfl e13 ((M32.step hb).blk (k := 2) rfl) (numA y) (y_all rfl) Try.underlying26 rfl size26) rfl
      · intro ua uw hb hd
        have eg : ua.eval (.tmp 42) = .bool false := hd 42 (by decide)
        have e47 : ua.eval (.tmp 47) = .agg (groupA k p (p / 2) 4) := hd 47 (by decide)
        have e48 : ua.eval (.tmp 48) = numV x := hd 48 (by decide)
        have e49 : ua.eval (.tmp 49) = numV y := hd 49 (by decide)
        exact hop_callK (F := (StK.eq (numV T)).F) (wanted_yes rfl rfl rfl eg) hb.size rfl #[.agg (groupA k p (p / 2) 4), numV x, numV y] (args3 e47 e48 e49) (enters_of Try.func26 (by kernel_rfl) rfl) (call_eqS (z5 uw))
      · intro ua uw hb hd
        have eg : ua.eval (.tmp 42) = .bool false := hd 42 (by decide)
        have e46 : ua.eval (.tmp 46) = numV T := hd 46 (by decide)
        have e50 : ua.eval (.tmp 50) = numV T := hd 50 (by decide)
        exact hop_runK (F := (StK.eq (.bool false)).F) (wanted_yes rfl rfl rfl eg) (.bool false) (y_neA _ _ _ _ rfl e46 e50 (by kernel_rfl) (eqn_same T _)) rfl
      · intro ua uw hb hd
        have e42 : ua.eval (.tmp 42) = .bool false := hd 42 (by decide)
        have e51 : ua.eval (.tmp 51) = .bool false := hd 51 (by decide)
        exact hop_runK (F := (StK.eq (.bool false)).F) (wanted_none rfl) (.bool false) (run_pick_f rfl e42 e51) rfl
      · intro ua uw hb hd
        have e52 : ua.eval (.tmp 52) = .bool false := hd 52 (by decide)
        exact hop_runK (F := (StK.eq (.bool false)).F) (wanted_none rfl) (.bool false) (run_mv _ (.inl rfl) e52) rfl
      · intro ua uw hb hd
        have eg : ua.eval (.tmp 53) = .bool false := hd 53 (by decide)
        have e11 : ua.eval (.tmp 11) = .pointer (some ⟨g10, 0, none⟩) := (show ua.eval (.tmp 11) = _ from hd 11 (by decide)).trans (F31.get (t := 11) rfl)
        exact hop_runK (F := (StK.eq (.agg (groupA k p (p / 2) 4))).F) (wanted_yes rfl rfl rfl eg) (.agg (groupA k p (p / 2) 4)) (y_ldN _ _ rfl e11 ((M32.step hb).blk (k := 0) rfl) (groupA k p (p / 2) 4) (y_all rfl) Try.underlying28 rfl (by kernel_rfl)) rfl
      · intro ua uw hb hd
        have eg : ua.eval (.tmp 53) = .bool false := hd 53 (by decide)
        have e12 : ua.eval (.tmp 12) = .pointer (some ⟨g19, 0, none⟩) := (show ua.eval (.tmp 12) = _ from hd 12 (by decide)).trans (F31.get (t := 12) rfl)
        exact hop_runK (F := (StK.eq (numV x)).F) (wanted_yes rfl rfl rfl eg) (numV x) (y_ldN _ _ rfl e12 ((M32.step hb).blk (k := 1) rfl) (numA x) (y_all rfl) Try.underlying26 rfl size26) rfl
      · intro ua uw hb hd
        have eg : ua.eval (.tmp 53) = .bool false := hd 53 (by decide)
        have e54 : ua.eval (.tmp 54) = .agg (groupA k p (p / 2) 4) := hd 54 (by decide)
        have e55 : ua.eval (.tmp 55) = numV x := hd 55 (by decide)
        exact hop_callK (F := (StK.eq (.bool true)).F) (wanted_yes rfl rfl rfl eg) hb.size rfl #[.agg (groupA k p (p / 2) 4), numV x] (args2 e54 e55) (enters_of Try.func27 (by kernel_rfl) rfl) (call_eqS (z6 uw))
      · intro ua uw hb hd
        have eg : ua.eval (.tmp 53) = .bool false := hd 53 (by decide)
        have e11 : ua.eval (.tmp 11) = .pointer (some ⟨g10, 0, none⟩) := (show ua.eval (.tmp 11) = _ from hd 11 (by decide)).trans (F31.get (t := 11) rfl)
        exact hop_runK (F := (StK.eq (.agg (groupA k p (p / 2) 4))).F) (wanted_yes rfl rfl rfl eg) (.agg (groupA k p (p / 2) 4)) (y_ldN _ _ rfl e11 ((M32.step hb).blk (k := 0) rfl) (groupA k p (p / 2) 4) (y_all rfl) Try.underlying28 rfl (by kernel_rfl)) rfl
      · intro ua uw hb hd
        have eg : ua.eval (.tmp 53) = .bool false := hd 53 (by decide)
        have e12 : ua.eval (.tmp 12) = .pointer (some ⟨g19, 0, none⟩) := (show ua.eval (.tmp 12) = _ from hd 12 (by decide)).trans (F31.get (t := 12) rfl)
        exact hop_runK (F := (StK.eq (numV x)).F) (wanted_yes rfl rfl rfl eg) (numV x) (y_ldN _ _ rfl e12 ((M32.step hb).blk (k := 1) rfl) (numA x) (y_all rfl) Try.underlying26 rfl size26) rfl
      · intro ua uw hb hd
        have eg : ua.eval (.tmp 53) = .bool false := hd 53 (by decide)
        have e57 : ua.eval (.tmp 57) = .agg (groupA k p (p / 2) 4) := hd 57 (by decide)
        have e58 : ua.eval (.tmp 58) = numV x := hd 58 (by decide)
        exact hop_callK (F := (StK.eq (.bool true)).F) (wanted_yes rfl rfl rfl eg) hb.size rfl #[.agg (groupA k p (p / 2) 4), numV x] (args2 e57 e58) (enters_of Try.func28 (by kernel_rfl) rfl) (call_eqS (z7 uw))
      · intro ua uw hb hd
        have eg : ua.eval (.tmp 53) = .bool false := hd 53 (by decide)
        have e56 : ua.eval (.tmp 56) = .bool true := hd 56 (by decide)
        have e59 : ua.eval (.tmp 59) = .bool true := hd 59 (by decide)
        exact hop_runK (F := (StK.eq (.bool false)).F) (wanted_yes rfl rfl rfl eg) (.bool false) (y_neB _ _ rfl e56 e59 rfl) rfl
      · intro ua uw hb hd
        have e53 : ua.eval (.tmp 53) = .bool false := hd 53 (by decide)
        have e60 : ua.eval (.tmp 60) = .bool false := hd 60 (by decide)
        exact hop_runK (F := (StK.eq (.bool false)).F) (wanted_none rfl) (.bool false) (run_pick_f rfl e53 e60) rfl
      · intro ua uw hb hd
        have e61 : ua.eval (.tmp 61) = .bool false := hd 61 (by decide)
        exact hop_runK (F := (StK.eq (.bool false)).F) (wanted_none rfl) (.bool false) (run_mv _ (.inl rfl) e61) rfl
      · intro ua uw hb hd
        have eg : ua.eval (.tmp 62) = .bool false := hd 62 (by decide)
        have e11 : ua.eval (.tmp 11) = .pointer (some ⟨g10, 0, none⟩) := (show ua.eval (.tmp 11) = _ from hd 11 (by decide)).trans (F31.get (t := 11) rfl)
        exact hop_runK (F := (StK.eq (.agg (groupA k p (p / 2) 4))).F) (wanted_yes rfl rfl rfl eg) (.agg (groupA k p (p / 2) 4)) (y_ldN _ _ rfl e11 ((M32.step hb).blk (k := 0) rfl) (groupA k p (p / 2) 4) (y_all rfl) Try.underlying28 rfl (by kernel_rfl)) rfl
      · intro ua uw hb hd
        have eg : ua.eval (.tmp 62) = .bool false := hd 62 (by decide)
        have e14 : ua.eval (.tmp 14) = .pointer (some ⟨g31, 0, none⟩) := (show ua.eval (.tmp 14) = _ from hd 14 (by decide)).trans (F31.get (t := 14) rfl)
        exact hop_runK (F := (StK.eq (numV Z)).F) (wanted_yes rfl rfl rfl eg) (numV Z) (y_ldN _ _ rfl e14 ((M32.step hb).blk (k := 3) rfl) (numA Z) (y_all rfl) Try.underlying26 rfl size26) rfl
      · intro ua uw hb hd
        have eg : ua.eval (.tmp 62) = .bool false := hd 62 (by decide)
        have e63 : ua.eval (.tmp 63) = .agg (groupA k p (p / 2) 4) := hd 63 (by decide)
        have e64 : ua.eval (.tmp 64) = numV Z := hd 64 (by decide)
        exact hop_callK (F := (StK.eq (.bool false)).F) (wanted_yes rfl rfl rfl eg) hb.size rfl #[.agg (groupA k p (p / 2) 4), numV Z] (args2 e63 e64) (enters_of Try.func27 (by kernel_rfl) rfl) (call_eqS (z8 uw))
      · intro ua uw hb hd
        have eg : ua.eval (.tmp 62) = .bool false := hd 62 (by decide)
        have e11 : ua.eval (.tmp 11) = .pointer (some ⟨g10, 0, none⟩) := (show ua.eval (.tmp 11) = _ from hd 11 (by decide)).trans (F31.get (t := 11) rfl)
        exact hop_runK (F := (StK.eq (.agg (groupA k p (p / 2) 4))).F) (wanted_yes rfl rfl rfl eg) (.agg (groupA k p (p / 2) 4)) (y_ldN _ _ rfl e11 ((M32.step hb).blk (k := 0) rfl) (groupA k p (p / 2) 4) (y_all rfl) Try.underlying28 rfl (by kernel_rfl)) rfl
      · intro ua uw hb hd
        have eg : ua.eval (.tmp 62) = .bool false := hd 62 (by decide)
        have e14 : ua.eval (.tmp 14) = .pointer (some ⟨g31, 0, none⟩) := (show ua.eval (.tmp 14) = _ from hd 14 (by decide)).trans (F31.get (t := 14) rfl)
        exact hop_runK (F := (StK.eq (numV Z)).F) (wanted_yes rfl rfl rfl eg) (numV Z) (y_ldN _ _ rfl e14 ((M32.step hb).blk (k := 3) rfl) (numA Z) (y_all rfl) Try.underlying26 rfl size26) rfl
      · intro ua uw hb hd
        have eg : ua.eval (.tmp 62) = .bool false := hd 62 (by decide)
        have e66 : ua.eval (.tmp 66) = .agg (groupA k p (p / 2) 4) := hd 66 (by decide)
        have e67 : ua.eval (.tmp 67) = numV Z := hd 67 (by decide)
        exact hop_callK (F := (StK.eq (.bool false)).F) (wanted_yes rfl rfl rfl eg) hb.size rfl #[.agg (groupA k p (p / 2) 4), numV Z] (args2 e66 e67) (enters_of Try.func28 (by kernel_rfl) rfl) (call_eqS (z9 uw))
      · intro ua uw hb hd
        have eg : ua.eval (.tmp 62) = .bool false := hd 62 (by decide)
        have e65 : ua.eval (.tmp 65) = .bool false := hd 65 (by decide)
        have e68 : ua.eval (.tmp 68) = .bool false := hd 68 (by decide)
        exact hop_runK (F := (StK.eq (.bool false)).F) (wanted_yes rfl rfl rfl eg) (.bool false) (y_neB _ _ rfl e65 e68 rfl) rfl
      · intro ua uw hb hd
        have e62 : ua.eval (.tmp 62) = .bool false := hd 62 (by decide)
        have e69 : ua.eval (.tmp 69) = .bool false := hd 69 (by decide)
        exact hop_runK (F := (StK.eq (.bool false)).F) (wanted_none rfl) (.bool false) (run_pick_f rfl e62 e69) rfl
      intro p57 a57 w57 b57 G57 y57
      obtain ⟨-, -, -, -, -, -, -, -, -, -, -, -, -, -, -, -, -, -, -, -, -, -, -, -, -, -, -, -, -, -, -, -, -, -, -, -, -, q37, -⟩ := y57
      have r37 : p57 37 = .bool false := q37 (by decide)
      simp only [List.take_succ_cons, List.take_zero, layV, Nat.zero_add, Nat.reduceAdd, r37] at G57
      have M57 := M32.kc b57
      clear F31 M32 r37 q37
      refine hK34 _ _ ?_
      refine wp_cond_false (G57.get (t := 70) rfl) ?_
      refine wp_skip ?_
      refine hK33 _ _ ?_
      refine wp_seq_k fun K58 hK58 => ?_
      refine wp_region_lit ?_
      refine wl_run (w' := w57) (wanted_none rfl) rfl G57 rfl (.agg (groupA k p (p / 2) 4)) (y_ldN _ _ rfl (G57.get (t := 11) rfl) (M57.blk (k := 0) rfl) (groupA k p (p / 2) 4) (y_all rfl) Try.underlying28 rfl (by kernel_rfl)) fun a59 F59 => ?_
      clear G57
      refine wl_run (w' := w57) (wanted_none rfl) rfl F59 rfl (numV Z) (y_ldN _ _ rfl (F59.get (t := 14) rfl) (M57.blk (k := 3) rfl) (numA Z) (y_all rfl) Try.underlying26 rfl size26) fun a60 F60 => ?_
      clear F59
      refine wl_run (w' := w57) (wanted_none rfl) rfl F60 rfl (numV Z) (y_ldN _ _ rfl (F60.get (t := 14) rfl) (M57.blk (k := 3) rfl) (numA Z) (y_all rfl) Try.underlying26 rfl size26) fun a61 F61 => ?_
      clear F60
      refine wl_call (wanted_none rfl) rfl F61 rfl rfl (enters_of Try.func25 (by kernel_rfl) rfl) #[.agg (groupA k p (p / 2) 4), numV Z, numV Z] (args3 (F61.get (t := 71) rfl) (F61.get (t := 72) rfl) (F61.get (t := 73) rfl)) (call_ex (z10 w57)) ?_
      rintro _ w62 a62 ⟨rfl, b62⟩ F62
      have M62 := M57.step b62
      refine wl_alloc (wanted_none rfl) rfl F62 rfl M62 4 (t := 26) (c := numA 0) (y_new_num rfl) ?_
      intro g63 a63 w63 F63 M63
      clear F62 M62
      refine wl_st (wanted_none rfl) rfl F63 M63 (k := 4) rfl _ _ _ rfl (F63.get (t := 15) rfl) (F63.get (t := 74) rfl) (numA S) (numA S) rfl (Nat.le_of_ble_eq_true rfl) (numA_cells _) (y_put0 rfl) size26 ?_
      intro w64 M64
      clear M63
      refine hK58 _ _ ?_
      refine wp_seq_k fun K65 hK65 => ?_
      cases hs
      · replace z15 : c < 0 := z15.elim (fun h => by cases h) id
        refine region_fx F63 [StK.eq (.agg (groupA k p (p / 2) 4)), StK.eq (numV S), StK.eq (.bool false), StK.eq (.bool false), StK.eq (numV S), StK.eq (numV 2), StK.eq (.int .i64 c), StK.eq (.bool true), StK.eq (.bool true), StK.eq (.bool true), StK.eq (.agg (groupA k p (p / 2) 4)), StK.eq (numV Z), StK.eq (numV 2), StK.eq (numV S), StK.eq (numV S), StK.eq (.bool true), StK.eq (.bool true), StK.eq (.bool true)] 18 rfl (by kernel_rfl) ⟨?_, ?_, ?_, ?_, ?_, ?_, ?_, ?_, ?_, ?_, ?_, ?_, ?_, ?_, ?_, ?_, ?_, ?_, trivial⟩ ?_
        · intro ua uw hb hd
          have e11 : ua.eval (.tmp 11) = .pointer (some ⟨g10, 0, none⟩) := (show ua.eval (.tmp 11) = _ from hd 11 (by decide)).trans (F63.get (t := 11) rfl)
          exact hop_runK (F := (StK.eq (.agg (groupA k p (p / 2) 4))).F) (wanted_none rfl) (.agg (groupA k p (p / 2) 4)) (y_ldN _ _ rfl e11 ((M64.step hb).blk (k := 0) rfl) (groupA k p (p / 2) 4) (y_all rfl) Try.underlying28 rfl (by kernel_rfl)) rfl
        · intro ua uw hb hd
          have e15 : ua.eval (.tmp 15) = .pointer (some ⟨g63, 0, none⟩) := (show ua.eval (.tmp 15) = _ from hd 15 (by decide)).trans (F63.get (t := 15) rfl)
          exact hop_runK (F := (StK.eq (numV S)).F) (wanted_none rfl) (numV S) (y_ldN _ _ rfl e15 ((M64.step hb).blk (k := 4) rfl) (numA S) (y_all rfl) Try.underlying26 rfl size26) rfl
        · intro ua uw hb hd
          have e75 : ua.eval (.tmp 75) = .agg (groupA k p (p / 2) 4) := hd 75 (by decide)
          have e76 : ua.eval (.tmp 76) = numV S := hd 76 (by decide)
          exact hop_callK (F := (StK.eq (.bool false)).F) (wanted_none rfl) hb.size rfl #[.agg (groupA k p (p / 2) 4), numV S] (args2 e75 e76) (enters_of Try.func27 (by kernel_rfl) rfl) (call_eqS (z11 uw))
        · intro ua uw hb hd
          have e77 : ua.eval (.tmp 77) = .bool false := hd 77 (by decide)
          exact hop_runK (F := (StK.eq (.bool false)).F) (wanted_none rfl) (.bool false) (run_mv _ (.inl rfl) e77) rfl
        · intro ua uw hb hd
          have eg : ua.eval (.tmp 78) = .bool false := hd 78 (by decide)
          have e15 : ua.eval (.tmp 15) = .pointer (some ⟨g63, 0, none⟩) := (show ua.eval (.tmp 15) = _ from hd 15 (by decide)).trans (F63.get (t := 15) rfl)
          exact hop_runK (F := (StK.eq (numV S)).F) (wanted_yes rfl rfl rfl eg) (numV S) (y_ldN _ _ rfl e15 ((M64.step hb).blk (k := 4) rfl) (numA S) (y_all rfl) Try.underlying26 rfl size26) rfl
        · intro ua uw hb hd
          have eg : ua.eval (.tmp 78) = .bool false := hd 78 (by decide)
          exact hop_callK (F := (StK.eq (numV 2)).F) (wanted_yes rfl rfl rfl eg) hb.size rfl #[.int .i64 2] (args1 rfl) (enters_of Try.func22 (by kernel_rfl) rfl) (call_eqS (z12 uw))
        · intro ua uw hb hd
          have eg : ua.eval (.tmp 78) = .bool false := hd 78 (by decide)
          have e79 : ua.eval (.tmp 79) = numV S := hd 79 (by decide)
          have e80 : ua.eval (.tmp 80) = numV 2 := hd 80 (by decide)
          exact hop_callK (F := (StK.eq (.int .i64 c)).F) (wanted_yes rfl rfl rfl eg) hb.size rfl #[numV S, numV 2] (args2 e79 e80) (enters_of Try.func29 (by kernel_rfl) rfl) (call_eqS (z13 uw))
        · intro ua uw hb hd
          have eg : ua.eval (.tmp 78) = .bool false := hd 78 (by decide)
          have e81 : ua.eval (.tmp 81) = .int .i64 c := hd 81 (by decide)
          exact hop_runK (F := (StK.eq (.bool true)).F) (wanted_yes rfl rfl rfl eg) (.bool true) (y_lss _ _ _ _ rfl e81 rfl (decide_eq_true z15)) rfl
        · intro ua uw hb hd
          have e78 : ua.eval (.tmp 78) = .bool false := hd 78 (by decide)
          have e82 : ua.eval (.tmp 82) = .bool true := hd 82 (by decide)
          exact hop_runK (F := (StK.eq (.bool true)).F) (wanted_none rfl) (.bool true) (run_pick_f rfl e78 e82) rfl
        · intro ua uw hb hd
          have e83 : ua.eval (.tmp 83) = .bool true := hd 83 (by decide)
          exact hop_runK (F := (StK.eq (.bool true)).F) (wanted_none rfl) (.bool true) (run_mv _ (.inl rfl) e83) rfl
        · intro ua uw hb hd
          have eg : ua.eval (.tmp 84) = .bool true := hd 84 (by decide)
          have e11 : ua.eval (.tmp 11) = .pointer (some ⟨g10, 0, none⟩) := (show ua.eval (.tmp 11) = _ from hd 11 (by decide)).trans (F63.get (t := 11) rfl)
          exact hop_runK (F := (StK.eq (.agg (groupA k p (p / 2) 4))).F) (wanted_yes rfl rfl rfl eg) (.agg (groupA k p (p / 2) 4)) (y_ldN _ _ rfl e11 ((M64.step hb).blk (k := 0) rfl) (groupA k p (p / 2) 4) (y_all rfl) Try.underlying28 rfl (by kernel_rfl)) rfl
        · intro ua uw hb hd
          have eg : ua.eval (.tmp 84) = .bool true := hd 84 (by decide)
          have e14 : ua.eval (.tmp 14) = .pointer (some ⟨g31, 0, none⟩) := (show ua.eval (.tmp 14) = _ from hd 14 (by decide)).trans (F63.get (t := 14) rfl)
          exact hop_runK (F := (StK.eq (numV Z)).F) (wanted_yes rfl rfl rfl eg) (numV Z) (y_ldN _ _ rfl e14 ((M64.step hb).blk (k := 3) rfl) (numA Z) (y_all rfl) Try.underlying26 rfl size26) rfl
        · intro ua uw hb hd
          have eg : ua.eval (.tmp 84) = .bool true := hd 84 (by decide)
          exact hop_callK (F := (StK.eq (numV 2)).F) (wanted_yes rfl rfl rfl eg) hb.size rfl #[.int .i64 2] (args1 rfl) (enters_of Try.func22 (by kernel_rfl) rfl) (call_eqS (z12 uw))
        · intro ua uw hb hd
          have eg : ua.eval (.tmp 84) = .bool true := hd 84 (by decide)
          have e85 : ua.eval (.tmp 85) = .agg (groupA k p (p / 2) 4) := hd 85 (by decide)
          have e86 : ua.eval (.tmp 86) = numV Z := hd 86 (by decide)
          have e87 : ua.eval (.tmp 87) = numV 2 := hd 87 (by decide)
          exact hop_callK (F := (StK.eq (numV S)).F) (wanted_yes rfl rfl rfl eg) hb.size rfl #[.agg (groupA k p (p / 2) 4), numV Z, numV 2] (args3 e85 e86 e87) (enters_of Try.func23 (by kernel_rfl) rfl) (call_eqS (z14 uw))
        · intro ua uw hb hd
          have eg : ua.eval (.tmp 84) = .bool true := hd 84 (by decide)
          have e15 : ua.eval (.tmp 15) = .pointer (some ⟨g63, 0, none⟩) := (show ua.eval (.tmp 15) = _ from hd 15 (by decide)).trans (F63.get (t := 15) rfl)
          exact hop_runK (F := (StK.eq (numV S)).F) (wanted_yes rfl rfl rfl eg) (numV S) (y_ldN _ _ rfl e15 ((M64.step hb).blk (k := 4) rfl) (numA S) (y_all rfl) Try.underlying26 rfl size26) rfl
        · intro ua uw hb hd
          have eg : ua.eval (.tmp 84) = .bool true := hd 84 (by decide)
          have e88 : ua.eval (.tmp 88) = numV S := hd 88 (by decide)
          have e89 : ua.eval (.tmp 89) = numV S := hd 89 (by decide)
          exact hop_runK (F := (StK.eq (.bool true)).F) (wanted_yes rfl rfl rfl eg) (.bool true) (y_eqA _ _ _ _ rfl e88 e89 (by kernel_rfl) (eqn_same S _)) rfl
        · intro ua uw hb hd
          have e84 : ua.eval (.tmp 84) = .bool true := hd 84 (by decide)
          have e90 : ua.eval (.tmp 90) = .bool true := hd 90 (by decide)
          exact hop_runK (F := (StK.eq (.bool true)).F) (wanted_none rfl) (.bool true) (run_pick_t rfl e84 e90) rfl
        · intro ua uw hb hd
          have e91 : ua.eval (.tmp 91) = .bool true := hd 91 (by decide)
          exact hop_runK (F := (StK.eq (.bool true)).F) (wanted_none rfl) (.bool true) (run_mv _ (.inr rfl) e91) rfl
        intro p66 a66 w66 b66 G66 y66
        obtain ⟨-, -, -, -, -, -, -, -, -, -, -, -, -, -, -, -, -, q17, -⟩ := y66
        have r17 : p66 17 = .bool true := q17 (by decide)
        simp only [List.take_succ_cons, List.take_zero, layV, Nat.zero_add, Nat.reduceAdd, r17] at G66
        have M66 := M64.kc b66
        clear F63 M64 r17 q17
        refine hK65 _ _ ?_
        refine wp_ret ?_
        try simp only [Exit.then, Exit.inBlock]
        exact bodyPost_ret (res1 rfl (G66.get (t := 10) rfl)) G66.defers ⟨rfl, M66.below⟩
      · refine region_fx F63 [StK.eq (.agg (groupA k p (p / 2) 4)), StK.eq (numV S), StK.eq (.bool true), StK.eq (.bool true), StK.eq undef, StK.eq undef, StK.eq undef, StK.eq undef, StK.eq (.bool true), StK.eq (.bool true), StK.eq (.agg (groupA k p (p / 2) 4)), StK.eq (numV Z), StK.eq (numV 2), StK.eq (numV S), StK.eq (numV S), StK.eq (.bool true), StK.eq (.bool true), StK.eq (.bool true)] 18 rfl (by kernel_rfl) ⟨?_, ?_, ?_, ?_, ?_, ?_, ?_, ?_, ?_, ?_, ?_, ?_, ?_, ?_, ?_, ?_, ?_, ?_, trivial⟩ ?_
        · intro ua uw hb hd
          have e11 : ua.eval (.tmp 11) = .pointer (some ⟨g10, 0, none⟩) := (show ua.eval (.tmp 11) = _ from hd 11 (by decide)).trans (F63.get (t := 11) rfl)
          exact hop_runK (F := (StK.eq (.agg (groupA k p (p / 2) 4))).F) (wanted_none rfl) (.agg (groupA k p (p / 2) 4)) (y_ldN _ _ rfl e11 ((M64.step hb).blk (k := 0) rfl) (groupA k p (p / 2) 4) (y_all rfl) Try.underlying28 rfl (by kernel_rfl)) rfl
        · intro ua uw hb hd
          have e15 : ua.eval (.tmp 15) = .pointer (some ⟨g63, 0, none⟩) := (show ua.eval (.tmp 15) = _ from hd 15 (by decide)).trans (F63.get (t := 15) rfl)
          exact hop_runK (F := (StK.eq (numV S)).F) (wanted_none rfl) (numV S) (y_ldN _ _ rfl e15 ((M64.step hb).blk (k := 4) rfl) (numA S) (y_all rfl) Try.underlying26 rfl size26) rfl
        · intro ua uw hb hd
          have e75 : ua.eval (.tmp 75) = .agg (groupA k p (p / 2) 4) := hd 75 (by decide)
          have e76 : ua.eval (.tmp 76) = numV S := hd 76 (by decide)
          exact hop_callK (F := (StK.eq (.bool true)).F) (wanted_none rfl) hb.size rfl #[.agg (groupA k p (p / 2) 4), numV S] (args2 e75 e76) (enters_of Try.func27 (by kernel_rfl) rfl) (call_eqS (z11 uw))
        · intro ua uw hb hd
          have e77 : ua.eval (.tmp 77) = .bool true := hd 77 (by decide)
          exact hop_runK (F := (StK.eq (.bool true)).F) (wanted_none rfl) (.bool true) (run_mv _ (.inl rfl) e77) rfl
        · intro ua uw hb hd
          have eg : ua.eval (.tmp 78) = .bool true := hd 78 (by decide)
          exact hop_skipK (F := (StK.eq (undef)).F) rfl rfl rfl eg rfl
        · intro ua uw hb hd
          have eg : ua.eval (.tmp 78) = .bool true := hd 78 (by decide)
          exact hop_skipK (F := (StK.eq (undef)).F) rfl rfl rfl eg rfl
        · intro ua uw hb hd
          have eg : ua.eval (.tmp 78) = .bool true := hd 78 (by decide)
          exact hop_skipK (F := (StK.eq (undef)).F) rfl rfl rfl eg rfl
        · intro ua uw hb hd
          have eg : ua.eval (.tmp 78) = .bool true := hd 78 (by decide)
          exact hop_skipK (F := (StK.eq (undef)).F) rfl rfl rfl eg rfl
        · intro ua uw hb hd
          have e78 : ua.eval (.tmp 78) = .bool true := hd 78 (by decide)
          have e82 : ua.eval (.tmp 82) = undef := hd 82 (by decide)
          exact hop_runK (F := (StK.eq (.bool true)).F) (wanted_none rfl) (.bool true) (run_pick_t rfl e78 rfl) rfl
        · intro ua uw hb hd
          have e83 : ua.eval (.tmp 83) = .bool true := hd 83 (by decide)
          exact hop_runK (F := (StK.eq (.bool true)).F) (wanted_none rfl) (.bool true) (run_mv _ (.inl rfl) e83) rfl
        · intro ua uw hb hd
          have eg : ua.eval (.tmp 84) = .bool true := hd 84 (by decide)
          have e11 : ua.eval (.tmp 11) = .pointer (some ⟨g10, 0, none⟩) := (show ua.eval (.tmp 11) = _ from hd 11 (by decide)).trans (F63.get (t := 11) rfl)
          exact hop_runK (F := (StK.eq (.agg (groupA k p (p / 2) 4))).F) (wanted_yes rfl rfl rfl eg) (.agg (groupA k p (p / 2) 4)) (y_ldN _ _ rfl e11 ((M64.step hb).blk (k := 0) rfl) (groupA k p (p / 2) 4) (y_all rfl) Try.underlying28 rfl (by kernel_rfl)) rfl
        · intro ua uw hb hd
          have eg : ua.eval (.tmp 84) = .bool true := hd 84 (by decide)
          have e14 : ua.eval (.tmp 14) = .pointer (some ⟨g31, 0, none⟩) := (show ua.eval (.tmp 14) = _ from hd 14 (by decide)).trans (F63.get (t := 14) rfl)
          exact hop_runK (F := (StK.eq (numV Z)).F) (wanted_yes rfl rfl rfl eg) (numV Z) (y_ldN _ _ rfl e14 ((M64.step hb).blk (k := 3) rfl) (numA Z) (y_all rfl) Try.underlying26 rfl size26) rfl
        · intro ua uw hb hd
          have eg : ua.eval (.tmp 84) = .bool true := hd 84 (by decide)
          exact hop_callK (F := (StK.eq (numV 2)).F) (wanted_yes rfl rfl rfl eg) hb.size rfl #[.int .i64 2] (args1 rfl) (enters_of Try.func22 (by kernel_rfl) rfl) (call_eqS (z12 uw))
        · intro ua uw hb hd
          have eg : ua.eval (.tmp 84) = .bool true := hd 84 (by decide)
          have e85 : ua.eval (.tmp 85) = .agg (groupA k p (p / 2) 4) := hd 85 (by decide)
          have e86 : ua.eval (.tmp 86) = numV Z := hd 86 (by decide)
          have e87 : ua.eval (.tmp 87) = numV 2 := hd 87 (by decide)
          exact hop_callK (F := (StK.eq (numV S)).F) (wanted_yes rfl rfl rfl eg) hb.size rfl #[.agg (groupA k p (p / 2) 4), numV Z, numV 2] (args3 e85 e86 e87) (enters_of Try.func23 (by kernel_rfl) rfl) (call_eqS (z14 uw))
        · intro ua uw hb hd
          have eg : ua.eval (.tmp 84) = .bool true := hd 84 (by decide)
          have e15 : ua.eval (.tmp 15) = .pointer (some ⟨g63, 0, none⟩) := (show ua.eval (.tmp 15) = _ from hd 15 (by decide)).trans (F63.get (t := 15) rfl)
          exact hop_runK (F := (StK.eq (numV S)).F) (wanted_yes rfl rfl rfl eg) (numV S) (y_ldN _ _ rfl e15 ((M64.step hb).blk (k := 4) rfl) (numA S) (y_all rfl) Try.underlying26 rfl size26) rfl
        · intro ua uw hb hd
          have eg : ua.eval (.tmp 84) = .bool true := hd 84 (by decide)
          have e88 : ua.eval (.tmp 88) = numV S := hd 88 (by decide)
          have e89 : ua.eval (.tmp 89) = numV S := hd 89 (by decide)
          exact hop_runK (F := (StK.eq (.bool true)).F) (wanted_yes rfl rfl rfl eg) (.bool true) (y_eqA _ _ _ _ rfl e88 e89 (by kernel_rfl) (eqn_same S _)) rfl
        · intro ua uw hb hd
          have e84 : ua.eval (.tmp 84) = .bool true := hd 84 (by decide)
          have e90 : ua.eval (.tmp 90) = .bool true := hd 90 (by decide)
          exact hop_runK (F := (StK.eq (.bool true)).F) (wanted_none rfl) (.bool true) (run_pick_t rfl e84 e90) rfl
        · intro ua uw hb hd
          have e91 : ua.eval (.tmp 91) = .bool true := hd 91 (by decide)
          exact hop_runK (F := (StK.eq (.bool true)).F) (wanted_none rfl) (.bool true) (run_mv _ (.inr rfl) e91) rfl
        intro p67 a67 w67 b67 G67 y67
        obtain ⟨-, -, -, -, -, -, -, -, -, -, -, -, -, -, -, -, -, q17, -⟩ := y67
        have r17 : p67 17 = .bool true := q17 (by decide)
        simp only [List.take_succ_cons, List.take_zero, layV, Nat.zero_add, Nat.reduceAdd, r17] at G67
        have M67 := M64.kc b67
        clear F63 M64 r17 q17
        refine hK65 _ _ ?_
        refine wp_ret ?_
        try simp only [Exit.then, Exit.inBlock]
        exact bodyPost_ret (res1 rfl (G67.get (t := 10) rfl)) G67.defers ⟨rfl, M67.below⟩
    · refine region_fx F31 [StK.eq (.agg (groupA k p (p / 2) 4)), StK.eq (numV x), StK.eq (numV y), StK.eq (numV U), StK.eq (.agg (groupA k p (p / 2) 4)), StK.eq (numV x), StK.eq (numV y), StK.eq (numV U), StK.eq (.bool false), StK.eq (.bool false), StK.eq (.agg (groupA k p (p / 2) 4)), StK.eq (numV x), StK.eq (numV y), StK.eq (numV T), StK.eq (.agg (groupA k p (p / 2) 4)), StK.eq (numV x), StK.eq (numV y), StK.eq (numV T), StK.eq (.bool false), StK.eq (.bool false), StK.eq (.bool false), StK.eq (.agg (groupA k p (p / 2) 4)), StK.eq (numV x), StK.eq (.bool true), StK.eq (.agg (groupA k p (p / 2) 4)), StK.eq (numV x), StK.eq (.bool true), StK.eq (.bool false), StK.eq (.bool false), StK.eq (.bool false), StK.eq (.agg (groupA k p (p / 2) 4)), StK.eq (numV Z), StK.eq (.bool true), StK.eq (.agg (groupA k p (p / 2) 4)), StK.eq (numV Z), StK.eq (.bool true), StK.eq (.bool false), StK.eq (.bool false)] 38 rfl (by kernel_rfl) ⟨?_, ?_, ?_, ?_, ?_, ?_, ?_, ?_, ?_, ?_, ?_, ?_, ?_, ?_, ?_, ?_, ?_, ?_, ?_, ?_, ?_, ?_, ?_, ?_, ?_, ?_, ?_, ?_, ?_, ?_, ?_, ?_, ?_, ?_, ?_, ?_, ?_, ?_, trivial⟩ ?_
      · intro ua uw hb hd
        have e11 : ua.eval (.tmp 11) = .pointer (some ⟨g10, 0, none⟩) := (show ua.eval (.tmp 11) = _ from hd 11 (by decide)).trans (F31.get (t := 11) rfl)
        exact hop_runK (F := (StK.eq (.agg (groupA k p (p / 2) 4))).F) (wanted_none rfl) (.agg (groupA k p (p / 2) 4)) (y_ldN _ _ rfl e11 ((M32.step hb).blk (k := 0) rfl) (groupA k p (p / 2) 4) (y_all rfl) Try.underlying28 rfl (by kernel_rfl)) rfl
      · intro ua uw hb hd
        have e12 : ua.eval (.tmp 12) = .pointer (some ⟨g19, 0, none⟩) := (show ua.eval (.tmp 12) = _ from hd 12 (by decide)).trans (F31.get (t := 12) rfl)
        exact hop_runK (F := (StK.eq (numV x)).F) (wanted_none rfl) (numV x) (y_ldN _ _ rfl e12 ((M32.step hb).blk (k := 1) rfl) (numA x) (y_all rfl) Try.underlying26 rfl size26) rfl
      · intro ua uw hb hd
        have e13 : ua.eval (.tmp 13) = .pointer (some ⟨g20, 0, none⟩) := (show ua.eval (.tmp 13) = _ from hd 13 (by decide)).trans (F31.get (t := 13) rfl)
        exact hop_runK (F := (StK.eq (numV y)).F) (wanted_none rfl) (numV y) (y_ldN _ _ rfl e13 ((M32.step hb).blk (k := 2) rfl) (numA y) (y_all rfl) Try.underlying26 rfl size26) rfl
      · intro ua uw hb hd
        have e33 : ua.eval (.tmp 33) = .agg (groupA k p (p / 2) 4) := hd 33 (by decide)
        have e34 : ua.eval (.tmp 34) = numV x := hd 34 (by decide)
        have e35 : ua.eval (.tmp 35) = numV y := hd 35 (by decide)
        exact hop_callK (F := (StK.eq (numV U)).F) (wanted_none rfl) hb.size rfl #[.agg (groupA k p (p / 2) 4), numV x, numV y] (args3 e33 e34 e35) (enters_of Try.func23 (by kernel_rfl) rfl) (call_eqS (z2 uw))
      · intro ua uw hb hd
        have e11 : ua.eval (.tmp 11) = .pointer (some ⟨g10, 0, none⟩) := (show ua.eval (.tmp 11) = _ from hd 11 (by decide)).trans (F31.get (t := 11) rfl)
        exact hop_runK (F := (StK.eq (.agg (groupA k p (p / 2) 4))).F) (wanted_none rfl) (.agg (groupA k p (p / 2) 4)) (y_ldN _ _ rfl e11 ((M32.step hb).blk (k := 0) rfl) (groupA k p (p / 2) 4) (y_all rfl) Try.underlying28 rfl (by kernel_rfl)) rfl
      · intro ua uw hb hd
        have e12 : ua.eval (.tmp 12) = .pointer (some ⟨g19, 0, none⟩) := (show ua.eval (.tmp 12) = _ from hd 12 (by decide)).trans (F31.get (t := 12) rfl)
        exact hop_runK (F := (StK.eq (numV x)).F) (wanted_none rfl) (numV x) (y_ldN _ _ rfl e12 ((M32.step hb).blk (k := 1) rfl) (numA x) (y_all rfl) Try.underlying26 rfl size26) rfl
      · intro ua uw hb hd
        have e13 : ua.eval (.tmp 13) = .pointer (some ⟨g20, 0, none⟩) := (show ua.eval (.tmp 13) = _ from hd 13 (by decide)).trans (F31.get (t := 13) rfl)
        exact hop_runK (F := (StK.eq (numV y)).F) (wanted_none rfl) (numV y) (y_ldN _ _ rfl e13 ((M32.step hb).blk (k := 2) rfl) (numA y) (y_all rfl) Try.underlying26 rfl size26) rfl
      · intro ua uw hb hd
        have e37 : ua.eval (.tmp 37) = .agg (groupA k p (p / 2) 4) := hd 37 (by decide)
        have e38 : ua.eval (.tmp 38) = numV x := hd 38 (by decide)
        have e39 : ua.eval (.tmp 39) = numV y := hd 39 (by decide)
        exact hop_callK (F := (StK.eq (numV U)).F) (wanted_none rfl) hb.size rfl #[.agg (groupA k p (p / 2) 4), numV x, numV y] (args3 e37 e38 e39) (enters_of Try.func24 (by kernel_rfl) rfl) (call_eqS (z3 uw))
      · intro ua uw hb hd
        have e36 : ua.eval (.tmp 36) = numV U := hd 36 (by decide)
        have e40 : ua.eval (.tmp 40) = numV U := hd 40 (by decide)
        exact hop_runK (F := (StK.eq (.bool false)).F) (wanted_none rfl) (.bool false) (y_neA _ _ _ _ rfl e36 e40 (by kernel_rfl) (eqn_same U _)) rfl
      · intro ua uw hb hd
        have e41 : ua.eval (.tmp 41) = .bool false := hd 41 (by decide)
        exact hop_runK (F := (StK.eq (.bool false)).F) (wanted_none rfl) (.bool false) (run_mv _ (.inl rfl) e41) rfl
      · intro ua uw hb hd
        have eg : ua.eval (.tmp 42) = .bool false := hd 42 (by decide)
        have e11 : ua.eval (.tmp 11) = .pointer (some ⟨g10, 0, none⟩) := (show ua.eval (.tmp 11) = _ from hd 11 (by decide)).trans (F31.get (t := 11) rfl)
        exact hop_runK (F := (StK.eq (.agg (groupA k p (p / 2) 4))).F) (wanted_yes rfl rfl rfl eg) (.agg (groupA k p (p / 2) 4)) (y_ldN _ _ rfl e11 ((M32.step hb).blk (k := 0) rfl) (groupA k p (p / 2) 4) (y_all rfl) Try.underlying28 rfl (by kernel_rfl)) rfl
      · intro ua uw hb hd
        have eg : ua.eval (.tmp 42) = .bool false := hd 42 (by decide)
        have e12 : ua.eval (.tmp 12) = .pointer (some ⟨g19, 0, none⟩) := (show ua.eval (.tmp 12) = _ from hd 12 (by decide)).trans (F31.get (t := 12) rfl)
        exact hop_runK (F := (StK.eq (numV x)).F) (wanted_yes rfl rfl rfl eg) (numV x) (y_ldN _ _ rfl e12 ((M32.step hb).blk (k := 1) rfl) (numA x) (y_all rfl) Try.underlying26 rfl size26) rfl
      · intro ua uw hb hd
        have eg : ua.eval (.tmp 42) = .bool false := hd 42 (by decide)
        have e13 : ua.eval (.tmp 13) = .pointer (some ⟨g20, 0, none⟩) := (show ua.eval (.tmp 13) = _ from hd 13 (by decide)).trans (F31.get (t := 13) rfl)
        exact hop_runK (F := (StK.eq (numV y)).F) (wanted_yes rfl rfl rfl eg) (numV y) (y_ldN _ _ rfl e13 ((M32.step hb).blk (k := 2) rfl) (numA y) (y_all rfl) Try.underlying26 rfl size26) rfl
      · intro ua uw hb hd
        have eg : ua.eval (.tmp 42) = .bool false := hd 42 (by decide)
        have e43 : ua.eval (.tmp 43) = .agg (groupA k p (p / 2) 4) := hd 43 (by decide)
        have e44 : ua.eval (.tmp 44) = numV x := hd 44 (by decide)
        have e45 : ua.eval (.tmp 45) = numV y := hd 45 (by decide)
        exact hop_callK (F := (StK.eq (numV T)).F) (wanted_yes rfl rfl rfl eg) hb.size rfl #[.agg (groupA k p (p / 2) 4), numV x, numV y] (args3 e43 e44 e45) (enters_of Try.func25 (by kernel_rfl) rfl) (call_eqS (z4 uw))
      · intro ua uw hb hd
        have eg : ua.eval (.tmp 42) = .bool false := hd 42 (by decide)
        have e11 : ua.eval (.tmp 11) = .pointer (some ⟨g10, 0, none⟩) := (show ua.eval (.tmp 11) = _ from hd 11 (by decide)).trans (F31.get (t := 11) rfl)
        exact hop_runK (F := (StK.eq (.agg (groupA k p (p / 2) 4))).F) (wanted_yes rfl rfl rfl eg) (.agg (groupA k p (p / 2) 4)) (y_ldN _ _ rfl e11 ((M32.step hb).blk (k := 0) rfl) (groupA k p (p / 2) 4) (y_all rfl) Try.underlying28 rfl (by kernel_rfl)) rfl
      · intro ua uw hb hd
        have eg : ua.eval (.tmp 42) = .bool false := hd 42 (by decide)
        have e12 : ua.eval (.tmp 12) = .pointer (some ⟨g19, 0, none⟩) := (show ua.eval (.tmp 12) = _ from hd 12 (by decide)).trans (F31.get (t := 12) rfl)
        exact hop_runK (F := (StK.eq (numV x)).F) (wanted_yes rfl rfl rfl eg) (numV x) (y_ldN _ _ rfl e12 ((M32.step hb).blk (k := 1) rfl) (numA x) (y_all rfl) Try.underlying26 rfl size26) rfl
      · intro ua uw hb hd
        have eg : ua.eval (.tmp 42) = .bool false := hd 42 (by decide)
        have e13 : ua.eval (.tmp 13) = .pointer (some ⟨g20, 0, none⟩) := (show ua.eval (.tmp 13) = _ from hd 13 (by decide)).trans (F31.get (t := 13) rfl)
        exact hop_runK (F := (StK.eq (numV y)).F) (wanted_yes rfl rfl rfl eg) (numV y) (y_ldN _ _ rfl e13 ((M32.step hb).blk (k := 2) rfl) (numA y) (y_all rfl) Try.underlying26 rfl size26) rfl
      · intro ua uw hb hd
        have eg : ua.eval (.tmp 42) = .bool false := hd 42 (by decide)
        have e47 : ua.eval (.tmp 47) = .agg (groupA k p (p / 2) 4) := hd 47 (by decide)
        have e48 : ua.eval (.tmp 48) = numV x := hd 48 (by decide)
        have e49 : ua.eval (.tmp 49) = numV y := hd 49 (by decide)
        exact hop_callK (F := (StK.eq (numV T)).F) (wanted_yes rfl rfl rfl eg) hb.size rfl #[.agg (groupA k p (p / 2) 4), numV x, numV y] (args3 e47 e48 e49) (enters_of Try.func26 (by kernel_rfl) rfl) (call_eqS (z5 uw))
      · intro ua uw hb hd
        have eg : ua.eval (.tmp 42) = .bool false := hd 42 (by decide)
        have e46 : ua.eval (.tmp 46) = numV T := hd 46 (by decide)
        have e50 : ua.eval (.tmp 50) = numV T := hd 50 (by decide)
        exact hop_runK (F := (StK.eq (.bool false)).F) (wanted_yes rfl rfl rfl eg) (.bool false) (y_neA _ _ _ _ rfl e46 e50 (by kernel_rfl) (eqn_same T _)) rfl
      · intro ua uw hb hd
        have e42 : ua.eval (.tmp 42) = .bool false := hd 42 (by decide)
        have e51 : ua.eval (.tmp 51) = .bool false := hd 51 (by decide)
        exact hop_runK (F := (StK.eq (.bool false)).F) (wanted_none rfl) (.bool false) (run_pick_f rfl e42 e51) rfl
      · intro ua uw hb hd
        have e52 : ua.eval (.tmp 52) = .bool false := hd 52 (by decide)
        exact hop_runK (F := (StK.eq (.bool false)).F) (wanted_none rfl) (.bool false) (run_mv _ (.inl rfl) e52) rfl
      · intro ua uw hb hd
        have eg : ua.eval (.tmp 53) = .bool false := hd 53 (by decide)
        have e11 : ua.eval (.tmp 11) = .pointer (some ⟨g10, 0, none⟩) := (show ua.eval (.tmp 11) = _ from hd 11 (by decide)).trans (F31.get (t := 11) rfl)
        exact hop_runK (F := (StK.eq (.agg (groupA k p (p / 2) 4))).F) (wanted_yes rfl rfl rfl eg) (.agg (groupA k p (p / 2) 4)) (y_ldN _ _ rfl e11 ((M32.step hb).blk (k := 0) rfl) (groupA k p (p / 2) 4) (y_all rfl) Try.underlying28 rfl (by kernel_rfl)) rfl
      · intro ua uw hb hd
        have eg : ua.eval (.tmp 53) = .bool false := hd 53 (by decide)
        have e12 : ua.eval (.tmp 12) = .pointer (some ⟨g19, 0, none⟩) := (show ua.eval (.tmp 12) = _ from hd 12 (by decide)).trans (F31.get (t := 12) rfl)
        exact hop_runK (F := (StK.eq (numV x)).F) (wanted_yes rfl rfl rfl eg) (numV x) (y_ldN _ _ rfl e12 ((M32.step hb).blk (k := 1) rfl) (numA x) (y_all rfl) Try.underlying26 rfl size26) rfl
      · intro ua uw hb hd
        have eg : ua.eval (.tmp 53) = .bool false := hd 53 (by decide)
        have e54 : ua.eval (.tmp 54) = .agg (groupA k p (p / 2) 4) := hd 54 (by decide)
        have e55 : ua.eval (.tmp 55) = numV x := hd 55 (by decide)
        exact hop_callK (F := (StK.eq (.bool true)).F) (wanted_yes rfl rfl rfl eg) hb.size rfl #[.agg (groupA k p (p / 2) 4), numV x] (args2 e54 e55) (enters_of Try.func27 (by kernel_rfl) rfl) (call_eqS (z6 uw))
      · intro ua uw hb hd
        have eg : ua.eval (.tmp 53) = .bool false := hd 53 (by decide)
        have e11 : ua.eval (.tmp 11) = .pointer (some ⟨g10, 0, none⟩) := (show ua.eval (.tmp 11) = _ from hd 11 (by decide)).trans (F31.get (t := 11) rfl)
        exact hop_runK (F := (StK.eq (.agg (groupA k p (p / 2) 4))).F) (wanted_yes rfl rfl rfl eg) (.agg (groupA k p (p / 2) 4)) (y_ldN _ _ rfl e11 ((M32.step hb).blk (k := 0) rfl) (groupA k p (p / 2) 4) (y_all rfl) Try.underlying28 rfl (by kernel_rfl)) rfl
      · intro ua uw hb hd
        have eg : ua.eval (.tmp 53) = .bool false := hd 53 (by decide)
        have e12 : ua.eval (.tmp 12) = .pointer (some ⟨g19, 0, none⟩) := (show ua.eval (.tmp 12) = _ from hd 12 (by decide)).trans (F31.get (t := 12) rfl)
        exact hop_runK (F := (StK.eq (numV x)).F) (wanted_yes rfl rfl rfl eg) (numV x) (y_ldN _ _ rfl e12 ((M32.step hb).blk (k := 1) rfl) (numA x) (y_all rfl) Try.underlying26 rfl size26) rfl
      · intro ua uw hb hd
        have eg : ua.eval (.tmp 53) = .bool false := hd 53 (by decide)
        have e57 : ua.eval (.tmp 57) = .agg (groupA k p (p / 2) 4) := hd 57 (by decide)
        have e58 : ua.eval (.tmp 58) = numV x := hd 58 (by decide)
        exact hop_callK (F := (StK.eq (.bool true)).F) (wanted_yes rfl rfl rfl eg) hb.size rfl #[.agg (groupA k p (p / 2) 4), numV x] (args2 e57 e58) (enters_of Try.func28 (by kernel_rfl) rfl) (call_eqS (z7 uw))
      · intro ua uw hb hd
        have eg : ua.eval (.tmp 53) = .bool false := hd 53 (by decide)
        have e56 : ua.eval (.tmp 56) = .bool true := hd 56 (by decide)
        have e59 : ua.eval (.tmp 59) = .bool true := hd 59 (by decide)
        exact hop_runK (F := (StK.eq (.bool false)).F) (wanted_yes rfl rfl rfl eg) (.bool false) (y_neB _ _ rfl e56 e59 rfl) rfl
      · intro ua uw hb hd
        have e53 : ua.eval (.tmp 53) = .bool false := hd 53 (by decide)
        have e60 : ua.eval (.tmp 60) = .bool false := hd 60 (by decide)
        exact hop_runK (F := (StK.eq (.bool false)).F) (wanted_none rfl) (.bool false) (run_pick_f rfl e53 e60) rfl
      · intro ua uw hb hd
        have e61 : ua.eval (.tmp 61) = .bool false := hd 61 (by decide)
        exact hop_runK (F := (StK.eq (.bool false)).F) (wanted_none rfl) (.bool false) (run_mv _ (.inl rfl) e61) rfl
      · intro ua uw hb hd
        have eg : ua.eval (.tmp 62) = .bool false := hd 62 (by decide)
        have e11 : ua.eval (.tmp 11) = .pointer (some ⟨g10, 0, none⟩) := (show ua.eval (.tmp 11) = _ from hd 11 (by decide)).trans (F31.get (t := 11) rfl)
        exact hop_runK (F := (StK.eq (.agg (groupA k p (p / 2) 4))).F) (wanted_yes rfl rfl rfl eg) (.agg (groupA k p (p / 2) 4)) (y_ldN _ _ rfl e11 ((M32.step hb).blk (k := 0) rfl) (groupA k p (p / 2) 4) (y_all rfl) Try.underlying28 rfl (by kernel_rfl)) rfl
      · intro ua uw hb hd
        have eg : ua.eval (.tmp 62) = .bool false := hd 62 (by decide)
        have e14 : ua.eval (.tmp 14) = .pointer (some ⟨g31, 0, none⟩) := (show ua.eval (.tmp 14) = _ from hd 14 (by decide)).trans (F31.get (t := 14) rfl)
        exact hop_runK (F := (StK.eq (numV Z)).F) (wanted_yes rfl rfl rfl eg) (numV Z) (y_ldN _ _ rfl e14 ((M32.step hb).blk (k := 3) rfl) (numA Z) (y_all rfl) Try.underlying26 rfl size26) rfl
      · intro ua uw hb hd
        have eg : ua.eval (.tmp 62) = .bool false := hd 62 (by decide)
        have e63 : ua.eval (.tmp 63) = .agg (groupA k p (p / 2) 4) := hd 63 (by decide)
        have e64 : ua.eval (.tmp 64) = numV Z := hd 64 (by decide)
        exact hop_callK (F := (StK.eq (.bool true)).F) (wanted_yes rfl rfl rfl eg) hb.size rfl #[.agg (groupA k p (p / 2) 4), numV Z] (args2 e63 e64) (enters_of Try.func27 (by kernel_rfl) rfl) (call_eqS (z8 uw))
      · intro ua uw hb hd
        have eg : ua.eval (.tmp 62) = .bool false := hd 62 (by decide)
        have e11 : ua.eval (.tmp 11) = .pointer (some ⟨g10, 0, none⟩) := (show ua.eval (.tmp 11) = _ from hd 11 (by decide)).trans (F31.get (t := 11) rfl)
        exact hop_runK (F := (StK.eq (.agg (groupA k p (p / 2) 4))).F) (wanted_yes rfl rfl rfl eg) (.agg (groupA k p (p / 2) 4)) (y_ldN _ _ rfl e11 ((M32.step hb).blk (k := 0) rfl) (groupA k p (p / 2) 4) (y_all rfl) Try.underlying28 rfl (by kernel_rfl)) rfl
      · intro ua uw hb hd
        have eg : ua.eval (.tmp 62) = .bool false := hd 62 (by decide)
        have e14 : ua.eval (.tmp 14) = .pointer (some ⟨g31, 0, none⟩) := (show ua.eval (.tmp 14) = _ from hd 14 (by decide)).trans (F31.get (t := 14) rfl)
        exact hop_runK (F := (StK.eq (numV Z)).F) (wanted_yes rfl rfl rfl eg) (numV Z) (y_ldN _ _ rfl e14 ((M32.step hb).blk (k := 3) rfl) (numA Z) (y_all rfl) Try.underlying26 rfl size26) rfl
      · intro ua uw hb hd
        have eg : ua.eval (.tmp 62) = .bool false := hd 62 (by decide)
        have e66 : ua.eval (.tmp 66) = .agg (groupA k p (p / 2) 4) := hd 66 (by decide)
        have e67 : ua.eval (.tmp 67) = numV Z := hd 67 (by decide)
        exact hop_callK (F := (StK.eq (.bool true)).F) (wanted_yes rfl rfl rfl eg) hb.size rfl #[.agg (groupA k p (p / 2) 4), numV Z] (args2 e66 e67) (enters_of Try.func28 (by kernel_rfl) rfl) (call_eqS (z9 uw))
      · intro ua uw hb hd
        have eg : ua.eval (.tmp 62) = .bool false := hd 62 (by decide)
        have e65 : ua.eval (.tmp 65) = .bool true := hd 65 (by decide)
        have e68 : ua.eval (.tmp 68) = .bool true := hd 68 (by decide)
        exact hop_runK (F := (StK.eq (.bool false)).F) (wanted_yes rfl rfl rfl eg) (.bool false) (y_neB _ _ rfl e65 e68 rfl) rfl
      · intro ua uw hb hd
        have e62 : ua.eval (.tmp 62) = .bool false := hd 62 (by decide)
        have e69 : ua.eval (.tmp 69) = .bool false := hd 69 (by decide)
        exact hop_runK (F := (StK.eq (.bool false)).F) (wanted_none rfl) (.bool false) (run_pick_f rfl e62 e69) rfl
      intro p68 a68 w68 b68 G68 y68
      obtain ⟨-, -, -, -, -, -, -, -, -, -, -, -, -, -, -, -, -, -, -, -, -, -, -, -, -, -, -, -, -, -, -, -, -, -, -, -, -, q37, -⟩ := y68
      have r37 : p68 37 = .bool false := q37 (by decide)
      simp only [List.take_succ_cons, List.take_zero, layV, Nat.zero_add, Nat.reduceAdd, r37] at G68
      have M68 := M32.kc b68
      clear F31 M32 r37 q37
      refine hK34 _ _ ?_
      refine wp_cond_false (G68.get (t := 70) rfl) ?_
      refine wp_skip ?_
      refine hK33 _ _ ?_
      refine wp_seq_k fun K69 hK69 => ?_
      refine wp_region_lit ?_
      refine wl_run (w' := w68) (wanted_none rfl) rfl G68 rfl (.agg (groupA k p (p / 2) 4)) (y_ldN _ _ rfl (G68.get (t := 11) rfl) (M68.blk (k := 0) rfl) (groupA k p (p / 2) 4) (y_all rfl) Try.underlying28 rfl (by kernel_rfl)) fun a70 F70 => ?_
      clear G68
      refine wl_run (w' := w68) (wanted_none rfl) rfl F70 rfl (numV Z) (y_ldN _ _ rfl (F70.get (t := 14) rfl) (M68.blk (k := 3) rfl) (numA Z) (y_all rfl) Try.underlying26 rfl size26) fun a71 F71 => ?_
      clear F70
      refine wl_run (w' := w68) (wanted_none rfl) rfl F71 rfl (numV Z) (y_ldN _ _ rfl (F71.get (t := 14) rfl) (M68.blk (k := 3) rfl) (numA Z) (y_all rfl) Try.underlying26 rfl size26) fun a72 F72 => ?_
      clear F71
      refine wl_call (wanted_none rfl) rfl F72 rfl rfl (enters_of Try.func25 (by kernel_rfl) rfl) #[.agg (groupA k p (p / 2) 4), numV Z, numV Z] (args3 (F72.get (t := 71) rfl) (F72.get (t := 72) rfl) (F72.get (t := 73) rfl)) (call_ex (z10 w68)) ?_
      rintro _ w73 a73 ⟨rfl, b73⟩ F73
      have M73 := M68.step b73
      refine wl_alloc (wanted_none rfl) rfl F73 rfl M73 4 (t := 26) (c := numA 0) (y_new_num rfl) ?_
      intro g74 a74 w74 F74 M74
      clear F73 M73
      refine wl_st (wanted_none rfl) rfl F74 M74 (k := 4) rfl _ _ _ rfl (F74.get (t := 15) rfl) (F74.get (t := 74) rfl) (numA S) (numA S) rfl (Nat.le_of_ble_eq_true rfl) (numA_cells _) (y_put0 rfl) size26 ?_
      intro w75 M75
      clear M74
      refine hK69 _ _ ?_
      refine wp_seq_k fun K76 hK76 => ?_
      cases hs
      · replace z15 : c < 0 := z15.elim (fun h => by cases h) id
        refine region_fx F74 [StK.eq (.agg (groupA k p (p / 2) 4)), StK.eq (numV S), StK.eq (.bool false), StK.eq (.bool false), StK.eq (numV S), StK.eq (numV 2), StK.eq (.int .i64 c), StK.eq (.bool true), StK.eq (.bool true), StK.eq (.bool true), StK.eq (.agg (groupA k p (p / 2) 4)), StK.eq (numV Z), StK.eq (numV 2), StK.eq (numV S), StK.eq (numV S), StK.eq (.bool true), StK.eq (.bool true), StK.eq (.bool true)] 18 rfl (by kernel_rfl) ⟨?_, ?_, ?_, ?_, ?_, ?_, ?_, ?_, ?_, ?_, ?_, ?_, ?_, ?_, ?_, ?_, ?_, ?_, trivial⟩ ?_
        · intro ua uw hb hd
          have e11 : ua.eval (.tmp 11) = .pointer (some ⟨g10, 0, none⟩) := (show ua.eval (.tmp 11) = _ from hd 11 (by decide)).trans (F74.get (t := 11) rfl)
          exact hop_runK (F := (StK.eq (.agg (groupA k p (p / 2) 4))).F) (wanted_none rfl) (.agg (groupA k p (p / 2) 4)) (y_ldN _ _ rfl e11 ((M75.step hb).blk (k := 0) rfl) (groupA k p (p / 2) 4) (y_all rfl) Try.underlying28 rfl (by kernel_rfl)) rfl
        · intro ua uw hb hd
          have e15 : ua.eval (.tmp 15) = .pointer (some ⟨g74, 0, none⟩) := (show ua.eval (.tmp 15) = _ from hd 15 (by decide)).trans (F74.get (t := 15) rfl)
          exact hop_runK (F := (StK.eq (numV S)).F) (wanted_none rfl) (numV S) (y_ldN _ _ rfl e15 ((M75.step hb).blk (k := 4) rfl) (numA S) (y_all rfl) Try.underlying26 rfl size26) rfl
        · intro ua uw hb hd
          have e75 : ua.eval (.tmp 75) = .agg (groupA k p (p / 2) 4) := hd 75 (by decide)
          have e76 : ua.eval (.tmp 76) = numV S := hd 76 (by decide)
          exact hop_callK (F := (StK.eq (.bool false)).F) (wanted_none rfl) hb.size rfl #[.agg (groupA k p (p / 2) 4), numV S] (args2 e75 e76) (enters_of Try.func27 (by kernel_rfl) rfl) (call_eqS (z11 uw))
        · intro ua uw hb hd
          have e77 : ua.eval (.tmp 77) = .bool false := hd 77 (by decide)
          exact hop_runK (F := (StK.eq (.bool false)).F) (wanted_none rfl) (.bool false) (run_mv _ (.inl rfl) e77) rfl
        · intro ua uw hb hd
          have eg : ua.eval (.tmp 78) = .bool false := hd 78 (by decide)
          have e15 : ua.eval (.tmp 15) = .pointer (some ⟨g74, 0, none⟩) := (show ua.eval (.tmp 15) = _ from hd 15 (by decide)).trans (F74.get (t := 15) rfl)
          exact hop_runK (F := (StK.eq (numV S)).F) (wanted_yes rfl rfl rfl eg) (numV S) (y_ldN _ _ rfl e15 ((M75.step hb).blk (k := 4) rfl) (numA S) (y_all rfl) Try.underlying26 rfl size26) rfl
        · intro ua uw hb hd
          have eg : ua.eval (.tmp 78) = .bool false := hd 78 (by decide)
          exact hop_callK (F := (StK.eq (numV 2)).F) (wanted_yes rfl rfl rfl eg) hb.size rfl #[.int .i64 2] (args1 rfl) (enters_of Try.func22 (by kernel_rfl) rfl) (call_eqS (z12 uw))
        · intro ua uw hb hd
          have eg : ua.eval (.tmp 78) = .bool false := hd 78 (by decide)
          have e79 : ua.eval (.tmp 79) = numV S := hd 79 (by decide)
          have e80 : ua.eval (.tmp 80) = numV 2 := hd 80 (by decide)
          exact hop_callK (F := (StK.eq (.int .i64 c)).F) (wanted_yes rfl rfl rfl eg) hb.size rfl #[numV S, numV 2] (args2 e79 e80) (enters_of Try.func29 (by kernel_rfl) rfl) (call_eqS (z13 uw))
        · intro ua uw hb hd
          have eg : ua.eval (.tmp 78) = .bool false := hd 78 (by decide)
          have e81 : ua.eval (.tmp 81) = .int .i64 c := hd 81 (by decide)
          exact hop_runK (F := (StK.eq (.bool true)).F) (wanted_yes rfl rfl rfl eg) (.bool true) (y_lss _ _ _ _ rfl e81 rfl (decide_eq_true z15)) rfl
        · intro ua uw hb hd
          have e78 : ua.eval (.tmp 78) = .bool false := hd 78 (by decide)
          have e82 : ua.eval (.tmp 82) = .bool true := hd 82 (by decide)
          exact hop_runK (F := (StK.eq (.bool true)).F) (wanted_none rfl) (.bool true) (run_pick_f rfl e78 e82) rfl
        · intro ua uw hb hd
          have e83 : ua.eval (.tmp 83) = .bool true := hd 83 (by decide)
          exact hop_runK (F := (StK.eq (.bool true)).F) (wanted_none rfl) (.bool true) (run_mv _ (.inl rfl) e83) rfl
        · intro ua uw hb hd
          have eg : ua.eval (.tmp 84) = .bool true := hd 84 (by decide)
          have e11 : ua.eval (.tmp 11) = .pointer (some ⟨g10, 0, none⟩) := (show ua.eval (.tmp 11) = _ from hd 11 (by decide)).trans (F74.get (t := 11) rfl)
          exact hop_runK (F := (StK.eq (.agg (groupA k p (p / 2) 4))).F) (wanted_yes rfl rfl rfl eg) (.agg (groupA k p (p / 2) 4)) (y_ldN _ _ rfl e11 ((M75.step hb).blk (k := 0) rfl) (groupA k p (p / 2) 4) (y_all rfl) Try.underlying28 rfl (by kernel_rfl)) rfl
        · intro ua uw hb hd
          have eg : ua.eval (.tmp 84) = .bool true := hd 84 (by decide)
          have e14 : ua.eval (.tmp 14) = .pointer (some ⟨g31, 0, none⟩) := (show ua.eval (.tmp 14) = _ from hd 14 (by decide)).trans (F74.get (t := 14) rfl)
          exact hop_runK (F := (StK.eq (numV Z)).F) (wanted_yes rfl rfl rfl eg) (numV Z) (y_ldN _ _ rfl e14 ((M75.step hb).blk (k := 3) rfl) (numA Z) (y_all rfl) Try.underlying26 rfl size26) rfl
        · intro ua uw hb hd
          have eg : ua.eval (.tmp 84) = .bool true := hd 84 (by decide)
          exact hop_callK (F := (StK.eq (numV 2)).F) (wanted_yes rfl rfl rfl eg) hb.size rfl #[.int .i64 2] (args1 rfl) (enters_of Try.func22 (by kernel_rfl) rfl) (call_eqS (z12 uw))
        · intro ua uw hb hd
          have eg : ua.eval (.tmp 84) = .bool true := hd 84 (by decide)
          have e85 : ua.eval (.tmp 85) = .agg (groupA k p (p / 2) 4) := hd 85 (by decide)
          have e86 : ua.eval (.tmp 86) = numV Z := hd 86 (by decide)
          have e87 : ua.eval (.tmp 87) = numV 2 := hd 87 (by decide)
          exact hop_callK (F := (StK.eq (numV S)).F) (wanted_yes rfl rfl rfl eg) hb.size rfl #[.agg (groupA k p (p / 2) 4), numV Z, numV 2] (args3 e85 e86 e87) (enters_of Try.func23 (by kernel_rfl) rfl) (call_eqS (z14 uw))
        · intro ua uw hb hd
          have eg : ua.eval (.tmp 84) = .bool true := hd 84 (by decide)
          have e15 : ua.eval (.tmp 15) = .pointer (some ⟨g74, 0, none⟩) := (show ua.eval (.tmp 15) = _ from hd 15 (by decide)).trans (F74.get (t := 15) rfl)
          exact hop_runK (F := (StK.eq (numV S)).F) (wanted_yes rfl rfl rfl eg) (numV S) (y_ldN _ _ rfl e15 ((M75.step hb).blk (k := 4) rfl) (numA S) (y_all rfl) Try.underlying26 rfl size26) rfl
        · intro ua uw hb hd
          have eg : ua.eval (.tmp 84) = .bool true := hd 84 (by decide)
          have e88 : ua.eval (.tmp 88) = numV S := hd 88 (by decide)
          have e89 : ua.eval (.tmp 89) = numV S := hd 89 (by decide)
          exact hop_runK (F := (StK.eq (.bool true)).F) (wanted_yes rfl rfl rfl eg) (.bool true) (y_eqA _ _ _ _ rfl e88 e89 (by kernel_rfl) (eqn_same S _)) rfl
        · intro ua uw hb hd
          have e84 : ua.eval (.tmp 84) = .bool true := hd 84 (by decide)
          have e90 : ua.eval (.tmp 90) = .bool true := hd 90 (by decide)
          exact hop_runK (F := (StK.eq (.bool true)).F) (wanted_none rfl) (.bool true) (run_pick_t rfl e84 e90) rfl
        · intro ua uw hb hd
          have e91 : ua.eval (.tmp 91) = .bool true := hd 91 (by decide)
          exact hop_runK (F := (StK.eq (.bool true)).F) (wanted_none rfl) (.bool true) (run_mv _ (.inr rfl) e91) rfl
        intro p77 a77 w77 b77 G77 y77
        obtain ⟨-, -, -, -, -, -, -, -, -, -, -, -, -, -, -, -, -, q17, -⟩ := y77
        have r17 : p77 17 = .bool true := q17 (by decide)
        simp only [List.take_succ_cons, List.take_zero, layV, Nat.zero_add, Nat.reduceAdd, r17] at G77
        have M77 := M75.kc b77
        clear F74 M75 r17 q17
        refine hK76 _ _ ?_
        refine wp_ret ?_
        try simp only [Exit.then, Exit.inBlock]
        exact bodyPost_ret (res1 rfl (G77.get (t := 10) rfl)) G77.defers ⟨rfl, M77.below⟩
      · refine region_fx F74 [StK.eq (.agg (groupA k p (p / 2) 4)), StK.eq (numV S), StK.eq (.bool true), StK.eq (.bool true), StK.eq undef, StK.eq undef, StK.eq undef, StK.eq undef, StK.eq (.bool true), StK.eq (.bool true), StK.eq (.agg (groupA k p (p / 2) 4)), StK.eq (numV Z), StK.eq (numV 2), StK.eq (numV S), StK.eq (numV S), StK.eq (.bool true), StK.eq (.bool true), StK.eq (.bool true)] 18 rfl (by kernel_rfl) ⟨?_, ?_, ?_, ?_, ?_, ?_, ?_, ?_, ?_, ?_, ?_, ?_, ?_, ?_, ?_, ?_, ?_, ?_, trivial⟩ ?_
        · intro ua uw hb hd
          have e11 : ua.eval (.tmp 11) = .pointer (some ⟨g10, 0, none⟩) := (show ua.eval (.tmp 11) = _ from hd 11 (by decide)).trans (F74.get (t := 11) rfl)
          exact hop_runK (F := (StK.eq (.agg (groupA k p (p / 2) 4))).F) (wanted_none rfl) (.agg (groupA k p (p / 2) 4)) (y_ldN _ _ rfl e11 ((M75.step hb).blk (k := 0) rfl) (groupA k p (p / 2) 4) (y_all rfl) Try.underlying28 rfl (by kernel_rfl)) rfl
        · intro ua uw hb hd
          have e15 : ua.eval (.tmp 15) = .pointer (some ⟨g74, 0, none⟩) := (show ua.eval (.tmp 15) = _ from hd 15 (by decide)).trans (F74.get (t := 15) rfl)
          exact hop_runK (F := (StK.eq (numV S)).F) (wanted_none rfl) (numV S) (y_ldN _ _ rfl e15 ((M75.step hb).blk (k := 4) rfl) (numA S) (y_all rfl) Try.underlying26 rfl size26) rfl
        · intro ua uw hb hd
          have e75 : ua.eval (.tmp 75) = .agg (groupA k p (p / 2) 4) := hd 75 (by decide)
          have e76 : ua.eval (.tmp 76) = numV S := hd 76 (by decide)
          exact hop_callK (F := (StK.eq (.bool true)).F) (wanted_none rfl) hb.size rfl #[.agg (groupA k p (p / 2) 4), numV S] (args2 e75 e76) (enters_of Try.func27 (by kernel_rfl) rfl) (call_eqS (z11 uw))
        · intro ua uw hb hd
          have e77 : ua.eval (.tmp 77) = .bool true := hd 77 (by decide)
          exact hop_runK (F := (StK.eq (.bool true)).F) (wanted_none rfl) (.bool true) (run_mv _ (.inl rfl) e77) rfl
        · intro ua uw hb hd
          have eg : ua.eval (.tmp 78) = .bool true := hd 78 (by decide)
          exact hop_skipK (F := (StK.eq (undef)).F) rfl rfl rfl eg rfl
        · intro ua uw hb hd
          have eg : ua.eval (.tmp 78) = .bool true := hd 78 (by decide)
          exact hop_skipK (F := (StK.eq (undef)).F) rfl rfl rfl eg rfl
        · intro ua uw hb hd
          have eg : ua.eval (.tmp 78) = .bool true := hd 78 (by decide)
          exact hop_skipK (F := (StK.eq (undef)).F) rfl rfl rfl eg rfl
        · intro ua uw hb hd
          have eg : ua.eval (.tmp 78) = .bool true := hd 78 (by decide)
          exact hop_skipK (F := (StK.eq (undef)).F) rfl rfl rfl eg rfl
        · intro ua uw hb hd
          have e78 : ua.eval (.tmp 78) = .bool true := hd 78 (by decide)
          have e82 : ua.eval (.tmp 82) = undef := hd 82 (by decide)
          exact hop_runK (F := (StK.eq (.bool true)).F) (wanted_none rfl) (.bool true) (run_pick_t rfl e78 rfl) rfl
        · intro ua uw hb hd
          have e83 : ua.eval (.tmp 83) = .bool true := hd 83 (by decide)
          exact hop_runK (F := (StK.eq (.bool true)).F) (wanted_none rfl) (.bool true) (run_mv _ (.inl rfl) e83) rfl
        · intro ua uw hb hd
          have eg : ua.eval (.tmp 84) = .bool true := hd 84 (by decide)
          have e11 : ua.eval (.tmp 11) = .pointer (some ⟨g10, 0, none⟩) := (show ua.eval (.tmp 11) = _ from hd 11 (by decide)).trans (F74.get (t := 11) rfl)
          exact hop_runK (F := (StK.eq (.agg (groupA k p (p / 2) 4))).F) (wanted_yes rfl rfl rfl eg) (.agg (groupA k p (p / 2) 4)) (y_ldN _ _ rfl e11 ((M75.step hb).blk (k := 0) rfl) (groupA k p (p / 2) 4) (y_all rfl) Try.underlying28 rfl (by kernel_rfl)) rfl
        · intro ua uw hb hd
          have eg : ua.eval (.tmp 84) = .bool true := hd 84 (by decide)
          have e14 : ua.eval (.tmp 14) = .pointer (some ⟨g31, 0, none⟩) := (show ua.eval (.tmp 14) = _ from hd 14 (by decide)).trans (F74.get (t := 14) rfl)
          exact hop_runK (F := (StK.eq (numV Z)).F) (wanted_yes rfl rfl rfl eg) (numV Z) (y_ldN _ _ rfl e14 ((M75.step hb).blk (k := 3) rfl) (numA Z) (y_all rfl) Try.underlying26 rfl size26) rfl
        · intro ua uw hb hd
          have eg : ua.eval (.tmp 84) = .bool true := hd 84 (by decide)
          exact hop_callK (F := (StK.eq (numV 2)).F) (wanted_yes rfl rfl rfl eg) hb.size rfl #[.int .i64 2] (args1 rfl) (enters_of Try.func22 (by kernel_rfl) rfl) (call_eqS (z12 uw))
        · intro ua uw hb hd
          have eg : ua.eval (.tmp 84) = .bool true := hd 84 (by decide)
          have e85 : ua.eval (.tmp 85) = .agg (groupA k p (p / 2) 4) := hd 85 (by decide)
          have e86 : ua.eval (.tmp 86) = numV Z := hd 86 (by decide)
          have e87 : ua.eval (.tmp 87) = numV 2 := hd 87 (by decide)
          exact hop_callK (F := (StK.eq (numV S)).F) (wanted_yes rfl rfl rfl eg) hb.size rfl #[.agg (groupA k p (p / 2) 4), numV Z, numV 2] (args3 e85 e86 e87) (enters_of Try.func23 (by kernel_rfl) rfl) (call_eqS (z14 uw))
        · intro ua uw hb hd
          have eg : ua.eval (.tmp 84) = .bool true := hd 84 (by decide)
          have e15 : ua.eval (.tmp 15) = .pointer (some ⟨g74, 0, none⟩) := (show ua.eval (.tmp 15) = _ from hd 15 (by decide)).trans (F74.get (t := 15) rfl)
          exact hop_runK (F := (StK.eq (numV S)).F) (wanted_yes rfl rfl rfl eg) (numV S) (y_ldN _ _ rfl e15 ((M75.step hb).blk (k := 4) rfl) (numA S) (y_all rfl) Try.underlying26 rfl size26) rfl
        · intro ua uw hb hd
          have eg : ua.eval (.tmp 84) = .bool true := hd 84 (by decide)
          have e88 : ua.eval (.tmp 88) = numV S := hd 88 (by decide)
          have e89 : ua.eval (.tmp 89) = numV S := hd 89 (by decide)
          exact hop_runK (F := (StK.eq (.bool true)).F) (wanted_yes rfl rfl rfl eg) (.bool true) (y_eqA _ _ _ _ rfl e88 e89 (by kernel_rfl) (eqn_same S _)) rfl
        · intro ua uw hb hd
          have e84 : ua.eval (.tmp 84) = .bool true := hd 84 (by decide)
          have e90 : ua.eval (.tmp 90) = .bool true := hd 90 (by decide)
          exact hop_runK (F := (StK.eq (.bool true)).F) (wanted_none rfl) (.bool true) (run_pick_t rfl e84 e90) rfl
        · intro ua uw hb hd
          have e91 : ua.eval (.tmp 91) = .bool true := hd 91 (by decide)
          exact hop_runK (F := (StK.eq (.bool true)).F) (wanted_none rfl) (.bool true) (run_mv _ (.inr rfl) e91) rfl
        intro p78 a78 w78 b78 G78 y78
        obtain ⟨-, -, -, -, -, -, -, -, -, -, -, -, -, -, -, -, -, q17, -⟩ := y78
        have r17 : p78 17 = .bool true := q17 (by decide)
        simp only [List.take_succ_cons, List.take_zero, layV, Nat.zero_add, Nat.reduceAdd, r17] at G78
        have M78 := M75.kc b78
        clear F74 M75 r17 q17
        refine hK76 _ _ ?_
        refine wp_ret ?_
        try simp only [Exit.then, Exit.inBlock]
        exact bodyPost_ret (res1 rfl (G78.get (t := 10) rfl)) G78.defers ⟨rfl, M78.below⟩
end Go.Proofs.Ytgccbfkofkohpaa
