/- sentinellaw4.GroupPowersOf: the walk. -/
import Derived.Test.YtgccbfkofkohpaaGpGroup
import Derived.Test.YtgccbfkofkohpaaGpKnown
import Derived.Test.YtgccbfkofkohpaaSymL
import Derived.Test.YtgccbfkofkohpaaMtMk
import Derived.Test.YtgccbfkofkohpaaMtRPow
namespace Go.Proofs.Ytgccbfkofkohpaa
set_option linter.unusedVariables false
set_option maxRecDepth 20000
set_option linter.unusedSimpArgs false
open Go.ChangeShapes Go.WideShapes Go.ChangeAt Go.RowKit
theorem powersof_pack {k t : Int} {p x y : Nat} (hg : GOk k p) (hx : x < 4294967296 ^ 8) (hy : y < 4294967296 ^ 8) (t0 : 0 ≤ t) (t1 : t < 100000) : ∃ K U L H R : Nat, RunsTo 22 #[.int .i64 t] (numV K) ∧
    RunsTo 23 #[.agg (groupA k p (p / 2) 4), numV x, numV K] (numV U) ∧
    RunsTo 39 #[numV x, numV K, numV p] (numV U) ∧
    RunsTo 36 #[numV x, numV y] (.tuple #[numV L, numV H]) ∧
    RunsTo 37 #[numV L, numV H, numV p] (.tuple #[numV R, .bool true]) ∧
    RunsTo 25 #[.agg (groupA k p (p / 2) 4), numV x, numV y] (numV R) := by
  obtain ⟨-, -, po, p1, p2, -, -⟩ := hg
  have hp : p < 4294967296 ^ 8 := Nat.lt_trans p2 (by decide)
  have hK : t.toNat < 4294967296 ^ 8 := Nat.lt_trans (m := 100000) (by omega) (by decide)
  have hq : x * y % 4294967296 ^ 8 + x * y / 4294967296 ^ 8 * 4294967296 ^ 8 = x * y := by rw [Nat.mul_comm (x * y / _)]; exact Nat.mod_add_div _ _
  refine ⟨t.toNat, x ^ t.toNat % p, x * y % 4294967296 ^ 8, x * y / 4294967296 ^ 8, x * y % p, from_ref t (by omega) (by omega), fun w => graise_any k p (p / 2) 4 po (by omega) hp x _ hx hK w, fun w => rpower_any x _ p hx hK hp (by omega) w, rmul_any _ _ hx hy, fun w => ?_, fun w => gtimes_any k p (p / 2) 4 po (by omega) hp x y hx hy w⟩
  have := rrest_pos (x * y % 4294967296 ^ 8) (x * y / 4294967296 ^ 8) p (Nat.mod_lt _ (by decide)) (Nat.div_lt_of_lt_mul (Nat.mul_lt_mul'' hx hy)) hp (by omega) w
  rw [hq] at this
  exact this
set_option maxRecDepth 100000 in
set_option maxHeartbeats 8000000 in
theorem GroupPowersOf_walk (a0 : Int) (hk0 : -9223372036854775808 ≤ a0) (hl0 : a0 < 9223372036854775808)
    (a1 : Int) (hk1 : -9223372036854775808 ≤ a1) (hl1 : a1 < 9223372036854775808)
    (A2 : Option Addr) (n2 cap2 : Nat) (x2 : Nat → Int)
    (a3 : Int) (hk3 : -9223372036854775808 ≤ a3) (hl3 : a3 < 9223372036854775808)
    (A4 : Option Addr) (n4 cap4 : Nat) (x4 : Nat → Int) (w : World) (hr2 : RdI w A2 n2 x2) (hr4 : RdI w A4 n4 x4) :
    Calls Try.prog 11 #[.int .i64 a0, .int .i64 a1, .slice A2 n2 cap2, .int .i64 a3, .slice A4 n4 cap4] w fun e w' => e = .returned (.bool true) ∧ Below w.heap.size w w' := by
  obtain ⟨k, p, hg, kG⟩ := group_any hk0 hl0
  obtain ⟨x, ex⟩ : ∃ x, Hid (mkN a1 n2 x2 = x) := ⟨_, hid rfl⟩
  have mkx := fun (w : World) (hx : RdI w A2 n2 x2) => make_det a1 hk1 hl1 A2 n2 cap2 x2 w hx
  rw [ex.out] at mkx
  have bx : x < 4294967296 ^ 8 := by rw [← ex.out]; exact mkN_lt _ _ _
  clear ex
  obtain ⟨y, ey⟩ : ∃ y, Hid (mkN a3 n4 x4 = y) := ⟨_, hid rfl⟩
  have mky := fun (w : World) (hx : RdI w A4 n4 x4) => make_det a3 hk3 hl3 A4 n4 cap4 x4 w hx
  rw [ey.out] at mky
  have hyy : y < 4294967296 ^ 8 := by rw [← ey.out]; exact mkN_lt _ _ _
  clear ey
  obtain ⟨t, et⟩ : ∃ t : Int, Hid (a3 % 100000 = t) := ⟨_, hid rfl⟩
  have kwt := fun (w : World) => gwithin_any a3 100000 (by omega) (by omega) hk3 hl3 w
  rw [et.out] at kwt
  obtain ⟨pt, qt⟩ : 0 ≤ t ∧ t < 100000 := by have := et.out; omega
  clear et
  obtain ⟨K, U, L, H, R, k1, k2, k3, k4, k5, k6⟩ := powersof_pack hg bx (show y < 4294967296 ^ 8 from hyy) pt qt
  refine calls_fx (args := [.int .i64 a0, .int .i64 a1, .slice A2 n2 cap2, .int .i64 a3, .slice A4 n4 cap4]) 64 Try.func11 rfl rfl rfl ?_
  intro a F
  have M := Mx.start w.heap.size w rfl
  refine wp_seq_k fun K1 hK1 => ?_
  refine wp_region_lit ?_
  refine wl_run (w' := w) (wanted_none rfl) rfl F rfl (.bool false) (run_mv _ (.inr rfl) rfl) fun a2 F2 => ?_
  clear F
  refine hK1 _ _ ?_
  refine wp_seq_k fun K3 hK3 => ?_
  refine wp_seq_k fun K4 hK4 => ?_
  refine wp_region_lit ?_
  refine wl_call (wanted_none rfl) rfl F2 rfl rfl (enters_of Try.func13 (by kernel_rfl) rfl) #[] (args0) (call_ex (gknown_any w)) ?_
  rintro _ w5 a5 ⟨rfl, b5⟩ F5
  have M5 := M.step b5
  refine wl_run (w' := w5) (wanted_none rfl) rfl F5 rfl (.bool false) (run_not _ _ rfl (F5.get (t := 19) rfl)) fun a6 F6 => ?_
  clear F5
  refine hK4 _ _ ?_
  refine wp_cond_false (F6.get (t := 20) rfl) ?_
  refine wp_skip ?_
  refine hK3 _ _ ?_
  refine wp_seq_k fun K7 hK7 => ?_
  refine wp_region_lit ?_
  refine wl_run (w' := w5) (wanted_none rfl) rfl F6 rfl (.int .i64 a0) (run_mv _ (.inl rfl) (F6.get (t := 0) rfl)) fun a8 F8 => ?_
  clear F6
  refine wl_call (wanted_none rfl) rfl F8 rfl rfl (enters_of Try.func20 (by kernel_rfl) rfl) #[.int .i64 a0] (args1 (F8.get (t := 21) rfl)) (call_ex (kG w5)) ?_
  rintro _ w9 a9 ⟨rfl, b9⟩ F9
  have M9 := M5.step b9
  refine wl_alloc (wanted_none rfl) rfl F9 rfl M9 0 (t := 28) (c := groupA 0 0 0 0) (by decide) (by unfold execOp; rw [groupA_zero]; kernel_rfl) ?_
  intro g10 a10 w10 F10 M10
  clear F9 M9
  refine wl_st (wanted_none rfl) rfl F10 M10 (k := 0) rfl (by decide) _ _ _ rfl (F10.get (t := 11) rfl) (F10.get (t := 22) rfl) (groupA k p (p / 2) 4) (groupA k p (p / 2) 4) rfl (Nat.le_of_ble_eq_true rfl) (groupA_cells _ _ _ _) (y_put0 rfl) (by kernel_rfl) ?_
  intro w11 M11
  clear M10
  refine hK7 _ _ ?_
  refine wp_seq_k fun K12 hK12 => ?_
  refine wp_region_lit ?_
  refine wl_run (w' := w11) (wanted_none rfl) rfl F10 rfl (.int .i64 a1) (run_mv _ (.inl rfl) (F10.get (t := 1) rfl)) fun a13 F13 => ?_
  clear F10
  refine wl_run (w' := w11) (wanted_none rfl) rfl F13 rfl (.slice A2 n2 cap2) (run_mv _ (.inl rfl) (F13.get (t := 2) rfl)) fun a14 F14 => ?_
  clear F13
  refine wl_call (wanted_none rfl) rfl F14 rfl rfl (enters_of Try.func21 (by kernel_rfl) rfl) #[.int .i64 a1, .slice A2 n2 cap2] (args2 (F14.get (t := 23) rfl) (F14.get (t := 24) rfl)) (call_ex (mkx w11 (hr2.step M11.below))) ?_
  rintro _ w15 a15 ⟨rfl, b15⟩ F15
  have M15 := M11.step b15
  refine wl_run (w' := w15) (wanted_none rfl) rfl F15 rfl (.int .i64 a3) (run_mv _ (.inl rfl) (F15.get (t := 3) rfl)) fun a16 F16 => ?_
  clear F15
  refine wl_run (w' := w15) (wanted_none rfl) rfl F16 rfl (.slice A4 n4 cap4) (run_mv _ (.inl rfl) (F16.get (t := 4) rfl)) fun a17 F17 => ?_
  clear F16
  refine wl_call (wanted_none rfl) rfl F17 rfl rfl (enters_of Try.func21 (by kernel_rfl) rfl) #[.int .i64 a3, .slice A4 n4 cap4] (args2 (F17.get (t := 26) rfl) (F17.get (t := 27) rfl)) (call_ex (mky w15 (hr4.step M15.below))) ?_
  rintro _ w18 a18 ⟨rfl, b18⟩ F18
  have M18 := M15.step b18
  refine wl_alloc (wanted_none rfl) rfl F18 rfl M18 1 (t := 26) (c := numA 0) (by decide) (y_new_num rfl) ?_
  intro g19 a19 w19 F19 M19
  clear F18 M18
  refine wl_alloc (wanted_none rfl) rfl F19 rfl M19 2 (t := 26) (c := numA 0) (by decide) (y_new_num rfl) ?_
  intro g20 a20 w20 F20 M20
  clear F19 M19
  refine wl_st (wanted_none rfl) rfl F20 M20 (k := 1) rfl (by decide) _ _ _ rfl (F20.get (t := 12) rfl) (F20.get (t := 25) rfl) (numA x) (numA x) rfl (Nat.le_of_ble_eq_true rfl) (numA_cells _) (y_put0 rfl) size26 ?_
  intro w21 M21
  clear M20
  refine wl_st (wanted_none rfl) rfl F20 M21 (k := 2) rfl (by decide) _ _ _ rfl (F20.get (t := 13) rfl) (F20.get (t := 28) rfl) (numA y) (numA y) rfl (Nat.le_of_ble_eq_true rfl) (numA_cells _) (y_put0 rfl) size26 ?_
  intro w22 M22
  clear M21
  refine hK12 _ _ ?_
  refine wp_seq_k fun K23 hK23 => ?_
  refine wp_region_lit ?_
  refine wl_run (w' := w22) (wanted_none rfl) rfl F20 rfl (numV x) (y_ldN _ _ rfl (F20.get (t := 12) rfl) (M22.blk (k := 1) rfl) (numA x) (y_all rfl) Try.underlying26 rfl size26) fun a24 F24 => ?_
  clear F20
  refine wl_run (w' := w22) (wanted_none rfl) rfl F24 rfl (numV y) (y_ldN _ _ rfl (F24.get (t := 13) rfl) (M22.blk (k := 2) rfl) (numA y) (y_all rfl) Try.underlying26 rfl size26) fun a25 F25 => ?_
  clear F24
  refine wl_call (wanted_none rfl) rfl F25 rfl rfl (enters_of Try.func36 (by kernel_rfl) rfl) #[numV x, numV y] (args2 (F25.get (t := 30) rfl) (F25.get (t := 31) rfl)) (call_ex (k4 w22)) ?_
  rintro _ w26 a26 ⟨rfl, b26⟩ F26
  have M26 := M22.step b26
  refine wl_run (w' := w26) (wanted_none rfl) rfl F26 rfl (.tuple #[numV L, numV H]) (run_mv _ (.inl rfl) (F26.get (t := 32) rfl)) fun a27 F27 => ?_
  clear F26
  refine wl_run (w' := w26) (wanted_none rfl) rfl F27 rfl (numV L) (y_ext _ _ rfl (F27.get (t := 29) rfl) rfl) fun a28 F28 => ?_
  clear F27
  refine wl_run (w' := w26) (wanted_none rfl) rfl F28 rfl (numV H) (y_ext _ _ rfl (F28.get (t := 29) rfl) rfl) fun a29 F29 => ?_
  clear F28
  refine wl_alloc (wanted_none rfl) rfl F29 rfl M26 3 (t := 26) (c := numA 0) (by decide) (y_new_num rfl) ?_
  intro g30 a30 w30 F30 M30
  clear F29 M26
  refine wl_alloc (wanted_none rfl) rfl F30 rfl M30 4 (t := 26) (c := numA 0) (by decide) (y_new_num rfl) ?_
  intro g31 a31 w31 F31 M31
  clear F30 M30
  refine wl_st (wanted_none rfl) rfl F31 M31 (k := 3) rfl (by decide) _ _ _ rfl (F31.get (t := 14) rfl) (F31.get (t := 33) rfl) (numA L) (numA L) rfl (Nat.le_of_ble_eq_true rfl) (numA_cells _) (y_put0 rfl) size26 ?_
  intro w32 M32
  clear M31
  refine wl_st (wanted_none rfl) rfl F31 M32 (k := 4) rfl (by decide) _ _ _ rfl (F31.get (t := 15) rfl) (F31.get (t := 34) rfl) (numA H) (numA H) rfl (Nat.le_of_ble_eq_true rfl) (numA_cells _) (y_put0 rfl) size26 ?_
  intro w33 M33
  clear M32
  refine hK23 _ _ ?_
  refine wp_seq_k fun K34 hK34 => ?_
  refine wp_region_lit ?_
  refine wl_run (w' := w33) (wanted_none rfl) rfl F31 rfl (numV L) (y_ldN _ _ rfl (F31.get (t := 14) rfl) (M33.blk (k := 3) rfl) (numA L) (y_all rfl) Try.underlying26 rfl size26) fun a35 F35 => ?_
  clear F31
  refine wl_run (w' := w33) (wanted_none rfl) rfl F35 rfl (numV H) (y_ldN _ _ rfl (F35.get (t := 15) rfl) (M33.blk (k := 4) rfl) (numA H) (y_all rfl) Try.underlying26 rfl size26) fun a36 F36 => ?_
  clear F35
  refine wl_run (w' := w33) (wanted_none rfl) rfl F36 rfl (.pointer (some ⟨g10, 1, none⟩)) (by unfold execOp; simp only [(F36.get (t := 11) rfl)]; kernel_rfl) fun a37 F37 => ?_
  clear F36
  refine wl_run (w' := w33) (wanted_none rfl) rfl F37 rfl (numV p) (y_ldN _ _ rfl (F37.get (t := 38) rfl) (M33.blk (k := 0) rfl) (numA p) groupA_p Try.underlying26 rfl size26) fun a38 F38 => ?_
  clear F37
  refine wl_call (wanted_none rfl) rfl F38 rfl rfl (enters_of Try.func37 (by kernel_rfl) rfl) #[numV L, numV H, numV p] (args3 (F38.get (t := 36) rfl) (F38.get (t := 37) rfl) (F38.get (t := 39) rfl)) (call_ex (k5 w33)) ?_
  rintro _ w39 a39 ⟨rfl, b39⟩ F39
  have M39 := M33.step b39
  refine wl_run (w' := w39) (wanted_none rfl) rfl F39 rfl (.tuple #[numV R, .bool true]) (run_mv _ (.inl rfl) (F39.get (t := 40) rfl)) fun a40 F40 => ?_
  clear F39
  refine wl_run (w' := w39) (wanted_none rfl) rfl F40 rfl (numV R) (y_ext _ _ rfl (F40.get (t := 35) rfl) rfl) fun a41 F41 => ?_
  clear F40
  refine wl_run (w' := w39) (wanted_none rfl) rfl F41 rfl (.bool true) (y_ext _ _ rfl (F41.get (t := 35) rfl) rfl) fun a42 F42 => ?_
  clear F41
  refine wl_alloc (wanted_none rfl) rfl F42 rfl M39 5 (t := 26) (c := numA 0) (by decide) (y_new_num rfl) ?_
  intro g43 a43 w43 F43 M43
  clear F42 M39
  refine wl_st (wanted_none rfl) rfl F43 M43 (k := 5) rfl (by decide) _ _ _ rfl (F43.get (t := 16) rfl) (F43.get (t := 41) rfl) (numA R) (numA R) rfl (Nat.le_of_ble_eq_true rfl) (numA_cells _) (y_put0 rfl) size26 ?_
  intro w44 M44
  clear M43
  refine wl_run (w' := w44) (wanted_none rfl) rfl F43 rfl (.bool true) (run_mv _ (.inr rfl) (F43.get (t := 42) rfl)) fun a45 F45 => ?_
  clear F43
  refine hK34 _ _ ?_
  refine wp_seq_k fun K46 hK46 => ?_
  refine wp_region_lit ?_
  refine wl_run (w' := w44) (wanted_none rfl) rfl F45 rfl (.int .i64 a3) (run_mv _ (.inl rfl) (F45.get (t := 3) rfl)) fun a47 F47 => ?_
  clear F45
  refine wl_call (wanted_none rfl) rfl F47 rfl rfl (enters_of Try.func14 (by kernel_rfl) rfl) #[.int .i64 a3, .int .i64 100000] (args2 (F47.get (t := 43) rfl) rfl) (call_ex (kwt w44)) ?_
  rintro _ w48 a48 ⟨rfl, rfl⟩ F48
  refine wl_call (wanted_none rfl) rfl F48 rfl rfl (enters_of Try.func22 (by kernel_rfl) rfl) #[.int .i64 t] (args1 (F48.get (t := 44) rfl)) (call_ex (k1 w44)) ?_
  rintro _ w49 a49 ⟨rfl, b49⟩ F49
  have M49 := M44.step b49
  refine wl_alloc (wanted_none rfl) rfl F49 rfl M49 6 (t := 26) (c := numA 0) (by decide) (y_new_num rfl) ?_
  intro g50 a50 w50 F50 M50
  clear F49 M49
  refine wl_st (wanted_none rfl) rfl F50 M50 (k := 6) rfl (by decide) _ _ _ rfl (F50.get (t := 18) rfl) (F50.get (t := 45) rfl) (numA K) (numA K) rfl (Nat.le_of_ble_eq_true rfl) (numA_cells _) (y_put0 rfl) size26 ?_
  intro w51 M51
  clear M50
  refine hK46 _ _ ?_
  refine wp_seq_k fun K52 hK52 => ?_
  refine region_fx F50 [StK.eq (.agg (groupA k p (p / 2) 4)), StK.eq (numV x), StK.eq (numV K), StK.eq (numV U), StK.eq (numV x), StK.eq (numV K), StK.eq (.pointer (some ⟨g10, 1, none⟩)), StK.eq (numV p), StK.eq (numV U), StK.eq (.bool true), StK.eq (.bool true), StK.eq (.agg (groupA k p (p / 2) 4)), StK.eq (numV x), StK.eq (numV y), StK.eq (numV R), StK.eq (numV R), StK.eq (.bool true), StK.eq (.bool true), StK.eq (.bool true)] 19 rfl (by kernel_rfl) ⟨?_, ?_, ?_, ?_, ?_, ?_, ?_, ?_, ?_, ?_, ?_, ?_, ?_, ?_, ?_, ?_, ?_, ?_, ?_, trivial⟩ ?_
  · intro a w hb hd
    have e11 : a.eval (.tmp 11) = .pointer (some ⟨g10, 0, none⟩) := (show a.eval (.tmp 11) = _ from hd 11 (by decide)).trans (F50.get (t := 11) rfl)
    exact hop_runK (F := (StK.eq (.agg (groupA k p (p / 2) 4))).F) (wanted_none rfl) _ (y_ldN _ _ rfl e11 ((M51.step hb).blk (k := 0) rfl) (groupA k p (p / 2) 4) (y_all rfl) Try.underlying28 rfl (by kernel_rfl)) rfl
  · intro a w hb hd
    have e12 : a.eval (.tmp 12) = .pointer (some ⟨g19, 0, none⟩) := (show a.eval (.tmp 12) = _ from hd 12 (by decide)).trans (F50.get (t := 12) rfl)
    exact hop_runK (F := (StK.eq (numV x)).F) (wanted_none rfl) _ (y_ldN _ _ rfl e12 ((M51.step hb).blk (k := 1) rfl) (numA x) (y_all rfl) Try.underlying26 rfl size26) rfl
  · intro a w hb hd
    have e18 : a.eval (.tmp 18) = .pointer (some ⟨g50, 0, none⟩) := (show a.eval (.tmp 18) = _ from hd 18 (by decide)).trans (F50.get (t := 18) rfl)
    exact hop_runK (F := (StK.eq (numV K)).F) (wanted_none rfl) _ (y_ldN _ _ rfl e18 ((M51.step hb).blk (k := 6) rfl) (numA K) (y_all rfl) Try.underlying26 rfl size26) rfl
  · intro a w hb hd
    have e46 : a.eval (.tmp 46) = .agg (groupA k p (p / 2) 4) := hd 46 (by decide)
    have e47 : a.eval (.tmp 47) = numV x := hd 47 (by decide)
    have e48 : a.eval (.tmp 48) = numV K := hd 48 (by decide)
    exact hop_callK (F := (StK.eq (numV U)).F) (wanted_none rfl) hb.size rfl #[.agg (groupA k p (p / 2) 4), numV x, numV K] (args3 e46 e47 e48) (enters_of Try.func23 (by kernel_rfl) rfl) (call_eqS (k2 w))
  · intro a w hb hd
    have e12 : a.eval (.tmp 12) = .pointer (some ⟨g19, 0, none⟩) := (show a.eval (.tmp 12) = _ from hd 12 (by decide)).trans (F50.get (t := 12) rfl)
    exact hop_runK (F := (StK.eq (numV x)).F) (wanted_none rfl) _ (y_ldN _ _ rfl e12 ((M51.step hb).blk (k := 1) rfl) (numA x) (y_all rfl) Try.underlying26 rfl size26) rfl
  · intro a w hb hd
    have e18 : a.eval (.tmp 18) = .pointer (some ⟨g50, 0, none⟩) := (show a.eval (.tmp 18) = _ from hd 18 (by decide)).trans (F50.get (t := 18) rfl)
    exact hop_runK (F := (StK.eq (numV K)).F) (wanted_none rfl) _ (y_ldN _ _ rfl e18 ((M51.step hb).blk (k := 6) rfl) (numA K) (y_all rfl) Try.underlying26 rfl size26) rfl
  · intro a w hb hd
    have e11 : a.eval (.tmp 11) = .pointer (some ⟨g10, 0, none⟩) := (show a.eval (.tmp 11) = _ from hd 11 (by decide)).trans (F50.get (t := 11) rfl)
    exact hop_runK (F := (StK.eq (.pointer (some ⟨g10, 1, none⟩))).F) (wanted_none rfl) _ (by unfold execOp; simp only [e11]; kernel_rfl) rfl
  · intro a w hb hd
    have e52 : a.eval (.tmp 52) = .pointer (some ⟨g10, 1, none⟩) := hd 52 (by decide)
    exact hop_runK (F := (StK.eq (numV p)).F) (wanted_none rfl) _ (y_ldN _ _ rfl e52 ((M51.step hb).blk (k := 0) rfl) (numA p) groupA_p Try.underlying26 rfl size26) rfl
  · intro a w hb hd
    have e50 : a.eval (.tmp 50) = numV x := hd 50 (by decide)
    have e51 : a.eval (.tmp 51) = numV K := hd 51 (by decide)
    have e53 : a.eval (.tmp 53) = numV p := hd 53 (by decide)
    exact hop_callK (F := (StK.eq (numV U)).F) (wanted_none rfl) hb.size rfl #[numV x, numV K, numV p] (args3 e50 e51 e53) (enters_of Try.func39 (by kernel_rfl) rfl) (call_eqS (k3 w))
  · intro a w hb hd
    have e49 : a.eval (.tmp 49) = numV U := hd 49 (by decide)
    have e54 : a.eval (.tmp 54) = numV U := hd 54 (by decide)
    exact hop_runK (F := (StK.eq (.bool true)).F) (wanted_none rfl) _ (y_eqA _ _ _ _ rfl e49 e54 (by kernel_rfl) (eqn_same U _)) rfl
  · intro a w hb hd
    have e55 : a.eval (.tmp 55) = .bool true := hd 55 (by decide)
    exact hop_runK (F := (StK.eq (.bool true)).F) (wanted_none rfl) _ (run_mv _ (.inl rfl) e55) rfl
  · intro a w hb hd
    have eg : a.eval (.tmp 56) = .bool true := hd 56 (by decide)
    have e11 : a.eval (.tmp 11) = .pointer (some ⟨g10, 0, none⟩) := (show a.eval (.tmp 11) = _ from hd 11 (by decide)).trans (F50.get (t := 11) rfl)
    exact hop_runK (F := (StK.eq (.agg (groupA k p (p / 2) 4))).F) (wanted_yes rfl rfl rfl eg) _ (y_ldN _ _ rfl e11 ((M51.step hb).blk (k := 0) rfl) (groupA k p (p / 2) 4) (y_all rfl) Try.underlying28 rfl (by kernel_rfl)) rfl
  · intro a w hb hd
    have eg : a.eval (.tmp 56) = .bool true := hd 56 (by decide)
    have e12 : a.eval (.tmp 12) = .pointer (some ⟨g19, 0, none⟩) := (show a.eval (.tmp 12) = _ from hd 12 (by decide)).trans (F50.get (t := 12) rfl)
    exact hop_runK (F := (StK.eq (numV x)).F) (wanted_yes rfl rfl rfl eg) _ (y_ldN _ _ rfl e12 ((M51.step hb).blk (k := 1) rfl) (numA x) (y_all rfl) Try.underlying26 rfl size26) rfl
  · intro a w hb hd
    have eg : a.eval (.tmp 56) = .bool true := hd 56 (by decide)
    have e13 : a.eval (.tmp 13) = .pointer (some ⟨g20, 0, none⟩) := (show a.eval (.tmp 13) = _ from hd 13 (by decide)).trans (F50.get (t := 13) rfl)
    exact hop_runK (F := (StK.eq (numV y)).F) (wanted_yes rfl rfl rfl eg) _ (y_ldN _ _ rfl e13 ((M51.step hb).blk (k := 2) rfl) (numA y) (y_all rfl) Try.underlying26 rfl size26) rfl
  · intro a w hb hd
    have eg : a.eval (.tmp 56) = .bool true := hd 56 (by decide)
    have e57 : a.eval (.tmp 57) = .agg (groupA k p (p / 2) 4) := hd 57 (by decide)
    have e58 : a.eval (.tmp 58) = numV x := hd 58 (by decide)
    have e59 : a.eval (.tmp 59) = numV y := hd 59 (by decide)
    exact hop_callK (F := (StK.eq (numV R)).F) (wanted_yes rfl rfl rfl eg) hb.size rfl #[.agg (groupA k p (p / 2) 4), numV x, numV y] (args3 e57 e58 e59) (enters_of Try.func25 (by kernel_rfl) rfl) (call_eqS (k6 w))
  · intro a w hb hd
    have eg : a.eval (.tmp 56) = .bool true := hd 56 (by decide)
    have e16 : a.eval (.tmp 16) = .pointer (some ⟨g43, 0, none⟩) := (show a.eval (.tmp 16) = _ from hd 16 (by decide)).trans (F50.get (t := 16) rfl)
    exact hop_runK (F := (StK.eq (numV R)).F) (wanted_yes rfl rfl rfl eg) _ (y_ldN _ _ rfl e16 ((M51.step hb).blk (k := 5) rfl) (numA R) (y_all rfl) Try.underlying26 rfl size26) rfl
  · intro a w hb hd
    have eg : a.eval (.tmp 56) = .bool true := hd 56 (by decide)
    have e60 : a.eval (.tmp 60) = numV R := hd 60 (by decide)
    have e61 : a.eval (.tmp 61) = numV R := hd 61 (by decide)
    exact hop_runK (F := (StK.eq (.bool true)).F) (wanted_yes rfl rfl rfl eg) _ (y_eqA _ _ _ _ rfl e60 e61 (by kernel_rfl) (eqn_same R _)) rfl
  · intro a w hb hd
    have e56 : a.eval (.tmp 56) = .bool true := hd 56 (by decide)
    have e62 : a.eval (.tmp 62) = .bool true := hd 62 (by decide)
    exact hop_runK (F := (StK.eq (.bool true)).F) (wanted_none rfl) _ (run_pick_t rfl e56 e62) rfl
  · intro a w hb hd
    have e63 : a.eval (.tmp 63) = .bool true := hd 63 (by decide)
    exact hop_runK (F := (StK.eq (.bool true)).F) (wanted_none rfl) _ (run_mv _ (.inr rfl) e63) rfl
  intro p53 a53 w53 b53 G53 y53
  obtain ⟨q0, q1, q2, q3, q4, q5, q6, q7, q8, q9, q10, q11, q12, q13, q14, q15, q16, q17, q18, -⟩ := y53
  have r0 : p53 0 = .agg (groupA k p (p / 2) 4) := q0 (by decide)
  have r1 : p53 1 = numV x := q1 (by decide)
  have r2 : p53 2 = numV K := q2 (by decide)
  have r3 : p53 3 = numV U := q3 (by decide)
  have r4 : p53 4 = numV x := q4 (by decide)
  have r5 : p53 5 = numV K := q5 (by decide)
  have r6 : p53 6 = .pointer (some ⟨g10, 1, none⟩) := q6 (by decide)
  have r7 : p53 7 = numV p := q7 (by decide)
  have r8 : p53 8 = numV U := q8 (by decide)
  have r9 : p53 9 = .bool true := q9 (by decide)
  have r10 : p53 10 = .bool true := q10 (by decide)
  have r11 : p53 11 = .agg (groupA k p (p / 2) 4) := q11 (by decide)
  have r12 : p53 12 = numV x := q12 (by decide)
  have r13 : p53 13 = numV y := q13 (by decide)
  have r14 : p53 14 = numV R := q14 (by decide)
  have r15 : p53 15 = numV R := q15 (by decide)
  have r16 : p53 16 = .bool true := q16 (by decide)
  have r17 : p53 17 = .bool true := q17 (by decide)
  have r18 : p53 18 = .bool true := q18 (by decide)
  simp only [List.take_succ_cons, List.take_zero, layV, Nat.zero_add, Nat.reduceAdd, r0, r1, r2, r3, r4, r5, r6, r7, r8, r9, r10, r11, r12, r13, r14, r15, r16, r17, r18] at G53
  have M53 := M51.kc b53 M51.le
  clear F50 M51 r0 q0 r1 q1 r2 q2 r3 q3 r4 q4 r5 q5 r6 q6 r7 q7 r8 q8 r9 q9 r10 q10 r11 q11 r12 q12 r13 q13 r14 q14 r15 q15 r16 q16 r17 q17 r18 q18
  refine hK52 _ _ ?_
  refine wp_ret ?_
  try simp only [Exit.then, Exit.inBlock]
  exact bodyPost_ret (res1 rfl (G53.get (t := 10) rfl)) G53.defers ⟨rfl, M53.below⟩
end Go.Proofs.Ytgccbfkofkohpaa
